import PyProof.Rows.All
import Wide.All
import OpenK.AllK
import Wide.FinOn
import Lean
import PyProof.EqAt
import PyProof.EqKinds
import PyProof.TupleCall
import PyProof.EnumMake
import PyProof.Draws
import PyProof.Rows.MatchSeqLen
import PyProof.StrLawsTight
import PyProof.StrLawsChain
import KE.IntTextText
import PyProof.JoinWalk
import PyProof.Rows.StrWeight2
import PyProof.StrBlock2
import PyProof.FString
import PyProof.StrLawsOcc
import KE.KIntText
import PyProof.SliceStr2
import PyProof.FString5
import PySem.Challenge.RW_wholefract_k16_leaps_too_far

set_option Elab.async false
set_option linter.all false
set_option maxRecDepth 100000
/-! THE HAND LAYER, for ints, bools, texts, own classes, LISTS and tuples (index, slices, in, append, pop ..), calls, loops. Paste it whole ahead of your own text; what your proof does not reach may be deleted. -/
namespace L2
open PySem PySem.Spec PyProof.Rows

/-- a key: an int or a str -/
abbrev Key := Sum Int Str
def keyIs : Key → Value → Bool
  | .inl k, v => Value.isInt k v
  | .inr x, v => Value.isStrOf x v
def keyH (w : World) : Key → Int
  | .inl k => hashInt k
  | .inr x => hashStr w x
theorem keyIs_shape : ∀ {k : Key} {v : Value}, keyIs k v = true → (∃ i t, k = Sum.inl i ∧ v = Value.int i t) ∨ (∃ x t, k = Sum.inr x ∧ v = Value.str x t)
  | .inl i, v, h => by
    obtain ⟨t, e⟩ := Value.isInt_shape (k := i) (v := v) h
    exact .inl ⟨i, t, rfl, e⟩
  | .inr x, v, h => by
    obtain ⟨t, e⟩ := Value.isStrOf_shape (x := x) (v := v) h
    exact .inr ⟨x, t, rfl, e⟩
theorem key_ll (a b : Int) : decide ((Sum.inl a : Key) = Sum.inl b) = (a == b) := by
  by_cases e : a = b
  · subst e; simp
  · have h : ¬ (Sum.inl a : Key) = Sum.inl b := fun q => e (Sum.inl.inj q)
    rw [decide_eq_false h]
    exact (beq_eq_false_iff_ne.mpr e).symm
theorem key_rr (a b : Str) : decide ((Sum.inr a : Key) = Sum.inr b) = decide (a = b) := by
  by_cases e : a = b
  · subst e; simp
  · have h : ¬ (Sum.inr a : Key) = Sum.inr b := fun q => e (Sum.inr.inj q)
    rw [decide_eq_false h, decide_eq_false e]
theorem key_lr (a : Int) (b : Str) : decide ((Sum.inl a : Key) = Sum.inr b) = false := decide_eq_false (fun q => nomatch q)
theorem key_rl (a : Str) (b : Int) : decide ((Sum.inr a : Key) = Sum.inl b) = false := decide_eq_false (fun q => nomatch q)

def mixKind (prog : Program) (w : World) : PySem.KeyKind prog w Key where
  is := keyIs
  hash := keyH w
  inj := fun v a b ha hb => by
    rcases keyIs_shape ha with ⟨i, t, rfl, rfl⟩ | ⟨x, t, rfl, rfl⟩
    · rcases keyIs_shape hb with ⟨j, u, rfl, e⟩ | ⟨y, u, rfl, e⟩
      · injection e with e1 _; rw [e1]
      · exact nomatch e
    · rcases keyIs_shape hb with ⟨j, u, rfl, e⟩ | ⟨y, u, rfl, e⟩
      · exact nomatch e
      · injection e with e1 _; rw [e1]
  byValue := fun k v h => by
    rcases keyIs_shape h with ⟨i, t, rfl, rfl⟩ | ⟨x, t, rfl, rfl⟩ <;> rfl
  pyHash := fun hv h => by
    rcases keyIs_shape hv with ⟨i, t, rfl, rfl⟩ | ⟨x, t, rfl, rfl⟩
    · exact wpAny_pyHash_int h
    · exact wpAny_pyHash_str h
  eqBool := fun hu hv h => by
    rcases keyIs_shape hu with ⟨i, t, rfl, rfl⟩ | ⟨x, t, rfl, rfl⟩
    · rcases keyIs_shape hv with ⟨j, u, rfl, rfl⟩ | ⟨y, u, rfl, rfl⟩
      · rw [key_ll] at h; exact wpAny_eqBool_int h
      · rw [key_lr] at h; exact SeqAt.EqAt.int_str i t y u _ _ _ _ h
    · rcases keyIs_shape hv with ⟨j, u, rfl, rfl⟩ | ⟨y, u, rfl, rfl⟩
      · rw [key_rl] at h; exact SeqAt.EqAt.str_int x t j u _ _ _ _ h
      · rw [key_rr] at h; exact wpAny_eqBool_str h
  «strs» := fun k x t v h => by
    rcases keyIs_shape h with ⟨i, u, rfl, e⟩ | ⟨y, u, rfl, e⟩
    · exact nomatch e
    · injection e with e1 _
      subst e1
      cases v <;> rfl

end L2

namespace L2
open PySem PySem.Spec PyProof.Rows

/-- a value, without the heap -/
inductive V where
  | non | bl (b : Bool) | int (i : Int) | str (x : Str) | byt (b : Array UInt8) | flt (b : UInt64) | ref (a : Addr) | ty (n : String)
  deriving DecidableEq

def RelV : V → Value → Prop
  | .non, u => u = Value.none
  | .bl b, u => u = Value.bool b
  | .int i, u => ∃ t, u = Value.int i t
  | .str x, u => ∃ t, u = Value.str x t
  | .byt b, u => ∃ t, u = Value.bytes b t
  | .flt b, u => ∃ t, u = Value.float b t
  | .ref a, u => u = Value.ref a
  | .ty n, u => u = Value.type n

abbrev Vals : List V → List Value → Prop := Paired RelV
theorem Vals.length {xs : List V} {us : List Value} (r : Vals xs us) : xs.length = us.length := Paired.length r
theorem Vals.get : ∀ {xs : List V} {us : List Value} {i : Nat} {x : V}, Vals xs us → xs[i]? = some x → ∃ u, us[i]? = some u ∧ RelV x u
  | _, _, _, _, .nil, e => by simp at e
  | _, _, 0, _, .cons r _, e => by simp at e; subst e; exact ⟨_, rfl, r⟩
  | _, _, i + 1, x, .cons _ t, e => by
    obtain ⟨u, h1, h2⟩ := Vals.get (i := i) (x := x) t (by simpa using e)
    exact ⟨u, by simpa using h1, h2⟩
theorem Vals.set {x : V} {u : Value} (r : RelV x u) : ∀ {xs : List V} {us : List Value} (i : Nat), Vals xs us → Vals (xs.set i x) (us.set i u)
  | _, _, _, .nil => .nil
  | _, _, 0, .cons _ t => .cons r t
  | _, _, i + 1, .cons q t => .cons q (Vals.set r i t)
theorem Vals.append : ∀ {xs ys : List V} {us ws : List Value}, Vals xs us → Vals ys ws → Vals (xs ++ ys) (us ++ ws)
  | _, _, _, _, .nil, s => s
  | _, _, _, _, .cons r t, s => .cons r (Vals.append t s)
theorem Vals.take : ∀ {xs : List V} {us : List Value} (n : Nat), Vals xs us → Vals (xs.take n) (us.take n)
  | _, _, 0, _ => .nil
  | _, _, _ + 1, .nil => .nil
  | _, _, n + 1, .cons r t => .cons r (Vals.take n t)
theorem Vals.drop : ∀ {xs : List V} {us : List Value} (n : Nat), Vals xs us → Vals (xs.drop n) (us.drop n)
  | _, _, 0, r => r
  | _, _, _ + 1, .nil => .nil
  | _, _, n + 1, .cons _ t => Vals.drop n t
def RelO : Option V → Option Value → Prop
  | some v, some u => RelV v u
  | none, none => True
  | _, _ => False
def KV {κ : Type} : List (κ × V) → List (κ × Value) → Prop := Paired fun (p : κ × V) (q : κ × Value) => p.1 = q.1 ∧ RelV p.2 q.2

/-- a key of a dict (00_mix): an int or a text -/
def kV : Key → V
  | .inl i => .int i
  | .inr x => .str x

/-- what stands at a tracked address -/
inductive HO where
  /-- a list -/
  | lst (xs : List V)
  /-- a tuple (never changes) -/
  | tup (xs : List V)
  /-- a dict whose keys are ints and texts; one whose keys are tuples of ints and texts (the empty one is both) -/
  | dK (kvs : List (Key × V)) | dT (kvs : List (List Key × V))
  /-- a set of ints: its members, its size -/
  | set (S : Int → Bool) (n : Nat)
  /-- an instance of the class at C, its dict at dx, its attributes -/
  | ins (C dx : Addr) (fs : List (Str × V))
  /-- the dict of the instance at x -/
  | own (x : Addr)
  /-- the dict of an exception -/
  | xd (fs : List (Str × V))
  /-- a bound method, f of x -/
  | met (f x : Addr)
  /-- a range object lo, lo + 1, .. below hi -/
  | rng (lo hi : Int)
  /-- a thing that is known to the object (the script; a dict while a loop walks it): read, never written while it is so -/
  | frz (o : Obj) (u : HO)
  /-- a code object's table -/
  | tbl (ps : Array Value)
  /-- any other thing, by what is true of its one object (a def of one's own: SetO a S n := HO.ext fun h => ..) -/
  | ext (φ : Heap → Prop)

abbrev Hp := Addr → Option HO
def upd (H : Hp) (a : Addr) (o : HO) : Hp := fun b => if b = a then some o else H b
theorem upd_same {H : Hp} {a : Addr} {o : HO} : upd H a o a = some o := by unfold upd; rw [if_pos rfl]
theorem upd_ne {H : Hp} {a b : Addr} {o : HO} (h : b ≠ a) : upd H a o b = H b := by unfold upd; rw [if_neg h]
theorem upd_upd {H : Hp} {a : Addr} {o u : HO} : upd (upd H a o) a u = upd H a u := by
  funext b; unfold upd; split <;> rfl
/-- two objects of different content stand apart -/
theorem ne_of {H : Hp} {a b : Addr} {o u : HO} (h : H a = some o) (h' : H b = some u) (d : o ≠ u) : a ≠ b := by
  intro e; subst e; rw [h] at h'; exact d (Option.some.inj h')
theorem ne_of_none {H : Hp} {a b : Addr} {o : HO} (h : H a = some o) (h' : H b = none) : a ≠ b := by
  intro e; subst e; rw [h] at h'; cases h'

section
variable (P : Program) (w : World)
/-- a tuple that has no dict of its own -/
def IsTupD (h : Heap) (a : Addr) (items : Array Value) : Prop := ∃ o, h.get? a = some o ∧ o.cls = .type "tuple" ∧ (∃ n, o.data = .seq items n) ∧ o.dict = none
theorem IsTupD.up {h : Heap} {a : Addr} {items : Array Value} : IsTupD h a items → IsTup h a items := fun ⟨o, e, c, d, _⟩ => ⟨o, e, c, d⟩
theorem IsTupD.lt {h : Heap} {a : Addr} {items : Array Value} : IsTupD h a items → a < h.objs.size := fun ⟨_, e, _⟩ => Heap.lt_size e
theorem IsTupD.new (h : Heap) (items : Array Value) : IsTupD (h.push { cls := .type "tuple", data := .seq items }) h.objs.size items := ⟨_, Heap.get?_push_size _ rfl, rfl, ⟨_, rfl⟩, rfl⟩
def ObjOk (H : Hp) (h : Heap) (a : Addr) : HO → Prop
  | .lst xs => xs.length ≤ sizeLine ∧ ∃ (its : List Value) (n : Nat), Vals xs its ∧ h.get? a = some { cls := .type "list", data := .seq its.toArray n }
  | .tup xs => xs.length ≤ sizeLine ∧ ∃ its : List Value, Vals xs its ∧ IsTupD h a its.toArray
  | .dK kvs => kvs.length ≤ sizeLine ∧ (a == sysModules) = false ∧ ∃ vs, KV kvs vs ∧ h.DictOf (mixKind P w) a vs
  | .dT kvs => kvs.length ≤ sizeLine ∧ (a == sysModules) = false ∧ ∃ xs : List (List Key × Addr × Value),
      Paired (fun (p : List Key × V) (q : List Key × Addr × Value) => p.1 = q.1 ∧ H q.2.1 = some (.tup (p.1.map kV)) ∧ RelV p.2 q.2.2) kvs xs ∧
      ∃ o es ep, h.get? a = some o ∧ o.ExactDict ∧ o.data = .dict es ep ∧ es.toList = xs.map (entryOfKey (tupleKind (mixKind P w))) ∧ (xs.map (·.1)).Nodup
  | .set S n => h.SetOf (intKind P w) a S n
  | .ins C dx fs => H dx = some (.own a) ∧ fs.length ≤ 1000 ∧ dx ≠ a ∧ h.get? a = some (PySem.W.instObj C dx) ∧
      ∃ mA, h.Ns1 dx mA ∧ (∀ f, RelO (fs.lookup f) (mA f)) ∧ PySem.Within mA (fs.map (·.1))
  | .own _ => ∃ o, h.get? a = some o
  | .xd fs => ∃ mA, h.Ns1 a mA ∧ ∀ f, RelO (fs.lookup f) (mA f)
  | .rng lo hi => ∃ t u v, h.get? a = some { cls := .type "range", data := .fields #[.int lo t, .int hi u, .int 1 v] }
  | .frz o u => h.get? a = some o ∧ ObjOk H h a u
  | .tbl ps => h.get? a = some { cls := .none, data := .fields ps }
  | .met f x => h.get? a = some (PySem.W.methodObj (.ref f) (.ref x))
  | .ext φ => φ h ∧ (∃ o, h.get? a = some o) ∧ ∀ h1 h2 : Heap, φ h1 → (∀ o, h1.get? a = some o → h2.get? a = some o) → φ h2
/-- the abstract heap is held -/
def HOk (H : Hp) (h : Heap) : Prop := ∀ a o, H a = some o → ObjOk P w H h a o
end

section
variable {P : Program} {w : World} {H H' : Hp} {h h' : Heap} {a : Addr} {o : HO}
theorem ObjOk.lt (x : ObjOk P w H h a o) : a < h.objs.size := by
  cases o with
  | lst xs => obtain ⟨_, _, _, _, e⟩ := x; exact Heap.lt_size e
  | tup xs => obtain ⟨_, _, _, p⟩ := x; exact p.lt
  | dK kvs => obtain ⟨_, _, _, _, o, _, _, e, _⟩ := x; exact Heap.lt_size e
  | dT kvs => obtain ⟨_, _, _, _, o, _, _, e, _⟩ := x; exact Heap.lt_size e
  | set S n => obtain ⟨o, _, _, _, e, _⟩ := x; exact Heap.lt_size e
  | ins C dx fs => obtain ⟨_, _, _, e, _⟩ := x; exact Heap.lt_size e
  | own y => obtain ⟨_, e⟩ := x; exact Heap.lt_size e
  | xd fs => obtain ⟨_, ⟨_, _, _, e, _⟩, _⟩ := x; exact Heap.lt_size e
  | rng lo hi => obtain ⟨_, _, _, e⟩ := x; exact Heap.lt_size e
  | frz ob u => obtain ⟨e, _⟩ := x; exact Heap.lt_size e
  | tbl ps => exact Heap.lt_size (show h.get? a = some _ from x)
  | met f y => exact Heap.lt_size (show h.get? a = some _ from x)
  | ext φ => obtain ⟨_, ⟨_, e⟩, _⟩ := x; exact Heap.lt_size e
theorem Paired.mapP {α β : Type} {F G : α → β → Prop} : ∀ {l₁ : List α} {l₂ : List β}, Paired F l₁ l₂ → (∀ a b, F a b → G a b) → Paired G l₁ l₂
  | _, _, .nil, _ => .nil
  | _, _, .cons r t, f => .cons (f _ _ r) (Paired.mapP t f)
/-- what an object's description leans on: its own object, its own dict, the tuples -/
theorem ObjOk.stay (x : ObjOk P w H h a o) (k : ∀ b u, (b = a ∨ H b = some (.own a)) → h.get? b = some u → h'.get? b = some u)
    (ho : ∀ b, H b = some (.own a) → H' b = some (.own a)) (ht : ∀ b xs, H b = some (.tup xs) → H' b = some (.tup xs)) : ObjOk P w H' h' a o := by
  induction o with
  | lst xs => obtain ⟨z, its, n, r, e⟩ := x; exact ⟨z, its, n, r, k _ _ (.inl rfl) e⟩
  | tup xs => obtain ⟨z, its, r, ob, e, c⟩ := x; exact ⟨z, its, r, ob, k _ _ (.inl rfl) e, c⟩
  | dK kvs => obtain ⟨z, y, vs, r, ob, es, ep, e, c⟩ := x; exact ⟨z, y, vs, r, ob, es, ep, k _ _ (.inl rfl) e, c⟩
  | dT kvs =>
    obtain ⟨z, y, xs, r, ob, es, ep, e, c⟩ := x
    exact ⟨z, y, xs, Paired.mapP r fun p q z => ⟨z.1, ht _ _ z.2.1, z.2.2⟩, ob, es, ep, k _ _ (.inl rfl) e, c⟩
  | set S n => obtain ⟨ob, es, ep, t, e, c⟩ := x; exact ⟨ob, es, ep, t, k _ _ (.inl rfl) e, c⟩
  | ins C dx fs =>
    obtain ⟨d, z, ne, e, mA, ⟨od, es, ep, e2, c⟩, r⟩ := x
    exact ⟨ho _ d, z, ne, k _ _ (.inl rfl) e, mA, ⟨od, es, ep, k _ _ (.inr d) e2, c⟩, r⟩
  | own y => obtain ⟨ob, e⟩ := x; exact ⟨ob, k _ _ (.inl rfl) e⟩
  | xd fs => obtain ⟨mA, ⟨od, es, ep, e, c⟩, r⟩ := x; exact ⟨mA, ⟨od, es, ep, k _ _ (.inl rfl) e, c⟩, r⟩
  | rng lo hi => obtain ⟨t, u, v, e⟩ := x; exact ⟨t, u, v, k _ _ (.inl rfl) e⟩
  | frz ob u ih => obtain ⟨e, q⟩ := x; exact ⟨k _ _ (.inl rfl) e, ih q⟩
  | tbl ps =>
    have e : h.get? a = some { cls := .none, data := .fields ps } := x
    show h'.get? a = some { cls := .none, data := .fields ps }
    exact k a _ (.inl rfl) e
  | met f y =>
    have e : h.get? a = some (PySem.W.methodObj (.ref f) (.ref y)) := x
    show h'.get? a = some (PySem.W.methodObj (.ref f) (.ref y))
    exact k a _ (.inl rfl) e
  | ext φ => obtain ⟨p, ⟨o, e⟩, st⟩ := x; exact ⟨st _ _ p fun o q => k _ _ (.inl rfl) q, ⟨o, k _ _ (.inl rfl) e⟩, st⟩
theorem HOk.lt (x : HOk P w H h) (e : H a = some o) : a < h.objs.size := (x a o e).lt
theorem HOk.fresh (x : HOk P w H h) (e : h.objs.size ≤ a) : H a = none := by
  cases q : H a with
  | none => rfl
  | some u => exact absurd (Nat.lt_of_lt_of_le (x.lt q) e) (Nat.lt_irrefl _)
/-- every object of the heap is kept -/
theorem HOk.kept (x : HOk P w H h) (k : ∀ b u, h.get? b = some u → h'.get? b = some u) : HOk P w H h' := fun a o e =>
  (x a o e).stay (fun b u _ q => k b u q) (fun _ q => q) fun _ _ q => q
/-- a new object is laid and tracked -/
theorem HOk.laid (x : HOk P w H h) (k : ∀ b u, h.get? b = some u → h'.get? b = some u) (hp : h.objs.size ≤ a) (new : ObjOk P w (upd H a o) h' a o) : HOk P w (upd H a o) h' := fun b u e => by
  have hn := x.fresh hp
  by_cases hb : b = a
  · subst hb; rw [upd_same] at e; cases e; exact new
  · rw [upd_ne hb] at e
    exact (x b u e).stay (fun c v _ q => k c v q) (fun c q => by rw [upd_ne (ne_of_none q hn)]; exact q) fun c xs q => by rw [upd_ne (ne_of_none q hn)]; exact q
end

/-- what may be read as u: it is u, or a known u -/
def Rd (H : Hp) (a : Addr) (u : HO) : Prop := H a = some u ∨ ∃ o, H a = some (.frz o u)
theorem Rd.of {H : Hp} {a : Addr} {u : HO} (h : H a = some u) : Rd H a u := .inl h
theorem Rd.ok {P : Program} {w : World} {H : Hp} {h : Heap} {a : Addr} {u : HO} (r : Rd H a u) (x : HOk P w H h) : ObjOk P w H h a u := by
  rcases r with r | ⟨o, r⟩
  · exact x a u r
  · obtain ⟨_, q⟩ := x a _ r
    exact q
/-- what may be written -/
def Mut : Option HO → Prop
  | some (.lst _) => True
  | some (.dK _) => True
  | some (.dT _) => True
  | some (.set _ _) => True
  | some (.ins _ _ _) => True
  | some (.ext _) => True
  | _ => False
section
variable {P : Program} {w : World} {H : Hp} {h h' : Heap} {x e : Addr} {o' : HO}
/-- the object at e is changed: x itself, or the dict of the instance x -/
theorem HOk.write (ok : HOk P w H h) (mu : Mut (H x)) (he : e = x ∨ H e = some (.own x)) (k : ∀ b u, b ≠ e → h.get? b = some u → h'.get? b = some u) (heo : ∃ u, h'.get? e = some u)
    (new : ObjOk P w (upd H x o') h' x o') : HOk P w (upd H x o') h' := fun b u q => by
  have nown : ∀ c y, H c = some (.own y) → c ≠ x := fun c y r z => by subst z; rw [r] at mu; exact mu
  have ntup : ∀ c xs, H c = some (.tup xs) → c ≠ x := fun c xs r z => by subst z; rw [r] at mu; exact mu
  by_cases hb : b = x
  · subst hb; rw [upd_same] at q; cases q; exact new
  · rw [upd_ne hb] at q
    by_cases hbe : b = e
    · have q' : H b = some (.own x) := by
        rcases he with z | z
        · exact absurd (hbe.trans z) hb
        · rw [hbe]; exact z
      rw [q] at q'; cases q'
      obtain ⟨v, hv⟩ := heo
      exact ⟨v, by rw [hbe]; exact hv⟩
    · refine (ok b u q).stay (fun c v hc r => k c v ?_ r) (fun c r => by rw [upd_ne (nown c b r)]; exact r) fun c xs r => by rw [upd_ne (ntup c xs r)]; exact r
      rcases hc with rfl | hc
      · exact hbe
      · rintro rfl
        rcases he with z | z
        · exact nown c b hc z
        · rw [hc] at z; cases z; exact hb rfl
end

/-! ### kept unless tracked; of the frames at fs (the callers') the slots may change (an exception that passes writes there); of the records at ex (iterators) nothing is said -/
structure Un (fs ex : List Addr) (H H' : Hp) (h h' : Heap) : Prop where
  keep : ∀ b o, h.get? b = some o → H b = none → b ∉ fs → b ∉ ex → h'.get? b = some o
  slot : ∀ b o, h.get? b = some o → H b = none → b ∈ fs → b ∉ ex → ∃ sl, h'.get? b = some { o with slots := sl }
  free : ∀ b o, h.get? b = some o → H b = none → b ∉ ex → H' b = none
  there : ∀ b o, h.get? b = some o → b ∉ ex → ∃ o', h'.get? b = some o'
  tups : ∀ b xs, H b = some (.tup xs) → H' b = some (.tup xs)
  frzs : ∀ b o u, H b = some (.frz o u) → H' b = some (.frz o u)
  tbls : ∀ b ps, H b = some (.tbl ps) → ∃ more, H' b = some (.tbl (ps ++ more))
section
variable {fs fs' ex ex' : List Addr} {H H1 H2 : Hp} {h h1 h2 h' : Heap} {a x e : Addr} {o : HO}
theorem Un.any (u : Un fs ex H H1 h h1) {b : Addr} {ob : Obj} (q : h.get? b = some ob) (n : H b = none) (hx : b ∉ ex) : ∃ sl, h1.get? b = some { ob with slots := sl } := by
  by_cases hb : b ∈ fs
  · exact u.slot b ob q n hb hx
  · exact ⟨ob.slots, u.keep b ob q n hb hx⟩
theorem Un.trans (a : Un fs ex H H1 h h1) (b : Un fs ex H1 H2 h1 h2) : Un fs ex H H2 h h2 where
  keep := fun c ob q n hc hx => b.keep c ob (a.keep c ob q n hc hx) (a.free c ob q n hx) hc hx
  slot := fun c ob q n hc hx => by
    obtain ⟨sl, e1⟩ := a.slot c ob q n hc hx
    obtain ⟨sl', e2⟩ := b.slot c _ e1 (a.free c ob q n hx) hc hx
    exact ⟨sl', e2⟩
  free := fun c ob q n hx => by
    obtain ⟨o', e1⟩ := a.there c ob q hx
    exact b.free c o' e1 (a.free c ob q n hx) hx
  there := fun c ob q hx => by
    obtain ⟨o', e1⟩ := a.there c ob q hx
    exact b.there c o' e1 hx
  tups := fun c xs q => b.tups c xs (a.tups c xs q)
  frzs := fun c ob xs q => b.frzs c ob xs (a.frzs c ob xs q)
  tbls := fun c ps q => by
    obtain ⟨m1, e1⟩ := a.tbls c ps q
    obtain ⟨m2, e2⟩ := b.tbls c _ e1
    exact ⟨m1 ++ m2, by rw [e2, Array.append_assoc]⟩
theorem Un.kept (k : ∀ b u, h.get? b = some u → h'.get? b = some u) : Un fs ex H H h h' :=
  ⟨fun b ob q _ _ _ => k b ob q, fun b ob q _ _ _ => ⟨ob.slots, k b ob q⟩, fun _ _ _ n _ => n, fun b ob q _ => ⟨ob, k b ob q⟩, fun _ _ q => q, fun _ _ _ q => q, fun _ ps q => ⟨#[], by rw [q]; simp⟩⟩
theorem Un.refl : Un fs ex H H h h := Un.kept fun _ _ q => q
theorem Un.laid (k : ∀ b u, h.get? b = some u → h'.get? b = some u) (hp : h.objs.size ≤ a) (hn : H a = none) : Un fs ex H (upd H a o) h h' where
  keep := fun b u q _ _ _ => k b u q
  slot := fun b u q _ _ _ => ⟨u.slots, k b u q⟩
  free := fun b u q n _ => by rw [upd_ne (Nat.ne_of_lt (Nat.lt_of_lt_of_le (Heap.lt_size q) hp))]; exact n
  there := fun b u q _ => ⟨u, k b u q⟩
  tups := fun b xs q => by rw [upd_ne (ne_of_none q hn)]; exact q
  frzs := fun b u xs q => by rw [upd_ne (ne_of_none q hn)]; exact q
  tbls := fun b ps q => ⟨#[], by rw [upd_ne (ne_of_none q hn), q]; simp⟩
theorem Un.write (mu : Mut (H x)) (he : e = x ∨ H e = some (.own x)) (k : ∀ b u, b ≠ e → h.get? b = some u → h'.get? b = some u) (heo : ∃ u, h'.get? e = some u) : Un fs ex H (upd H x o) h h' := by
  have hx : ∀ b, H b = none → b ≠ x := fun b n z => by subst z; rw [n] at mu; exact mu
  have hb : ∀ b, H b = none → b ≠ e := fun b n z => by
    subst z
    rcases he with r | r
    · exact hx b n r
    · rw [n] at r; cases r
  have hm : ∀ b u, H b = some u → ¬ Mut (some u) → b ≠ x := fun b u q nm z => by subst z; rw [q] at mu; exact nm mu
  refine ⟨fun b u q n _ _ => k b u (hb b n) q, fun b u q n _ _ => ⟨u.slots, k b u (hb b n) q⟩, fun b u q n _ => by rw [upd_ne (hx b n)]; exact n, fun b u q _ => ?_,
    fun b xs q => by rw [upd_ne (hm b _ q fun z => z)]; exact q, fun b u xs q => by rw [upd_ne (hm b _ q fun z => z)]; exact q, fun b ps q => ⟨#[], by rw [upd_ne (hm b _ q fun z => z), q]; simp⟩⟩
  by_cases hbe : b = e
  · subst hbe; exact heo
  · exact ⟨u, k b u hbe q⟩
theorem Un.mono (u : Un fs ex H H1 h h1) (hs : ∀ b ∈ fs, b ∈ fs') (hx : ∀ b ∈ ex, b ∈ ex') : Un fs' ex' H H1 h h1 :=
  ⟨fun b ob q n hb he => u.keep b ob q n (fun z => hb (hs b z)) fun z => he (hx b z), fun _ _ q n _ he => u.any q n fun z => he (hx _ z), fun b ob q n he => u.free b ob q n fun z => he (hx b z), fun b ob q he => u.there b ob q fun z => he (hx b z), u.tups, u.frzs, u.tbls⟩
end

/-! ### the heap without what is tracked -/
def trk (h : Heap) (H : Hp) : List Addr := (List.range h.objs.size).filter fun a => (H a).isSome
def hidT (h : Heap) (H : Hp) : Heap := PySem.W.hideAll h (trk h H)
theorem hidT_size (h : Heap) (H : Hp) : (hidT h H).objs.size = h.objs.size := PySem.W.hideAll_size _ _
theorem hidT_get {h : Heap} {H : Hp} {b : Addr} {o : Obj} (e : h.get? b = some o) (n : H b = none) : (hidT h H).get? b = some o :=
  PySem.W.hideAll_get _ e fun hm => by
    have q : (H b).isSome = true := (List.mem_filter.mp hm).2
    rw [n] at q; simp at q
theorem of_hidT {h : Heap} {H : Hp} {b : Addr} {o : Obj} (e : (hidT h H).get? b = some o) : h.get? b = some o ∧ H b = none := by
  have e' : h.get? b = some o := PySem.W.of_hideAll (trk h H) e
  refine ⟨e', ?_⟩
  cases q : H b with
  | none => rfl
  | some x =>
    have hm : b ∈ trk h H := List.mem_filter.mpr ⟨List.mem_range.mpr (Heap.lt_size e'), by simp [q]⟩
    have z : (hidT h H).get? b = none := PySem.W.hideAll_none (trk h H) hm
    rw [z] at e; cases e

/-! ### OpenK's ledger, filled with every new object but one -/
def allNews (g h : Heap) (L : Addr) : List (Addr × Obj) := (List.range h.objs.size).filterMap fun a => if a = L ∨ (g.get? a).isSome = true then none else (h.get? a).map fun o => (a, o)
def rest (g h : Heap) (L d : Addr) : List (Addr × Obj) := (allNews g h L).filter fun p => decide (p.1 ≠ d)
end L2

namespace L2
open PySem PySem.Spec PyProof.Rows

/-- the module's facts, over the base: the heap at the law's entry without what is tracked there -/
structure Mod (K : PySem.W.Frag) (mg : Str → Option Value) (base : Heap) : Prop where
  kin : K.In base
  glob : base.Ns mainGlobals mg
  blt : ∃ mb, base.Ns builtinsNs mb ∧ ∀ x : Str, x ≠ "__name__" → mb x = bootBuiltins x
  nolimit : base.NoLimit

/-- the context: a def's body (or a comprehension's block) running. base: fixed through the whole law; s₀, H₀: the entry; outer: the frames whose slots others may change (a def's callers); stack: all frames that run;
   ex: iterators that were made ahead of the entry and are walked here (a comprehension's); fn: the names whose cells were made at the entry (a def: all; a comprehension's block: its own); calm: not within an except suite; pn: pins that every state bears; xe: what is wanted of an exception that leaves the code -/
structure Cx where
  prog : Program
  w : World
  K : PySem.W.Frag
  mg : Str → Option Value
  base : Heap
  A : Around
  N : List Str
  s₀ : Shared
  H₀ : Hp
  env : Env
  outer : List Env
  stack : List Env
  ex : List Addr
  fn : Str → Bool
  calm : Bool
  pn : List (Addr × Obj)
  xe : Value → Shared → Prop
/-- the callers' frames -/
def frs (l : List Env) : List Addr := l.filterMap (·.frame)
abbrev Cx.fs (X : Cx) : List Addr := frs X.outer

def Vis (sc : Scope) (x : Str) : Prop := sc.names.lookup x = some .local ∨ sc.names.lookup x = some .cell ∨ sc.names.lookup x = some .free
def Loc (sc : Scope) (x : Str) : Prop := sc.names.lookup x = some .local ∨ sc.names.lookup x = some .cell
def Look (env : Env) (h : Heap) (m : Str → Option Value) (x : Str) (u : Value) : Prop :=
  (env.kindOf x = some .local ∧ m x = some u) ∨ ((env.kindOf x = some .cell ∨ env.kindOf x = some .free) ∧ ∃ c, env.cells.lookup x = some c ∧ h.IsCell c (some u))

structure Cx.Ok (X : Cx) : Prop where
  mod : Mod X.K X.mg X.base
  kind : X.env.scope.kind = .function
  glob : X.env.globals = mainGlobals
  blt : X.env.builtins = builtinsNs
  above : X.s₀.heap.objs.size ≤ X.env.locals
  inj : ∀ x y c, X.env.cells.lookup x = some c → X.env.cells.lookup y = some c → x = y
  has : ∀ x, (X.env.kindOf x = some .cell ∨ X.env.kindOf x = some .free) → ∃ c, X.env.cells.lookup x = some c
  cab : ∀ x c, X.fn x = true → X.env.cells.lookup x = some c → X.s₀.heap.objs.size ≤ c
  hd : X.calm = true → X.A.handled = none
  frames : X.A.frames = some X.stack
  stk : X.stack = X.outer ∨ (X.stack = X.env :: X.outer ∧ X.env.frame = some X.env.locals)
  exf : ∀ b ∈ X.ex, b ≠ X.env.locals ∧ ∀ x c, X.env.cells.lookup x = some c → c ≠ b
  bs : ∀ b o, X.base.get? b = some o → X.s₀.heap.get? b = some o ∧ X.H₀ b = none
  bsz : X.base.objs.size ≤ X.s₀.heap.objs.size
  noex : ∀ b o, X.base.get? b = some o → b ∉ X.ex
  exfs : ∀ b ∈ X.ex, b ∉ X.fs
  funs : X.s₀.heap.FunFrames X.base X.outer
  frf : ∀ b ∈ X.fs, X.H₀ b = none

structure Inv (X : Cx) (pins : List (Addr × Obj)) (σ : List (Option V)) (H : Hp) (s : Shared) : Prop where
  ok : X.Ok
  os : s.os = X.s₀.os
  bare : AllBare s.gens
  base : Un X.fs X.ex X.H₀ H X.s₀.heap s.heap
  loc : ∃ m, s.heap.Ns X.env.locals m ∧ ∀ (i : Nat) (x : Str) (v : V), X.N[i]? = some x → σ[i]? = some (some v) → Vis X.env.scope x → ∃ u, RelV v u ∧ Look X.env s.heap m x u
  cell : ∀ x c, X.env.cells.lookup x = some c → ∃ v, s.heap.IsCell c v
  free : H X.env.locals = none
  freeC : ∀ x c, X.env.cells.lookup x = some c → H c = none
  pin : ∀ p ∈ X.pn ++ pins, s.heap.get? p.1 = some p.2 ∧ H p.1 = none ∧ p.1 ≠ X.env.locals ∧ p.1 ∉ X.fs ∧ ∀ v, p.2.data ≠ .cell v
  hok : HOk X.prog X.w H s.heap
  len : σ.length = X.N.length

section
variable {X : Cx} {pins : List (Addr × Obj)} {σ : List (Option V)} {H H' : Hp} {s : Shared} {h' : Heap}

theorem Cx.Ok.nofr (ok : X.Ok) {b : Addr} {o : Obj} (e : X.base.get? b = some o) : b ∉ X.fs := fun hb => by
  have := (ok.funs.mem hb).1
  rw [e] at this; cases this
theorem Inv.bs (I : Inv X pins σ H s) : ∀ b o, X.base.get? b = some o → s.heap.get? b = some o ∧ H b = none := fun b o e =>
  ⟨I.base.keep b o (I.ok.bs b o e).1 (I.ok.bs b o e).2 (I.ok.nofr e) (I.ok.noex b o e), I.base.free b o (I.ok.bs b o e).1 (I.ok.bs b o e).2 (I.ok.noex b o e)⟩
theorem Inv.bk (I : Inv X pins σ H s) : ∀ b o, X.base.get? b = some o → s.heap.get? b = some o := fun b o e => (I.bs b o e).1
theorem Inv.mod (I : Inv X pins σ H s) : Mod X.K X.mg X.base := I.ok.mod
theorem Inv.kIn (I : Inv X pins σ H s) : X.K.In s.heap := I.ok.mod.kin.keeps I.bk
theorem Inv.nolimit (I : Inv X pins σ H s) : s.heap.NoLimit := I.ok.mod.nolimit.keeps I.bk
/-- the frame over the base: for OpenK's rules (K.In X.base is I.mod.kin) -/
theorem Inv.fr (I : Inv X pins σ H s) : ∃ m, Fr X.base X.env.locals s.heap m :=
  let ⟨m, hn, _⟩ := I.loc
  ⟨m, hn, I.bk, Nat.le_trans I.ok.bsz I.ok.above⟩
theorem Inv.lt (I : Inv X pins σ H s) : X.env.locals < s.heap.objs.size := let ⟨_, hn, _⟩ := I.loc; hn.lt
theorem Inv.sz (I : Inv X pins σ H s) : X.s₀.heap.objs.size ≤ s.heap.objs.size := Nat.le_trans I.ok.above (Nat.le_of_lt I.lt)
theorem Inv.nofs (I : Inv X pins σ H s) {a : Addr} (h : s.heap.objs.size ≤ a) : a ∉ X.fs := fun hb => by
  obtain ⟨_, o, ho, _⟩ := I.ok.funs.mem hb
  exact absurd (Nat.lt_of_lt_of_le (Heap.lt_size ho) (Nat.le_trans I.sz h)) (Nat.lt_irrefl _)
theorem Inv.cne (I : Inv X pins σ H s) : ∀ x c, X.env.cells.lookup x = some c → c ≠ X.env.locals := fun x c e z => by
  obtain ⟨v, o, ho, hd⟩ := I.cell x c e
  obtain ⟨m, ⟨o', es, ep, ho', hd', _⟩, _⟩ := I.loc
  rw [z, ho'] at ho; cases ho; rw [hd'] at hd; cases hd
theorem Inv.funs (I : Inv X pins σ H s) : s.heap.FunFrames X.base X.outer := by
  have all : ∀ (l : List Env), (∀ b ∈ frs l, b ∈ X.fs) → X.s₀.heap.FunFrames X.base l → s.heap.FunFrames X.base l := by
    intro l
    induction l with
    | nil => intro _ _; trivial
    | cons env r ih =>
      intro hs hl
      obtain ⟨hk, ⟨L, o, hf, hn, ho, hd⟩, hr⟩ := hl
      have hL : L ∈ X.fs := hs L (by unfold frs; rw [List.filterMap_cons, hf]; exact List.mem_cons_self)
      obtain ⟨sl, e⟩ := I.base.slot L o ho (I.ok.frf L hL) hL fun z => I.ok.exfs L z hL
      exact ⟨hk, ⟨L, _, hf, hn, e, hd⟩, ih (fun b hb => hs b (by unfold frs; rw [List.filterMap_cons, hf]; exact List.mem_cons_of_mem _ hb)) hr⟩
  exact all X.outer (fun _ hb => hb) I.ok.funs

/-- the frames that run, for a call -/
theorem Inv.stack (I : Inv X pins σ H s) : s.heap.FunFrames X.base X.stack := by
  rcases I.ok.stk with e | ⟨e, hf⟩
  · rw [e]; exact I.funs
  · rw [e]
    obtain ⟨m, hn, _⟩ := I.loc
    refine .cons (by rw [I.ok.kind]; decide) hf hn ?_ I.funs
    exact Heap.get?_none_of_le (Nat.le_trans I.ok.bsz I.ok.above)
theorem Inv.stkSub (I : Inv X pins σ H s) : ∀ b ∈ frs X.stack, b ∈ X.env.locals :: X.fs := fun b hb => by
  rcases I.ok.stk with e | ⟨e, hf⟩
  · rw [e] at hb; exact List.mem_cons_of_mem _ hb
  · rw [e] at hb
    unfold frs at hb
    rw [List.filterMap_cons, hf] at hb
    exact hb
theorem Inv.stkFree (I : Inv X pins σ H s) : ∀ b ∈ frs X.stack, H b = none := fun b hb => by
  rcases List.mem_cons.mp (I.stkSub b hb) with e | hb
  · rw [e]; exact I.free
  · obtain ⟨_, o, ho, _⟩ := I.ok.funs.mem hb
    exact I.base.free b o ho (I.ok.frf b hb) fun z => I.ok.exfs b z hb

/-- THE STEP: the untracked objects but the frame and the records at ch are kept (the callers' frames up to slots), the frame's map is kept, the new abstract heap is held -/
theorem Inv.step {g' : Array GenState} {t' : Nat} {d' : Drawn} {ch : List Addr} (I : Inv X pins σ H s)
    (hch : ∀ b ∈ ch, (b ∈ X.ex ∨ X.s₀.heap.objs.size ≤ b) ∧ b ≠ X.env.locals ∧ (∀ x c, X.env.cells.lookup x = some c → c ≠ b) ∧ ∀ p ∈ X.pn ++ pins, p.1 ≠ b)
    (keep : ∀ b o, b ≠ X.env.locals → b ∉ X.fs → b ∉ ch → s.heap.get? b = some o → H b = none → h'.get? b = some o)
    (slot : ∀ b o, b ≠ X.env.locals → b ∈ X.fs → b ∉ ch → s.heap.get? b = some o → H b = none → ∃ sl, h'.get? b = some { o with slots := sl }) (free : ∀ b o, b ∉ ch → s.heap.get? b = some o → H b = none → H' b = none)
    (there : ∀ b o, b ∉ ch → s.heap.get? b = some o → ∃ o', h'.get? b = some o')
    (tups : ∀ b xs, H b = some (.tup xs) → H' b = some (.tup xs)) (frzs : ∀ b o u, H b = some (.frz o u) → H' b = some (.frz o u)) (tbls : ∀ b ps, H b = some (.tbl ps) → ∃ more, H' b = some (.tbl (ps ++ more)))
    (ns : ∀ m, s.heap.Ns X.env.locals m → h'.Ns X.env.locals m) (hok : HOk X.prog X.w H' h') (hg : AllBare g') :
    Inv X pins σ H' { s with heap := h', gens := g', drawn := d', toks := t' } := by
  have neL : ∀ b o, X.s₀.heap.get? b = some o → b ≠ X.env.locals := fun b o e => Nat.ne_of_lt (Nat.lt_of_lt_of_le (Heap.lt_size e) I.ok.above)
  have neC : ∀ b o, X.s₀.heap.get? b = some o → b ∉ X.ex → b ∉ ch := fun b o e hx hb => by
    rcases (hch b hb).1 with z | z
    · exact hx z
    · exact absurd (Nat.lt_of_lt_of_le (Heap.lt_size e) z) (Nat.lt_irrefl _)
  have cellK : ∀ x c, X.env.cells.lookup x = some c → ∀ v, s.heap.IsCell c v → h'.IsCell c v := fun x c e v ⟨o, ho, hd⟩ => by
    have nch : c ∉ ch := fun z => (hch c z).2.2.1 x c e rfl
    by_cases hc : c ∈ X.fs
    · obtain ⟨sl, q⟩ := slot c o (I.cne x c e) hc nch ho (I.freeC x c e)
      exact ⟨_, q, hd⟩
    · exact ⟨o, keep c o (I.cne x c e) hc nch ho (I.freeC x c e), hd⟩
  refine ⟨I.ok, I.os, hg, ⟨fun b o e n hb hx => ?_, fun b o e n hb hx => ?_, fun b o e n hx => ?_, fun b o e hx => ?_, fun b xs e => tups b xs (I.base.tups b xs e), fun b o xs e => frzs b o xs (I.base.frzs b o xs e), fun b ps e => ?_⟩, ?_, fun x c e => ?_, ?_, fun x c e => ?_, fun p hp => ?_, hok, I.len⟩
  · exact keep b o (neL b o e) hb (neC b o e hx) (I.base.keep b o e n hb hx) (I.base.free b o e n hx)
  · obtain ⟨sl, e1⟩ := I.base.slot b o e n hb hx
    obtain ⟨sl', e2⟩ := slot b _ (neL b o e) hb (neC b o e hx) e1 (I.base.free b o e n hx)
    exact ⟨sl', e2⟩
  · obtain ⟨o', e1⟩ := I.base.there b o e hx
    exact free b o' (neC b o e hx) e1 (I.base.free b o e n hx)
  · obtain ⟨o', e1⟩ := I.base.there b o e hx
    exact there b o' (neC b o e hx) e1
  · obtain ⟨m1, e1⟩ := I.base.tbls b ps e
    obtain ⟨m2, e2⟩ := tbls b _ e1
    exact ⟨m1 ++ m2, by rw [e2, Array.append_assoc]⟩
  · obtain ⟨m, hn, hl⟩ := I.loc
    refine ⟨m, ns m hn, fun i x v e1 e2 e3 => ?_⟩
    obtain ⟨u, r, l⟩ := hl i x v e1 e2 e3
    refine ⟨u, r, ?_⟩
    rcases l with l | ⟨k, c, e, z⟩
    · exact .inl l
    · exact .inr ⟨k, c, e, cellK x c e _ z⟩
  · obtain ⟨v, z⟩ := I.cell x c e
    exact ⟨v, cellK x c e v z⟩
  · obtain ⟨m, ⟨o, _, _, ho, _⟩, _⟩ := I.loc
    exact free _ o (fun z => (hch _ z).2.1 rfl) ho I.free
  · obtain ⟨v, o, ho, hd⟩ := I.cell x c e
    exact free c o (fun z => (hch c z).2.2.1 x c e rfl) ho (I.freeC x c e)
  · obtain ⟨e, n, ne, nf, d⟩ := I.pin p hp
    have nch : p.1 ∉ ch := fun z => (hch p.1 z).2.2.2 p hp rfl
    exact ⟨keep p.1 p.2 ne nf nch e n, free p.1 p.2 nch e n, ne, nf, d⟩
/-- .. where the frame's own object is kept too -/
theorem Inv.un {t' : Nat} (I : Inv X pins σ H s) (u : Un X.fs [] H H' s.heap h') (hok : HOk X.prog X.w H' h') : Inv X pins σ H' { s with heap := h', toks := t' } := by
  obtain ⟨m, ⟨o, es, ep, ho, r⟩, _⟩ := id I.loc
  obtain ⟨sl, hL⟩ := u.any ho I.free (by simp)
  exact I.step (g' := s.gens) (d' := s.drawn) (ch := []) (fun _ z => nomatch z) (fun b o _ hb _ e n => u.keep b o e n hb (by simp)) (fun b o _ hb _ e n => u.slot b o e n hb (by simp)) (fun b o _ e n => u.free b o e n (by simp)) (fun b o _ e => u.there b o e (by simp)) u.tups u.frzs u.tbls (fun m' hm => by
    obtain ⟨o', es', ep', ho', r'⟩ := hm
    rw [ho] at ho'; cases ho'
    exact ⟨_, es', ep', hL, r'⟩) hok I.bare
/-- behind a call (or a comprehension's block): the slots of this frame may have changed too, the records at ch may have turned -/
theorem Inv.call {g' : Array GenState} {t' : Nat} {d' : Drawn} {ch : List Addr} (I : Inv X pins σ H s) (u : Un (frs X.stack) ch H H' s.heap h') (hok : HOk X.prog X.w H' h') (hg : AllBare g')
    (hch : ∀ b ∈ ch, (b ∈ X.ex ∨ X.s₀.heap.objs.size ≤ b) ∧ b ≠ X.env.locals ∧ (∀ x c, X.env.cells.lookup x = some c → c ≠ b) ∧ ∀ p ∈ X.pn ++ pins, p.1 ≠ b) :
    Inv X pins σ H' { s with heap := h', gens := g', drawn := d', toks := t' } := by
  obtain ⟨m, ⟨o, es, ep, ho, r⟩, _⟩ := id I.loc
  obtain ⟨sl, hL⟩ := u.any ho I.free fun z => (hch _ z).2.1 rfl
  exact I.step (ch := ch) hch (fun b o hL hb hc e n => u.keep b o e n (fun z => (List.mem_cons.mp (I.stkSub b z)).elim hL hb) hc) (fun b o _ _ hc e n => u.any e n hc) (fun b o hc e n => u.free b o e n hc) (fun b o hc e => u.there b o e hc) u.tups u.frzs u.tbls (fun m' hm => by
    obtain ⟨o', es', ep', ho', r'⟩ := hm
    rw [ho] at ho'; cases ho'
    exact ⟨_, es', ep', hL, r'⟩) hok hg
/-- an untracked record of ours (an iterator) has turned -/
theorem Inv.turned {t' : Nat} {it : Addr} (I : Inv X pins σ H s) (k : ∀ b o, b ≠ it → s.heap.get? b = some o → h'.get? b = some o) (hn : H it = none) (hL : it ≠ X.env.locals)
    (h1 : it ∈ X.ex ∨ X.s₀.heap.objs.size ≤ it) (h2 : ∀ x c, X.env.cells.lookup x = some c → c ≠ it) (h3 : ∀ p ∈ X.pn ++ pins, p.1 ≠ it) : Inv X pins σ H { s with heap := h', toks := t' } := by
  have nit : ∀ b u, H b = some u → b ≠ it := fun b u e z => by rw [z, hn] at e; cases e
  refine I.step (g' := s.gens) (d' := s.drawn) (ch := [it]) (fun b hb => ?_) (fun b o _ _ hc e _ => k b o (fun z => hc (by simp [z])) e) (fun b o _ _ hc e _ => ⟨o.slots, k b o (fun z => hc (by simp [z])) e⟩) (fun _ _ _ _ n => n)
    (fun b o hc e => ⟨o, k b o (fun z => hc (by simp [z])) e⟩) (fun _ _ e => e) (fun _ _ _ e => e) (fun b ps e => ⟨#[], by rw [e]; simp⟩) (fun m hm => ?_) (fun b u e => ?_) I.bare
  · have e : b = it := by simpa using hb
    subst e
    exact ⟨h1, hL, h2, h3⟩
  · obtain ⟨o, es, ep, ho, r⟩ := hm
    exact ⟨o, es, ep, k _ o (Ne.symm hL) ho, r⟩
  · refine (I.hok b u e).stay (fun c v hc q => k c v ?_ q) (fun _ q => q) fun _ _ q => q
    rcases hc with z | z
    · rw [z]; exact nit b u e
    · exact nit c _ z
theorem Inv.tok (I : Inv X pins σ H s) (t : Nat) : Inv X pins σ H { s with toks := t } := I.un (h' := s.heap) (t' := t) Un.refl I.hok
/-- all objects kept -/
theorem Inv.kept {t' : Nat} (I : Inv X pins σ H s) (k : ∀ b u, s.heap.get? b = some u → h'.get? b = some u) : Inv X pins σ H { s with heap := h', toks := t' } := I.un (Un.kept k) (I.hok.kept k)
/-- a new object laid and tracked -/
theorem Inv.laid {a : Addr} {o : HO} {t' : Nat} (I : Inv X pins σ H s) (k : ∀ b u, s.heap.get? b = some u → h'.get? b = some u) (hp : s.heap.objs.size ≤ a) (new : ObjOk X.prog X.w (upd H a o) h' a o) :
    Inv X pins σ (upd H a o) { s with heap := h', toks := t' } := I.un (Un.laid k hp (I.hok.fresh hp)) (I.hok.laid k hp new)
/-- an object written -/
theorem Inv.write {x e : Addr} {o : HO} {t' : Nat} (I : Inv X pins σ H s) (mu : Mut (H x)) (he : e = x ∨ H e = some (.own x)) (k : ∀ b u, b ≠ e → s.heap.get? b = some u → h'.get? b = some u) (heo : ∃ u, h'.get? e = some u)
    (new : ObjOk X.prog X.w (upd H x o) h' x o) : Inv X pins σ (upd H x o) { s with heap := h', toks := t' } := I.un (Un.write mu he k heo) (I.hok.write mu he k heo new)
theorem Inv.pins_of {pins' : List (Addr × Obj)} (I : Inv X pins σ H s) (h : ∀ p ∈ pins', s.heap.get? p.1 = some p.2 ∧ H p.1 = none ∧ p.1 ≠ X.env.locals ∧ p.1 ∉ X.fs ∧ ∀ v, p.2.data ≠ .cell v) : Inv X pins' σ H s :=
  ⟨I.ok, I.os, I.bare, I.base, I.loc, I.cell, I.free, I.freeC, fun p hp => (List.mem_append.mp hp).elim (fun z => I.pin p (List.mem_append_left _ z)) (h p), I.hok, I.len⟩

theorem nodup_ix {N : List Str} (hN : N.Nodup) {i j : Nat} {x : Str} (a : N[i]? = some x) (b : N[j]? = some x) : i = j := by
  obtain ⟨h1, e1⟩ := List.getElem?_eq_some_iff.mp a
  obtain ⟨h2, e2⟩ := List.getElem?_eq_some_iff.mp b
  exact (List.getElem_inj hN).mp (e1.trans e2.symm)

/-- a name is stored; what changed -/
theorem store_ok2 {M : Model} {A : Around} {E : Value → Shared → Prop} {i : Nat} {x : Str} {v : V} {u : Value} {Q : Unit → Shared → Prop} (I : Inv X pins σ H s) (hN : X.N.Nodup) (hi : X.N[i]? = some x) (hx : Loc X.env.scope x) (r : RelV v u)
    (h : ∀ s', Inv X pins (σ.set i (some v)) H s' → (∃ a, Heap.SameBut a s.heap s'.heap ∧ (a = X.env.locals ∨ X.env.cells.lookup x = some a)) → Q () s') (hf : X.fn x = true ∨ X.env.scope.names.lookup x = some .local := by first | exact .inl rfl | exact .inr rfl | assumption) : wpAny M A (storeName X.env x u) Q E s := by
  obtain ⟨m, hn, hl⟩ := id I.loc
  have hcls : (X.env.scope.kind == .class || (X.env.scope.kind == .module && X.env.locals != X.env.globals)) = false := by rw [I.ok.kind]; rfl
  have hiσ : i < σ.length := by rw [I.len]; exact (List.getElem?_eq_some_iff.mp hi).1
  have cne := I.cne
  have tracked : ∀ {a : Addr} {h' : Heap}, (∃ o, s.heap.get? a = some o ∧ H a = none) → Heap.SameBut a s.heap h' → HOk X.prog X.w H h' := fun {a h'} ha hs b ob e => by
    obtain ⟨_, _, hfree⟩ := ha
    refine (I.hok b ob e).stay (fun c w' hc q => (hs.2 c ?_).trans q) (fun _ q => q) fun _ _ q => q
    rintro rfl
    rcases hc with rfl | hc
    · rw [hfree] at e; cases e
    · rw [hfree] at hc; cases hc
  rcases hx with hk | hk
  · refine wpAny_storeName_local hk hn (fun h' hn' hs => ?_) hcls
    obtain ⟨oL, _, _, hoL, _⟩ := id hn
    refine h _ ⟨I.ok, I.os, I.bare, ⟨fun b o e n hb hx => ?_, fun b o e n hb hx => ?_, I.base.free, fun b o e hx => ?_, I.base.tups, I.base.frzs, I.base.tbls⟩, ⟨_, hn', fun j y v' e1 e2 e3 => ?_⟩, fun y c e => ?_, I.free, I.freeC, fun p hp => ?_, tracked ⟨oL, hoL, I.free⟩ hs, by simpa using I.len⟩ ⟨_, hs, .inl rfl⟩
    · exact (hs.2 b (Nat.ne_of_lt (Nat.lt_of_lt_of_le (Heap.lt_size e) I.ok.above))).trans (I.base.keep b o e n hb hx)
    · obtain ⟨sl, e1⟩ := I.base.slot b o e n hb hx
      exact ⟨sl, (hs.2 b (Nat.ne_of_lt (Nat.lt_of_lt_of_le (Heap.lt_size e) I.ok.above))).trans e1⟩
    · obtain ⟨o', e1⟩ := I.base.there b o e hx
      exact ⟨o', (hs.2 b (Nat.ne_of_lt (Nat.lt_of_lt_of_le (Heap.lt_size e) I.ok.above))).trans e1⟩
    · by_cases hj : j = i
      · subst hj
        rw [hi] at e1; cases e1
        rw [List.getElem?_set_self hiσ] at e2
        cases e2
        exact ⟨u, r, .inl ⟨hk, by simp⟩⟩
      · rw [List.getElem?_set_ne (Ne.symm hj)] at e2
        obtain ⟨u', r', q⟩ := hl j y v' e1 e2 e3
        refine ⟨u', r', ?_⟩
        rcases q with ⟨k, e⟩ | ⟨k, c, e, z⟩
        · refine .inl ⟨k, ?_⟩
          have : y ≠ x := fun e => hj (nodup_ix hN e1 (e ▸ hi))
          simp [this, e]
        · exact .inr ⟨k, c, e, z.sameBut hs (cne y c e)⟩
    · obtain ⟨w', z⟩ := I.cell y c e
      exact ⟨w', z.sameBut hs (cne y c e)⟩
    · obtain ⟨e, n, ne, nf, d⟩ := I.pin p hp
      exact ⟨(hs.2 p.1 ne).trans e, n, ne, nf, d⟩
  · have hfn : X.fn x = true := by
      rcases hf with z | z
      · exact z
      · rw [z] at hk; cases hk
    obtain ⟨c, hc⟩ := I.ok.has x (.inl hk)
    obtain ⟨w', z⟩ := I.cell x c hc
    refine wpAny_storeName_cell I.ok.kind hk hc z (fun h' hc' hs => ?_)
    obtain ⟨oc, hoc, hocd⟩ := id z
    refine h { s with heap := h' } ⟨I.ok, I.os, I.bare, ⟨fun b o e n hb hx => ?_, fun b o e n hb hx => ?_, I.base.free, fun b o e hx => ?_, I.base.tups, I.base.frzs, I.base.tbls⟩, ⟨m, hn.sameBut hs (Ne.symm (cne x c hc)), fun j y v' e1 e2 e3 => ?_⟩, fun y c' e => ?_, I.free, I.freeC, fun p hp => ?_, tracked ⟨oc, hoc, I.freeC x c hc⟩ hs, by simpa using I.len⟩ ⟨c, hs, .inr hc⟩
    · exact (hs.2 b (Nat.ne_of_lt (Nat.lt_of_lt_of_le (Heap.lt_size e) (I.ok.cab x c hfn hc)))).trans (I.base.keep b o e n hb hx)
    · obtain ⟨sl, e1⟩ := I.base.slot b o e n hb hx
      exact ⟨sl, (hs.2 b (Nat.ne_of_lt (Nat.lt_of_lt_of_le (Heap.lt_size e) (I.ok.cab x c hfn hc)))).trans e1⟩
    · obtain ⟨o', e1⟩ := I.base.there b o e hx
      exact ⟨o', (hs.2 b (Nat.ne_of_lt (Nat.lt_of_lt_of_le (Heap.lt_size e) (I.ok.cab x c hfn hc)))).trans e1⟩
    · by_cases hj : j = i
      · subst hj
        rw [hi] at e1; cases e1
        rw [List.getElem?_set_self hiσ] at e2
        cases e2
        exact ⟨u, r, .inr ⟨.inl hk, c, hc, hc'⟩⟩
      · rw [List.getElem?_set_ne (Ne.symm hj)] at e2
        obtain ⟨u', r', q⟩ := hl j y v' e1 e2 e3
        refine ⟨u', r', ?_⟩
        rcases q with q | ⟨k, c', e, z'⟩
        · exact .inl q
        · refine .inr ⟨k, c', e, z'.sameBut hs ?_⟩
          rintro rfl
          exact hj (nodup_ix hN e1 (I.ok.inj _ _ _ e hc ▸ hi))
    · by_cases hcc : c' = c
      · subst hcc; exact ⟨_, hc'⟩
      · obtain ⟨w2, z2⟩ := I.cell y c' e
        exact ⟨w2, z2.sameBut hs hcc⟩
    · obtain ⟨e, n, ne, nf, d⟩ := I.pin p hp
      refine ⟨(hs.2 p.1 ?_).trans e, n, ne, nf, d⟩
      intro q
      rw [q, hoc] at e
      have q' : oc = p.2 := Option.some.inj e
      exact d w' (by rw [← q']; exact hocd)
theorem store_ok {M : Model} {A : Around} {E : Value → Shared → Prop} {i : Nat} {x : Str} {v : V} {u : Value} {Q : Unit → Shared → Prop} (I : Inv X pins σ H s) (hN : X.N.Nodup) (hi : X.N[i]? = some x) (hx : Loc X.env.scope x) (r : RelV v u)
    (h : ∀ s', Inv X pins (σ.set i (some v)) H s' → Q () s') (hf : X.fn x = true ∨ X.env.scope.names.lookup x = some .local := by first | exact .inl rfl | exact .inr rfl | assumption) : wpAny M A (storeName X.env x u) Q E s :=
  store_ok2 I hN hi hx r (fun s' I' _ => h s' I') hf
/-- behind a call or a block, the state as it is -/
theorem Inv.call' {s' : Shared} {ch : List Addr} (I : Inv X pins σ H s) (ho : s'.os = s.os) (u : Un (frs X.stack) ch H H' s.heap s'.heap) (hok : HOk X.prog X.w H' s'.heap) (hg : AllBare s'.gens)
    (hch : ∀ b ∈ ch, (b ∈ X.ex ∨ X.s₀.heap.objs.size ≤ b) ∧ b ≠ X.env.locals ∧ (∀ x c, X.env.cells.lookup x = some c → c ≠ b) ∧ ∀ p ∈ X.pn ++ pins, p.1 ≠ b) : Inv X pins σ H' s' := by
  obtain ⟨h', g', d', t', o'⟩ := s'
  have e : o' = s.os := ho
  subst e
  exact I.call (g' := g') (t' := t') (d' := d') u hok hg hch
end

/-! ### the judgements -/
/-- an exception: its class, its own dict's address (where it has one), the abstract heap behind it -/
abbrev XK := Value → Option Addr → Hp → Prop
abbrev St := List (Option V)
abbrev VK := V → Hp → Prop
/-- an expression's reading; a test's; an argument list's -/
abbrev TE := St → Hp → VK → Prop
abbrev TT := St → Hp → (Bool → Hp → Prop) → Prop
abbrev TA := St → Hp → (List V → Hp → Prop) → Prop
/-- what is wanted behind a statement -/
structure Ends where
  nx : St → Hp → Prop
  rt : VK
  bk : St → Hp → Prop := fun _ _ => False
  ct : St → Hp → Prop := fun _ _ => False
abbrev TS := Ends → St → Hp → Prop

def EP (X : Cx) (pins : List (Addr × Obj)) (σ : St) (Q : VK) (u : Value) (s' : Shared) : Prop := ∃ v H', Inv X pins σ H' s' ∧ RelV v u ∧ Q v H'
def TP (X : Cx) (pins : List (Addr × Obj)) (σ : St) (Q : Bool → Hp → Prop) (b : Bool) (s' : Shared) : Prop := ∃ H', Inv X pins σ H' s' ∧ Q b H'
def AP (X : Cx) (pins : List (Addr × Obj)) (σ : St) (Q : List V → Hp → Prop) (us : List Value) (s' : Shared) : Prop := ∃ vs H', Inv X pins σ H' s' ∧ Vals vs us ∧ Q vs H'
def SP (X : Cx) (pins : List (Addr × Obj)) (D : Ends) (f : Flow) (s' : Shared) : Prop :=
  match f with
  | .next => ∃ σ' H', Inv X pins σ' H' s' ∧ D.nx σ' H'
  | .brk => ∃ σ' H', Inv X pins σ' H' s' ∧ D.bk σ' H'
  | .cont => ∃ σ' H', Inv X pins σ' H' s' ∧ D.ct σ' H'
  | .ret u => ∃ v σ' H', Inv X pins σ' H' s' ∧ RelV v u ∧ D.rt v H'

def PE (X : Cx) (e : Expr) (t : TE) : Prop :=
  ∀ (pins : List (Addr × Obj)) (s : Shared) (σ : St) (H : Hp) (Q : VK), Inv X pins σ H s → t σ H Q → wpAny (model X.prog X.w) X.A (eval e X.env) (EP X pins σ Q) X.xe s
def PT (X : Cx) (e : Expr) (t : TT) : Prop :=
  ∀ (pins : List (Addr × Obj)) (s : Shared) (σ : St) (H : Hp) (Q : Bool → Hp → Prop), Inv X pins σ H s → t σ H Q → wpAny (model X.prog X.w) X.A (isTrue e X.env (eval e X.env)) (TP X pins σ Q) X.xe s
/-- a test whatever its 'whole' is (and, or) -/
def PW (X : Cx) (e : Expr) (t : TT) : Prop :=
  ∀ (whole : Sem Value) (pins : List (Addr × Obj)) (s : Shared) (σ : St) (H : Hp) (Q : Bool → Hp → Prop), Inv X pins σ H s → t σ H Q → wpAny (model X.prog X.w) X.A (isTrue e X.env whole) (TP X pins σ Q) X.xe s
theorem PW.pt {X : Cx} {e : Expr} {t : TT} (h : PW X e t) : PT X e t := h _
/-- an argument list (no star), from the left -/
def PA (X : Cx) (es : List Expr) (t : TA) : Prop :=
  ∀ (pos : Pos) (pins : List (Addr × Obj)) (s : Shared) (σ : St) (H : Hp) (Q : List V → Hp → Prop), Inv X pins σ H s → t σ H Q → wpAny (model X.prog X.w) X.A (spliced (backTo pos (starEach es X.env))) (AP X pins σ Q) X.xe s
def PS (X : Cx) (st : Stmt) (t : TS) : Prop :=
  ∀ (pins : List (Addr × Obj)) (s : Shared) (σ : St) (H : Hp) (D : Ends), Inv X pins σ H s → t D σ H → wpAny (model X.prog X.w) X.A (exec st X.env) (SP X pins D) X.xe s
def PSs (X : Cx) (st : List Stmt) (t : TS) : Prop :=
  ∀ (pins : List (Addr × Obj)) (s : Shared) (σ : St) (H : Hp) (D : Ends), Inv X pins σ H s → t D σ H → wpAny (model X.prog X.w) X.A (execs st X.env) (SP X pins D) X.xe s
/-- weaken the end -/
theorem thn {α : Type} {t : Sem α} {Q Q' : α → Shared → Prop} {M : Model} {A : Around} {E : Value → Shared → Prop} {s : Shared} (h : wpAny M A t Q E s) (hQ : ∀ a s, Q a s → Q' a s) : wpAny M A t Q' E s := wpAny_mono h hQ fun _ _ x => x
end L2

namespace L2
open PySem PySem.Spec PyProof.Rows
section
variable {X : Cx}

/-! ### names and constants -/
def tVar (i : Nat) : TE := fun σ H Q => ∃ v, σ[i]? = some (some v) ∧ Q v H
def tC (v : V) : TE := fun _ H Q => Q v H
theorem pe_var {i : Nat} {x : Str} {pos : Pos} (hN : X.N[i]? = some x) (hv : Vis X.env.scope x) (hd : (x == ("__debug__" : Str)) = false := by decide) (hcd : (x == ("__classdict__" : Str)) = false := by decide) : PE X (.Name x pos) (tVar i) := by
  intro pins s σ H Q I h
  obtain ⟨v, e, h⟩ := h
  obtain ⟨m, hn, hl⟩ := I.loc
  obtain ⟨u, r, l⟩ := hl i x v hN e hv
  have fin : EP X pins σ Q u s := ⟨v, H, I, r, h⟩
  rcases l with ⟨hk, hm⟩ | ⟨hk, c, hc, hcell⟩
  · exact wpAny_Name (wpAny_loadName_local I.ok.kind hk hn hm fin) hd
  · rcases hk with hk | hk
    · exact wpAny_Name (wpAny_loadName_cell I.ok.kind hk hc hcell fin) hd
    · exact wpAny_Name (wpAny_loadName_free I.ok.kind hk hc hcell fin hcd) hd
theorem pe_int {i j pos} : PE X (.Constant (.int i) j pos) (tC (.int i)) := fun _ _ _ H _ I h => wpAny_Constant_int ⟨.int i, H, I.tok _, ⟨_, rfl⟩, h⟩
theorem pe_bl {b j pos} : PE X (.Constant (.bool b) j pos) (tC (.bl b)) := fun _ _ _ H _ I h => Constant_bool ⟨.bl b, H, I, rfl, h⟩
theorem pe_non {j pos} : PE X (.Constant .none j pos) (tC .non) := fun _ _ _ H _ I h => Constant_none ⟨.non, H, I, rfl, h⟩
theorem pe_str {x j pos} : PE X (.Constant (.str x) j pos) (tC (.str x)) := fun _ _ _ H _ I h => Calls.Constant_str ⟨.str x, H, I.tok _, ⟨_, rfl⟩, h⟩

/-- a global name of the def -/
def Gl (X : Cx) (x : Str) : Prop := X.env.kindOf x = some .globalImplicit
theorem ld_glob {E : Value → Shared → Prop} {pins : List (Addr × Obj)} {s : Shared} {σ : St} {H : Hp} {x : Str} {u : Value} {pos : Pos} {Q : Value → Shared → Prop} (I : Inv X pins σ H s) (hg : Gl X x) (hm : X.mg x = some u) (h : Q u s)
    (hd : (x == ("__debug__" : Str)) = false := by decide) : wpAny (model X.prog X.w) X.A (eval (.Name x pos) X.env) Q E s :=
  Calls.Name_function_global I.ok.kind hg (Calls.loadGlobal_global (by rw [I.ok.glob]; exact I.mod.glob.keeps I.bk) hm h) hd
theorem ld_blt {E : Value → Shared → Prop} {pins : List (Addr × Obj)} {s : Shared} {σ : St} {H : Hp} {x : Str} {u : Value} {pos : Pos} {Q : Value → Shared → Prop} (I : Inv X pins σ H s) (hg : Gl X x) (hm : X.mg x = none) (hv : bootBuiltins x = some u) (h : Q u s)
    (hn : x ≠ "__name__" := by decide) (hd : (x == ("__debug__" : Str)) = false := by decide) : wpAny (model X.prog X.w) X.A (eval (.Name x pos) X.env) Q E s := by
  obtain ⟨mb, h1, h2⟩ := I.mod.blt
  exact Calls.Name_function_global I.ok.kind hg (Calls.loadGlobal_builtin (by rw [I.ok.glob]; exact I.mod.glob.keeps I.bk) hm (by rw [I.ok.blt]; exact h1.keeps I.bk) ((h2 x hn).trans hv) h) hd
/-- a module's constant, a class, a function, as a value -/
theorem pe_glob {x : Str} {v : V} {u : Value} {pos : Pos} (hg : Gl X x) (hm : X.mg x = some u) (r : RelV v u) (hd : (x == ("__debug__" : Str)) = false := by decide) : PE X (.Name x pos) (tC v) :=
  fun _ _ _ H _ I h => ld_glob I hg hm ⟨v, H, I, r, h⟩ hd
theorem pe_bltn {x : Str} {v : V} {u : Value} {pos : Pos} (hg : Gl X x) (hm : X.mg x = none) (hv : bootBuiltins x = some u) (r : RelV v u) (hn : x ≠ "__name__" := by decide) (hd : (x == ("__debug__" : Str)) = false := by decide) : PE X (.Name x pos) (tC v) :=
  fun _ _ _ H _ I h => ld_blt I hg hm hv ⟨v, H, I, r, h⟩ hn hd

/-! ### arithmetic -/
variable {a b : Expr} {ta tb : TE} {pos : Pos}
/-! ### comparisons -/
/-- a comparison as a value, as a test -/
def tB (t : TE) : TT := fun σ H Q => t σ H fun x H1 => ∃ c, x = .bl c ∧ Q c H1
/-- an expression whose value is a bool, as a test -/
theorem pt_val {e : Expr} {t : TE} (h : PE X e t) (he : ∀ whole, isTrue e X.env whole = (do let v ← whole; standAt e.pos; holding [v] (truthy v)) := by intro _; rfl) : PT X e (tB t) := by
  intro pins s σ H Q I hw
  refine isTrue_plain (thn (h pins s σ H _ I hw) fun v s1 ⟨x, H1, I1, r1, q1⟩ => ?_) (he _)
  obtain ⟨d, rfl, q⟩ := q1
  cases r1
  exact wpAny_truthy_bool ⟨H1, I1, q⟩

/-! ### and, or, not -/
variable {tA tB' : TT} {rest : List Expr}
def tOr (t u : TT) : TT := fun σ H Q => t σ H fun c H1 => if c = true then Q true H1 else u σ H1 Q
def tNot (t : TT) : TT := fun σ H Q => t σ H fun c H1 => Q (!c) H1
theorem pw_or1 (ha : PT X a tA) : PW X (.BoolOp .Or [a] pos) tA := by
  intro wh pins s σ H Q I h
  refine isTrue_or (thn (ha pins s σ H Q I h) fun c s1 e => ?_)
  cases c with
  | false => exact isTrue_or_nil e
  | true => exact e
theorem pw_or (ha : PT X a tA) (hb : PW X (.BoolOp .Or (b :: rest) pos) tB') : PW X (.BoolOp .Or (a :: b :: rest) pos) (tOr tA tB') := by
  intro wh pins s σ H Q I h
  refine isTrue_or (thn (ha pins s σ H _ I h) fun c s1 ⟨H1, I1, q1⟩ => ?_)
  cases c with
  | true => exact ⟨H1, I1, q1⟩
  | false => exact hb wh pins s1 σ H1 Q I1 q1
theorem pt_not (ha : PT X a tA) : PT X (.UnaryOp .Not a pos) (tNot tA) := by
  intro pins s σ H Q I h
  exact isTrue_not (ha pins s σ H (fun c H1 => Q (!c) H1) I h)
/-- .. as values (bools) -/
def tAndV (ta tb : TE) : TE := fun σ H Q => ta σ H fun x H1 => ∃ c, x = .bl c ∧ if c = true then tb σ H1 Q else Q (.bl false) H1
def tNotV (ta : TE) : TE := fun σ H Q => ta σ H fun x H1 => ∃ c, x = .bl c ∧ Q (.bl (!c)) H1
theorem pe_one {op} {t : TE} (h : PE X a t) : PE X (.BoolOp op [a] pos) t := fun pins s σ H Q I hw => BoolOp_one (h pins s σ H Q I hw)
theorem pe_and (ha : PE X a ta) (hb : PE X (.BoolOp .And (b :: rest) pos) tb) : PE X (.BoolOp .And (a :: b :: rest) pos) (tAndV ta tb) := by
  intro pins s σ H Q I h
  refine BoolOp_and (thn (ha pins s σ H _ I h) fun v s1 ⟨x, H1, I1, r1, q1⟩ => ?_)
  obtain ⟨c, rfl, q1⟩ := q1
  cases r1
  refine wpAny_truthy_bool ?_
  cases c with
  | true => exact hb pins s1 σ H1 Q I1 q1
  | false => exact ⟨.bl false, H1, I1, rfl, q1⟩
theorem pe_not (ha : PE X a ta) : PE X (.UnaryOp .Not a pos) (tNotV ta) := by
  intro pins s σ H Q I h
  refine UnaryOp_ (thn (ha pins s σ H _ I h) fun v s1 ⟨x, H1, I1, r1, q1⟩ => ?_)
  obtain ⟨c, rfl, q1⟩ := q1
  cases r1
  exact not_of (wpAny_truthy_bool ⟨.bl (!c), H1, I1, rfl, q1⟩)
end
end L2

namespace L2
open PySem PySem.Spec PyProof.Rows

/-! ### a list, a tuple that is read: tracked, frozen, or an object of the module -/
def SqL (K : PySem.W.Frag) (H : Hp) (a : Addr) (xs : List V) : Prop :=
  Rd H a (.lst xs) ∨
    ∃ (o : Obj) (its : Array Value) (n : Nat), K.lookup a = some o ∧ o.cls = .type "list" ∧ o.dict = none ∧ o.data = .seq its n ∧ its.size ≤ sizeLine ∧ Vals xs its.toList
def SqT (K : PySem.W.Frag) (H : Hp) (a : Addr) (xs : List V) : Prop :=
  Rd H a (.tup xs) ∨
    ∃ (o : Obj) (its : Array Value) (n : Nat), K.lookup a = some o ∧ o.cls = .type "tuple" ∧ o.data = .seq its n ∧ its.size ≤ sizeLine ∧ Vals xs its.toList
def absV : Value → Option V
  | .none => some .non
  | .bool b => some (.bl b)
  | .int i _ => some (.int i)
  | .str x _ => some (.str x)
  | .bytes b _ => some (.byt b)
  | .float b _ => some (.flt b)
  | .ref a => some (.ref a)
  | .type n => some (.ty n)
  | _ => none
theorem RelV.abs {x : V} {u : Value} (r : RelV x u) : absV u = some x := by
  cases x with
  | non => cases r; rfl
  | bl _ => cases r; rfl
  | int _ => obtain ⟨t, rfl⟩ := r; rfl
  | str _ => obtain ⟨t, rfl⟩ := r; rfl
  | byt _ => obtain ⟨t, rfl⟩ := r; rfl
  | flt _ => obtain ⟨t, rfl⟩ := r; rfl
  | ref _ => cases r; rfl
  | ty _ => cases r; rfl
theorem RelV.inj {x y : V} {u : Value} (r : RelV x u) (q : RelV y u) : x = y := Option.some.inj (r.abs.symm.trans q.abs)
theorem Vals.inj : ∀ {xs ys : List V} {us : List Value}, Vals xs us → Vals ys us → xs = ys
  | _, _, _, .nil, .nil => rfl
  | _, _, _, .cons r t, .cons r' t' => by rw [r.inj r', Vals.inj t t']
section
variable {X : Cx} {pins : List (Addr × Obj)} {σ : St} {H : Hp} {s : Shared} {a : Addr} {xs ys : List V}
theorem SqL.of {K : PySem.W.Frag} (h : H a = some (.lst xs)) : SqL K H a xs := .inl (.inl h)
theorem SqT.of {K : PySem.W.Frag} (h : H a = some (.tup xs)) : SqT K H a xs := .inl (.inl h)
theorem Inv.list (I : Inv X pins σ H s) (h : SqL X.K H a xs) : ∃ its : List Value, Vals xs its ∧ PlainL s.heap a its.toArray ∧ xs.length ≤ sizeLine := by
  rcases h with h | ⟨o, its, n, hk, hc, hd, hs, hz, r⟩
  · obtain ⟨z, its, n, r, e⟩ := h.ok I.hok
    exact ⟨its, r, ⟨_, n, e, rfl, rfl, rfl⟩, z⟩
  · refine ⟨its.toList, r, ⟨o, n, I.kIn a o hk, hc, hd, by simpa using hs⟩, ?_⟩
    have e := r.length
    simp only [Array.length_toList] at e
    omega
theorem Inv.tuple (I : Inv X pins σ H s) (h : SqT X.K H a xs) : ∃ its : List Value, Vals xs its ∧ IsTup s.heap a its.toArray ∧ xs.length ≤ sizeLine := by
  rcases h with h | ⟨o, its, n, hk, hc, hs, hz, r⟩
  · obtain ⟨z, its, r, p⟩ := h.ok I.hok
    exact ⟨its, r, p.up, z⟩
  · refine ⟨its.toList, r, ⟨o, I.kIn a o hk, hc, n, by simpa using hs⟩, ?_⟩
    have e := r.length
    simp only [Array.length_toList] at e
    omega
theorem Inv.list_inj (I : Inv X pins σ H s) (h : SqL X.K H a xs) (h' : SqL X.K H a ys) : xs = ys := by
  obtain ⟨its, r, ⟨o, n, e, _, _, d⟩, _⟩ := I.list h
  obtain ⟨its', r', ⟨o', n', e', _, _, d'⟩, _⟩ := I.list h'
  rw [e] at e'; cases e'
  rw [d] at d'
  injection d' with d1 _
  have : its = its' := by simpa using congrArg Array.toList d1
  subst this
  exact r.inj r'
theorem Inv.tuple_inj (I : Inv X pins σ H s) (h : SqT X.K H a xs) (h' : SqT X.K H a ys) : xs = ys := by
  obtain ⟨its, r, ⟨o, e, _, n, d⟩, _⟩ := I.tuple h
  obtain ⟨its', r', ⟨o', e', _, n', d'⟩, _⟩ := I.tuple h'
  rw [e] at e'; cases e'
  rw [d] at d'
  injection d' with d1 _
  have : its = its' := by simpa using congrArg Array.toList d1
  subst this
  exact r.inj r'
end

/-! ### another wish about exceptions -/
abbrev Cx.wish (X : Cx) (E : Value → Shared → Prop) : Cx := { X with xe := E }
/-- no exception leaves -/
abbrev Cx.nox (X : Cx) : Cx := X.wish fun _ _ => False
theorem Cx.Ok.wish {X : Cx} (ok : X.Ok) (E : Value → Shared → Prop) : (X.wish E).Ok :=
  ⟨ok.mod, ok.kind, ok.glob, ok.blt, ok.above, ok.inj, ok.has, ok.cab, ok.hd, ok.frames, ok.stk, ok.exf, ok.bs, ok.bsz, ok.noex, ok.exfs, ok.funs, ok.frf⟩
theorem Cx.Ok.unwish {X : Cx} {E : Value → Shared → Prop} (ok : (X.wish E).Ok) : X.Ok :=
  ⟨ok.mod, ok.kind, ok.glob, ok.blt, ok.above, ok.inj, ok.has, ok.cab, ok.hd, ok.frames, ok.stk, ok.exf, ok.bs, ok.bsz, ok.noex, ok.exfs, ok.funs, ok.frf⟩
section
variable {X : Cx} {pins : List (Addr × Obj)} {σ : St} {H : Hp} {s : Shared} {E : Value → Shared → Prop}
theorem Inv.wish (I : Inv X pins σ H s) (E : Value → Shared → Prop) : Inv (X.wish E) pins σ H s := ⟨I.ok.wish E, I.os, I.bare, I.base, I.loc, I.cell, I.free, I.freeC, I.pin, I.hok, I.len⟩
theorem Inv.unwish (I : Inv (X.wish E) pins σ H s) : Inv X pins σ H s := ⟨I.ok.unwish, I.os, I.bare, I.base, I.loc, I.cell, I.free, I.freeC, I.pin, I.hok, I.len⟩
theorem SP.unwish {D : Ends} {f : Flow} {s' : Shared} (h : SP (X.wish E) pins D f s') : SP X pins D f s' := by
  cases f with
  | next => obtain ⟨σ', H', I, q⟩ := h; exact ⟨σ', H', I.unwish, q⟩
  | brk => obtain ⟨σ', H', I, q⟩ := h; exact ⟨σ', H', I.unwish, q⟩
  | cont => obtain ⟨σ', H', I, q⟩ := h; exact ⟨σ', H', I.unwish, q⟩
  | ret u => obtain ⟨v, σ', H', I, r, q⟩ := h; exact ⟨v, σ', H', I.unwish, r, q⟩
theorem PE.nox {e : Expr} {t : TE} (h : PE X.nox e t) : PE X e t := fun pins s σ H Q I hw =>
  wpAny_mono (h pins s σ H Q (I.wish _) hw) (fun _ _ ⟨v, H', I', r, q⟩ => ⟨v, H', I'.unwish, r, q⟩) fun _ _ z => False.elim z
theorem PT.nox {e : Expr} {t : TT} (h : PT X.nox e t) : PT X e t := fun pins s σ H Q I hw =>
  wpAny_mono (h pins s σ H Q (I.wish _) hw) (fun _ _ ⟨H', I', q⟩ => ⟨H', I'.unwish, q⟩) fun _ _ z => False.elim z
theorem PSs.nox {st : List Stmt} {t : TS} (h : PSs X.nox st t) : PSs X st t := fun pins s σ H D I hw =>
  wpAny_mono (h pins s σ H D (I.wish _) hw) (fun _ _ q => q.unwish) fun _ _ z => False.elim z
end

/-! ### blocks and small statements -/
section
variable {X : Cx} {st : Stmt} {rest : List Stmt} {t u : TS} {e : Expr} {te : TE} {pos : Pos}
def tNext : TS := fun D σ H => D.nx σ H
def tSeq (t u : TS) : TS := fun D σ H => t { D with nx := u D } σ H
theorem pss_nil : PSs X [] tNext := fun _ _ σ H _ I h => wpAny_execs_nil ⟨σ, H, I, h⟩
theorem pss_cons (h1 : PS X st t) (h2 : PSs X rest u) : PSs X (st :: rest) (tSeq t u) := by
  intro pins s σ H D I h
  refine wpAny_execs_cons (thn (h1 pins s σ H { D with nx := u D } I h) fun f s1 q => ?_)
  cases f with
  | next =>
    obtain ⟨σ', H', I', q⟩ := q
    exact h2 pins s1 σ' H' D I' q
  | ret v => exact q
  | brk => exact q
  | cont => exact q
theorem pss_one (h1 : PS X st t) : PSs X [st] t := by
  intro pins s σ H D I h
  refine wpAny_execs_cons (thn (h1 pins s σ H D I h) fun f s1 q => ?_)
  cases f with
  | next => exact wpAny_execs_nil q
  | ret v => exact q
  | brk => exact q
  | cont => exact q
/-- in a def's body nothing is shown -/
theorem Inv.quiet {pins : List (Addr × Obj)} {σ : St} {H : Hp} {s : Shared} (I : Inv X pins σ H s) : interactive X.env = false := by simp [interactive, I.ok.kind]
/-- an expression whose value is dropped -/
def tDrop (te : TE) : TS := fun D σ H => te σ H fun _ H1 => D.nx σ H1
theorem ps_expr (he : PE X e te) (hs : swapsWith e none pos.line X.env = pure false := by rfl) : PS X (.Expr e pos) (tDrop te) := by
  intro pins s σ H D I h
  exact wpAny_Expr_any (thn (he pins s σ H _ I h) fun v s1 ⟨x, H1, I1, r1, q1⟩ => ⟨σ, H1, I1, q1⟩) I.quiet hs
def tRet (te : TE) : TS := fun D σ H => te σ H D.rt
theorem ps_ret (he : PE X e te) : PS X (.Return (some e) pos) (tRet te) := by
  intro pins s σ H D I h
  exact wpAny_Return_some (thn (he pins s σ H _ I h) fun v s1 ⟨x, H1, I1, r1, q1⟩ => ⟨x, σ, H1, I1, r1, q1⟩)
def tIfS (c : TT) (t u : TS) : TS := fun D σ H => c σ H fun b H1 => if b = true then t D σ H1 else u D σ H1
theorem ps_if {c : Expr} {a b : List Stmt} {tc : TT} (hc : PT X c tc) (ha : PSs X a t) (hb : PSs X b u) : PS X (.If c a b pos) (tIfS tc t u) := by
  intro pins s σ H D I h
  refine wpAny_If (thn (hc pins s σ H _ I h) fun d s1 ⟨H1, I1, q1⟩ => ?_)
  cases d with
  | true => exact ha pins s1 σ H1 D I1 q1
  | false => exact hb pins s1 σ H1 D I1 q1
/-- code that the proof never comes to -/
def tNever : TS := fun _ _ _ => False
theorem ps_never : PS X st tNever := fun _ _ _ _ _ _ h => h.elim
end

/-! ### targets -/
abbrev TG := V → St → Hp → (St → Hp → Prop) → Prop
abbrev TGs := List V → St → Hp → (St → Hp → Prop) → Prop
def PG (X : Cx) (target : Expr) (t : TG) : Prop :=
  ∀ (pins : List (Addr × Obj)) (s : Shared) (σ : St) (H : Hp) (v : V) (u : Value) (Q : St → Hp → Prop), Inv X pins σ H s → RelV v u → t v σ H Q →
    wpAny (model X.prog X.w) X.A (assign target X.env u) (fun _ s' => ∃ σ' H', Inv X pins σ' H' s' ∧ Q σ' H') X.xe s
/-- several targets, one after another -/
def PGs (X : Cx) (ts : List Expr) (t : TGs) : Prop :=
  ∀ (pins : List (Addr × Obj)) (s : Shared) (σ : St) (H : Hp) (vs : List V) (us : List Value) (Q : St → Hp → Prop), Inv X pins σ H s → Vals vs us → t vs σ H Q →
    wpAny (model X.prog X.w) X.A (assignInOrder ((assignEach ts X.env).map (·.2)) us) (fun _ s' => ∃ σ' H', Inv X pins σ' H' s' ∧ Q σ' H') X.xe s
/-- o[i] = v, by values -/
abbrev TSet := V → V → V → Hp → (Hp → Prop) → Prop
def PSet (X : Cx) (t : TSet) : Prop :=
  ∀ (pins : List (Addr × Obj)) (s : Shared) (σ : St) (H : Hp) (o i v : V) (ov iv u : Value) (Q : Hp → Prop), Inv X pins σ H s → RelV o ov → RelV i iv → RelV v u → t o i v H Q →
    wpAny (model X.prog X.w) X.A (setItem ov iv u) (fun _ s' => ∃ H', Inv X pins σ H' s' ∧ Q H') X.xe s
section
variable {X : Cx} {pos : Pos}
def gName (i : Nat) : TG := fun v σ H Q => Q (σ.set i (some v)) H
theorem pg_name {i : Nat} {x : Str} (hN : X.N.Nodup) (hi : X.N[i]? = some x) (hx : Loc X.env.scope x) (hf : X.fn x = true ∨ X.env.scope.names.lookup x = some .local := by first | exact .inl rfl | exact .inr rfl | assumption) : PG X (.Name x pos) (gName i) := by
  intro pins s σ H v u Q I r h
  exact wpAny_assign_Name (store_ok I hN hi hx r (fun s' I' => ⟨_, H, I', h⟩) hf)
def gNil : TGs := fun vs σ H Q => vs = [] ∧ Q σ H
def gCons (t : TG) (u : TGs) : TGs := fun vs σ H Q => ∃ v r, vs = v :: r ∧ t v σ H fun σ' H' => u r σ' H' Q
theorem pgs_nil : PGs X [] gNil := by
  intro pins s σ H vs us Q I r h
  obtain ⟨e, h⟩ := h
  subst e
  cases r
  exact assignInOrder_nil ⟨σ, H, I, h⟩
theorem pgs_cons {e : Expr} {es : List Expr} {t : TG} {u : TGs} (h1 : PG X e t) (h2 : PGs X es u)
    (hs : (assignEach (e :: es) X.env).map (·.2) = assign e X.env :: (assignEach es X.env).map (·.2) := by rfl) : PGs X (e :: es) (gCons t u) := by
  intro pins s σ H vs us Q I r h
  obtain ⟨v, vr, e1, h⟩ := h
  subst e1
  cases r with
  | cons r rr =>
    rw [hs]
    refine assignInOrder_cons (thn (h1 pins s σ H _ _ _ I r h) fun _ s1 ⟨σ1, H1, I1, q1⟩ => ?_)
    exact h2 pins s1 σ1 H1 _ _ Q I1 rr q1
/-- (a, b, ..) = a tuple of that length -/
def gTup (K : PySem.W.Frag) (n : Nat) (t : TGs) : TG := fun v σ H Q => ∃ a xs, v = .ref a ∧ SqT K H a xs ∧ xs.length = n ∧ t xs σ H Q
theorem pg_tup {es : List Expr} {k : Nat} {t : TGs} {n : Nat} (hc : X.calm = true) (h : PGs X es t)
    (hn : (assignEach es X.env).length = n := by rfl) (hst : (assignEach es X.env).findIdx? (·.1) = none := by rfl) : PG X (.Tuple es k pos) (gTup X.K n t) := by
  intro pins s σ H v u Q I r hw
  obtain ⟨a, xs, e1, hq, hl, hw⟩ := hw
  subst e1
  cases r
  obtain ⟨its, rv, ht, hz⟩ := I.tuple hq
  refine assign_Tuple_tuple (I.ok.hd hc) ht (by simp [hn, ← hl, rv.length]) hst fun h' hx => ?_
  have I1 : Inv X pins σ H { s with heap := h' } := I.kept (t' := s.toks) fun b o e => hx b o (Nat.ne_of_lt (Heap.lt_size e)) e
  exact h pins _ σ H xs _ Q I1 (by simpa using rv) hw
/-- o[i] = .. -/
def gSub (to ti : TE) (t : TSet) : TG := fun v σ H Q => to σ H fun o H1 => ti σ H1 fun i H2 => t o i v H2 fun H3 => Q σ H3
theorem pg_sub {o i : Expr} {to ti : TE} {t : TSet} (ho : PE X o to) (hi : PE X i ti) (hs : PSet X t)
    (ha : ∀ v, assign (.Subscript o i pos) X.env v = (do
      let ov ← holding [v] (eval o X.env)
      let iv ← holding [v, ov] (eval i X.env)
      standAt pos
      holding [v, ov, iv] (setItem ov iv v)
      release [v, ov, iv] []) := by intro _; rfl) : PG X (.Subscript o i pos) (gSub to ti t) := by
  intro pins s σ H v u Q I r h
  rw [ha]
  refine wpAny_bind (wpAny_holding (thn (ho pins s σ H _ I h) fun ov s1 ⟨x, H1, I1, r1, q1⟩ => ?_))
  refine wpAny_bind (wpAny_holding (thn (hi pins s1 σ H1 _ I1 q1) fun iv s2 ⟨y, H2, I2, r2, q2⟩ => ?_))
  refine wpAny_bind (wpAny_standAt (wpAny_bind (wpAny_holding (thn (hs pins s2 σ H2 x y v ov iv u _ I2 r1 r2 r q2) fun _ s3 ⟨H3, I3, q3⟩ => ?_))))
  exact wpAny_release ⟨σ, H3, I3, q3⟩
/-- target = value -/
def tAsg (te : TE) (g : TG) : TS := fun D σ H => te σ H fun x H1 => g x σ H1 D.nx
theorem ps_asg {tg e : Expr} {te : TE} {g : TG} (he : PE X e te) (hg : PG X tg g) (hs : swapsWithSole [tg] e pos.line X.env = pure false := by rfl) (hw : swappedStores [tg] e X.env = pure none := by rfl)
    (h1 : (assignEach [tg] X.env).map (·.2) = [assign tg X.env] := by rfl) : PS X (.Assign [tg] e pos) (tAsg te g) := by
  intro pins s σ H D I h
  refine wpAny_Assign_stores (thn (he pins s σ H _ I h) fun v s1 ⟨x, H1, I1, r1, q1⟩ => ?_) hs hw
  rw [h1]
  exact thn (hg pins s1 σ H1 x v _ I1 r1 q1) fun _ s2 q => q
/-- name = value -/
theorem ps_set {i : Nat} {x : Str} {e : Expr} {te : TE} {pos' : Pos} (hN : X.N.Nodup) (hi : X.N[i]? = some x) (hx : Loc X.env.scope x) (he : PE X e te) (hs : swapsWith e (some (.Name x pos')) pos.line X.env = pure false := by rfl) (hf : X.fn x = true ∨ X.env.scope.names.lookup x = some .local := by first | exact .inl rfl | exact .inr rfl | assumption) :
    PS X (.Assign [.Name x pos'] e pos) (tAsg te (gName i)) := by
  intro pins s σ H D I h
  refine wpAny_Assign_Name (thn (he pins s σ H _ I h) fun v s1 ⟨y, H1, I1, r1, q1⟩ => ?_) hs
  exact store_ok I1 hN hi hx r1 (fun s2 I2 => ⟨_, H1, I2, q1⟩) hf
end

/-! ### while -/
section
variable {X : Cx} {pos : Pos}
/-- the invariant W with its measure -/
def tWhile (c : TT) (tb : TS) : TS := fun D σ H => ∃ W : Nat → St → Hp → Prop, (∃ m, W m σ H) ∧ ∀ m σ H, W m σ H →
  c σ H fun b H1 => if b = true then ∃ N : St → Hp → Prop, (∀ σ' H', N σ' H' → ∃ m', m' < m ∧ W m' σ' H') ∧ tb { D with nx := N, ct := N, bk := D.nx } σ H1 else D.nx σ H1
theorem ps_while {c : Expr} {body : List Stmt} {tc : TT} {tb : TS} (hp : PassesOwn (model X.prog X.w) X.A X.env X.xe) (hc : PT X c tc) (hb : PSs X body tb) : PS X (.While c body [] pos) (tWhile tc tb) := by
  intro pins s σ H D I h
  obtain ⟨W, ⟨m0, w0⟩, turn⟩ := h
  refine wpAny_While (codeAny_whileLoop (fun n s' => ∃ σ' H', Inv X pins σ' H' s' ∧ W n σ' H') ?_ m0 ⟨σ, H, I, w0⟩)
  rintro n s1 ⟨σ1, H1, I1, w1⟩
  refine wpAny_passesOwn hp (thn (hc pins s1 σ1 H1 _ I1 (turn n σ1 H1 w1)) fun b s2 ⟨H2, I2, q2⟩ => ?_)
  cases b with
  | true =>
    obtain ⟨N, hN, q2⟩ := q2
    rw [if_pos rfl]
    refine wpAny_passesOwn hp (thn (hb pins s2 σ1 H2 _ I2 q2) fun f s3 q3 => ?_)
    cases f with
    | next =>
      obtain ⟨σ3, H3, I3, n3⟩ := q3
      obtain ⟨m', hm, w3⟩ := hN σ3 H3 n3
      exact ⟨m', hm, σ3, H3, I3, w3⟩
    | cont =>
      obtain ⟨σ3, H3, I3, n3⟩ := q3
      obtain ⟨m', hm, w3⟩ := hN σ3 H3 n3
      exact ⟨m', hm, σ3, H3, I3, w3⟩
    | brk => exact q3
    | ret v => exact q3
  | false =>
    rw [if_neg Bool.false_ne_true]
    exact wpAny_execs_nil ⟨σ1, H2, I2, q2⟩
end

/-! ### what a loop or a comprehension walks -/
/-- at turn i: it yields x (the heap may grow), or it stops -/
structure It where
  go : Nat → Hp → Prop
  yld : Nat → Hp → V → Hp → Prop
  stop : Nat → Hp → Prop
/-- the iterator's own objects may turn: they are not the frame's, not pinned, younger than the entry (or a comprehension's own) -/
def FpOk (X : Cx) (pins : List (Addr × Obj)) (H : Hp) (b : Addr) : Prop :=
  H b = none ∧ b ≠ X.env.locals ∧ b ∉ X.fs ∧ (b ∈ X.ex ∨ X.s₀.heap.objs.size ≤ b) ∧ (∀ x c, X.env.cells.lookup x = some c → c ≠ b) ∧ ∀ p ∈ X.pn ++ pins, p.1 ≠ b
theorem Inv.fpOk {X : Cx} {pins : List (Addr × Obj)} {σ : St} {H H' : Hp} {s : Shared} {b : Addr} (I : Inv X pins σ H s) (hb : s.heap.objs.size ≤ b) (hn : H' b = none) : FpOk X pins H' b := by
  refine ⟨hn, Nat.ne_of_gt (Nat.lt_of_lt_of_le I.lt hb), I.nofs hb, .inr (Nat.le_trans I.sz hb), fun x c e z => ?_, fun p hp z => ?_⟩
  · obtain ⟨v, q⟩ := I.cell x c e
    exact absurd (Nat.lt_of_lt_of_le q.lt (by rw [z]; exact hb)) (Nat.lt_irrefl _)
  · exact absurd (Nat.lt_of_lt_of_le (Heap.lt_size (I.pin p hp).1) (by rw [z]; exact hb)) (Nat.lt_irrefl _)
structure Turn (P : Program) (w : World) (K : PySem.W.Frag) (tg : Expr) (J : It) (fp : List Addr) (it : Addr) (tn : Nat → Heap → Prop) : Prop where
  mem : it ∈ fp
  obj : ∀ i h, tn i h → ∀ b ∈ fp, ∃ o, h.get? b = some o ∧ ∀ v, o.data ≠ .cell v
  keep : ∀ i h h', tn i h → (∀ b ∈ fp, ∀ o, h.get? b = some o → h'.get? b = some o) → tn i h'
  item : ∀ (X : Cx), X.prog = P → X.w = w → X.K = K → X.calm = true → ∀ (i : Nat) (pins : List (Addr × Obj)) (s : Shared) (σ : St) (H : Hp) (E : Value → Shared → Prop), Inv X pins σ H s → (∀ b ∈ fp, FpOk X pins H b) → tn i s.heap → J.go i H →
    wpAny (model P w) X.A (pyNext (.ref it)) (fun r s1 => ∃ u, r = some u ∧
      wpAny (model P w) X.A (letOwnedTupleGo tg (.ref it) u) (fun _ s2 => ∃ x H', Inv X pins σ H' s2 ∧ RelV x u ∧ J.yld i H x H' ∧ tn (i + 1) s2.heap ∧ ∀ b ∈ fp, H' b = none) E s1) E s
  done : ∀ (X : Cx), X.prog = P → X.w = w → X.K = K → X.calm = true → ∀ (i : Nat) (pins : List (Addr × Obj)) (s : Shared) (σ : St) (H : Hp) (E : Value → Shared → Prop), Inv X pins σ H s → (∀ b ∈ fp, FpOk X pins H b) → tn i s.heap → J.stop i H →
    wpAny (model P w) X.A (pyNext (.ref it)) (fun r s1 => r = none ∧ Inv X pins σ H s1) E s
  self : ∀ (A : Around) (i : Nat) (s : Shared) (Q : Value → Shared → Prop) (E : Value → Shared → Prop), tn i s.heap → Q (.ref it) s → wpAny (model P w) A (pyIter (.ref it)) Q E s
abbrev TI := St → Hp → (It → Hp → Prop) → Prop
/-- an iterator has come -/
def PIE (X : Cx) (pins : List (Addr × Obj)) (σ : St) (tg : Expr) (R : It → Hp → Prop) (itv : Value) (s2 : Shared) : Prop :=
  ∃ (it : Addr) (fp : List Addr) (tn : Nat → Heap → Prop) (J : It) (H' : Hp), itv = .ref it ∧ Inv X pins σ H' s2 ∧ Turn X.prog X.w X.K tg J fp it tn ∧ tn 0 s2.heap ∧ (∀ b ∈ fp, FpOk X pins H' b) ∧ R J H'
def PI (X : Cx) (tg iter : Expr) (wi : TI) : Prop :=
  ∀ (pins : List (Addr × Obj)) (s : Shared) (σ : St) (H : Hp) (R : It → Hp → Prop), Inv X pins σ H s → wi σ H R →
    wpAny (model X.prog X.w) X.A (eval iter X.env) (fun v s1 => wpAny (model X.prog X.w) X.A (pyIter v) (PIE X pins σ tg R) X.xe s1) X.xe s

/-- the step ahead of the store is nothing for an iterator that keeps no tuple -/
theorem go_of {M : Model} {A : Around} {E : Value → Shared → Prop} {s : Shared} {tg : Expr} {it : Addr} {u : Value} {o : Obj} {n : String} {vs : Array Value} {Q : Unit → Shared → Prop} (ho : s.heap.get? it = some o) (hc : o.cls = .type n) (hd : o.data = .fields vs)
    (hn : ["enumerate", "zip", "dict_itemiterator", "dict_reverseitemiterator", "odict_iterator", "itertools.zip_longest", "itertools.pairwise"].contains n = false) (hQ : Q () s) : wpAny M A (letOwnedTupleGo tg (.ref it) u) Q E s := by
  unfold letOwnedTupleGo
  cases tg <;> first
    | exact wpAny_pure hQ
    | (cases u <;> first
        | exact wpAny_pure hQ
        | (refine wpAny_bind (wpAny_load ho ?_)
           rw [hc, hd]
           show wpAny M A (if (["enumerate", "zip", "dict_itemiterator", "dict_reverseitemiterator", "odict_iterator", "itertools.zip_longest", "itertools.pairwise"].contains n && vs[0]? == some (rawInt _)) = true then _ else _) Q E s
           rw [if_neg (by intro h; rw [hn, Bool.false_and] at h; cases h)]
           exact wpAny_pure hQ))

/-- the list at a, as it stands at each turn (a loop may append to it) -/
def Itl (K : PySem.W.Frag) (a : Addr) : It :=
  ⟨fun i H => ∃ xs x, SqL K H a xs ∧ xs[i]? = some x, fun i H x H' => H' = H ∧ ∀ xs, SqL K H a xs → xs[i]? = some x, fun i H => ∃ xs, SqL K H a xs ∧ xs.length ≤ i⟩
def Itt (K : PySem.W.Frag) (a : Addr) : It :=
  ⟨fun i H => ∃ xs x, SqT K H a xs ∧ xs[i]? = some x, fun i H x H' => H' = H ∧ ∀ xs, SqT K H a xs → xs[i]? = some x, fun i H => ∃ xs, SqT K H a xs ∧ xs.length ≤ i⟩
/-- lo, lo + 1, .. (n of them) -/
def Itr (lo : Int) (n : Nat) : It := ⟨fun i _ => i < n, fun i H x H' => H' = H ∧ x = .int (lo + i), fun i _ => n ≤ i⟩
theorem turn_list {P : Program} {w : World} {K : PySem.W.Frag} {tg : Expr} (a it : Addr) : Turn P w K tg (Itl K a) [it] it (fun i h => h.IsListIter it a i) where
  mem := by simp
  obj := fun i h st b hb => by
    have e : b = it := by simpa using hb
    subst e
    obtain ⟨o, e, c, d⟩ := st
    exact ⟨o, e, fun v z => by rw [d] at z; cases z⟩
  keep := fun i h h' st k => st.at fun o e => k it (by simp) o e
  item := by
    intro X hP hw hK hc i pins s σ H E I hf st hg
    subst hP hw hK
    obtain ⟨xs, x, hq, hx⟩ := hg
    obtain ⟨its, rv, p, hz⟩ := I.list hq
    obtain ⟨u, hu, ru⟩ := rv.get hx
    obtain ⟨f0, f1, f2, f3, f4, f5⟩ := hf it (by simp)
    refine wpAny_pyNext_list_item st p.isList (x := u) (by simpa using hu) fun h' st' sb => ?_
    have I1 : Inv X pins σ H { s with heap := h' } := I.turned (t' := s.toks) (fun b o hb e => (sb.2 b hb).trans e) f0 f1 f3 f4 f5
    obtain ⟨o, e, c, d⟩ := id st'
    exact ⟨u, rfl, go_of (s := { s with heap := h' }) e c d (by decide) ⟨x, H, I1, ru, ⟨rfl, fun ys hy => by rw [I.list_inj hy hq]; exact hx⟩, st', fun b hb => (hf b hb).1⟩⟩
  done := by
    intro X hP hw hK hc i pins s σ H E I hf st hg
    subst hP hw hK
    obtain ⟨xs, hq, hx⟩ := hg
    obtain ⟨its, rv, p, hz⟩ := I.list hq
    obtain ⟨f0, f1, f2, f3, f4, f5⟩ := hf it (by simp)
    have hl := rv.length
    exact wpAny_pyNext_list_end (I.ok.hd hc) st p.isList (by simp; omega) fun h' eb => ⟨rfl, I.turned (t' := s.toks) (fun b o hb e => eb b o hb e) f0 f1 f3 f4 f5⟩
  self := fun _ _ _ _ _ st h => wpAny_pyIter_listiter st h
theorem turn_tuple {P : Program} {w : World} {K : PySem.W.Frag} {tg : Expr} (a it : Addr) : Turn P w K tg (Itt K a) [it] it (fun i h => h.IsTupleIter it a i) where
  mem := by simp
  obj := fun i h st b hb => by
    have e : b = it := by simpa using hb
    subst e
    obtain ⟨o, e, c, d⟩ := st
    exact ⟨o, e, fun v z => by rw [d] at z; cases z⟩
  keep := fun i h h' st k => st.at fun o e => k it (by simp) o e
  item := by
    intro X hP hw hK hc i pins s σ H E I hf st hg
    subst hP hw hK
    obtain ⟨xs, x, hq, hx⟩ := hg
    obtain ⟨its, rv, p, hz⟩ := I.tuple hq
    obtain ⟨u, hu, ru⟩ := rv.get hx
    obtain ⟨f0, f1, f2, f3, f4, f5⟩ := hf it (by simp)
    refine wpAny_pyNext_tuple_item st (show s.heap.IsTuple a its.toArray from p) (x := u) (by simpa using hu) fun h' st' sb => ?_
    have I1 : Inv X pins σ H { s with heap := h' } := I.turned (t' := s.toks) (fun b o hb e => (sb.2 b hb).trans e) f0 f1 f3 f4 f5
    obtain ⟨o, e, c, d⟩ := id st'
    exact ⟨u, rfl, go_of (s := { s with heap := h' }) e c d (by decide) ⟨x, H, I1, ru, ⟨rfl, fun ys hy => by rw [I.tuple_inj hy hq]; exact hx⟩, st', fun b hb => (hf b hb).1⟩⟩
  done := by
    intro X hP hw hK hc i pins s σ H E I hf st hg
    subst hP hw hK
    obtain ⟨xs, hq, hx⟩ := hg
    obtain ⟨its, rv, p, hz⟩ := I.tuple hq
    obtain ⟨f0, f1, f2, f3, f4, f5⟩ := hf it (by simp)
    have hl := rv.length
    exact wpAny_pyNext_tuple_end (I.ok.hd hc) st (show s.heap.IsTuple a its.toArray from p) (by simp; omega) fun h' eb => ⟨rfl, I.turned (t' := s.toks) (fun b o hb e => eb b o hb e) f0 f1 f3 f4 f5⟩
  self := fun _ _ _ _ _ st h => wpAny_pyIter_tupleiter st h
theorem turn_range {P : Program} {w : World} {K : PySem.W.Frag} {tg : Expr} (it : Addr) (lo : Int) (n : Nat) : Turn P w K tg (Itr lo n) [it] it (fun i h => IsRangeIter h it (lo + (i : Nat) * 1) ((n : Int) - (i : Nat)) 1) where
  mem := by simp
  obj := fun i h st b hb => by
    have e : b = it := by simpa using hb
    subst e
    exact ⟨_, st, fun v z => by
      have z' : Data.fields _ = Data.cell v := z
      cases z'⟩
  keep := fun i h h' st k => k it (by simp) _ st
  item := by
    intro X hP hw hK hc i pins s σ H E I hf st hg
    subst hP hw hK
    obtain ⟨f0, f1, f2, f3, f4, f5⟩ := hf it (by simp)
    have W := Walks.range (prog := X.prog) (w := X.w) (I.ok.hd hc) it lo 1 n
    refine W.item i s _ _ hg st fun v h' tk hv st' kk => ?_
    obtain ⟨t, rfl⟩ := hv
    have I1 : Inv X pins σ H { s with heap := h', toks := tk } := I.turned (fun b o hb e => kk b o (by simpa using hb) e) f0 f1 f3 f4 f5
    refine ⟨_, rfl, go_of (s := { s with heap := h', toks := tk }) (n := "range_iterator") st' rfl rfl (by decide) ⟨.int (lo + i), H, I1, ⟨t, ?_⟩, ⟨rfl, rfl⟩, st', fun b hb => (hf b hb).1⟩⟩
    rw [Int.mul_one]
  done := by
    intro X hP hw hK hc i pins s σ H E I hf st hg
    subst hP hw hK
    obtain ⟨f0, f1, f2, f3, f4, f5⟩ := hf it (by simp)
    exact wpAny_pyNext_range_end (I.ok.hd hc) st (by have : n ≤ i := hg; omega) fun h' eb => ⟨rfl, I.turned (t' := s.toks) (fun b o hb e => eb b o hb e) f0 f1 f3 f4 f5⟩
  self := fun _ _ _ _ _ st h => wpAny_pyIter_rangeiter st h
end L2

namespace L2
open PySem PySem.Spec PyProof.Rows
section
variable {X : Cx} {tg : Expr}
def iList (K : PySem.W.Frag) (tl : TE) : TI := fun σ H R => tl σ H fun x H1 => ∃ a, x = .ref a ∧ (∃ xs, SqL K H1 a xs) ∧ R (Itl K a) H1
def iTup (K : PySem.W.Frag) (tl : TE) : TI := fun σ H R => tl σ H fun x H1 => ∃ a, x = .ref a ∧ (∃ xs, SqT K H1 a xs) ∧ R (Itt K a) H1
theorem pi_list {l : Expr} {tl : TE} (hl : PE X l tl) : PI X tg l (iList X.K tl) := by
  intro pins s σ H R I h
  refine thn (hl pins s σ H _ I h) fun v s1 ⟨x, H1, I1, r1, q1⟩ => ?_
  obtain ⟨a, e, ⟨xs, hq⟩, q⟩ := q1
  subst e
  cases r1
  obtain ⟨its, rv, p, hz⟩ := I1.list hq
  refine wpAny_pyIter_list p.isList ?_
  refine ⟨s1.heap.objs.size, [s1.heap.objs.size], _, _, H1, rfl, I1.kept (t' := s1.toks) fun b o e => Heap.get?_push_of_some _ e, turn_list a _, ⟨_, Heap.get?_push_size _ rfl, rfl, rfl⟩, fun b hb => ?_, q⟩
  have e : b = s1.heap.objs.size := by simpa using hb
  subst e
  exact I1.fpOk (Nat.le_refl _) (I1.hok.fresh (Nat.le_refl _))
theorem pi_tup {l : Expr} {tl : TE} (hl : PE X l tl) : PI X tg l (iTup X.K tl) := by
  intro pins s σ H R I h
  refine thn (hl pins s σ H _ I h) fun v s1 ⟨x, H1, I1, r1, q1⟩ => ?_
  obtain ⟨a, e, ⟨xs, hq⟩, q⟩ := q1
  subst e
  cases r1
  obtain ⟨its, rv, p, hz⟩ := I1.tuple hq
  refine wpAny_pyIter_tuple (show s1.heap.IsTuple a its.toArray from p) ?_
  refine ⟨s1.heap.objs.size, [s1.heap.objs.size], _, _, H1, rfl, I1.kept (t' := s1.toks) fun b o e => Heap.get?_push_of_some _ e, turn_tuple a _, ⟨_, Heap.get?_push_size _ rfl, rfl, rfl⟩, fun b hb => ?_, q⟩
  have e : b = s1.heap.objs.size := by simpa using hb
  subst e
  exact I1.fpOk (Nat.le_refl _) (I1.hok.fresh (Nat.le_refl _))
/-- a range object just made, walked -/
theorem range_it {pins : List (Addr × Obj)} {σ : St} {H : Hp} {s : Shared} {R : It → Hp → Prop} {E : Value → Shared → Prop} {lo hi : Int} {t u v : Tok} {tk : Nat} (I : Inv X pins σ H s) (h1 : -(2 ^ 62) ≤ lo) (h2 : lo < 2 ^ 62) (h3 : -(2 ^ 62) ≤ hi) (h4 : hi < 2 ^ 62)
    (q : R (Itr lo (hi - lo).toNat) H) : wpAny (model X.prog X.w) X.A (pyIter (.ref s.heap.objs.size)) (PIE X pins σ tg R) E { s with heap := s.heap.push { cls := .type "range", data := .fields #[.int lo t, .int hi u, .int 1 v] }, toks := tk } := by
  refine wpAny_pyIter_range (IsRange.new ..) (small_one h1 h2 h3 h4) ?_
  have I1 : Inv X pins σ H { s with heap := s.heap.push { cls := .type "range", data := .fields #[.int lo t, .int hi u, .int 1 v] }, toks := tk } := I.kept fun b o e => Heap.get?_push_of_some _ e
  refine ⟨(s.heap.push { cls := .type "range", data := .fields #[.int lo t, .int hi u, .int 1 v] }).objs.size, [(s.heap.push { cls := .type "range", data := .fields #[.int lo t, .int hi u, .int 1 v] }).objs.size], _, _, H, rfl,
    I1.kept (t' := tk) fun b o e => Heap.get?_push_of_some _ e, turn_range _ lo (hi - lo).toNat, ?_, fun b hb => ?_, q⟩
  · have e1 : lo + ((0 : Nat) : Int) * 1 = lo := by simp
    have e2 : (((hi - lo).toNat : Nat) : Int) - ((0 : Nat) : Int) = Builtin.Range.rangeSize lo hi 1 := by rw [rangeSize_one]; split <;> omega
    show IsRangeIter _ _ (lo + ((0 : Nat) : Int) * 1) ((((hi - lo).toNat : Nat) : Int) - ((0 : Nat) : Int)) 1
    rw [e1, e2]
    exact Heap.get?_push_size _ rfl
  · have e : b = (s.heap.push { cls := .type "range", data := .fields #[.int lo t, .int hi u, .int 1 v] }).objs.size := by simpa using hb
    subst e
    exact I1.fpOk (Nat.le_refl _) (I1.hok.fresh (Nat.le_refl _))
def iRng1 (ta : TA) : TI := fun σ H R => ta σ H fun vs H1 => ∃ j : Int, vs = [.int j] ∧ -(2 ^ 62) ≤ j ∧ j < 2 ^ 62 ∧ R (Itr 0 j.toNat) H1
theorem pi_range1 {a : Expr} {ta : TA} {p pos : Pos} (hg : Gl X "range") (hm : X.mg "range" = none) (ha : PA X [a] ta) (hs : starEach [a] X.env = [(false, eval a X.env)] := by rfl) : PI X tg (.Call (.Name "range" p) [a] [] pos) (iRng1 ta) := by
  intro pins s σ H R I h
  refine Call_ (ld_blt I hg hm boot_range (PyProof.Rows.callWith_type1 (thn (ha pos pins s σ H _ I h) fun us s1 ⟨vs, H1, I1, r1, q1⟩ => ?_) hs rfl))
  obtain ⟨j, e, q1, q2, q⟩ := q1
  subst e
  cases r1 with
  | cons r rr =>
    cases rr
    obtain ⟨t, rfl⟩ := r
    exact call_range_1 (range_it I1 (by omega) (by omega) q1 q2 (by simpa using q))
/-! ### for -/
/-- W: the invariant by the turn and a measure; N: what the body is to reach -/
def tFor (wi : TI) (g : TG) (tb : TS) : TS := fun D σ H => wi σ H fun J H1 => ∃ W : Nat → Nat → St → Hp → Prop, (∃ m, W 0 m σ H1) ∧ ∀ i m σ H, W i m σ H →
  (J.stop i H ∧ D.nx σ H) ∨ (J.go i H ∧ ∃ N : St → Hp → Prop, (∀ σ' H', N σ' H' → ∃ m', m' < m ∧ W (i + 1) m' σ' H') ∧ ∀ x H', J.yld i H x H' → g x σ H' fun σ2 H2 => tb { D with nx := N, ct := N, bk := D.nx } σ2 H2)
/-- the records at fp as they stand -/
def pinsAt (fp : List Addr) (h : Heap) : List (Addr × Obj) := fp.filterMap fun b => (h.get? b).map fun o => (b, o)
theorem mem_pinsAt {fp : List Addr} {h : Heap} {b : Addr} {o : Obj} (hb : b ∈ fp) (e : h.get? b = some o) : (b, o) ∈ pinsAt fp h := List.mem_filterMap.mpr ⟨b, hb, by rw [e]; rfl⟩
theorem of_pinsAt {fp : List Addr} {h : Heap} {p : Addr × Obj} (hp : p ∈ pinsAt fp h) : p.1 ∈ fp ∧ h.get? p.1 = some p.2 := by
  obtain ⟨b, hb, e⟩ := List.mem_filterMap.mp hp
  cases q : h.get? b with
  | none => rw [q] at e; cases e
  | some o =>
    rw [q] at e
    have e' : (b, o) = p := Option.some.inj e
    subst e'
    exact ⟨hb, q⟩
theorem Inv.pinned {pins : List (Addr × Obj)} {σ : St} {H : Hp} {s : Shared} {fp : List Addr} (I : Inv X pins σ H s) (hf : ∀ b ∈ fp, FpOk X pins H b) (ho : ∀ b ∈ fp, ∃ o, s.heap.get? b = some o ∧ ∀ v, o.data ≠ .cell v) : Inv X (pins ++ pinsAt fp s.heap) σ H s :=
  I.pins_of fun p hp => (List.mem_append.mp hp).elim (fun z => I.pin p (List.mem_append_right _ z)) fun z => by
    obtain ⟨hb, e⟩ := of_pinsAt z
    obtain ⟨f0, f1, f2, _⟩ := hf p.1 hb
    obtain ⟨o, e', d⟩ := ho p.1 hb
    rw [e] at e'; cases e'
    exact ⟨e, f0, f1, f2, d⟩
theorem Inv.unpinned {pins pl : List (Addr × Obj)} {σ : St} {H : Hp} {s : Shared} (I : Inv X (pins ++ pl) σ H s) : Inv X pins σ H s := I.pins_of fun p hp => I.pin p (List.mem_append_right _ (List.mem_append_left _ hp))
theorem ps_for {iter : Expr} {body : List Stmt} {wi : TI} {g : TG} {tb : TS} {pos : Pos} (hp : PassesOwn (model X.prog X.w) X.A X.env X.xe) (hc : X.calm = true) (hi : PI X tg iter wi) (hg : PG X tg g) (hb : PSs X body tb)
    (hs : ∀ x, foldedSetIterable iter X.env x = pure x := by intro _; rfl) : PS X (.For tg iter body [] pos) (tFor wi g tb) := by
  intro pins s σ H D I h
  refine wpAny_For (thn (hi pins s σ H _ I h) fun v s1 h1 => thn h1 fun itv s2 h2 => ?_) hs
  obtain ⟨it, fp, tn, J, H2, e, I2, T, st2, f2, W, ⟨m0, w0⟩, turn⟩ := h2
  subst e
  -- what stays true of the iterator's objects through the loop
  have stat : ∀ {H' : Hp}, (∀ b ∈ fp, H' b = none) → ∀ b ∈ fp, FpOk X pins H' b := fun hn b hb => ⟨hn b hb, (f2 b hb).2⟩
  refine codeAny_forLoop_any (fun n s' => ∃ i σ' H', Inv X pins σ' H' s' ∧ tn i s'.heap ∧ (∀ b ∈ fp, H' b = none) ∧ W i n σ' H') ?_ m0 ⟨0, σ, H2, I2, st2, fun b hb => (f2 b hb).1, w0⟩
  rintro n s3 ⟨i, σ3, H3, I3, st3, fr3, w3⟩
  rcases turn i n σ3 H3 w3 with ⟨stop, qn⟩ | ⟨go, N, hN, step⟩
  · refine wpAny_passesOwn hp (thn (T.done X rfl rfl rfl hc i pins s3 σ3 H3 X.xe I3 (stat fr3) st3 stop) fun r s4 ⟨hr, I4⟩ => ?_)
    subst hr
    exact wpAny_execs_nil ⟨σ3, H3, I4, qn⟩
  · refine wpAny_passesOwn hp (thn (T.item X rfl rfl rfl hc i pins s3 σ3 H3 X.xe I3 (stat fr3) st3 go) fun r s4 ⟨u, hr, h4⟩ => ?_)
    subst hr
    refine wpAny_passesOwn hp (thn h4 fun _ s5 ⟨x, H5, I5, r5, y5, st5, fr5⟩ => ?_)
    have I5' := I5.pinned (stat fr5) (T.obj _ _ st5)
    refine wpAny_passesOwn hp (thn (hg _ s5 σ3 H5 x u _ I5' r5 (step x H5 y5)) fun _ s6 ⟨σ6, H6, I6, q6⟩ => ?_)
    refine wpAny_passesOwn hp (thn (hb _ s6 σ6 H6 _ I6 q6) fun f s7 q7 => ?_)
    have again : ∀ {σ7 : St} {H7 : Hp}, Inv X (pins ++ pinsAt fp s5.heap) σ7 H7 s7 → N σ7 H7 → ∃ m, m < n ∧ ∃ i σ' H', Inv X pins σ' H' s7 ∧ tn i s7.heap ∧ (∀ b ∈ fp, H' b = none) ∧ W i m σ' H' := fun {σ7 H7} I7 n7 => by
      obtain ⟨m', hm, w7⟩ := hN σ7 H7 n7
      refine ⟨m', hm, i + 1, σ7, H7, I7.unpinned, T.keep _ _ _ st5 fun b hb o e => (I7.pin (b, o) (List.mem_append_right _ (List.mem_append_right _ (mem_pinsAt hb e)))).1, fun b hb => ?_, w7⟩
      obtain ⟨o, e, d⟩ := T.obj _ _ st5 b hb
      exact (I7.pin (b, o) (List.mem_append_right _ (List.mem_append_right _ (mem_pinsAt hb e)))).2.1
    cases f with
    | next => obtain ⟨σ7, H7, I7, n7⟩ := q7; exact again I7 n7
    | cont => obtain ⟨σ7, H7, I7, n7⟩ := q7; exact again I7 n7
    | brk => obtain ⟨σ7, H7, I7, q7⟩ := q7; exact ⟨σ7, H7, I7.unpinned, q7⟩
    | ret v => obtain ⟨x7, σ7, H7, I7, r7, q7⟩ := q7; exact ⟨x7, σ7, H7, I7.unpinned, r7, q7⟩
end

/-! ### the forms one uses -/
/-- over a list that the body leaves as it is -/
theorem for_list {K : PySem.W.Frag} {a : Addr} {xs : List V} {g : TG} {tb : TS} {D : Ends} {σ : St} {H : Hp} (Pv : Nat → St → Hp → Prop) (h0 : Pv 0 σ H) (hl : ∀ i σ H, i ≤ xs.length → Pv i σ H → SqL K H a xs)
    (hs : ∀ i x σ H, xs[i]? = some x → Pv i σ H → g x σ H fun σ2 H2 => tb { D with nx := Pv (i + 1), ct := Pv (i + 1), bk := D.nx } σ2 H2) (hd : ∀ σ H, Pv xs.length σ H → D.nx σ H) :
    ∃ W : Nat → Nat → St → Hp → Prop, (∃ m, W 0 m σ H) ∧ ∀ i m σ H, W i m σ H →
      ((Itl K a).stop i H ∧ D.nx σ H) ∨ ((Itl K a).go i H ∧ ∃ N : St → Hp → Prop, (∀ σ' H', N σ' H' → ∃ m', m' < m ∧ W (i + 1) m' σ' H') ∧ ∀ x H', (Itl K a).yld i H x H' → g x σ H' fun σ2 H2 => tb { D with nx := N, ct := N, bk := D.nx } σ2 H2) := by
  refine ⟨fun i m σ H => m = xs.length - i ∧ i ≤ xs.length ∧ Pv i σ H, ⟨xs.length, by simp, Nat.zero_le _, h0⟩, ?_⟩
  rintro i m σ H ⟨rfl, hi, p⟩
  have q := hl i σ H hi p
  by_cases hlt : i < xs.length
  · refine .inr ⟨⟨xs, xs[i], q, by simp [hlt]⟩, Pv (i + 1), fun σ' H' p' => ⟨xs.length - (i + 1), by omega, rfl, hlt, p'⟩, fun x H' y => ?_⟩
    obtain ⟨e, y⟩ := y
    subst e
    exact hs i x σ _ (y xs q) p
  · have e : i = xs.length := by omega
    subst e
    exact .inl ⟨⟨xs, q, Nat.le_refl _⟩, hd σ H p⟩
theorem for_tup {K : PySem.W.Frag} {a : Addr} {xs : List V} {g : TG} {tb : TS} {D : Ends} {σ : St} {H : Hp} (Pv : Nat → St → Hp → Prop) (h0 : Pv 0 σ H) (hl : ∀ i σ H, i ≤ xs.length → Pv i σ H → SqT K H a xs)
    (hs : ∀ i x σ H, xs[i]? = some x → Pv i σ H → g x σ H fun σ2 H2 => tb { D with nx := Pv (i + 1), ct := Pv (i + 1), bk := D.nx } σ2 H2) (hd : ∀ σ H, Pv xs.length σ H → D.nx σ H) :
    ∃ W : Nat → Nat → St → Hp → Prop, (∃ m, W 0 m σ H) ∧ ∀ i m σ H, W i m σ H →
      ((Itt K a).stop i H ∧ D.nx σ H) ∨ ((Itt K a).go i H ∧ ∃ N : St → Hp → Prop, (∀ σ' H', N σ' H' → ∃ m', m' < m ∧ W (i + 1) m' σ' H') ∧ ∀ x H', (Itt K a).yld i H x H' → g x σ H' fun σ2 H2 => tb { D with nx := N, ct := N, bk := D.nx } σ2 H2) := by
  refine ⟨fun i m σ H => m = xs.length - i ∧ i ≤ xs.length ∧ Pv i σ H, ⟨xs.length, by simp, Nat.zero_le _, h0⟩, ?_⟩
  rintro i m σ H ⟨rfl, hi, p⟩
  have q := hl i σ H hi p
  by_cases hlt : i < xs.length
  · refine .inr ⟨⟨xs, xs[i], q, by simp [hlt]⟩, Pv (i + 1), fun σ' H' p' => ⟨xs.length - (i + 1), by omega, rfl, hlt, p'⟩, fun x H' y => ?_⟩
    obtain ⟨e, y⟩ := y
    subst e
    exact hs i x σ _ (y xs q) p
  · have e : i = xs.length := by omega
    subst e
    exact .inl ⟨⟨xs, q, Nat.le_refl _⟩, hd σ H p⟩
theorem for_range {lo : Int} {n : Nat} {g : TG} {tb : TS} {D : Ends} {σ : St} {H : Hp} (Pv : Nat → St → Hp → Prop) (h0 : Pv 0 σ H)
    (hs : ∀ i σ H, i < n → Pv i σ H → g (.int (lo + i)) σ H fun σ2 H2 => tb { D with nx := Pv (i + 1), ct := Pv (i + 1), bk := D.nx } σ2 H2) (hd : ∀ σ H, Pv n σ H → D.nx σ H) :
    ∃ W : Nat → Nat → St → Hp → Prop, (∃ m, W 0 m σ H) ∧ ∀ i m σ H, W i m σ H →
      ((Itr lo n).stop i H ∧ D.nx σ H) ∨ ((Itr lo n).go i H ∧ ∃ N : St → Hp → Prop, (∀ σ' H', N σ' H' → ∃ m', m' < m ∧ W (i + 1) m' σ' H') ∧ ∀ x H', (Itr lo n).yld i H x H' → g x σ H' fun σ2 H2 => tb { D with nx := N, ct := N, bk := D.nx } σ2 H2) := by
  refine ⟨fun i m σ H => m = n - i ∧ i ≤ n ∧ Pv i σ H, ⟨n, by simp, Nat.zero_le _, h0⟩, ?_⟩
  rintro i m σ H ⟨rfl, hi, p⟩
  by_cases hlt : i < n
  · refine .inr ⟨hlt, Pv (i + 1), fun σ' H' p' => ⟨n - (i + 1), by omega, rfl, hlt, p'⟩, fun x H' y => ?_⟩
    obtain ⟨e, y⟩ := y
    subst e y
    exact hs i σ _ hlt p
  · have e : i = n := by omega
    subst e
    exact .inl ⟨Nat.le_refl _, hd σ H p⟩
end L2

namespace L2
open PySem PySem.Spec PyProof.Rows

abbrev R2 := V → V → Hp → VK → Prop
/-- a two-place operation on values: f is binaryOp op, inplaceOp op or compareOp op -/
def OpR (X : Cx) (f : Value → Value → Sem Value) (r : R2) : Prop :=
  ∀ (pins : List (Addr × Obj)) (s : Shared) (σ : St) (H : Hp) (x y : V) (v u : Value) (Q : VK), Inv X pins σ H s → RelV x v → RelV y u → r x y H Q →
    wpAny (model X.prog X.w) X.A (f v u) (EP X pins σ Q) X.xe s
/-- a one-place operation -/
def UnR (X : Cx) (f : Value → Sem Value) (r : V → Hp → VK → Prop) : Prop :=
  ∀ (pins : List (Addr × Obj)) (s : Shared) (σ : St) (H : Hp) (x : V) (v : Value) (Q : VK), Inv X pins σ H s → RelV x v → r x H Q →
    wpAny (model X.prog X.w) X.A (f v) (EP X pins σ Q) X.xe s
/-- a call of a value that is known (a builtin, a type) with values -/
def CallR (X : Cx) (f : Value) (r : List V → Hp → VK → Prop) : Prop :=
  ∀ (pins : List (Addr × Obj)) (s : Shared) (σ : St) (H : Hp) (xs : List V) (us : List Value) (Q : VK), Inv X pins σ H s → Vals xs us → r xs H Q →
    wpAny (model X.prog X.w) X.A (call f us) (EP X pins σ Q) X.xe s
def tOp (r : R2) (ta tb : TE) : TE := fun σ H Q => ta σ H fun x H1 => tb σ H1 fun y H2 => r x y H2 Q
def tUn (r : V → Hp → VK → Prop) (ta : TE) : TE := fun σ H Q => ta σ H fun x H1 => r x H1 Q
/-- ints in, under C, and a value out -/
def rI (C : Int → Int → Prop) (g : Int → Int → V) : R2 := fun x y H Q => ∃ i j, x = .int i ∧ y = .int j ∧ C i j ∧ Q (g i j) H
def rI0 (g : Int → Int → V) : R2 := fun x y H Q => ∃ i j, x = .int i ∧ y = .int j ∧ Q (g i j) H
def rU (g : Int → V) : V → Hp → VK → Prop := fun x H Q => ∃ i, x = .int i ∧ Q (g i) H

section
variable {X : Cx} {a b c : Expr} {ta tb tc : TE} {pos : Pos}

theorem binT (ha : PE X a ta) (hb : PE X b tb) {pins : List (Addr × Obj)} {s : Shared} {σ : St} {H : Hp} {R : V → V → Hp → Prop} (I : Inv X pins σ H s)
    (h : ta σ H fun x H1 => tb σ H1 fun y H2 => R x y H2) {Q : Value → Shared → Prop} {f : Value → Value → Sem Value}
    (hf : ∀ v u s2 x y H2, Inv X pins σ H2 s2 → RelV x v → RelV y u → R x y H2 → wpAny (model X.prog X.w) X.A (f v u) Q X.xe s2) :
    wpAny (model X.prog X.w) X.A (eval a X.env) (fun v s₁ => wpAny (model X.prog X.w) X.A (eval b X.env) (fun u s₂ => wpAny (model X.prog X.w) X.A (f v u) Q X.xe s₂) X.xe s₁) X.xe s := by
  refine thn (ha pins s σ H _ I h) fun v s1 ⟨x, H1, I1, r1, q1⟩ => ?_
  refine thn (hb pins s1 σ H1 _ I1 q1) fun u s2 ⟨y, H2, I2, r2, q2⟩ => ?_
  exact hf v u s2 x y H2 I2 r1 r2 q2

theorem pe_op {op : Operator} {r : R2} (ho : OpR X (binaryOp op) r) (ha : PE X a ta) (hb : PE X b tb) : PE X (.BinOp a op b pos) (tOp r ta tb) := by
  intro pins s σ H Q I h
  exact wpAny_BinOp (binT ha hb I h fun v u s2 x y H2 I2 rx ry q => ho pins s2 σ H2 x y v u Q I2 rx ry q)
theorem pe_un {op : UnaryOp} {r : V → Hp → VK → Prop} (ho : UnR X (unaryOp op) r) (ha : PE X a ta) : PE X (.UnaryOp op a pos) (tUn r ta) := by
  intro pins s σ H Q I h
  exact UnaryOp_ (thn (ha pins s σ H _ I h) fun v s1 ⟨x, H1, I1, r1, q1⟩ => ho pins s1 σ H1 x v Q I1 r1 q1)
/-! ### ints -/
theorem opI {f : Value → Value → Sem Value} {C : Int → Int → Prop} {g : Int → Int → Int}
    (rule : ∀ (i j : Int) (t u : Tok) (s : Shared) (Q : Value → Shared → Prop) (E : Value → Shared → Prop), C i j → Q (.int (g i j) s.toks) { s with toks := s.toks + 1 } → wpAny (model X.prog X.w) X.A (f (.int i t) (.int j u)) Q E s) :
    OpR X f (rI C fun i j => .int (g i j)) := by
  intro pins s σ H x y v u Q I rx ry h
  obtain ⟨i, j, rfl, rfl, hc, q⟩ := h
  obtain ⟨t, rfl⟩ := rx
  obtain ⟨t', rfl⟩ := ry
  exact rule i j t t' s _ _ hc ⟨.int (g i j), H, I.tok _, ⟨_, rfl⟩, q⟩
theorem opI0 {f : Value → Value → Sem Value} {g : Int → Int → Int}
    (rule : ∀ (i j : Int) (t u : Tok) (s : Shared) (Q : Value → Shared → Prop) (E : Value → Shared → Prop), Q (.int (g i j) s.toks) { s with toks := s.toks + 1 } → wpAny (model X.prog X.w) X.A (f (.int i t) (.int j u)) Q E s) :
    OpR X f (rI0 fun i j => .int (g i j)) := by
  intro pins s σ H x y v u Q I rx ry h
  obtain ⟨i, j, rfl, rfl, q⟩ := h
  obtain ⟨t, rfl⟩ := rx
  obtain ⟨t', rfl⟩ := ry
  exact rule i j t t' s _ _ ⟨.int (g i j), H, I.tok _, ⟨_, rfl⟩, q⟩
theorem opB0 {f : Value → Value → Sem Value} {g : Int → Int → Bool}
    (rule : ∀ (i j : Int) (t u : Tok) (s : Shared) (Q : Value → Shared → Prop) (E : Value → Shared → Prop), Q (.bool (g i j)) s → wpAny (model X.prog X.w) X.A (f (.int i t) (.int j u)) Q E s) :
    OpR X f (rI0 fun i j => .bl (g i j)) := by
  intro pins s σ H x y v u Q I rx ry h
  obtain ⟨i, j, rfl, rfl, q⟩ := h
  obtain ⟨t, rfl⟩ := rx
  obtain ⟨t', rfl⟩ := ry
  exact rule i j t t' s _ _ ⟨.bl (g i j), H, I, rfl, q⟩

def CDiv (i j : Int) : Prop := 0 < j ∧ j < 1073741824
def CPow (i j : Int) : Prop := 0 ≤ j ∧ j ≤ 1000000 ∧ i.natAbs < 2 ^ 64
def CMul (i j : Int) : Prop := (-(2 ^ 64) < i ∧ i < 2 ^ 64) ∨ (-(2 ^ 64) < j ∧ j < 2 ^ 64)
theorem CMul.ok {i j : Int} (h : CMul i j) : IntMulOk i j := by
  rcases h with ⟨h1, h2⟩ | ⟨h1, h2⟩
  · exact .of_left (intBits_le_64 h1 h2)
  · exact .of_right (intBits_le_64 h1 h2)
theorem op_add : OpR X (binaryOp .Add) (rI0 fun i j => .int (i + j)) := opI0 fun _ _ _ _ _ _ _ q => add_int q
theorem op_sub : OpR X (binaryOp .Sub) (rI0 fun i j => .int (i - j)) := opI0 fun _ _ _ _ _ _ _ q => sub_int q
theorem op_mul : OpR X (binaryOp .Mult) (rI CMul fun i j => .int (i * j)) := opI fun _ _ _ _ _ _ _ hc q => mul_int q hc.ok
/-- // by a positive divisor -/
theorem op_fdiv : OpR X (binaryOp .FloorDiv) (rI CDiv fun i j => .int (i / j)) := opI fun i j _ _ _ _ _ hc q => by
  have h1 : (0 : Int) < j := hc.1
  have h2 : j < 1073741824 := hc.2
  exact floordiv_int (by omega) (by rw [Int.fdiv_eq_ediv_of_nonneg i (by omega)]; exact q) (.inl (PyProof.noPylong_small (by omega)))
/-- % by a positive divisor of any size -/
theorem op_mod : OpR X (binaryOp .Mod) (rI (fun _ j => 0 < j) fun i j => .int (i % j)) := opI fun i j _ _ _ _ _ hc q => by
  have h1 : (0 : Int) < j := hc
  exact mod_int' (by omega) (by rw [Int.fmod_eq_emod_of_nonneg i (by omega)]; exact q)
theorem op_pow : OpR X (binaryOp .Pow) (rI CPow fun i j => .int (i ^ j.toNat)) := opI fun _ _ _ _ _ _ _ hc q => pow_int_small hc.1 hc.2.1 hc.2.2 q
theorem unI {f : Value → Sem Value} {g : Int → Int}
    (rule : ∀ (i : Int) (t : Tok) (s : Shared) (Q : Value → Shared → Prop) (E : Value → Shared → Prop), Q (.int (g i) s.toks) { s with toks := s.toks + 1 } → wpAny (model X.prog X.w) X.A (f (.int i t)) Q E s) :
    UnR X f (rU fun i => .int (g i)) := by
  intro pins s σ H x v Q I rx h
  obtain ⟨i, rfl, q⟩ := h
  obtain ⟨t, rfl⟩ := rx
  exact rule i t s _ _ ⟨.int (g i), H, I.tok _, ⟨_, rfl⟩, q⟩
theorem un_neg : UnR X (unaryOp .USub) (rU fun i => .int (-i)) := unI fun _ _ _ _ _ q => neg_int q
/-! ### bools among ints: n += (a < b) -/
end

/-! ### comparisons -/
/-- the scalars that == tells apart as data does -/
def scal : V → V → Bool
  | .non, .non => true | .non, .int _ => true | .int _, .non => true | .non, .bl _ => true | .bl _, .non => true | .non, .str _ => true | .str _, .non => true
  | .int _, .int _ => true | .bl _, .bl _ => true | .str _, .str _ => true | .byt _, .byt _ => true
  | .int _, .str _ => true | .str _, .int _ => true | .bl _, .str _ => true | .str _, .bl _ => true
  | _, _ => false
def rEq : R2 := fun x y H Q => scal x y = true ∧ Q (.bl (decide (x = y))) H
def rNe : R2 := fun x y H Q => scal x y = true ∧ Q (.bl (!decide (x = y))) H

theorem dec_int {i j : Int} : decide (V.int i = V.int j) = (i == j) := by
  rw [Bool.eq_iff_iff]
  simp
theorem dec_bl {i j : Bool} : decide (V.bl i = V.bl j) = (i == j) := by
  rw [Bool.eq_iff_iff]
  simp
theorem dec_str {i j : Str} : decide (V.str i = V.str j) = (i == j) := by
  rw [Bool.eq_iff_iff]
  simp
theorem dec_byt {i j : Array UInt8} : decide (V.byt i = V.byt j) = (i.toList == j.toList) := by
  rw [Bool.eq_iff_iff]
  cases i
  cases j
  simp

section
variable {X : Cx} {a b c : Expr} {ta tb tc : TE} {pos : Pos}
theorem fin_bl {pins : List (Addr × Obj)} {σ : St} {H : Hp} {s : Shared} {Q : VK} {k k' : Bool} (I : Inv X pins σ H s) (q : Q (.bl k) H) (e : k = k') : EP X pins σ Q (.bool k') s := by
  subst e
  exact ⟨.bl k, H, I, rfl, q⟩
theorem op_eq : OpR X (compareOp .Eq) rEq := by
  intro pins s σ H x y v u Q I rx ry h
  obtain ⟨hs, q⟩ := h
  cases x with
  | non =>
    cases rx
    cases y with
    | non => cases ry; exact PySem.EqNone.eq_none_none (fin_bl I q (by simp))
    | bl j => cases ry; exact PySem.EqNone.eq_none_bool (fin_bl I q (by simp))
    | int j => obtain ⟨t', rfl⟩ := ry; exact PySem.EqNone.eq_none_int (fin_bl I q (by simp))
    | str j => obtain ⟨t', rfl⟩ := ry; exact PySem.EqNone.eq_none_str (fin_bl I q (by simp))
    | _ => exact absurd (show false = true from hs) Bool.false_ne_true
  | bl i =>
    cases rx
    cases y with
    | non => cases ry; exact PySem.EqNone.eq_bool_none (fin_bl I q (by simp))
    | bl j => cases ry; exact eq_bool (fin_bl I q dec_bl)
    | str j => obtain ⟨t', rfl⟩ := ry; exact PySem.EqMixed.eq_bool_str (fin_bl I q (by simp))
    | _ => exact absurd (show false = true from hs) Bool.false_ne_true
  | int i =>
    obtain ⟨t, rfl⟩ := rx
    cases y with
    | non => cases ry; exact PySem.EqNone.eq_int_none (fin_bl I q (by simp))
    | int j => obtain ⟨t', rfl⟩ := ry; exact eq_int (fin_bl I q dec_int)
    | str j => obtain ⟨t', rfl⟩ := ry; exact PySem.EqMixed.eq_int_str (fin_bl I q (by simp))
    | _ => exact absurd (show false = true from hs) Bool.false_ne_true
  | str i =>
    obtain ⟨t, rfl⟩ := rx
    cases y with
    | non => cases ry; exact PySem.EqNone.eq_str_none (fin_bl I q (by simp))
    | bl j => cases ry; exact PySem.EqMixed.eq_str_bool (fin_bl I q (by simp))
    | int j => obtain ⟨t', rfl⟩ := ry; exact PySem.EqMixed.eq_str_int (fin_bl I q (by simp))
    | str j => obtain ⟨t', rfl⟩ := ry; exact eq_str (fin_bl I q dec_str)
    | _ => exact absurd (show false = true from hs) Bool.false_ne_true
  | byt i =>
    obtain ⟨t, rfl⟩ := rx
    cases y with
    | byt j => obtain ⟨t', rfl⟩ := ry; exact PySem.W.eq_bytes (fin_bl I q dec_byt)
    | _ => exact absurd (show false = true from hs) Bool.false_ne_true
  | _ => cases y <;> exact absurd (show false = true from hs) Bool.false_ne_true
theorem op_ne : OpR X (compareOp .NotEq) rNe := by
  intro pins s σ H x y v u Q I rx ry h
  obtain ⟨hs, q⟩ := h
  cases x with
  | non =>
    cases rx
    cases y with
    | non => cases ry; exact PySem.EqNone.ne_none_none (fin_bl I q (by simp))
    | bl j => cases ry; exact PySem.EqNone.ne_none_bool (fin_bl I q (by simp))
    | int j => obtain ⟨t', rfl⟩ := ry; exact PySem.EqNone.ne_none_int (fin_bl I q (by simp))
    | str j => obtain ⟨t', rfl⟩ := ry; exact PySem.EqNone.ne_none_str (fin_bl I q (by simp))
    | _ => exact absurd (show false = true from hs) Bool.false_ne_true
  | bl i =>
    cases rx
    cases y with
    | non => cases ry; exact PySem.EqNone.ne_bool_none (fin_bl I q (by simp))
    | bl j => cases ry; exact ne_bool (fin_bl I q (congrArg not dec_bl))
    | str j => obtain ⟨t', rfl⟩ := ry; exact PySem.EqMixed.ne_bool_str (fin_bl I q (by simp))
    | _ => exact absurd (show false = true from hs) Bool.false_ne_true
  | int i =>
    obtain ⟨t, rfl⟩ := rx
    cases y with
    | non => cases ry; exact PySem.EqNone.ne_int_none (fin_bl I q (by simp))
    | int j => obtain ⟨t', rfl⟩ := ry; exact ne_int (fin_bl I q (congrArg not dec_int))
    | str j => obtain ⟨t', rfl⟩ := ry; exact PySem.EqMixed.ne_int_str (fin_bl I q (by simp))
    | _ => exact absurd (show false = true from hs) Bool.false_ne_true
  | str i =>
    obtain ⟨t, rfl⟩ := rx
    cases y with
    | non => cases ry; exact PySem.EqNone.ne_str_none (fin_bl I q (by simp))
    | bl j => cases ry; exact PySem.EqMixed.ne_str_bool (fin_bl I q (by simp))
    | int j => obtain ⟨t', rfl⟩ := ry; exact PySem.EqMixed.ne_str_int (fin_bl I q (by simp))
    | str j => obtain ⟨t', rfl⟩ := ry; exact ne_str (fin_bl I q (congrArg not dec_str))
    | _ => exact absurd (show false = true from hs) Bool.false_ne_true
  | byt i =>
    obtain ⟨t, rfl⟩ := rx
    cases y with
    | byt j => obtain ⟨t', rfl⟩ := ry; exact PySem.W.ne_bytes (fin_bl I q (congrArg not dec_byt))
    | _ => exact absurd (show false = true from hs) Bool.false_ne_true
  | _ => cases y <;> exact absurd (show false = true from hs) Bool.false_ne_true

theorem op_lt : OpR X (compareOp .Lt) (rI0 fun i j => .bl (decide (i < j))) := opB0 fun _ _ _ _ _ _ _ q => lt_int q
theorem op_le : OpR X (compareOp .LtE) (rI0 fun i j => .bl (decide (i ≤ j))) := opB0 fun _ _ _ _ _ _ _ q => le_int q
theorem op_gt : OpR X (compareOp .Gt) (rI0 fun i j => .bl (decide (j < i))) := opB0 fun _ _ _ _ _ _ _ q => gt_int q
theorem op_ge : OpR X (compareOp .GtE) (rI0 fun i j => .bl (decide (j ≤ i))) := opB0 fun _ _ _ _ _ _ _ q => ge_int q
/-- is None, is not None: the right side a value none -/
theorem op_isN : OpR X (compareOp .Is) (fun x y H Q => y = .non ∧ Q (.bl (decide (x = .non))) H) := by
  intro pins s σ H x y v u Q I rx ry h
  obtain ⟨rfl, q⟩ := h
  cases ry
  refine is_none_gen (fin_bl I q ?_)
  cases x <;> first
    | (cases rx; rfl)
    | (obtain ⟨t, rfl⟩ := rx; rfl)
theorem op_notN : OpR X (compareOp .IsNot) (fun x y H Q => y = .non ∧ Q (.bl (!decide (x = .non))) H) := by
  intro pins s σ H x y v u Q I rx ry h
  obtain ⟨rfl, q⟩ := h
  cases ry
  refine isnot_none_gen (fin_bl I q ?_)
  cases x <;> first
    | (cases rx; rfl)
    | (obtain ⟨t, rfl⟩ := rx; rfl)

/-- two rules for one operation: by cases -/
theorem OpR.or {f : Value → Value → Sem Value} {r r' : R2} (h : OpR X f r) (h' : OpR X f r') : OpR X f (fun x y H Q => r x y H Q ∨ r' x y H Q) := by
  intro pins s σ H x y v u Q I rx ry q
  rcases q with q | q
  · exact h pins s σ H x y v u Q I rx ry q
  · exact h' pins s σ H x y v u Q I rx ry q

theorem nomark (b : Expr) {op : CmpOp} (h : op ≠ .In := by decide) (h2 : op ≠ .NotIn := by decide) : behindInMarks op b = false := by
  have e1 : (op == CmpOp.In) = false := by cases op <;> first | rfl | exact absurd rfl h
  have e2 : (op == CmpOp.NotIn) = false := by cases op <;> first | rfl | exact absurd rfl h2
  cases b <;> simp [behindInMarks, e1, e2]
/-- a comparison as a value; hm: nomark b, or (for in, not in) by with_unfolding_all rfl -/
theorem pe_cmpR {op : CmpOp} {r : R2} (ho : OpR X (compareOp op) r) (ha : PE X a ta) (hb : PE X b tb) (hm : behindInMarks op b = false) : PE X (.Compare a [op] [b] pos) (tOp r ta tb) := by
  intro pins s σ H Q I h
  exact wpAny_Compare1 (binT ha hb I h fun v u s2 x y H2 I2 rx ry q => ho pins s2 σ H2 x y v u Q I2 rx ry q) hm
/-- a reading of a value as a test -/
def tTest (t : TE) : TT := fun σ H Q => t σ H fun x H' => ∃ k, x = .bl k ∧ Q k H'
theorem pt_cmpR {op : CmpOp} {r : R2} (ho : OpR X (compareOp op) r) (ha : PE X a ta) (hb : PE X b tb) (hm : behindInMarks op b = false) : PT X (.Compare a [op] [b] pos) (tTest (tOp r ta tb)) := by
  intro pins s σ H Q I h
  refine wpAny_isTrue_Compare1 (thn (ha pins s σ H _ I h) fun v s1 ⟨x, H1, I1, r1, q1⟩ => thn (hb pins s1 σ H1 _ I1 q1) fun u s2 ⟨y, H2, I2, r2, q2⟩ =>
    thn (ho pins s2 σ H2 x y v u _ I2 r1 r2 q2) fun c s3 ⟨z, H3, I3, r3, k, e, q3⟩ => ?_) hm
  subst e
  cases r3
  exact wpAny_truthy_bool ⟨H3, I3, q3⟩
/-! ### truth -/
theorem line63 : (sizeLine : Nat) < 2 ^ 63 := by rw [sizeLine_eq]; decide
/-! ### strs and bytes -/
/-! ### scalar builtins, by CallR -/
theorem vals1 {x : V} {us : List Value} (r : Vals [x] us) : ∃ u, us = [u] ∧ RelV x u := by
  cases r with
  | cons r1 r2 => cases r2; exact ⟨_, rfl, r1⟩
theorem vals2 {x y : V} {us : List Value} (r : Vals [x, y] us) : ∃ u w', us = [u, w'] ∧ RelV x u ∧ RelV y w' := by
  cases r with
  | cons r1 r2 =>
    cases r2 with
    | cons r3 r4 => cases r4; exact ⟨_, _, rfl, r1, r3⟩
theorem call_max2 (hc : X.calm = true) : CallR X (.builtin "max") (fun xs H Q => ∃ i j, xs = [.int i, .int j] ∧ Q (.int (if j > i then j else i)) H) := by
  intro pins s σ H xs us Q I r h
  obtain ⟨i, j, rfl, q⟩ := h
  obtain ⟨u, w', rfl, ⟨t, rfl⟩, ⟨t', rfl⟩⟩ := vals2 r
  refine max_two_ints (I.ok.hd hc) fun h' tk k => ⟨_, H, I.kept k, ?_, q⟩
  by_cases hj : j > i
  · rw [if_pos hj, if_pos hj]; exact ⟨_, rfl⟩
  · rw [if_neg hj, if_neg hj]; exact ⟨_, rfl⟩
theorem call_min2 (hc : X.calm = true) : CallR X (.builtin "min") (fun xs H Q => ∃ i j, xs = [.int i, .int j] ∧ Q (.int (if j < i then j else i)) H) := by
  intro pins s σ H xs us Q I r h
  obtain ⟨i, j, rfl, q⟩ := h
  obtain ⟨u, w', rfl, ⟨t, rfl⟩, ⟨t', rfl⟩⟩ := vals2 r
  refine min_two_ints (I.ok.hd hc) fun h' tk k => ⟨_, H, I.kept k, ?_, q⟩
  by_cases hj : j < i
  · rw [if_pos hj, if_pos hj]; exact ⟨_, rfl⟩
  · rw [if_neg hj, if_neg hj]; exact ⟨_, rfl⟩
end
end L2

namespace L2
open PySem PySem.Spec PyProof.Rows

/-! ### an instance, its attributes a map -/
structure ObjM (h : Heap) (x dx C : Addr) (mA : Str → Option Value) : Prop where
  obj : h.get? x = some (PySem.W.instObj C dx)
  ns : h.Ns1 dx mA
  ne : dx ≠ x

theorem lookIn_ns {h : Heap} {dx : Addr} {mA : Str → Option Value} (n : h.Ns1 dx mA) : ∃ od, h.get? dx = some od ∧ ∀ name, PySem.W.lookIn name od = some (mA name) := by
  obtain ⟨o, es, ep, ho, hd, hk, _, hm⟩ := n
  refine ⟨o, ho, fun name => ?_⟩
  have e := hm name
  unfold nsFind findBy at e
  rw [← Array.find?_toList] at e
  unfold PySem.W.lookIn
  rw [hd]
  dsimp only
  split
  · rename_i y q
    rw [q] at e
    exact congrArg some e
  · rename_i q
    rw [q] at e
    have a : es.toList.any (·.refKey) = false := by
      rw [List.any_eq_false]
      intro y hy
      obtain ⟨z, t, hkey⟩ := hk y (Array.mem_toList_iff.mp hy)
      simp [DictEntry.refKey, hkey]
    have a' : ¬ es.toList.any (·.refKey) = true := by rw [a]; exact Bool.false_ne_true
    rw [if_neg a']
    exact congrArg some e

theorem ObjM.look {h : Heap} {x dx C : Addr} {mA : Str → Option Value} (I : ObjM h x dx C mA) : ∃ od, PySem.W.InstAt h x (PySem.W.instObj C dx) C (some od) ∧ ∀ name, PySem.W.lookIn name od = some (mA name) :=
  let ⟨od, ho, hl⟩ := lookIn_ns I.ns
  ⟨od, ⟨I.obj, rfl, rfl, ho⟩, hl⟩

section
variable {prog : Program} {w : World} {A : Around} {E : Value → Shared → Prop} {s : Shared} {K : PySem.W.Frag} {x dx C f : Addr} {mA : Str → Option Value} {name : Str} {v : Value}

end

/-! ### the attributes as a list of pairs -/
section
variable {P : Program} {w : World} {H H' : Hp} {h h' : Heap} {a C dx : Addr} {fs fs' : List (Str × V)}
theorem ins_get (hok : HOk P w H h) (e : H a = some (.ins C dx fs)) : ∃ mA, ObjM h a dx C mA ∧ (∀ f, RelO (fs.lookup f) (mA f)) ∧ PySem.Within mA (fs.map (·.1)) ∧ fs.length ≤ 1000 ∧ H dx = some (.own a) := by
  obtain ⟨d, z, ne, ob, mA, n, r, q⟩ := (show ObjOk P w H h a (.ins C dx fs) from hok a _ e)
  exact ⟨mA, ⟨ob, n, ne⟩, r, q, z, d⟩
end

/-! ### what of the text a class must have -/
structure Cls (K : PySem.W.Frag) (C : Addr) : Prop where
  pg : PySem.W.plainGet K C Str.empty = true
  hd : PySem.W.hasDictIn K C = true
  po : PySem.W.plainOver K C = true
  sa : PySem.W.findIn K (.ref C) "__setattr__" = some (some (.builtin "object.__setattr__"))
theorem Cls.get {K : PySem.W.Frag} {C : Addr} (c : Cls K C) (f : Str) : PySem.W.plainGet K C f = true := c.pg
section
variable {X : Cx} {pins : List (Addr × Obj)} {σ : St} {H : Hp} {s : Shared} {a C dx : Addr} {fs : List (Str × V)} {f : Str} {v : V} {A : Around} {E : Value → Shared → Prop}

/-- a new instance, tracked, without attributes -/
theorem Inv.made (I : Inv X pins σ H s) : Inv X pins σ (upd (upd H s.heap.objs.size (.own (s.heap.objs.size + 1))) (s.heap.objs.size + 1) (.ins C s.heap.objs.size []))
    { s with heap := (s.heap.push PySem.W.emptyDict).push (PySem.W.instObj C s.heap.objs.size) } := by
  have e1 : (s.heap.push PySem.W.emptyDict).get? s.heap.objs.size = some PySem.W.emptyDict := Heap.get?_push_size s.heap rfl
  have e2 : ((s.heap.push PySem.W.emptyDict).push (PySem.W.instObj C s.heap.objs.size)).get? (s.heap.objs.size + 1) = some (PySem.W.instObj C s.heap.objs.size) := by
    have := Heap.get?_push_size (s.heap.push PySem.W.emptyDict) (o := PySem.W.instObj C s.heap.objs.size) rfl
    rwa [Heap.size_push] at this
  have e3 : (s.heap.push PySem.W.emptyDict).Ns s.heap.objs.size (fun _ => none) := ⟨PySem.W.emptyDict, #[], _, e1, rfl, (fun e he => absurd he (by simp)), fun _ => rfl⟩
  have I1 := I.laid (a := s.heap.objs.size) (o := .own (s.heap.objs.size + 1)) (h' := s.heap.push PySem.W.emptyDict) (t' := s.toks) (fun b u q => Heap.get?_push_of_some _ q) (Nat.le_refl _) ⟨_, e1⟩
  refine I1.laid (a := s.heap.objs.size + 1) (o := .ins C s.heap.objs.size []) (t' := s.toks) (fun b u q => Heap.get?_push_of_some _ q) (Nat.le_of_eq (Heap.size_push _ _)) ?_
  have ne : s.heap.objs.size ≠ s.heap.objs.size + 1 := Nat.ne_of_lt (Nat.lt_succ_self _)
  refine ⟨by rw [upd_ne ne, upd_same], Nat.zero_le _, ne, e2, fun _ => none, (Heap.Ns1.of_empty e3).at fun o q => Heap.get?_push_of_some _ q, fun _ => True.intro, fun y hy => absurd rfl hy⟩

end

/-! ### readings and rules -/
section
variable {X : Cx} {o e value : Expr} {f : Str} {pos pos' tpos : Pos} {ta tv : TE}
end

/-! ### isinstance -/
section
variable {X : Cx} {pins : List (Addr × Obj)} {σ : St} {H : Hp} {s : Shared} {A : Around} {E : Value → Shared → Prop} {Q : Value → Shared → Prop} {c : Value} {b : Bool}
/-- the type of a value, as the fragment's deciders take it; for an instance its class -/
inductive TyOf (K : PySem.W.Frag) (H : Hp) : V → Value → Prop where
  | non : TyOf K H .non (.type "NoneType")
  | bl (x : Bool) : TyOf K H (.bl x) (.type "bool")
  | int (i : Int) : TyOf K H (.int i) (.type "int")
  | str (x : Str) : TyOf K H (.str x) (.type "str")
  | flt (x : UInt64) : TyOf K H (.flt x) (.type "float")
  | lst {a : Addr} {xs : List V} (e : H a = some (.lst xs)) : TyOf K H (.ref a) (.type "list")
  | frz {a : Addr} {o : Obj} {xs : List V} (e : H a = some (.frz o (.lst xs))) : TyOf K H (.ref a) (.type "list")
  | tup {a : Addr} {xs : List V} (e : H a = some (.tup xs)) : TyOf K H (.ref a) (.type "tuple")
  | dK {a : Addr} {kvs : List (Key × V)} (e : H a = some (.dK kvs)) : TyOf K H (.ref a) (.type "dict")
  | dT {a : Addr} {kvs : List (List Key × V)} (e : H a = some (.dT kvs)) : TyOf K H (.ref a) (.type "dict")
  | ins {a C dx : Addr} {fs : List (Str × V)} (e : H a = some (.ins C dx fs)) (cl : Cls K C) (ha : PySem.W.findIn K (.ref C) "__class__" = some (some (.builtin "object.__class__")))
      (hn : PySem.W.specialIn K (.builtin "object.__class__") "__get__" = some (some (.builtin "getset_descriptor.__get__"))) (htk : PySem.W.takesIn K (.builtin "object.__class__") = some true)
      (hm : PySem.W.mroIn K C (.type "object") = some true) : TyOf K H (.ref a) (.ref C)
/-- isinstance(x, c) for one class c, a built-in or an own one: kitOne's answer -/
theorem isinst_ok {x : V} {u t : Value} (I : Inv X pins σ H s) (rx : RelV x u) (ty : TyOf X.K H x t) (e : PySem.W.kitOne X.K t c = some b) (h : ∀ tk, Q (.bool b) { s with toks := tk }) :
    wpAny (model X.prog X.w) A (call (.builtin "isinstance") [u, c]) Q E s := by
  cases ty with
  | non => cases (show u = Value.none from rx); exact PySem.W.kia_one PySem.W.kitx_none I.kIn True.intro e (fun z => nomatch z) h
  | bl y => cases (show u = Value.bool y from rx); exact PySem.W.kia_one PySem.W.kitx_bool I.kIn True.intro e (fun z => nomatch z) h
  | int i => obtain ⟨t, q⟩ := (show ∃ t, u = Value.int i t from rx); cases q; exact PySem.W.kia_one PySem.W.kitx_int I.kIn True.intro e (fun z => nomatch z) h
  | str y => obtain ⟨t, q⟩ := (show ∃ t, u = Value.str y t from rx); cases q; exact PySem.W.kia_one PySem.W.kitx_str I.kIn True.intro e (fun z => nomatch z) h
  | flt y => obtain ⟨t, q⟩ := (show ∃ t, u = Value.float y t from rx); cases q; exact PySem.W.kia_one PySem.W.kitx_float I.kIn True.intro e (fun z => nomatch z) h
  | @lst a xs ea =>
    cases (show u = Value.ref a from rx)
    obtain ⟨_, _, n, _, h1⟩ := (show ObjOk X.prog X.w H s.heap a (.lst xs) from I.hok a _ ea)
    exact PySem.W.kia_one PySem.W.kitx_list I.kIn ⟨_, h1, rfl⟩ e (fun z => nomatch z) h
  | @frz a ob xs ea =>
    cases (show u = Value.ref a from rx)
    obtain ⟨_, _, _, n, _, h1⟩ := (show ObjOk X.prog X.w H s.heap a (.frz ob (.lst xs)) from I.hok a _ ea)
    exact PySem.W.kia_one PySem.W.kitx_list I.kIn ⟨_, h1, rfl⟩ e (fun z => nomatch z) h
  | @tup a xs ea =>
    cases (show u = Value.ref a from rx)
    obtain ⟨_, _, _, p0⟩ := (show ObjOk X.prog X.w H s.heap a (.tup xs) from I.hok a _ ea)
    have p := p0.up
    obtain ⟨o, h1, h2, _⟩ := p
    exact PySem.W.kia_one PySem.W.kitx_tuple I.kIn ⟨o, h1, h2⟩ e (fun z => nomatch z) h
  | @dK a kvs ea =>
    cases (show u = Value.ref a from rx)
    obtain ⟨_, _, vs, _, p⟩ := (show ObjOk X.prog X.w H s.heap a (.dK kvs) from I.hok a _ ea)
    obtain ⟨o, es, ep, h1, h2, _⟩ := p
    exact PySem.W.kia_one PySem.W.kitx_dict I.kIn ⟨o, h1, h2.1⟩ e (fun z => nomatch z) h
  | @dT a kvs ea =>
    cases (show u = Value.ref a from rx)
    obtain ⟨_, _, xs, _, o, es, ep, h1, h2, _⟩ := (show ObjOk X.prog X.w H s.heap a (.dT kvs) from I.hok a _ ea)
    exact PySem.W.kia_one PySem.W.kitx_dict I.kIn ⟨o, h1, h2.1⟩ e (fun z => nomatch z) h
  | @ins a C dx fs ea cl ha hn htk hm =>
    cases (show u = Value.ref a from rx)
    obtain ⟨mA, O, _⟩ := ins_get I.hok ea
    obtain ⟨od, J, _⟩ := O.look
    exact PySem.W.kia_one (PySem.W.kitx_own (cl.get _) cl.hd ha hn htk hm) I.kIn J e (fun z => nomatch z) h
end
end L2

namespace L2
open PySem PySem.Spec PyProof.Rows

/-! ### room -/
structure Room (k : Nat) (A : Around) : Prop where
  hd : A.handled = none
  dp : A.depth + 3 * k + 5 < recursionLimit
  un : A.units + 16 * k + 200 < cLine
theorem Room.mono {j k : Nat} {A : Around} (r : Room k A) (h : j ≤ k) : Room j A := ⟨r.hd, by have := r.dp; omega, by have := r.un; omega⟩
theorem Room.deeper {k : Nat} {A : Around} (r : Room (k + 1) A) (env : Env) : Room k (A.deeper env) :=
  ⟨r.hd, by have := r.dp; show A.depth + 1 + 3 * k + 5 < _; omega, by have := r.un; show A.units + 3 + 16 * k + 200 < _; omega⟩
theorem Room.in1 {k : Nat} {A : Around} (r : Room (k + 1) A) : Room k A.in1 :=
  ⟨r.hd, by have := r.dp; show A.depth + 3 * k + 5 < _; omega, by have := r.un; show A.units + 1 + 16 * k + 200 < _; omega⟩
theorem make_depth {A : Around} {C : Addr} {us : List Value} {kw : List (Str × Value)} : (A.under (.builtin "type.__call__" ⟨.ref C :: us, kw⟩)).depth = A.depth + 1 := by
  first | rfl | simp [Around.under, Code.weight, Code.isCreation, Code.isGuard, Code.isCaller, Code.frames, Code.isFrame, guardIds]
theorem make_units {A : Around} {C : Addr} {us : List Value} {kw : List (Str × Value)} : (A.under (.builtin "type.__call__" ⟨.ref C :: us, kw⟩)).units = A.units + 1 := by
  first | rfl | simp [Around.under, Code.cUnits, Code.frames, Code.isFrame]
theorem Room.make {k : Nat} {A : Around} (r : Room (k + 1) A) (C : Addr) (us : List Value) (kw : List (Str × Value)) : Room k (A.under (.builtin "type.__call__" ⟨.ref C :: us, kw⟩)) :=
  ⟨r.hd, by have := r.dp; rw [make_depth]; omega, by have := r.un; rw [make_units]; omega⟩
theorem Room.depth {k : Nat} {A : Around} (r : Room k A) : A.depth < recursionLimit := by have := r.dp; omega
theorem Room.units {k : Nat} {A : Around} (r : Room k A) : A.units + 64 < cLine := by have := r.un; omega
/-! ### argument lists and displays -/
def tNil : TA := fun _ H Q => Q [] H
def tCons (ta : TE) (tr : TA) : TA := fun σ H Q => ta σ H fun x H1 => tr σ H1 fun xs H2 => Q (x :: xs) H2
section
variable {X : Cx} {e : Expr} {es : List Expr} {te : TE} {t : TA} {pos : Pos}
theorem pa_nil : PA X [] tNil := fun _ _ _ _ H Q I h => Calls.spliced_nil ⟨[], H, I, .nil, h⟩
theorem pa_cons (ha : PE X e te) (hr : PA X es t) (hs : starEach (e :: es) X.env = (false, eval e X.env) :: starEach es X.env := by rfl) : PA X (e :: es) (tCons te t) := by
  intro pos pins s σ H Q I h
  rw [hs]
  show wpAny _ _ (spliced ((false, eval e X.env) :: backTo pos (starEach es X.env))) _ _ s
  refine Calls.spliced_cons (thn (ha pins s σ H _ I h) fun u s1 ⟨x, H1, I1, r1, q1⟩ => ?_)
  exact thn (hr pos pins s1 σ H1 _ I1 q1) fun us s2 ⟨xs, H2, I2, r2, q2⟩ => ⟨x :: xs, H2, I2, .cons r1 r2, q2⟩

/-- a tuple, a list of written items -/
def tTup (t : TA) : TE := fun σ H Q => t σ H fun xs H1 => xs.length ≤ sizeLine ∧ ∀ p, H1 p = none → Q (.ref p) (upd H1 p (.tup xs))
def tLst (t : TA) : TE := fun σ H Q => t σ H fun xs H1 => xs.length ≤ sizeLine ∧ ∀ p, H1 p = none → Q (.ref p) (upd H1 p (.lst xs))
theorem pe_tup {x1} (h : PA X es t) : PE X (.Tuple es x1 pos) (tTup t) := by
  intro pins s σ H Q I hq
  refine wpAny_Tuple_spliced (thn (h pos pins s σ H _ I hq) fun us s1 ⟨xs, H1, I1, r, z, q⟩ => ⟨by rw [← r.length]; exact z, ?_⟩)
  have hf : H1 s1.heap.objs.size = none := I1.hok.fresh (Nat.le_refl _)
  refine ⟨.ref s1.heap.objs.size, upd H1 s1.heap.objs.size (.tup xs), I1.laid (t' := s1.toks) (fun b u e => Heap.get?_push_of_some _ e) (Nat.le_refl _) ?_, rfl, q _ hf⟩
  exact ⟨z, us, r, ⟨_, Heap.get?_push_size _ rfl, rfl, ⟨_, rfl⟩, rfl⟩⟩
theorem pe_lst (h : PA X es t) : PE X (.List es pos) (tLst t) := by
  intro pins s σ H Q I hq
  refine wpAny_List_spliced (thn (h pos pins s σ H _ I hq) fun us s1 ⟨xs, H1, I1, r, z, q⟩ => ⟨by rw [← r.length]; exact z, ?_⟩)
  have hf : H1 s1.heap.objs.size = none := I1.hok.fresh (Nat.le_refl _)
  refine ⟨.ref s1.heap.objs.size, upd H1 s1.heap.objs.size (.lst xs), I1.laid (t' := s1.toks) (fun b u e => Heap.get?_push_of_some _ e) (Nat.le_refl _) ?_, rfl, q _ hf⟩
  exact ⟨z, us, 0, r, Heap.get?_push_size _ rfl⟩
end

/-! ### what a def promises -/
/-- a def's promise: the bound arguments in the parameters' order, the heap, the wanted end, the wanted exception -/
abbrev Sp := List V → Hp → VK → XK → Prop
/-- how an exception lies behind a call (file 08 gives it): the callers' frames, abstract heap and state ahead of the call, the wish, the exception, the state -/
abbrev CXT := List Env → Hp → Shared → XK → Value → Shared → Prop

/-- the state at a call -/
structure Env0 (P : Program) (w : World) (K : PySem.W.Frag) (mg : Str → Option Value) (base : Heap) (A : Around) (outer : List Env) (s : Shared) (H : Hp) : Prop where
  frames : A.frames = some outer
  mod : Mod K mg base
  bs : ∀ b o, base.get? b = some o → s.heap.get? b = some o ∧ H b = none
  bsz : base.objs.size ≤ s.heap.objs.size
  funs : s.heap.FunFrames base outer
  frf : ∀ b ∈ frs outer, H b = none
  hok : HOk P w H s.heap
  bare : AllBare s.gens
/-- a call's end -/
def CE (outer : List Env) (P : Program) (w : World) (H : Hp) (s : Shared) (Q : VK) (u : Value) (s' : Shared) : Prop :=
  ∃ v H', s'.os = s.os ∧ AllBare s'.gens ∧ Un (frs outer) [] H H' s.heap s'.heap ∧ HOk P w H' s'.heap ∧ RelV v u ∧ Q v H'
def CR (CX : CXT) (outer : List Env) (P : Program) (w : World) (H : Hp) (s : Shared) (Q : VK) (E : XK) (r : Result) (s' : Shared) : Prop :=
  match r with
  | .ok (.ret u) => CE outer P w H s Q u s'
  | .ok _ => False
  | .error e => CX outer H s E e s'
structure FnOk (P : Program) (w : World) (K : PySem.W.Frag) (mg : Str → Option Value) (base : Heap) (CX : CXT) (k : Nat) (f : Addr) (fd : FuncData) (ps : List Str) (sp : Sp) : Prop where
  len : ∀ vs H Q E, sp vs H Q E → vs.length = ps.length
  run : ∀ (A : Around) (outer : List Env) (s : Shared) (H : Hp) (args : Args) (us : List Value) (vs : List V) (Q : VK) (E : XK), Room k A → Env0 P w K mg base A outer s H → BindsTo s fd args (ps.zip us) → Vals vs us → sp vs H Q E →
    codeAny (model P w) A (.call (.ref f) args) (CR CX outer P w H s Q E) s
theorem FnOk.mono {P : Program} {w : World} {K : PySem.W.Frag} {mg : Str → Option Value} {base : Heap} {CX : CXT} {j k : Nat} {f : Addr} {fd : FuncData} {ps : List Str} {sp : Sp} (F : FnOk P w K mg base CX j f fd ps sp) (h : j ≤ k) :
    FnOk P w K mg base CX k f fd ps sp := ⟨F.len, fun A outer s H args us vs Q E hr => F.run A outer s H args us vs Q E (hr.mono h)⟩
/-- a weaker promise -/
theorem FnOk.imp {P : Program} {w : World} {K : PySem.W.Frag} {mg : Str → Option Value} {base : Heap} {CX : CXT} {k : Nat} {f : Addr} {fd : FuncData} {ps : List Str} {sp sp' : Sp} (F : FnOk P w K mg base CX k f fd ps sp)
    (h : ∀ vs H Q E, sp' vs H Q E → sp vs H Q E) : FnOk P w K mg base CX k f fd ps sp' :=
  ⟨fun vs H Q E q => F.len vs H Q E (h _ _ _ _ q), fun A outer s H args us vs Q E hr he hb hv hs => F.run A outer s H args us vs Q E hr he hb hv (h _ _ _ _ hs)⟩

theorem Env0.make {P : Program} {w : World} {K : PySem.W.Frag} {mg : Str → Option Value} {base : Heap} {A : Around} {outer : List Env} {s : Shared} {H : Hp} (e : Env0 P w K mg base A outer s H) (C : Addr) (us : List Value) (kw : List (Str × Value)) :
    Env0 P w K mg base (A.under (.builtin "type.__call__" ⟨.ref C :: us, kw⟩)) outer s H := ⟨by first | exact e.frames | (simpa [Around.under, Code.envs, Code.isFrame, pushEnvs] using e.frames), e.mod, e.bs, e.bsz, e.funs, e.frf, e.hok, e.bare⟩
theorem Env0.in1 {P : Program} {w : World} {K : PySem.W.Frag} {mg : Str → Option Value} {base : Heap} {A : Around} {outer : List Env} {s : Shared} {H : Hp} (e : Env0 P w K mg base A outer s H) :
    Env0 P w K mg base A.in1 outer s H := ⟨e.frames, e.mod, e.bs, e.bsz, e.funs, e.frf, e.hok, e.bare⟩

section
variable {X : Cx} {pins : List (Addr × Obj)} {σ : St} {H : Hp} {s s' : Shared}
/-- from a body: what a callee wants -/
theorem Inv.env0 (I : Inv X pins σ H s) : Env0 X.prog X.w X.K X.mg X.base X.A X.stack s H :=
  ⟨I.ok.frames, I.ok.mod, I.bs, Nat.le_trans I.ok.bsz I.sz, I.stack, I.stkFree, I.hok, I.bare⟩
/-- behind a call -/
theorem Inv.after {Q : VK} {u : Value} (I : Inv X pins σ H s) (h : CE X.stack X.prog X.w H s Q u s') : EP X pins σ Q u s' := by
  obtain ⟨v, H', os, bare, un, hok, r, q⟩ := h
  obtain ⟨hh, g, d, t, os'⟩ := s'
  obtain rfl : os' = s.os := os
  exact ⟨v, H', I.call (h' := hh) (g' := g) (d' := d) (t' := t) (ch := []) un hok bare (fun b z => absurd z (by simp)), r, q⟩
end

/-! ### calls -/
/-- f(..): the written arguments, then the defaults dvs; E: what is wanted of an exception -/
def tCall (sp : Sp) (dvs : List V) (E : XK) (t : TA) : TE := fun σ H Q => t σ H fun vs H1 => sp (vs ++ dvs) H1 Q E
/-- how the parameters are bound: us the positional arguments, kw the keywords' values by name, ds the defaults that fill up -/
def Binds (K : PySem.W.Frag) (fd : FuncData) (ps : List Str) (ds : List Value) : Prop :=
  ∀ (s : Shared) (us : List Value), K.In s.heap → (us ++ ds).length = ps.length → BindsTo s fd ⟨us, []⟩ (ps.zip (us ++ ds))
/-- every parameter is given -/
theorem Binds.all {K : PySem.W.Frag} {fd : FuncData} {ps : List Str} (h : ∀ us : List Value, us.length = ps.length → bindArgs fd ⟨us, []⟩ = pure (ps.zip us)) : Binds K fd ps [] := fun s us _ hl => by
  rw [List.append_nil] at hl ⊢
  exact .of_eq (h us hl)

/-- an exception of a callee reaches what this body wants of exceptions -/
def Passes (CX : CXT) (X : Cx) (E : XK) : Prop := ∀ (pins : List (Addr × Obj)) (σ : St) (H : Hp) (s : Shared) (e : Value) (s' : Shared), Inv X pins σ H s → CX X.stack H s E e s' → X.xe e s'

section
variable {X : Cx} {CX : CXT} {k : Nat} {f C : Addr} {fd : FuncData} {ps : List Str} {sp : Sp} {dvs : List V} {ds : List Value} {E : XK} {x m : Str} {p pos apos : Pos} {e o : Expr} {es : List Expr} {ta : TE} {t : TA}

/-- the callee runs -/
theorem run_fn {pins : List (Addr × Obj)} {σ : St} {H : Hp} {s : Shared} {Q : VK} {us : List Value} {vs : List V} (F : FnOk X.prog X.w X.K X.mg X.base CX k f fd ps sp) (hr : Room k X.A) (hb : Binds X.K fd ps ds) (hd : Vals dvs ds) (hx : Passes CX X E)
    (I : Inv X pins σ H s) (r : Vals vs us) (h : sp (vs ++ dvs) H Q E) : wpAny (model X.prog X.w) X.A (call (.ref f) us) (EP X pins σ Q) X.xe s := by
  have r2 : Vals (vs ++ dvs) (us ++ ds) := r.append hd
  have hl : (us ++ ds).length = ps.length := by rw [← r2.length]; exact F.len _ _ _ _ h
  refine wpAny_call (codeAny_mono (F.run X.A X.stack s H ⟨us, []⟩ (us ++ ds) (vs ++ dvs) Q E hr I.env0 (hb s us I.kIn hl) r2 h) fun r s' hq => ?_)
  cases r with
  | error e => exact hx pins σ H s e s' I hq
  | ok fl =>
    cases fl with
    | ret u => exact I.after hq
    | next => exact False.elim hq
    | brk => exact False.elim hq
    | cont => exact False.elim hq

theorem pe_call (F : FnOk X.prog X.w X.K X.mg X.base CX k f fd ps sp) (hr : Room k X.A) (hg : Gl X x) (hm : X.mg x = some (.ref f)) (hk : PySem.W.keepIn X.K (.ref f) = true) (hb : Binds X.K fd ps ds) (hd : Vals dvs ds) (hx : Passes CX X E)
    (ha : PA X (e :: es) t) (hdb : (x == ("__debug__" : Str)) = false := by decide) (he : starEach (e :: es) X.env = (false, eval e X.env) :: starEach es X.env := by rfl) (hpl : (backTo pos (starEach es X.env)).any (·.1) = false := by rfl) :
    PE X (.Call (.Name x p) (e :: es) [] pos) (tCall sp dvs E t) := by
  intro pins s σ H Q I h
  refine wpAny_Call_Name_kw (ld_glob I hg hm ?_ hdb)
  refine PySem.W.callWith_K (h₀ := X.base) I.ok.mod.kin hk (thn (ha pos pins s σ H _ I h) fun us s1 ⟨vs, H1, I1, r, q⟩ => ⟨I1.kIn, ?_⟩) he hpl
  exact run_fn F hr hb hd hx I1 r q
theorem pe_call0 (F : FnOk X.prog X.w X.K X.mg X.base CX k f fd ps sp) (hr : Room k X.A) (hg : Gl X x) (hm : X.mg x = some (.ref f)) (hk : PySem.W.keepIn X.K (.ref f) = true) (hb : Binds X.K fd ps ds) (hd : Vals dvs ds) (hx : Passes CX X E)
    (hdb : (x == ("__debug__" : Str)) = false := by decide) : PE X (.Call (.Name x p) [] [] pos) (tCall sp dvs E tNil) := by
  intro pins s σ H Q I h
  refine wpAny_Call_Name_kw (ld_glob I hg hm ?_ hdb)
  exact PySem.W.callWith_K0 I.kIn hk (run_fn (us := []) F hr hb hd hx I .nil h)

end

/-! ### keywords -/
section
variable {X : Cx} {CX : CXT} {k : Nat} {f C : Addr} {fd : FuncData} {ps ks : List Str} {sp : Sp} {E : XK} {x m : Str} {p pos apos kpos : Pos} {e o : Expr} {es : List Expr} {kws : List Keyword} {te ta : TE} {t tk : TA} {nm : Option Str}
variable {g : List Value → List Value → List Value} {gV : List V → List V → List V}
end

/-! ### a def's body keeps its promise -/
/-- names: the parameters first -/
structure FnScope (N P : List Str) (sc : Scope) : Prop where
  kind : sc.kind = .function
  co : sc.isCoroutine = false
  gen : sc.isGenerator = false
  nd : N.Nodup
  pre : N.take P.length = P
  par : ∀ x ∈ P, sc.names.lookup x = some .local ∨ sc.names.lookup x = some .cell
  nofree : ∀ y ∈ sc.names, y.2 ≠ .free

theorem bindL_out {kindOf : Str → Option NameKind} {x : Str} : ∀ {binds : List (Str × Value)} {m : Str → Option Value}, (∀ v, (x, v) ∉ binds) → bindL kindOf binds m x = m x
  | [], _, _ => rfl
  | (n, v) :: r, m, h => by
    unfold bindL
    rw [bindL_out fun w hw => h w (List.mem_cons_of_mem _ hw)]
    split
    · have : x ≠ n := by rintro rfl; exact h v List.mem_cons_self
      simp [this]
    · rfl
theorem bindC_out {kindOf : Str → Option NameKind} {x : Str} : ∀ {binds : List (Str × Value)} {m : Str → Option Value}, (∀ v, (x, v) ∉ binds) → bindC kindOf binds m x = m x
  | [], _, _ => rfl
  | (n, v) :: r, m, h => by
    unfold bindC
    rw [bindC_out fun w hw => h w (List.mem_cons_of_mem _ hw)]
    split
    · rfl
    · have : x ≠ n := by rintro rfl; exact h v List.mem_cons_self
      simp [this]
theorem bindL_get {kindOf : Str → Option NameKind} {x : Str} {v : Value} : ∀ {P : List Str} {vs : List Value} {i : Nat} {m : Str → Option Value}, P.Nodup → P[i]? = some x → vs[i]? = some v → kindOf x = some .local →
    bindL kindOf (P.zip vs) m x = some v
  | [], _, _, _, _, h, _, _ => by simp at h
  | _ :: _, [], _, _, _, _, h, _ => by simp at h
  | p :: P, w :: vs, 0, m, nd, h1, h2, hk => by
    simp at h1 h2; subst h1; subst h2
    show bindL kindOf ((p, w) :: P.zip vs) m p = _
    unfold bindL
    rw [bindL_out fun v hv => (List.nodup_cons.mp nd).1 (List.of_mem_zip hv).1, if_pos hk]
    simp
  | p :: P, w :: vs, i + 1, m, nd, h1, h2, hk => by
    show bindL kindOf ((p, w) :: P.zip vs) m x = _
    unfold bindL
    exact bindL_get (i := i) (List.nodup_cons.mp nd).2 (by simpa using h1) (by simpa using h2) hk
theorem bindC_get {kindOf : Str → Option NameKind} {x : Str} {v : Value} : ∀ {P : List Str} {vs : List Value} {i : Nat} {m : Str → Option Value}, P.Nodup → P[i]? = some x → vs[i]? = some v → kindOf x ≠ some .local →
    bindC kindOf (P.zip vs) m x = some v
  | [], _, _, _, _, h, _, _ => by simp at h
  | _ :: _, [], _, _, _, _, h, _ => by simp at h
  | p :: P, w :: vs, 0, m, nd, h1, h2, hk => by
    simp at h1 h2; subst h1; subst h2
    show bindC kindOf ((p, w) :: P.zip vs) m p = _
    unfold bindC
    rw [bindC_out fun v hv => (List.nodup_cons.mp nd).1 (List.of_mem_zip hv).1, if_neg hk]
    simp
  | p :: P, w :: vs, i + 1, m, nd, h1, h2, hk => by
    show bindC kindOf ((p, w) :: P.zip vs) m x = _
    unfold bindC
    exact bindC_get (i := i) (List.nodup_cons.mp nd).2 (by simpa using h1) (by simpa using h2) hk

/-- the names' values at the entry -/
def start (N : List Str) (vs : List V) : St := vs.map some ++ List.replicate (N.length - vs.length) none

/-- the context of a def's body, at its entry; an exception leaves the frame, then lies as CX says -/
def cxOf (CX : CXT) (P : Program) (w : World) (K : PySem.W.Frag) (mg : Str → Option Value) (base : Heap) (N : List Str) (qual : Str) (scope : Scope) (f : Addr) (cd : Value) (A : Around) (outer : List Env) (s : Shared) (H : Hp) (E : XK) : Cx where
  prog := P
  w := w
  K := K
  mg := mg
  base := base
  A := A.deeper (envOfC qual scope s.heap.objs.size f cd)
  N := N
  s₀ := s
  H₀ := H
  env := envOfC qual scope s.heap.objs.size f cd
  outer := outer
  stack := envOfC qual scope s.heap.objs.size f cd :: outer
  ex := []
  calm := true
  fn := fun _ => true
  pn := []
  xe := fun e s' => wpAny (model P w) (A.deeper (envOfC qual scope s.heap.objs.size f cd)) (leaving (envOfC qual scope s.heap.objs.size f cd) e) (fun _ s'' => CX outer H s E e s'') (fun e' s'' => CX outer H s E e' s'') s'

theorem cell_has {sc : Scope} {n : Nat} {x : Str} (h : sc.names.lookup x = some .cell) : ∃ c, (cellsFrom n sc.names []).lookup x = some c := by
  have q := PySem.W.cellsFrom_some sc.names n [] (.inl h)
  exact Option.isSome_iff_exists.mp q

theorem inv_start {CX : CXT} {P : Program} {w : World} {K : PySem.W.Frag} {mg : Str → Option Value} {base : Heap} {N ps : List Str} {qual : Str} {scope : Scope} {f : Addr} {cd : Value} {A : Around} {outer : List Env} {s s1 : Shared} {H : Hp} {E : XK} {us : List Value} {vs : List V}
    (S : FnScope N ps scope) (hd : A.handled = none) (e0 : Env0 P w K mg base A outer s H) (hl : vs.length = ps.length) (r : Vals vs us)
    (x : InCallC s s.heap.objs.size (bindL (envOfC qual scope s.heap.objs.size f cd).kindOf (ps.zip us) fun _ => none) (cellsFrom (s.heap.objs.size + 1) scope.names []) (bindC (envOfC qual scope s.heap.objs.size f cd).kindOf (ps.zip us) fun _ => none) s1) :
    Inv (cxOf CX P w K mg base N qual scope f cd A outer s H E) [] (start N vs) H s1 := by
  have hpl : ps.length ≤ N.length := by have := congrArg List.length S.pre; rw [List.length_take] at this; omega
  obtain ⟨h1, tk, rfl, hk⟩ := x.done
  have noA : ∀ b : Addr, b ∉ (cxOf CX P w K mg base N qual scope f cd A outer s H E).ex := fun b z => absurd (show b ∈ ([] : List Addr) from z) (by simp)
  refine ⟨⟨e0.mod, S.kind, rfl, rfl, Nat.le_refl _, fun y z c h1 h2 => ?_, fun y hy => ?_, fun y c _ h => ?_, fun _ => hd, Around.frames_deeper e0.frames, .inr ⟨rfl, rfl⟩, fun b z => absurd z (noA b), e0.bs, e0.bsz, fun b _ _ => noA b, fun b z => absurd z (noA b), e0.funs, e0.frf⟩,
    rfl, e0.bare, Un.kept hk, ⟨_, x.toInCall.ns, fun i y v h1 h2 h3 => ?_⟩, fun y c h => ⟨_, x.cell y c h⟩, e0.hok.fresh (Nat.le_refl _), fun y c h => ?_, fun p hp => absurd (show p ∈ ([] : List (Addr × Obj)) from hp) (by simp), e0.hok.kept hk, ?_⟩
  · exact name_of_addr x.apart (PySem.mem_of_lookup h1) (PySem.mem_of_lookup h2)
  · have hy : scope.names.lookup y = some .cell ∨ scope.names.lookup y = some .free := hy
    rcases hy with hy | hy
    · exact cell_has hy
    · exact absurd rfl (S.nofree _ (PySem.mem_of_lookup hy))
  · exact Nat.le_of_lt (x.above y c (PySem.mem_of_lookup h))
  · have hi : i < vs.length := by
      unfold start at h2
      by_cases hi : i < vs.length
      · exact hi
      · rw [List.getElem?_append_right (by simpa using hi)] at h2
        rw [List.getElem?_replicate] at h2
        split at h2 <;> cases h2
    have ha : vs[i]? = some v := by
      unfold start at h2
      rw [List.getElem?_append_left (by simpa using hi), List.getElem?_map] at h2
      cases e : vs[i]? with
      | none => rw [e] at h2; cases h2
      | some a => rw [e] at h2; cases h2; rfl
    obtain ⟨u, hu, rv⟩ := r.get ha
    have hp : ps[i]? = some y := by
      rw [← S.pre, List.getElem?_take_of_lt (by omega)]; exact h1
    have ndP : ps.Nodup := by rw [← S.pre]; exact S.nd.sublist (List.take_sublist _ _)
    refine ⟨u, rv, ?_⟩
    rcases S.par y (List.mem_of_getElem? hp) with k | k
    · exact .inl ⟨k, bindL_get ndP hp hu k⟩
    · obtain ⟨c, e⟩ := cell_has (n := s.heap.objs.size + 1) k
      refine .inr ⟨.inl k, c, e, ?_⟩
      have q := x.cell y c e
      rw [bindC_get ndP hp hu (by show scope.names.lookup y ≠ _; rw [k]; decide)] at q
      exact q
  · exact e0.hok.fresh (Nat.le_of_lt (x.above y c (PySem.mem_of_lookup h)))
  · unfold start
    show _ = N.length
    rw [List.length_append, List.length_map, List.length_replicate]
    omega

/-- THE RULE: a def (or a method) of the text, by its body. The body's reading t is chosen for each entry; it is run at the parameters' values -/
theorem fn_of {CX : CXT} {P : Program} {w : World} {K : PySem.W.Frag} {mg : Str → Option Value} {base : Heap} {k : Nat} {f : Addr} {name qual : Str} {params : Arguments} {body : List Stmt} {scope : Scope} {dV kV doc pm cdv ct oc : Value} {an od : Option Addr}
    {osl : Array (Option Value)} {N ps : List Str} {sp : Sp} (lk : K.lookup f = some ⟨oc, od, .func (PySem.W.fnOf name qual params body scope dV kV doc pm an cdv ct), osl⟩) (hcd : PySem.W.codeIn K cdv qual = true) (S : FnScope N ps scope)
    (len : ∀ vs H Q E, sp vs H Q E → vs.length = ps.length)
    (hbody : ∀ (A : Around) (outer : List Env) (s : Shared) (H : Hp) (vs : List V) (Q : VK) (E : XK), Room k (A.deeper (envOfC qual scope s.heap.objs.size f cdv)) → sp vs H Q E →
      ∃ t, PSs (cxOf CX P w K mg base N qual scope f cdv A outer s H E) body t ∧ t { nx := fun _ H' => Q .non H', rt := Q } (start N vs) H) :
    FnOk P w K mg base CX (k + 1) f (PySem.W.fnOf name qual params body scope dV kV doc pm an cdv ct) ps sp := by
  refine ⟨len, fun A outer s H args us vs Q E hr e0 hb r hsp => ?_⟩
  have hl := len _ _ _ _ hsp
  have KX : K.In s.heap := e0.mod.kin.keeps fun b o e => (e0.bs b o e).1
  have lim : s.heap.NoLimit := e0.mod.nolimit.keeps fun b o e => (e0.bs b o e).1
  have hkind : ∀ y ∈ ps.zip us, scope.names.lookup y.1 = some .local ∨ (scope.names.lookup y.1 = some .cell ∧ ((cellsFrom (s.heap.objs.size + 1) scope.names []).lookup y.1).isSome = true) := fun ⟨n, v⟩ hy => by
    rcases S.par n (List.of_mem_zip hy).1 with q | q
    · exact .inl q
    · exact .inr ⟨q, PySem.W.cellsFrom_some _ _ _ (.inl q)⟩
  refine codeAny_call_function hr.depth (KX _ _ lk) rfl S.co S.gen rfl (PySem.W.codeRec_of KX hcd) (hb _ _ _ _ ?_)
  refine wpAny_newFunctionEnv_cells S.kind hkind fun env he s1 x => ?_
  subst he
  refine ⟨lim.keeps x.toInCall.keep, codeAny_func ?_⟩
  obtain ⟨t, ht, hq⟩ := hbody A outer s H vs Q E (hr.deeper _) hsp
  have I : Inv (cxOf CX P w K mg base N qual scope f cdv A outer s H E) [] (start N vs) H s1 := inv_start S hr.hd e0 hl r x
  refine wpAny_mono (ht [] s1 (start N vs) H _ I hq) (fun fl s' hs => ?_) fun e s' hs => hs
  have fin : ∀ {σ' : St} {H' : Hp} {v : V} {u : Value}, Inv (cxOf CX P w K mg base N qual scope f cdv A outer s H E) [] σ' H' s' → RelV v u → Q v H' → CE outer P w H s Q u s' :=
    fun {σ' H' v u} J rv q => ⟨v, H', J.os, J.bare, J.base, J.hok, rv, q⟩
  cases fl with
  | ret u =>
    obtain ⟨v, σ', H', J, rv, q⟩ := hs
    exact fin J rv q
  | next =>
    obtain ⟨σ', H', J, q⟩ := hs
    exact fin (v := V.non) (u := Value.none) J rfl q
  | brk =>
    obtain ⟨_, _, _, q⟩ := hs
    exact False.elim q
  | cont =>
    obtain ⟨_, _, _, q⟩ := hs
    exact False.elim q
end L2

namespace L2
open PySem PySem.Spec PyProof.Rows
section
variable {X : Cx} {x : Str} {p pos : Pos} {e : Expr} {es : List Expr} {t : TA} {id T : String} {r : List V → Hp → VK → Prop}

def tCB (r : List V → Hp → VK → Prop) (t : TA) : TE := fun σ H Q => t σ H fun vs H1 => r vs H1 Q
/-- f(e, ..), f a built-in function -/
theorem pe_callB (hc : CallR X (.builtin id) r) (hg : Gl X x) (hm : X.mg x = none) (hv : bootBuiltins x = some (.builtin id)) (ha : PA X (e :: es) t) (hn : x ≠ "__name__" := by decide) (hdb : (x == ("__debug__" : Str)) = false := by decide)
    (he : starEach (e :: es) X.env = (false, eval e X.env) :: starEach es X.env := by rfl) (hpl : (backTo pos (starEach es X.env)).any (·.1) = false := by rfl) : PE X (.Call (.Name x p) (e :: es) [] pos) (tCB r t) := by
  intro pins s σ H Q I h
  refine wpAny_Call_Name_kw (ld_blt I hg hm hv ?_ hn hdb)
  exact PyProof.Rows.callWith_builtin1 (thn (ha pos pins s σ H _ I h) fun us s1 ⟨vs, H1, I1, r1, q1⟩ => hc pins s1 σ H1 vs us Q I1 r1 q1) he hpl
/-- T(e, ..), T a built-in type -/
theorem pe_callTy (hc : CallR X (.type T) r) (hg : Gl X x) (hm : X.mg x = none) (hv : bootBuiltins x = some (.type T)) (ha : PA X (e :: es) t) (hn : x ≠ "__name__" := by decide) (hdb : (x == ("__debug__" : Str)) = false := by decide)
    (he : starEach (e :: es) X.env = (false, eval e X.env) :: starEach es X.env := by rfl) (hpl : (backTo pos (starEach es X.env)).any (·.1) = false := by rfl) : PE X (.Call (.Name x p) (e :: es) [] pos) (tCB r t) := by
  intro pins s σ H Q I h
  refine wpAny_Call_Name_kw (ld_blt I hg hm hv ?_ hn hdb)
  exact PyProof.Rows.callWith_type1 (thn (ha pos pins s σ H _ I h) fun us s1 ⟨vs, H1, I1, r1, q1⟩ => hc pins s1 σ H1 vs us Q I1 r1 q1) he hpl
end
end L2

namespace HT
open PySem PyProof.Rows

section
open PySem.SeqAt
open PySem.AutoSeq1 (wpAny_loadPart')
open PySem.MeetsSeq PySem.MeetsSeq2 PySem.MeetsSeq3

end

section
variable {prog : Program} {w : World} {A : Around} {E : Value → Shared → Prop} {s : Shared}

/-! ### t[a:b], not the whole -/
/-- a slice's bound as a place among n (d where it is left out) -/
def sIx (n d : Nat) : Option Int → Nat
  | none => d
  | some v => if v < 0 then (v + (n : Int)).toNat else min v.toNat n
theorem sIx_le (n d : Nat) (hd : d ≤ n) (o : Option Int) : sIx n d o ≤ n := by
  cases o with
  | none => exact hd
  | some v =>
    show (if v < 0 then (v + (n : Int)).toNat else min v.toNat n) ≤ n
    by_cases hv : v < 0
    · rw [if_pos hv]; omega
    · rw [if_neg hv]; exact Nat.min_le_right _ _
theorem clip_eq (v : Int) (n d : Nat) : (if v < 0 then max (v + (n : Int)) 0 else min v (n : Int)) = ((sIx n d (some v) : Nat) : Int) := by
  show (if v < 0 then max (v + (n : Int)) 0 else min v (n : Int)) = (((if v < 0 then (v + (n : Int)).toNat else min v.toNat n) : Nat) : Int)
  by_cases hv : v < 0
  · simp only [if_pos hv]; omega
  · simp only [if_neg hv]; omega
theorem adjust_gen (lo hi : Option Int) (n : Nat) : Builtin.Slice.sliceAdjust lo hi 1 (n : Int) = (((sIx n 0 lo : Nat) : Int), ((sIx n n hi : Nat) : Int)) := by
  have h1 : ¬ ((1 : Int) < 0) := by omega
  unfold Builtin.Slice.sliceAdjust
  simp only [h1, if_false]
  refine Prod.ext ?_ ?_
  · cases lo with
    | none => rfl
    | some v => exact clip_eq v n 0
  · cases hi with
    | none => rfl
    | some v => exact clip_eq v n n
theorem places_gen (i j : Nat) : Builtin.Slice.slicePlaces (i : Int) (j : Int) 1 = j - i := by
  unfold Builtin.Slice.slicePlaces
  have h1 : (1 : Int) > 0 := by omega
  simp only [h1, if_true, Int.ediv_one]
  split <;> omega
theorem slicePart_ {v : Value} {o : Option Int} {Q : Option Int → Shared → Prop} (p : IsPart v o) (h : Q o s) : wpAny (model prog w) A (Builtin.Slice.slicePartIndex v) Q E s := by
  cases p with
  | none => exact slicePart_none h
  | int i t => exact slicePart_int h
theorem sliceApplied_gen {sl : Addr} {vl vu : Value} {lo hi : Option Int} {n : Nat} {Q : Int × Int × Nat → Shared → Prop} (hs : s.heap.IsSliceOf sl vl vu .none) (pl : IsPart vl lo) (pu : IsPart vu hi)
    (h : Q (((sIx n 0 lo : Nat) : Int), 1, sIx n n hi - sIx n 0 lo) s) : wpAny (model prog w) A (Builtin.Slice.sliceApplied (.ref sl) (pure (n : Int))) Q E s := by
  obtain ⟨os, hos, hcs, hds⟩ := id hs
  unfold Builtin.Slice.sliceApplied Builtin.Slice.sliceFields
  refine wpAny_bind (wpAny_bind (wpAny_field hos hds (x := vl) rfl (wpAny_bind (wpAny_field hos hds (x := vu) rfl (wpAny_bind (wpAny_field hos hds (x := .none) rfl (wpAny_pure ?_)))))))
  refine wpAny_bind (slicePart_none ?_)
  show wpAny _ _ (if ((1 : Int) == 0) = true then _ else _) _ _ s
  rw [if_neg (by decide)]
  refine wpAny_bind (slicePart_ pl (wpAny_bind (slicePart_ pu (wpAny_bind (wpAny_pure ?_)))))
  show wpAny _ _ (match Builtin.Slice.sliceAdjust lo hi 1 (n : Int) with | (lo, hi) => pure (lo, (1 : Int), Builtin.Slice.slicePlaces lo hi 1)) _ _ s
  rw [adjust_gen lo hi n]
  show wpAny _ _ (pure (((sIx n 0 lo : Nat) : Int), (1 : Int), Builtin.Slice.slicePlaces ((sIx n 0 lo : Nat) : Int) ((sIx n n hi : Nat) : Int) 1)) _ _ s
  rw [places_gen]
  exact wpAny_pure h
theorem pick_gen (xs : Array Value) (i k : Nat) : ((List.range k).filterMap fun (m : Nat) => xs[((i : Int) + (m : Int) * 1).toNat]?).toArray = ((xs.toList.drop i).take k).toArray := by
  have e : (fun (m : Nat) => xs[((i : Int) + (m : Int) * 1).toNat]?) = fun m => xs[i + m]? := by
    funext m
    have : ((i : Int) + (m : Int) * 1).toNat = i + m := by omega
    rw [this]
  rw [e]
  have := pick_run xs i k
  rw [List.filterMap_map] at this
  have e2 : ((fun x => xs[x]?) ∘ fun x => i + x) = fun m => xs[i + m]? := rfl
  rw [e2] at this
  rw [this]

theorem getItem_tuple_cut {t sl : Addr} {items : Array Value} {vl vu : Value} {lo hi : Option Int} {Q : Value → Shared → Prop} (ht : IsTup s.heap t items) (hs : s.heap.IsSliceOf sl vl vu .none) (pl : IsPart vl lo) (pu : IsPart vu hi)
    (hw : ¬ (sIx items.size 0 lo = 0 ∧ sIx items.size items.size hi = items.size))
    (h : Q (.ref s.heap.objs.size) { s with heap := s.heap.push { cls := .type "tuple", data := .seq ((items.toList.drop (sIx items.size 0 lo)).take (sIx items.size items.size hi - sIx items.size 0 lo)).toArray } })
    (hsz : items.size ≤ sizeLine) : wpAny (model prog w) A (getItem (.ref t) (.ref sl)) Q E s := by
  have htake : sizeOk (.seq ((items.toList.drop (sIx items.size 0 lo)).take (sIx items.size items.size hi - sIx items.size 0 lo)).toArray) := by
    show ((items.toList.drop (sIx items.size 0 lo)).take (sIx items.size items.size hi - sIx items.size 0 lo)).toArray.size ≤ sizeLine
    rw [List.size_toArray, List.length_take, List.length_drop, Array.length_toList]
    omega
  have hj : sIx items.size items.size hi ≤ items.size := sIx_le _ _ (Nat.le_refl _) hi
  obtain ⟨os, hos, hcs, hds⟩ := id hs
  have hTs : s.TypeIs (.ref sl) "slice" := ⟨os, hos, hcs⟩
  unfold getItem
  try with_reducible refine wpAny_holding ?_
  first | refine wpAny_bind (wpAny_pure ?_) | skip
  refine wpAny_bind (wpAny_sequenceKey ht.typeIs (by decide) ?_)
  refine wpAny_bind (wpAny_callSpecial?_slot (name := Str.ofString "__getitem__") ht.typeIs PyProof.Rows.slot_tuple_getitem
    (wpAny_call_entry PyProof.Rows.slot_tuple_getitem ht.typeIs entry_tuple_getitem ?_ (args_tuple_getitem _ _)))
  show wpAny _ _ (Builtin.Tuple.tupleItemsOf (.ref t) >>= _) _ _ s
  refine wpAny_bind (tupleItemsOf_ ht ?_)
  refine wpAny_bind (wpAny_typeOf hTs ?_)
  rw [if_pos (by decide)]
  refine wpAny_bind (sliceApplied_gen hs pl pu ?_)
  have hno : ¬ ((((sIx items.size 0 lo : Nat) : Int) == 0 && (1 : Int) == 1 && (sIx items.size items.size hi - sIx items.size 0 lo) == items.size) = true) := by
    intro q
    rw [Bool.and_eq_true, Bool.and_eq_true] at q
    have q1 : ((sIx items.size 0 lo : Nat) : Int) = 0 := eq_of_beq q.1.1
    have q2 : sIx items.size items.size hi - sIx items.size 0 lo = items.size := eq_of_beq q.2
    exact hw ⟨by omega, by omega⟩
  show wpAny _ _ (if (((sIx items.size 0 lo : Nat) : Int) == 0 && (1 : Int) == 1 && (sIx items.size items.size hi - sIx items.size 0 lo) == items.size) = true then _ else _) _ _ s
  rw [if_neg hno, pick_gen]
  first
    | exact wpAny_bind (m := Builtin.Tuple.tupleExact _) (wpAny_newObj_type (wpAny_pure ⟨_, rfl, wpAny_pure h⟩) htake)
    | exact wpAny_bind (m := Builtin.Tuple.tupleExact _) (wpAny_newObj_type (wpAny_bind (wpAny_pure (wpAny_pure ⟨_, rfl, wpAny_pure h⟩))) htake)
    | exact wpAny_bind (wpAny_bind (m := Builtin.Tuple.tupleExact _) (wpAny_newObj_type (wpAny_pure (wpAny_pure ⟨_, rfl, wpAny_pure h⟩)) htake))
    | exact wpAny_bind (wpAny_bind (m := Builtin.Tuple.tupleExact _) (wpAny_newObj_type (wpAny_pure ⟨_, rfl, wpAny_pure h⟩) htake))
end
end HT

namespace L2
open PySem PySem.Spec PyProof.Rows

/-! ### the parts of a slice -/
abbrev TO := St → Hp → (Option Int → Hp → Prop) → Prop
/-- a slice's part (left out, or an int) -/
def PO (X : Cx) (e : Option Expr) (t : TO) : Prop :=
  ∀ (pins : List (Addr × Obj)) (s : Shared) (σ : St) (H : Hp) (Q : Option Int → Hp → Prop), Inv X pins σ H s → t σ H Q →
    wpAny (model X.prog X.w) X.A (evalPart e X.env) (fun u s' => ∃ o H', Inv X pins σ H' s' ∧ IsPart u o ∧ Q o H') X.xe s
def tNoPart : TO := fun _ H Q => Q none H
def tPart (t : TE) : TO := fun σ H Q => t σ H fun x H1 => ∃ i, x = .int i ∧ Q (some i) H1

theorem intsAre_of {ns : List Int} : ∀ {us : List Value}, Vals (ns.map V.int) us → IntsAre us ns := by
  induction ns with
  | nil => intro us r; rw [List.map_nil] at r; cases r; exact .nil
  | cons n ns ih =>
    intro us r
    rw [List.map_cons] at r
    cases r with
    | cons r1 r2 =>
      obtain ⟨t, e⟩ := r1
      subst e
      exact .cons n t (ih r2)

section
variable {X : Cx} {e : Expr} {te : TE} {lo hi : Option Expr} {tl th : TO} {pos p2 : Pos}

theorem po_none : PO X none tNoPart := by
  intro pins s σ H Q I h
  rw [evalPart_none]
  exact wpAny_pure ⟨none, H, I, .none, h⟩
theorem po_some (h : PE X e te) : PO X (some e) (tPart te) := by
  intro pins s σ H Q I hw
  rw [evalPart_some]
  refine thn (h pins s σ H _ I hw) fun u s1 ⟨x, H1, I1, r1, q1⟩ => ?_
  obtain ⟨i, rfl, q⟩ := q1
  obtain ⟨t, rfl⟩ := r1
  exact ⟨some i, H1, I1, .int i t, q⟩

/-- what a slice of a value is, by values: the slice object stands at sl -/
def SlR (X : Cx) (r : V → Option Int → Option Int → Hp → VK → Prop) : Prop :=
  ∀ (pins : List (Addr × Obj)) (s : Shared) (σ : St) (H : Hp) (x : V) (v vl vu : Value) (lo hi : Option Int) (sl : Addr) (Q : VK), Inv X pins σ H s → RelV x v → s.heap.IsSliceOf sl vl vu .none → IsPart vl lo → IsPart vu hi → r x lo hi H Q →
    ∃ T id, typeLookup (.type T) "__getitem__" = pure (some (.builtin id)) ∧ s.TypeIs v T ∧ wpAny (model X.prog X.w) X.A (getItem v (.ref sl)) (EP X pins σ Q) X.xe s
theorem SlR.or {r r' : V → Option Int → Option Int → Hp → VK → Prop} (h : SlR X r) (h' : SlR X r') : SlR X (fun x lo hi H Q => r x lo hi H Q ∨ r' x lo hi H Q) := by
  intro pins s σ H x v vl vu lo hi sl Q I rx hs pl pu q
  rcases q with q | q
  · exact h pins s σ H x v vl vu lo hi sl Q I rx hs pl pu q
  · exact h' pins s σ H x v vl vu lo hi sl Q I rx hs pl pu q
def tSl (r : V → Option Int → Option Int → Hp → VK → Prop) (te : TE) (tl th : TO) : TE := fun σ H Q => te σ H fun x H1 => tl σ H1 fun l H2 => th σ H2 fun u H3 => r x l u H3 Q
/-- a[lo:hi], any a -/
theorem pe_slice {r : V → Option Int → Option Int → Hp → VK → Prop} (hr : SlR X r) (he : PE X e te) (hl : PO X lo tl) (hu : PO X hi th) : PE X (.Subscript e (.Slice lo hi none p2) pos) (tSl r te tl th) := by
  intro pins s σ H Q I h
  refine Subscript_ (thn (he pins s σ H _ I h) fun v s1 ⟨x, H1, I1, r1, q1⟩ => ?_)
  refine wpAny_Slice (thn (hl pins s1 σ H1 _ I1 q1) fun vl s2 ⟨l, H2, I2, pl, q2⟩ => thn (hu pins s2 σ H2 _ I2 q2) fun vu s3 ⟨u, H3, I3, pu, q3⟩ => ?_)
  rw [evalPart_none]
  refine wpAny_pure ?_
  have I4 : Inv X pins σ H3 { s3 with heap := s3.heap.push { cls := .type "slice", data := .fields #[vl, vu, .none] } } := I3.kept (t' := s3.toks) fun b ob q => Heap.get?_push_of_some _ q
  obtain ⟨T, id, hT, ht, hg⟩ := hr pins { s3 with heap := s3.heap.push { cls := .type "slice", data := .fields #[vl, vu, .none] } } σ H3 x v vl vu l u s3.heap.objs.size Q I4 r1 (Heap.IsSliceOf.new ..) pl pu q3
  show wpAny (model X.prog X.w) X.A (subscriptTail e (.Slice lo hi none p2) v (.ref s3.heap.objs.size)) (EP X pins σ Q) X.xe { s3 with heap := s3.heap.push { cls := .type "slice", data := .fields #[vl, vu, .none] } }
  exact tail_any (ops := [.ref s3.heap.objs.size, v]) ht hT hg (by with_unfolding_all rfl)

/-- the items of xs[lo:hi] -/
def cutV (xs : List V) (lo hi : Option Int) : List V := (xs.drop (HT.sIx xs.length 0 lo)).take (HT.sIx xs.length xs.length hi - HT.sIx xs.length 0 lo)
theorem cutV_length (xs : List V) (lo hi : Option Int) : (cutV xs lo hi).length ≤ xs.length := by
  unfold cutV
  rw [List.length_take, List.length_drop]
  omega
/-- t[lo:hi], not the whole of it (the whole would be t itself) -/
def rSlT (K : PySem.W.Frag) : V → Option Int → Option Int → Hp → VK → Prop := fun x lo hi H Q => ∃ a xs, x = .ref a ∧ SqT K H a xs ∧
  ¬ (HT.sIx xs.length 0 lo = 0 ∧ HT.sIx xs.length xs.length hi = xs.length) ∧ ∀ p, H p = none → Q (.ref p) (upd H p (.tup (cutV xs lo hi)))
theorem sl_tup : SlR X (rSlT X.K) := by
  intro pins s σ H x v vl vu lo hi sl Q I rx hs pl pu h
  obtain ⟨a, xs, rfl, hx, hw, q⟩ := h
  cases rx
  obtain ⟨its, r, ht, hz⟩ := I.tuple hx
  have hlen : its.toArray.size = xs.length := by rw [List.size_toArray]; exact r.length.symm
  refine ⟨"tuple", _, PyProof.Rows.slot_tuple_getitem.lookup, ht.typeIs, ?_⟩
  refine HT.getItem_tuple_cut ht hs pl pu (by rw [hlen]; exact hw) ?_ (by rw [hlen]; exact hz)
  rw [hlen]
  refine ⟨.ref s.heap.objs.size, _, I.laid (t' := s.toks) (o := .tup (cutV xs lo hi)) (fun b ob q => Heap.get?_push_of_some _ q) (Nat.le_refl _) ?_, rfl, q _ (I.hok.fresh (Nat.le_refl _))⟩
  exact ⟨Nat.le_trans (cutV_length xs lo hi) hz, _, (r.drop (HT.sIx xs.length 0 lo)).take (HT.sIx xs.length xs.length hi - HT.sIx xs.length 0 lo), IsTupD.new _ _⟩

/-! ### t < u, t + u -/
theorem Vals.nil_iff {xs : List V} {us : List Value} (r : Vals xs us) : us = [] ↔ xs = [] := by
  cases r with
  | nil => simp
  | cons _ _ => simp
end
end L2

namespace L2
open PySem PySem.Spec PyProof.Rows

/-! ### places -/
/-- the place that an index of any sign means -/
def ixN (n : Nat) (i : Int) : Option Nat := if 0 ≤ i then (if i < n then some i.toNat else none) else if -(n : Int) ≤ i then some (i + n).toNat else none
def atI {α : Type} (xs : List α) (i : Int) : Option α := (ixN xs.length i).bind fun j => xs[j]?
theorem ixN_seq {n : Nat} {i : Int} {j : Nat} (h : ixN n i = some j) : seqIndex? i n = some j ∧ j < n ∧ -(n : Int) ≤ i ∧ i < n := by
  unfold ixN at h
  by_cases h0 : 0 ≤ i
  · rw [if_pos h0] at h
    by_cases h1 : i < n
    · rw [if_pos h1] at h
      have e : i.toNat = j := Option.some.inj h
      exact ⟨by rw [seqIndex_of h0 h1, e], by omega, by omega, h1⟩
    · rw [if_neg h1] at h; cases h
  · rw [if_neg h0] at h
    by_cases h1 : -(n : Int) ≤ i
    · rw [if_pos h1] at h
      have e : (i + n).toNat = j := Option.some.inj h
      exact ⟨by rw [seqIndex_neg (by omega) h1, e], by omega, h1, by omega⟩
    · rw [if_neg h1] at h; cases h
theorem atI_get {α : Type} {xs : List α} {i : Int} {v : α} (h : atI xs i = some v) : ∃ j, seqIndex? i xs.length = some j ∧ xs[j]? = some v ∧ j < xs.length ∧ -(xs.length : Int) ≤ i ∧ i < xs.length := by
  unfold atI at h
  cases e : ixN xs.length i with
  | none => rw [e] at h; cases h
  | some j =>
    rw [e] at h
    obtain ⟨h1, h2, h3, h4⟩ := ixN_seq e
    exact ⟨j, h1, h, h2, h3, h4⟩
theorem atI_nat {α : Type} {xs : List α} {j : Nat} {v : α} (h : xs[j]? = some v) : atI xs (j : Int) = some v := by
  have hj : j < xs.length := (List.getElem?_eq_some_iff.mp h).1
  have e : ixN xs.length (j : Int) = some j := by
    unfold ixN
    rw [if_pos (by omega), if_pos (by omega)]; simp
  unfold atI; rw [e]; exact h
/-! ### what may be subscripted -/
/-- what stands as an index of a plain subscript -/
def PlainIx (b : Expr) : Prop := ∀ o i, subscripted b false o i = operate [o, i] (getItem o i)
/-- a subscript by values -/
def IxR (X : Cx) (r : R2) : Prop :=
  ∀ (value slice : Expr) (pins : List (Addr × Obj)) (s : Shared) (σ : St) (H : Hp) (x y : V) (v u : Value) (Q : VK), Inv X pins σ H s → RelV x v → RelV y u → r x y H Q →
    subscripted slice false v u = operate [v, u] (getItem v u) → wpAny (model X.prog X.w) X.A (subscriptTail value slice v u) (EP X pins σ Q) X.xe s
/-- a call of a builtin's method by values: the receiver, the arguments -/
def MtR (X : Cx) (id : String) (r : V → List V → Hp → VK → Prop) : Prop :=
  ∀ (pins : List (Addr × Obj)) (s : Shared) (σ : St) (H : Hp) (x : V) (xs : List V) (v : Value) (us : List Value) (Q : VK), Inv X pins σ H s → RelV x v → Vals xs us → r x xs H Q →
    wpAny (model X.prog X.w) X.A (call (.builtin id) (v :: us)) (EP X pins σ Q) X.xe s
section
variable {X : Cx} {a b : Expr} {ta tb : TE} {pos : Pos}
theorem IxR.or {r r' : R2} (h : IxR X r) (h' : IxR X r') : IxR X (fun x y H Q => r x y H Q ∨ r' x y H Q) := by
  intro value slice pins s σ H x y v u Q I rx ry q hs
  rcases q with q | q
  · exact h value slice pins s σ H x y v u Q I rx ry q hs
  · exact h' value slice pins s σ H x y v u Q I rx ry q hs
theorem MtR.or {id : String} {r r' : V → List V → Hp → VK → Prop} (h : MtR X id r) (h' : MtR X id r') : MtR X id (fun x xs H Q => r x xs H Q ∨ r' x xs H Q) := by
  intro pins s σ H x xs v us Q I rx rs q
  rcases q with q | q
  · exact h pins s σ H x xs v us Q I rx rs q
  · exact h' pins s σ H x xs v us Q I rx rs q
/-- a[b] -/
theorem pe_ix {r : R2} (hr : IxR X r) (ha : PE X a ta) (hb : PE X b tb) (hs : PlainIx b) : PE X (.Subscript a b pos) (tOp r ta tb) := by
  intro pins s σ H Q I h
  exact Subscript_ (binT ha hb I h fun v u s2 x y H2 I2 rx ry q => hr a b pins s2 σ H2 x y v u Q I2 rx ry q (hs _ _))

def rIxL (K : PySem.W.Frag) : R2 := fun x y H Q => ∃ p xs i v, x = .ref p ∧ y = .int i ∧ SqL K H p xs ∧ atI xs i = some v ∧ Q v H
def rIxT (K : PySem.W.Frag) : R2 := fun x y H Q => ∃ p xs i v, x = .ref p ∧ y = .int i ∧ SqT K H p xs ∧ atI xs i = some v ∧ Q v H
theorem ix_list : IxR X (rIxL X.K) := by
  intro value slice pins s σ H x y v u Q I rx ry h hs
  obtain ⟨p, xs, i, z, rfl, rfl, hq, he, q⟩ := h
  cases rx
  obtain ⟨t, rfl⟩ := ry
  obtain ⟨its, r, pl, hz⟩ := I.list hq
  obtain ⟨j, h1, h2, h3, h4, h5⟩ := atI_get he
  obtain ⟨w, ew, rw'⟩ := r.get h2
  have hl := r.length
  have hn := line63
  have fin : EP X pins σ Q w s := ⟨z, H, I, rw', q⟩
  by_cases h0 : 0 ≤ i
  · have hj : i.toNat = j := by
      rw [seqIndex_of h0 h5] at h1
      exact Option.some.inj h1
    exact item_listR pl.isList h0 (by omega) (by rw [hj]; simpa using ew) fin hs
  · have hj : (i + (its.toArray.size : Int)).toNat = j := by
      rw [seqIndex_neg (by omega) h4] at h1
      rw [List.size_toArray, ← hl]
      exact Option.some.inj h1
    exact subscriptTail_builtinR (x := w) pl.isList.typeIs slot_list_getitem.lookup
      (wpAny_getItem_list_neg (Q := fun r s' => r = w ∧ EP X pins σ Q r s') pl.isList (by omega) (by rw [List.size_toArray] <;> omega) (by omega) (by rw [hj]; simpa using ew) ⟨rfl, fin⟩) hs
theorem ix_tup : IxR X (rIxT X.K) := by
  intro value slice pins s σ H x y v u Q I rx ry h hs
  obtain ⟨p, xs, i, z, rfl, rfl, hq, he, q⟩ := h
  cases rx
  obtain ⟨t, rfl⟩ := ry
  obtain ⟨its, r, pl, hz⟩ := I.tuple hq
  obtain ⟨j, h1, h2, h3, h4, h5⟩ := atI_get he
  obtain ⟨w, ew, rw'⟩ := r.get h2
  have hl := r.length
  have hn := line63
  have fin : EP X pins σ Q w s := ⟨z, H, I, rw', q⟩
  exact subscriptTail_builtinR (x := w) pl.typeIs slot_tuple_getitem.lookup
    (getItem_tuple (j := j) (Q := fun r s' => r = w ∧ EP X pins σ Q r s') pl (by omega) (by omega) (by rw [List.size_toArray, ← hl]; exact h1) (by simpa using ew) ⟨rfl, fin⟩) hs
/-! ### xs[i] = v, any sign -/
/-- the list's object behind a store -/
theorem mapSeq_set (its : List Value) (n j : Nat) (u : Value) : Obj.mapSeq (·.setIfInBounds j u) { cls := .type "list", data := .seq its.toArray n } = { cls := .type "list", data := .seq (its.set j u).toArray n } := by
  simp [Obj.mapSeq]
theorem Inv.lst {pins : List (Addr × Obj)} {σ : St} {H : Hp} {s : Shared} {p : Addr} {xs : List V} (I : Inv X pins σ H s) (h : H p = some (.lst xs)) :
    ∃ (its : List Value) (n : Nat), Vals xs its ∧ s.heap.get? p = some { cls := .type "list", data := .seq its.toArray n } ∧ xs.length ≤ sizeLine := by
  obtain ⟨z, its, n, r, e⟩ := I.hok p _ h
  exact ⟨its, n, r, e, z⟩
/-- the list at p is written by an update of its object -/
theorem Inv.lstUpd {pins : List (Addr × Obj)} {σ : St} {H : Hp} {s : Shared} {p : Addr} {xs ys : List V} {its its' : List Value} {n n' : Nat} {f : Obj → Obj} (I : Inv X pins σ H s) (h : H p = some (.lst xs))
    (ho : s.heap.get? p = some { cls := .type "list", data := .seq its.toArray n }) (hf : f { cls := .type "list", data := .seq its.toArray n } = { cls := .type "list", data := .seq its'.toArray n' }) (r : Vals ys its') (hz : ys.length ≤ sizeLine) (t : Nat) :
    Inv X pins σ (upd H p (.lst ys)) { s with heap := s.heap.update p f, toks := t } := by
  have e : (s.heap.update p f).get? p = some { cls := .type "list", data := .seq its'.toArray n' } := by
    rw [Heap.get?_update_self f ho (by rw [hf] <;> rfl), hf]
  refine I.write (x := p) (e := p) (by rw [h]; trivial) (.inl rfl) (fun b u hb q => (Heap.get?_update_other _ _ (Ne.symm hb)).trans q) ⟨_, e⟩ ?_
  exact ⟨hz, its', n', r, e⟩
def rSetL : V → V → V → Hp → (Hp → Prop) → Prop := fun o i v H Q => ∃ p xs k j, o = .ref p ∧ i = .int k ∧ H p = some (.lst xs) ∧ ixN xs.length k = some j ∧ Q (upd H p (.lst (xs.set j v)))
theorem set_list : PSet X rSetL := by
  intro pins s σ H o i v ov iv u Q I ro ri rv h
  obtain ⟨p, xs, k, j, rfl, rfl, hp, hj, q⟩ := h
  cases ro
  obtain ⟨t, rfl⟩ := ri
  obtain ⟨its, n, r, ho, hz⟩ := I.lst hp
  obtain ⟨h1, h2, h3, h4⟩ := ixN_seq hj
  have hl := r.length
  have hn := line63
  have I' : Inv X pins σ (upd H p (.lst (xs.set j v))) { s with heap := s.heap.update p (Obj.mapSeq (·.setIfInBounds j u)) } :=
    I.lstUpd hp ho (mapSeq_set its n j u) (r.set rv j) (by rw [List.length_set]; exact hz) s.toks
  by_cases h0 : 0 ≤ k
  · have hk : k.toNat = j := by
      rw [seqIndex_of h0 h4] at h1
      exact Option.some.inj h1
    exact PySem.W.ki_setAt ho h0 (by omega) (by rw [List.size_toArray, ← hl]; exact h4) (by rw [hk]; exact ⟨_, I', q⟩)
  · have hk : (k + (its.toArray.size : Int)).toNat = j := by
      rw [seqIndex_neg (by omega) h3] at h1
      rw [List.size_toArray, ← hl]
      exact Option.some.inj h1
    exact PySem.W.ki_setBack ho (by omega) (by rw [List.size_toArray, ← hl]; exact h3) (by omega) (by rw [hk]; exact ⟨_, I', q⟩)

/-! ### slices -/
theorem slice_bounds (lo hi : Option Int) (n : Nat) : (sliceBounds lo hi none n).1 = ((HT.sIx n 0 lo : Nat) : Int) ∧ (sliceBounds lo hi none n).2.1 = ((HT.sIx n n hi : Nat) : Int) ∧ (sliceBounds lo hi none n).2.2 = 1 := by
  refine ⟨?_, ?_, rfl⟩
  · cases lo with
    | none => simp [sliceBounds, HT.sIx]
    | some i =>
      simp only [sliceBounds, HT.sIx, Option.getD_none, show (1 : Int) > 0 by decide, if_true]
      by_cases h : i < 0
      · simp only [h, if_true] <;> omega
      · simp only [h, if_false] <;> omega
  · cases hi with
    | none => simp [sliceBounds, HT.sIx]
    | some i =>
      simp only [sliceBounds, HT.sIx, Option.getD_none, show (1 : Int) > 0 by decide, if_true]
      by_cases h : i < 0
      · simp only [h, if_true] <;> omega
      · simp only [h, if_false] <;> omega
theorem slicePick_cut (its : List Value) (lo hi : Option Int) : slicePick its.toArray lo hi none = ((its.drop (HT.sIx its.length 0 lo)).take (HT.sIx its.length its.length hi - HT.sIx its.length 0 lo)).toArray := by
  obtain ⟨h1, h2, h3⟩ := slice_bounds lo hi its.toArray.size
  unfold slicePick
  rw [h1, h2, h3]
  simp only [sliceRange_one, pick_run, List.size_toArray] <;> rfl
/-- xs[lo:hi] of a list: a new list -/
def rSlL (K : PySem.W.Frag) : V → Option Int → Option Int → Hp → VK → Prop := fun x lo hi H Q => ∃ a xs, x = .ref a ∧ SqL K H a xs ∧ ∀ p, H p = none → Q (.ref p) (upd H p (.lst (cutV xs lo hi)))
theorem sl_list : SlR X (rSlL X.K) := by
  intro pins s σ H x v vl vu lo hi sl Q I rx hs pl pu h
  obtain ⟨a, xs, rfl, hx, q⟩ := h
  cases rx
  obtain ⟨its, r, ht, hz⟩ := I.list hx
  have hlen := r.length
  refine ⟨"list", _, slot_list_getitem.lookup, ht.isList.typeIs, ?_⟩
  refine wpAny_getItem_list_slice ht.isList hs pl pu .none (by simp) ?_ (by rw [List.size_toArray] <;> omega)
  rw [slicePick_cut, ← hlen]
  refine ⟨.ref s.heap.objs.size, _, I.laid (t' := s.toks) (o := .lst (cutV xs lo hi)) (fun b ob q => Heap.get?_push_of_some _ q) (Nat.le_refl _) ?_, rfl, q _ (I.hok.fresh (Nat.le_refl _))⟩
  exact ⟨Nat.le_trans (cutV_length xs lo hi) hz, _, 0, (r.drop (HT.sIx xs.length 0 lo)).take (HT.sIx xs.length xs.length hi - HT.sIx xs.length 0 lo), Heap.get?_push_size _ rfl⟩

/-! ### in, not in: flat items -/
/-! ### len, list(x), tuple(x) of any list or tuple that is read -/
theorem call_len_seq : CallR X (.builtin "len") (fun xs H Q => ∃ p ys, xs = [.ref p] ∧ (SqL X.K H p ys ∨ SqT X.K H p ys) ∧ Q (.int ys.length) H) := by
  intro pins s σ H xs us Q I r h
  obtain ⟨p, ys, rfl, hq, q⟩ := h
  obtain ⟨u, rfl, rx⟩ := vals1 r
  cases rx
  have hn := line63
  rcases hq with hq | hq
  · obtain ⟨its, r', pl, hz⟩ := I.list hq
    have hlen := r'.length
    exact Calls.call_len_list pl.isList (by simp only [List.size_toArray] <;> omega) ⟨.int ys.length, H, I.tok _, ⟨s.toks + 1, by rw [List.size_toArray, hlen]⟩, q⟩
  · obtain ⟨its, r', pl, hz⟩ := I.tuple hq
    have hlen := r'.length
    exact len_tuple pl (by simp only [List.size_toArray] <;> omega) ⟨.int ys.length, H, I.tok _, ⟨s.toks + 1, by rw [List.size_toArray, hlen]⟩, q⟩
theorem CallR.or {f : Value} {r r' : List V → Hp → VK → Prop} (h : CallR X f r) (h' : CallR X f r') : CallR X f (fun xs H Q => r xs H Q ∨ r' xs H Q) := by
  intro pins s σ H xs us Q I rs q
  rcases q with q | q
  · exact h pins s σ H xs us Q I rs q
  · exact h' pins s σ H xs us Q I rs q
theorem call_tuple_of : CallR X (.type "tuple") (fun xs H Q => ∃ p ys, xs = [.ref p] ∧ ((SqL X.K H p ys ∧ ∀ l, H l = none → Q (.ref l) (upd H l (.tup ys))) ∨ (SqT X.K H p ys ∧ Q (.ref p) H))) := by
  intro pins s σ H xs us Q I r h
  obtain ⟨p, ys, rfl, h⟩ := h
  obtain ⟨u, rfl, rx⟩ := vals1 r
  cases rx
  rcases h with ⟨hq, q⟩ | ⟨hq, q⟩
  · obtain ⟨its, r', pl, hz⟩ := I.list hq
    have hlen := r'.length
    refine call_tuple_list pl.isList (fun h' kp => ?_) (by simp only [List.size_toArray] <;> omega)
    have I1 : Inv X pins σ H { s with heap := h' } := I.kept (t' := s.toks) kp
    have I2 : Inv X pins σ (upd H h'.objs.size (.tup ys)) { s with heap := h'.push { cls := .type "tuple", data := .seq its.toArray } } :=
      I1.laid (t' := s.toks) (fun b o e => Heap.get?_push_of_some _ e) (Nat.le_refl _) (show ObjOk X.prog X.w _ _ _ (.tup ys) from ⟨hz, its, r', IsTupD.new _ _⟩)
    exact ⟨.ref h'.objs.size, _, I2, rfl, q _ (I1.hok.fresh (Nat.le_refl _))⟩
  · obtain ⟨its, r', pl, hz⟩ := I.tuple hq
    exact call_tuple_same pl ⟨.ref p, H, I, rfl, q⟩

/-! ### the call of a builtin's method: o.m(..) -/
/-- the value is of that builtin type -/
def tyV (K : PySem.W.Frag) (T : String) (x : V) (H : Hp) : Prop := match x with
  | .str _ => T = "str"
  | .int _ => T = "int"
  | .ref p => (T = "list" ∧ ∃ xs, SqL K H p xs) ∨ (T = "tuple" ∧ ∃ o, K.lookup p = some o ∧ o.cls = .type "tuple" ∧ o.dict = none) ∨
      (T = "dict" ∧ ((∃ kvs, H p = some (.dK kvs)) ∨ ∃ kvs, H p = some (.dT kvs))) ∨ (T = "set" ∧ ∃ S n, H p = some (.set S n))
  | _ => False
theorem tyV_is {pins : List (Addr × Obj)} {σ : St} {H : Hp} {s : Shared} {T : String} {x : V} {v : Value} (I : Inv X pins σ H s) (r : RelV x v) (ty : tyV X.K T x H) :
    s.TypeIs v T ∧ ∀ a, v = .ref a → ∃ ob, s.heap.get? a = some ob ∧ ob.dict = none := by
  cases x with
  | str z =>
    obtain ⟨t, rfl⟩ := r
    cases (show T = "str" from ty)
    exact ⟨typeIs_str s z t, fun _ e => nomatch e⟩
  | int i =>
    obtain ⟨t, rfl⟩ := r
    cases (show T = "int" from ty)
    exact ⟨typeIs_int s i t, fun _ e => nomatch e⟩
  | ref p =>
    cases r
    rcases ty with ⟨rfl, xs, hq⟩ | ⟨rfl, o, hk, hc, hd⟩ | ⟨rfl, hk⟩ | ⟨rfl, S, n, hk⟩
    · obtain ⟨its, _, pl, _⟩ := I.list hq
      refine ⟨pl.isList.typeIs, fun a e => ?_⟩
      cases e
      obtain ⟨o, n, e, c, hd, _⟩ := pl
      exact ⟨o, e, hd⟩
    · refine ⟨⟨o, I.kIn p o hk, hc⟩, fun a e => ?_⟩
      cases e
      exact ⟨o, I.kIn _ o hk, hd⟩
    · have z : ∃ o, s.heap.get? p = some o ∧ o.ExactDict := by
        rcases hk with ⟨kvs, hk⟩ | ⟨kvs, hk⟩
        · obtain ⟨_, _, _, _, o, _, _, e, ex, _⟩ := I.hok p _ hk
          exact ⟨o, e, ex⟩
        · obtain ⟨_, _, _, _, o, _, _, e, ex, _⟩ := I.hok p _ hk
          exact ⟨o, e, ex⟩
      obtain ⟨o, e, ex⟩ := z
      refine ⟨⟨o, e, ex.1⟩, fun a e2 => ?_⟩
      cases e2
      exact ⟨o, e, ex.2.1⟩
    · obtain ⟨o, _, _, _, e, ex, _⟩ := I.hok p _ hk
      refine ⟨⟨o, e, ex.1⟩, fun a e2 => ?_⟩
      cases e2
      exact ⟨o, e, ex.2.1⟩
  | _ => exact False.elim ty
def tBM (K : PySem.W.Frag) (T : String) (r : V → List V → Hp → VK → Prop) (to : TE) (t : TA) : TE := fun σ H Q => to σ H fun x H1 => tyV K T x H1 ∧ t σ H1 fun xs H2 => r x xs H2 Q
variable {o e : Expr} {es : List Expr} {to : TE} {t : TA} {name : Str} {apos cpos : Pos} {T id : String} {r : V → List V → Hp → VK → Prop}
theorem pe_bm (pa : PlainAttrs T) (slot : Slot T name id) (hty : typeOf (.builtin id) = pure (.type "method_descriptor")) (hm : MtR X id r) (ho : PE X o to) (ha : PA X (e :: es) t)
    (hbase : attributeBase o name X.env (eval o X.env) = eval o X.env := by rfl)
    (hfew : ((backTo cpos (starEach (e :: es) X.env)).all (fun x => !x.1) && (backToKw cpos (keywordEach [] X.env)).all (fun x => x.1.isSome)
      && decide ((e :: es).length + ([] : List Keyword).length + (if ([] : List Keyword).isEmpty then 0 else 1) < 30)) = true := by rfl)
    (hline : (apos.endLine == cpos.line) = true := by rfl) (hs : starEach (e :: es) X.env = (false, eval e X.env) :: starEach es X.env := by rfl) (hplain : (backTo cpos (starEach es X.env)).any (·.1) = false := by rfl) :
    PE X (.Call (.Attribute o name apos) (e :: es) [] cpos) (tBM X.K T r to t) := by
  intro pins s σ H Q I h
  refine wpAny_Call_method_late hbase hfew hline rfl (thn (ho pins s σ H _ I h) fun v s1 ⟨x, H1, I1, r1, ty, q1⟩ => ?_)
  obtain ⟨h1, h2⟩ := tyV_is I1 r1 ty
  refine ⟨T, id, pa, slot, hty, h1, h2, ?_⟩
  have hA := ha cpos pins s1 σ H1 _ I1 q1
  rw [hs] at hA ⊢
  refine Calls.callWith_builtin (by show (false || (backTo cpos (starEach es X.env)).any (·.1)) = false; rw [hplain] <;> rfl) (Calls.evalArgs_plain ?_)
  exact thn hA fun us s2 ⟨vs, H2, I2, r2, q2⟩ => hm pins s2 σ H2 x vs v us Q I2 r1 r2 q2
/- xs.append(e), list.index on a module's tuple .. are MtR facts of 06m -/
end
end L2

namespace L2
open PySem PySem.Spec PyProof.Rows

def MtM (X : Cx) (id : String) (r : V → List V → Hp → VK → Prop) : Prop :=
  ∀ (pins : List (Addr × Obj)) (s : Shared) (σ : St) (H : Hp) (x : V) (xs : List V) (v : Value) (us : List Value) (Q : VK), Inv X pins σ H s → RelV x v → Vals xs us → r x xs H Q →
    wpAny (model X.prog X.w) X.A (call (.builtin id) (v :: us)) (EP X pins σ Q) X.xe s

/-! ### lists of values -/
theorem Vals.one : ∀ {x : V} {us : List Value}, Vals [x] us → ∃ u, us = [u] ∧ RelV x u
  | _, _, .cons r .nil => ⟨_, rfl, r⟩
theorem Vals.two : ∀ {x y : V} {us : List Value}, Vals [x, y] us → ∃ u v, us = [u, v] ∧ RelV x u ∧ RelV y v
  | _, _, _, .cons r (.cons q .nil) => ⟨_, _, rfl, r, q⟩
theorem Vals.zero : ∀ {us : List Value}, Vals [] us → us = []
  | _, .nil => rfl
theorem Vals.reverse {xs : List V} {us : List Value} (h : Vals xs us) : Vals xs.reverse us.reverse := by
  induction h with
  | nil => exact .nil
  | cons r t ih => rw [List.reverse_cons, List.reverse_cons]; exact Vals.append ih (.cons r .nil)
theorem Vals.rep {xs : List V} {us : List Value} (h : Vals xs us) : ∀ k : Nat, Vals (List.replicate k xs).flatten (List.replicate k us).flatten
  | 0 => .nil
  | k + 1 => by
    rw [List.replicate_succ, List.replicate_succ, List.flatten_cons, List.flatten_cons]
    exact Vals.append h (Vals.rep h k)
theorem foldl_rep (its : List Value) : ∀ (k : Nat) (acc : List Value),
    List.foldl (fun x1 x2 => x1 ++ x2) acc.toArray (List.replicate k its.toArray) = (acc ++ (List.replicate k its).flatten).toArray
  | 0, acc => by simp
  | k + 1, acc => by
    have e : acc.toArray ++ its.toArray = (acc ++ its).toArray := by simp
    have e2 : (acc ++ its) ++ (List.replicate k its).flatten = acc ++ (List.replicate (k + 1) its).flatten := by
      rw [List.replicate_succ, List.flatten_cons, List.append_assoc]
    rw [← e2, ← foldl_rep its k (acc ++ its), ← e, List.replicate_succ, List.foldl_cons]

section
variable {X : Cx} {pins : List (Addr × Obj)} {σ : St} {H : Hp} {s : Shared} {l b : Addr} {xs ys zs : List V}

/-! ### the two steps: a tracked list is rewritten, a new list is laid -/
theorem Inv.lset {its its' : List Value} {n : Nat} {f : Array Value → Array Value} {t' : Nat} (I : Inv X pins σ H s) (hH : H l = some (.lst xs))
    (e : s.heap.get? l = some { cls := .type "list", data := .seq its.toArray n }) (hf : f its.toArray = its'.toArray) (hv : Vals ys its') (hz : ys.length ≤ sizeLine) :
    Inv X pins σ (upd H l (.lst ys)) { s with heap := s.heap.update l (Obj.mapSeq f), toks := t' } := by
  have q := PySem.IsL.update e f
  rw [hf] at q
  refine I.write (x := l) (e := l) (by rw [hH]; exact trivial) (.inl rfl) (fun b' u hb hu => (Heap.get?_update_other s.heap (Obj.mapSeq f) (Ne.symm hb)).trans hu) ⟨_, q⟩ ?_
  exact ⟨hz, its', _, hv, q⟩
theorem Inv.lnew {its : List Value} {t' : Nat} (I : Inv X pins σ H s) (hv : Vals ys its) (hz : ys.length ≤ sizeLine) :
    Inv X pins σ (upd H s.heap.objs.size (.lst ys)) { s with heap := s.heap.push { cls := .type "list", data := .seq its.toArray }, toks := t' } :=
  I.laid (fun _ _ q => Heap.get?_push_of_some _ q) (Nat.le_refl _) ⟨hz, its, 0, hv, Heap.get?_push_size _ rfl⟩
theorem Inv.fresh (I : Inv X pins σ H s) : H s.heap.objs.size = none := I.hok.fresh (Nat.le_refl _)
theorem Inv.lstM (I : Inv X pins σ H s) (hH : H l = some (.lst xs)) : xs.length ≤ sizeLine ∧ ∃ (its : List Value) (n : Nat), Vals xs its ∧ xs.length = its.length ∧ s.heap.get? l = some { cls := .type "list", data := .seq its.toArray n } := by
  obtain ⟨z, its, n, r, e⟩ := I.hok l _ hH
  exact ⟨z, its, n, r, r.length, e⟩

theorem notLongL {n : Nat} (h : n ≤ sizeLine) : Builtin.List.listTooLong n = false := by
  unfold Builtin.List.listTooLong
  exact decide_eq_false (by omega)
end

section
variable {X : Cx}

/-! ### methods -/
def rAppend : V → List V → Hp → VK → Prop := fun x vs H Q => ∃ l xs y, x = .ref l ∧ vs = [y] ∧ H l = some (.lst xs) ∧ xs.length < sizeLine ∧ Q .non (upd H l (.lst (xs ++ [y])))
theorem mt_append : MtM X "list.append" rAppend := by
  intro pins s σ H x vs v us Q I rx rv h
  obtain ⟨l, xs, y, rfl, rfl, hH, hz, q⟩ := h
  cases rx
  obtain ⟨u, rfl, ru⟩ := rv.one
  obtain ⟨z, its, n, r, hl, e⟩ := I.lstM hH
  refine call_meets F.slot_list_append ⟨_, e, rfl⟩ F.entry_list_append (F.args_list_append_2 _ _) (PySem.list_append l its.toArray n u (by rw [List.size_toArray]; omega)) ⟨e, ?_⟩
  refine ⟨.non, _, I.lset (its' := its ++ [u]) hH e (by simp) (r.append (.cons ru .nil)) ?_, rfl, q⟩
  rw [List.length_append, List.length_singleton]
  omega

/-! ### list + list, list += list, list * int -/
def rCat : R2 := fun x y H Q => ∃ l b xs zs, x = .ref l ∧ y = .ref b ∧ H l = some (.lst xs) ∧ H b = some (.lst zs) ∧ xs.length + zs.length ≤ sizeLine ∧ ∀ p, H p = none → Q (.ref p) (upd H p (.lst (xs ++ zs)))
theorem op_cat : OpR X (binaryOp .Add) rCat := by
  intro pins s σ H x y v u Q I rx ry h
  obtain ⟨l, b, xs, zs, rfl, rfl, hH, hB, hz, q⟩ := h
  cases rx
  cases ry
  obtain ⟨z, its, n, r, hl, e⟩ := I.lstM hH
  obtain ⟨z2, its2, n2, r2, hl2, e2⟩ := I.lstM hB
  refine PySem.P.add_list e e2 ?_ (by rw [List.size_toArray, List.size_toArray]; omega)
  have ea : its.toArray ++ its2.toArray = (its ++ its2).toArray := by simp
  rw [ea]
  exact ⟨.ref _, _, I.lnew (t' := s.toks) (r.append r2) (by rw [List.length_append]; omega), rfl, q _ I.fresh⟩
/-- a list times an int (a negative one is nothing) -/
def rRep : R2 := fun x y H Q => ∃ l k xs, x = .ref l ∧ y = .int k ∧ H l = some (.lst xs) ∧ -(2 ^ 63) ≤ k ∧ k < 2 ^ 63 ∧ xs.length * k.toNat ≤ sizeLine ∧
  ∀ p, H p = none → Q (.ref p) (upd H p (.lst (List.replicate k.toNat xs).flatten))
theorem len_rep {α : Type} (xs : List α) (k : Nat) : (List.replicate k xs).flatten.length = k * xs.length := by
  induction k with
  | zero => simp
  | succ k ih => rw [List.replicate_succ, List.flatten_cons, List.length_append, ih, Nat.succ_mul, Nat.add_comm]
theorem op_rep : OpR X (binaryOp .Mult) rRep := by
  intro pins s σ H x y v u Q I rx ry h
  obtain ⟨l, k, xs, rfl, rfl, hH, h1, h2, hz, q⟩ := h
  cases rx
  obtain ⟨t, rfl⟩ := ry
  obtain ⟨z, its, n, r, hl, e⟩ := I.lstM hH
  have hlen : its.toArray.size * k.toNat ≤ sizeLine := by rw [List.size_toArray, ← hl]; exact hz
  have hcap : ¬ its.toArray.size * k.toNat > (2 ^ 63 - 1) / 8 := by
    have : (sizeLine : Nat) ≤ (2 ^ 63 - 1) / 8 := by decide
    omega
  have hfit : ¬ (!Builtin.List.listFitsIndex k) = true := by
    rw [fitsIndex_both h1 h2]
    exact Bool.false_ne_true
  have hlong : ¬ Builtin.List.listTooLong (its.toArray.size * k.toNat) = true := by
    rw [notLongL hlen]
    exact Bool.false_ne_true
  have hnew : List.foldl (fun x1 x2 => x1 ++ x2) #[] (List.replicate (if its.toArray.isEmpty = true then 0 else k.toNat) its.toArray) = (List.replicate k.toNat its).flatten.toArray := by
    have f0 : ∀ m : Nat, List.foldl (fun x1 x2 => x1 ++ x2) #[] (List.replicate m its.toArray) = (List.replicate m its).flatten.toArray := fun m => by
      have := foldl_rep its m []
      rw [List.nil_append] at this
      exact this
    rw [f0]
    cases its with
    | nil => simp
    | cons a r' => rw [if_neg (by simp)]
  refine wpAny_binaryOp_repeat_ref (T := "list") (U := "int") (by decide) ⟨_, e, rfl⟩ (fun s' => typeIs_int s' k t) noFill_list_mul F.fills_int_mul F.slot_int_rmul repeat_list F.slot_int_index.lookup
    (call_meets F.slot_int_rmul (typeIs_int s k t) F.entry_int_rmul (F.args_int_rmul_2 _ _) (int___rmul___int_list k t l its.toArray n)
      ⟨e, rfl, ⟨_, e, rfl⟩, call_meets F.slot_list_mul ⟨_, e, rfl⟩ F.entry_list_mul (F.args_list_mul_2 _ _) (AutoListH.list___mul___list_int_3 l its.toArray n k t hfit hcap hlong) ⟨e, ?_⟩⟩)
  rw [hnew]
  exact ⟨.ref _, _, I.lnew (t' := s.toks) (r.rep k.toNat) (by rw [len_rep, Nat.mul_comm]; exact hz), rfl, q _ I.fresh⟩

/-! ### del xs[i] -/
end

/-! ### xs[a:b] = ys -/
section
variable {prog : Program} {w : World} {A : Around} {E : Value → Shared → Prop} {s : Shared}
end

section
variable {X : Cx}
end
end L2

namespace Att
open PySem PySem.W PySem.Calls PyProof.Rows

/-! ### the script -/
theorem ints_of_wellAll {P : Params} {h : Heap} : ∀ (ns : List Int) (vs : List Value), WellAll P h vs (ns.map WData.int) → IntsAre vs ns := by
  intro ns
  induction ns with
  | nil =>
    intro vs w
    rw [List.map_nil] at w
    cases w
    exact .nil
  | cons n ns ih =>
    intro vs w
    rw [List.map_cons] at w
    cases w with
    | cons a b =>
      cases a
      exact .cons _ _ (ih _ b)

theorem script_of {l : OpenLaw} {n : Nat} (hn : l.most = some n) {P : Params} {h : Heap} {args : List WData} {vals : List Value}
    (hpre : l.row.toRowW.claim.pre args = true) (hwl : WellAll P h vals args) :
    ∃ a vs ns, vals = [Value.ref a] ∧ args = [WData.list (ns.map WData.int)] ∧ h.get? a = some { cls := .type "list", data := .seq vs.toArray } ∧ IntsAre vs ns ∧ ns.length ≤ n := by
  have hsh : WShape.hasAll [] args [.list .int] = true := (pre_splitW hpre).1
  have hc : l.pre.holds [] { args := args } = true := (pre_splitW hpre).2
  obtain ⟨d, r, rfl, h1, h2⟩ := hasAllW_cons hsh
  obtain rfl := hasAllW_nil h2
  obtain ⟨xs, rfl, h3⟩ := hasW_list h1
  obtain ⟨ns, rfl⟩ := items_int h3
  have hlen : ns.length ≤ n := by
    unfold OpenLaw.pre at hc
    have h4 : (WTm.not (.lt (.lit (.int (n : Int))) (.len (.arg 0)))).holds [] { args := [.list (ns.map .int)] } = true := by
      have h4 := (holds_andW hc).1
      rw [hn] at h4
      exact h4
    have h5 := condW_of h4 (w_not (w_lt w_lit (w_len_list (w_arg rfl))))
    rw [List.length_map] at h5
    refine Nat.le_of_not_lt fun q => ?_
    have q' : (n : Int) < ((ns.length : Nat) : Int) := by omega
    first
      | (rw [decide_eq_true q'] at h5; exact absurd h5 (by decide))
      | (simp at h5; omega)
  cases hwl with
  | cons w1 w2 =>
    cases w2
    cases w1 with
    | list ho hall => exact ⟨_, _, ns, rfl, rfl, ho, ints_of_wellAll ns _ hall, hlen⟩

theorem post_true (l : OpenLaw) (args : List WData) : l.row.toRowW.claim.post args (.bool true) args = true :=
  postW_of (r := l.row.toRowW) (X := (true == true))
    (show WShape.has [] (.bool true) .bool = true by first | rfl | decide | simp [WShape.has, WShape.arms, WShape.armsAll])
    (show (WTm.eq .res (.lit (.bool true))).value [] { args := args, res := some (.bool true), after := args } = some (.bool (true == true)) from w_eq_bool (w_res rfl) w_lit) rfl

/-! ### the attachment: holds_open's last premise (the goal 'hc' behind k_head) from a wpAny of the law's body -/
/-- the same from a codeAny of the CALL (for a layer whose function contracts speak of calls) -/
theorem attach_call {l : OpenLaw} {n : Nat} {q : Program} {loose : List Str} {XP : (Str → Option Value) → Heap → Prop} {YP : World → Heap → Prop} {d : DefRec}
    (hn : l.most = some n) (hdf : d.params.defaults = [])
    (call : ∀ (w : World) (s₀ s₁ : Shared) (mg mb : Str → Option Value) (fa : Addr) (o : Obj) (pm cd doc : Value) (a : Addr) (vs : List Value) (ns : List Int),
      Ground q loose [] XP w s₀ mg mb s₁.heap → YP w s₁.heap →
      s₁.heap.get? fa = some o → o.data = .func (docDef d.name d.params d.body d.scope pm cd doc) → s₁.heap.CodeRec cd d.name → mg d.name = some (.ref fa) →
      s₁.heap.get? a = some { cls := .type "list", data := .seq vs.toArray } → IntsAre vs ns → ns.length ≤ n → s₁.gens = #[] →
      codeAny (model l.prog w) callerA (.call (.ref fa) ⟨[.ref a], []⟩) (fun r s' => r = .ok (.ret (.bool true)) ∧ OldK s₁.heap s'.heap ∧ s'.os = s₁.os ∧ AllBare s'.gens) s₁) :
    WalkO q loose XP YP l.row.toRowW d [] (fun f vs => PySem.call f vs) := by
  intro w s₀ s₁ mg mb G Y fa o pm cd doc dV kV ho hd hcd hD hmg hg args vals as hpre hlay hrd hwl hlo
  obtain rfl : dV = .none := Dflts.none hD hdf
  obtain rfl : kV = .none := Dflts.noKw hD
  obtain ⟨a, vs, ns, rfl, rfl, hobj, hints, hlen⟩ := script_of hn hpre hwl
  refine enter_call (codeAny_mono (call w s₀ s₁ mg mb fa o pm cd doc a vs ns G Y ho (fd_plain hd) hcd hmg hobj hints hlen hg) fun r s' hq => ?_)
  obtain ⟨rfl, h2, h3, h4⟩ := hq
  exact ⟨.inl ⟨.bool true, .bool true, [], rfl, fun _ => rfl, .bool true, post_true l _, fun _ => ⟨List.Pairwise.nil, fun _ hm => (nomatch hm)⟩⟩, h2, h3, h4⟩

/-! ### rules over ANY heap (no ledger) from facts about the written part K: the library's own take a ledger (News) for what they write -/
section
variable {prog : Program} {w : World} {A : Around} {E : Value → Shared → Prop} {s : Shared} {K : Frag}

/-! the whole heap as the ledger: makes every rule that writes through a ledger a rule over any heap -/
def ledger (h : Heap) (L d : Addr) : List (Addr × Obj) := (List.range h.objs.size).filterMap fun a => if a = L ∨ a = d then none else (h.get? a).map fun o => (a, o)
end
end Att

namespace L2
open PySem PySem.Spec PyProof.Rows

theorem vals_ints : ∀ {vs : List Value} {ns : List Int}, IntsAre vs ns → Vals (ns.map V.int) vs
  | _, _, .nil => .nil
  | _, _, .cons n t h => .cons ⟨t, rfl⟩ (vals_ints h)

/-- nothing is tracked but the script, known to the object (or it is an object of the module) -/
def Only (H : Hp) : Prop := ∀ b, H b = none ∨ ∃ o xs, H b = some (.frz o (.lst xs))

/-- THE HEAD: the law's promise, at the heap behind the top. F, the promise of the law's def, may use that base is part of the heap (so K.In base, base.Ns mainGlobals mg stand in Mod) -/
theorem law_call {P : Program} {w : World} {K : PySem.W.Frag} {mg mb : Str → Option Value} {CX : CXT} {k : Nat} {fa a : Addr} {fd : FuncData} {x : Str} {sp : Sp} {s₁ : Shared} {vs : List Value} {ns : List Int}
    (KX : K.In s₁.heap) (hns : s₁.heap.Ns mainGlobals mg) (hb : s₁.heap.Ns builtinsNs mb) (hbb : ∀ x : Str, x ≠ "__name__" → mb x = bootBuiltins x) (hlim : s₁.heap.NoLimit) (hg : s₁.gens = #[])
    (ha : s₁.heap.get? a = some { cls := .type "list", data := .seq vs.toArray }) (hi : IntsAre vs ns) (hl : ns.length ≤ sizeLine) (hr : Room k callerA)
    (F : ∀ base : Heap, K.In base → base.Ns mainGlobals mg → FnOk P w K mg base CX k fa fd [x] sp) (hbind : ∀ (s : Shared) (u : Value), BindsTo s fd ⟨[u], []⟩ [(x, u)])
    (hsp : ∀ H : Hp, Only H → SqL K H a (ns.map V.int) → sp [.ref a] H (fun v _ => v = .bl true) fun _ _ _ => False)
    (hCX : ∀ H e s', CX [] H s₁ (fun _ _ _ => False) e s' → False) :
    codeAny (model P w) callerA (.call (.ref fa) ⟨[.ref a], []⟩) (fun r s' => r = .ok (.ret (.bool true)) ∧ OldK s₁.heap s'.heap ∧ s'.os = s₁.os ∧ AllBare s'.gens) s₁ := by
  have rv := vals_ints hi
  have lenV := hi.length
  -- from an abstract heap in which nothing but the script may be tracked
  have core : ∀ H : Hp, Only H → SqL K H a (ns.map V.int) → HOk P w H s₁.heap → (∀ b, H b ≠ none → b = a) → (H a ≠ none → K.lookup a = none) →
      codeAny (model P w) callerA (.call (.ref fa) ⟨[.ref a], []⟩) (fun r s' => r = .ok (.ret (.bool true)) ∧ OldK s₁.heap s'.heap ∧ s'.os = s₁.os ∧ AllBare s'.gens) s₁ := by
    intro H hO hS hok hA hK
    have base_of : ∀ {b : Addr} {o : Obj}, s₁.heap.get? b = some o → H b = none → (hidT s₁.heap H).get? b = some o := fun e n => hidT_get e n
    have noA : ∀ {b : Addr} {o : Obj} {es : Array DictEntry} {ep : Nat}, s₁.heap.get? b = some o → o.data = .dict es ep → H b = none := fun {b o es ep} e d => by
      cases q : H b with
      | none => rfl
      | some u =>
        have e' : b = a := hA b (by rw [q]; simp)
        subst e'
        rw [ha] at e; cases e
        have d' : Data.seq vs.toArray _ = Data.dict es ep := d
        cases d'
    have nsK : ∀ {b : Addr} {m : Str → Option Value}, s₁.heap.Ns b m → (hidT s₁.heap H).Ns b m := fun {b m} ⟨o, es, ep, e, d, r⟩ => ⟨o, es, ep, base_of e (noA e d), d, r⟩
    have hKb : K.In (hidT s₁.heap H) := fun b o e => base_of (KX b o e) (by
      cases q : H b with
      | none => rfl
      | some u =>
        have e' : b = a := hA b (by rw [q]; simp)
        subst e'
        rw [hK (by rw [q]; simp)] at e; cases e)
    have hM : Mod K mg (hidT s₁.heap H) := ⟨hKb, nsK hns, ⟨mb, nsK hb, hbb⟩, let ⟨mc, h1, h2⟩ := hlim; ⟨mc, nsK h1, h2⟩⟩
    have e0 : Env0 P w K mg (hidT s₁.heap H) callerA [] s₁ H := ⟨rfl, hM, fun b o e => of_hidT e, Nat.le_of_eq (hidT_size _ _), trivial, fun b hb => absurd (show b ∈ ([] : List Addr) from hb) (by simp), hok, .of_eq hg⟩
    refine codeAny_mono ((F _ hKb (nsK hns)).run callerA [] s₁ H ⟨[.ref a], []⟩ [.ref a] [.ref a] _ _ hr e0 (hbind s₁ (.ref a)) (.cons rfl .nil) (hsp H hO hS)) fun r s' h => ?_
    cases r with
    | error e => exact (hCX H e s' h).elim
    | ok fl =>
      cases fl with
      | next => exact False.elim h
      | brk => exact False.elim h
      | cont => exact False.elim h
      | ret u =>
        obtain ⟨v, H', os, bare, un, hok', r', q⟩ := h
        have q' : v = .bl true := q
        subst q'
        obtain rfl : u = Value.bool true := r'
        refine ⟨rfl, OldK.of_keep fun b o e => ?_, os, bare⟩
        cases q : H b with
        | none => exact un.keep b o e q (by intro z; exact absurd (show b ∈ ([] : List Addr) from z) (by simp)) (by simp)
        | some u =>
          rcases hO b with z | ⟨ob, xs, z⟩
          · rw [q] at z; cases z
          · have z2 := un.frzs b ob _ z
            obtain ⟨e1, _⟩ := hok b _ z
            obtain ⟨e2, _⟩ := hok' b _ z2
            rw [e] at e1; cases e1
            exact e2
  cases hk : K.lookup a with
  | some o =>
    -- the script is one of the module's own objects
    have e := KX a o hk
    rw [ha] at e
    cases e
    refine core (fun _ => none) (fun _ => .inl rfl) (.inr ⟨_, vs.toArray, _, hk, rfl, rfl, rfl, by rw [List.size_toArray, lenV]; exact hl, by simpa using rv⟩) (fun b u z => by have z' : (none : Option HO) = some u := z; cases z') (fun b z => absurd rfl z) fun z => absurd rfl z
  | none =>
    refine core (fun b => if b = a then some (.frz { cls := .type "list", data := .seq vs.toArray } (.lst (ns.map V.int))) else none) (fun b => ?_) (.inl (.inr ⟨{ cls := .type "list", data := .seq vs.toArray }, if_pos rfl⟩)) (fun b u z => ?_) (fun b z => ?_) fun _ => hk
    · by_cases hb : b = a
      · exact .inr ⟨_, _, if_pos hb⟩
      · exact .inl (if_neg hb)
    · by_cases hb : b = a
      · have z' := (if_pos hb).symm.trans z
        cases z'
        subst hb
        exact ⟨ha, by rw [List.length_map]; exact hl, vs, _, rv, ha⟩
      · have z' := (if_neg hb).symm.trans z
        cases z'
    · by_cases hb : b = a
      · exact hb
      · exact absurd (if_neg hb) z
end L2

namespace L2
open PySem PySem.Spec PyProof.Rows

abbrev KOf {K : PySem.W.Frag} {h : Heap} (_ : K.In h) : PySem.W.Frag := K

/-- the goal that k_head leaves (case hc), from the law's promise. F gives the function object fd (K's own) once, then the promise over every base -/
theorem walk_of {l : PySem.W.OpenLaw} {n k : Nat} {q : Program} {loose : List Str} {XP : (Str → Option Value) → Heap → Prop} {YP : World → Heap → Prop} {d : DefRec} {K : Params → PySem.W.Frag} {CX : World → CXT} {sp : World → Sp} {x : Str}
    (hn : l.most = some n) (hn2 : n ≤ sizeLine) (hdf : d.params.defaults = []) (hr : Room k callerA)
    (hY : ∀ (w : World) (h : Heap), YP w h → (K w.params).In h)
    (F : ∀ (w : World) (mg : Str → Option Value) (fa : Addr) (h : Heap), (K w.params).In h → h.Ns mainGlobals mg → mg d.name = some (.ref fa) →
      ∃ fd : FuncData, (∀ (s : Shared) (u : Value), BindsTo s fd ⟨[u], []⟩ [(x, u)]) ∧
        ∀ base : Heap, (K w.params).In base → base.Ns mainGlobals mg → FnOk l.prog w (K w.params) mg base (CX w) k fa fd [x] (sp w))
    (hsp : ∀ (w : World) (H : Hp) (a : Addr) (ns : List Int), ns.length ≤ n → Only H → SqL (K w.params) H a (ns.map V.int) → sp w [.ref a] H (fun v _ => v = .bl true) fun _ _ _ => False)
    (hCX : ∀ (w : World) (H : Hp) (s : Shared) (e : Value) (s' : Shared), CX w [] H s (fun _ _ _ => False) e s' → False) :
    PySem.W.WalkO q loose XP YP l.row.toRowW d [] (fun f vs => PySem.call f vs) := by
  refine Att.attach_call hn hdf fun w s₀ s₁ mg mb fa o pm cd doc a vs ns G Y ho hd hcd hmg hobj hints hlen hg => ?_
  have KX := hY w _ Y
  obtain ⟨fd, hb, hF⟩ := F w mg fa _ KX G.T.g hmg
  exact law_call KX G.T.g G.T.b G.T.builtins G.T.nolimit hg hobj hints (Nat.le_trans hlen hn2) hr hF hb (fun H hO hS => hsp w H a ns hlen hO hS) fun H e s' => hCX w H s₁ e s'
end L2

/- THE LAST THEOREM (shape; LID, My.* are yours):
   My.Adr: a structure of the addresses that your layer names (classes, functions); My.Txt K t: a structure (Prop) of the equations over K;
   My.txt_mk : {K} {implicit addresses ..} (e1 : nsIn K mainGlobals "law" = some (some (.ref f))) (e2 : K.lookup f = some ⟨oc, od, .func (fnOf "law" "law" params body scope dV kV doc pm an cdv ct), sl⟩) (e3 : codeIn K cdv "law" = true) .. : ∃ t, My.Txt K t

set_option maxRecDepth 100000 in
set_option maxHeartbeats 0 in
theorem PySem.Challenge.cw_LID_holds : PySem.Challenge.rw_LID.Holds := by
  w_on; o_law; k_head; (case hw => w_witness2)
  k_fill
  refine L2.walk_of (l := PySem.Challenge.rw_LID) (n := 63) (k := 40) (x := "script") (CX := fun w => ..) (sp := fun _ => My.sp_law) rfl (by decide) rfl ⟨rfl, by decide, by decide⟩ (fun w h Y => PySem.W.kIn_of Y) ?F ?S ?C
  case F =>
    intro w mg fa h KX G hmg
    have T : ∃ t, My.Txt (L2.KOf KX) t := by
      dsimp only [L2.KOf]                          -- K must stand as «<heap const> w.params» for k_is
      refine' My.txt_mk ?e1 ?e2 ?e3 ..
      (case e1 => PySem.W.k_is)                    -- in the order: a name -> its address -> its object -> its parts
      (case e2 => PySem.W.k_is)
      ..
    obtain ⟨t, T⟩ := T
    have e0 := hmg.symm.trans (PySem.W.mg_of KX G T.law)
    cases e0                                       -- fa is the law's own address
    exact ⟨_, fun s u => .of_eq rfl, fun base kb nb => My.law_fn T kb nb⟩     -- if «.of_eq rfl» comes too early: refine' ⟨_, ?b, fun base kb nb => My.law_fn T kb nb⟩; exact fun s u => .of_eq rfl
  case S => exact fun w H a ns hl hO hS => ..
  case C => exact ..
(the tactic k_is has no namespace: write k_is) -/

/-! SHORT WORDS over the layer: a def of the text, its body, what a loop and a test want. -/
namespace L2
open PySem PySem.Spec PyProof.Rows

/-! ### the text by places -/
def defArgs (s : Stmt) : Arguments := match s with
  | .FunctionDef _ a _ _ _ _ _ _ _ _ => a
  | _ => { posonlyargs := [], args := [], vararg := none, kwonlyargs := [], kw_defaults := [], kwarg := none, defaults := [] }
def defBody (s : Stmt) : List Stmt := match s with
  | .FunctionDef _ _ b _ _ _ _ _ _ _ => b
  | _ => []
def defScope (s : Stmt) : Scope := match s with
  | .FunctionDef _ _ _ _ _ _ sc _ _ _ => sc
  | _ => { kind := .function, names := [], isGenerator := false, isCoroutine := false }

/-! ### no exception leaves a def -/
abbrev CX0 : CXT := fun _ _ _ _ _ _ => False
abbrev E0 : XK := fun _ _ _ => False
theorem pass0 {X : Cx} : Passes CX0 X E0 := fun _ _ _ _ _ _ _ h => h.elim

/-! ### a def (or method) of the text as it stands behind the top -/
structure Fun (K : PySem.W.Frag) (x qual : Str) (st : Stmt) (f : Addr) (fd : FuncData) : Prop where
  ex : ∃ (oc : Value) (od : Option Addr) (kV doc pm : Value) (an : Option Addr) (cdv ct : Value) (osl : Array (Option Value)),
    fd = PySem.W.fnOf x qual (defArgs st) (defBody st) (defScope st) .none kV doc pm an cdv ct ∧ K.lookup f = some ⟨oc, od, .func fd, osl⟩ ∧ PySem.W.codeIn K cdv qual = true
  kp : PySem.W.keepIn K (.ref f) = true
section
variable {P : Program} {w : World} {K : PySem.W.Frag} {mg : Str → Option Value} {base : Heap}
/-- THE RULE for a def: its body as a term of rules, and the reading of that term -/
theorem Fun.ok {x qual : Str} {st : Stmt} {f : Addr} {fd : FuncData} {N ps : List Str} {k : Nat} {sp : Sp} (F : Fun K x qual st f fd) (S : FnScope N ps (defScope st)) (len : ∀ vs H Q E, sp vs H Q E → vs.length = ps.length)
    (hbody : ∀ (cdv : Value) (A : Around) (outer : List Env) (s : Shared) (H : Hp) (vs : List V) (Q : VK) (E : XK), Room k (A.deeper (envOfC qual (defScope st) s.heap.objs.size f cdv)) → sp vs H Q E →
      ∃ t, PSs (cxOf CX0 P w K mg base N qual (defScope st) f cdv A outer s H E).nox (defBody st) t ∧ t { nx := fun _ H' => Q .non H', rt := Q } (start N vs) H) : FnOk P w K mg base CX0 (k + 1) f fd ps sp := by
  obtain ⟨oc, od, kV, doc, pm, an, cdv, ct, osl, rfl, lk, hcd⟩ := F.ex
  refine fn_of lk hcd S len fun A outer s H vs Q E hr hsp => ?_
  obtain ⟨t, h, q⟩ := hbody cdv A outer s H vs Q E hr hsp
  exact ⟨t, h.nox, q⟩
/-- how its arguments bind (no defaults): h is «fun _ _ _ _ _ _ us hl => match us, hl with | [_, _], _ => rfl», one _ a parameter -/
theorem Fun.binds {x qual : Str} {st : Stmt} {f : Addr} {fd : FuncData} {ps : List Str} (F : Fun K x qual st f fd)
    (h : ∀ (kV doc pm : Value) (an : Option Addr) (cdv ct : Value) (us : List Value), us.length = ps.length → bindArgs (PySem.W.fnOf x qual (defArgs st) (defBody st) (defScope st) .none kV doc pm an cdv ct) ⟨us, []⟩ = pure (ps.zip us)) : Binds K fd ps [] := by
  obtain ⟨oc, od, kV, doc, pm, an, cdv, ct, osl, rfl, lk, hcd⟩ := F.ex
  exact .all (h kV doc pm an cdv ct)
theorem fun_mk {x qual : Str} {st : Stmt} {f : Addr} {oc : Value} {od an : Option Addr} {osl : Array (Option Value)} {kV doc pm cdv ct : Value} (l : K.lookup f = some ⟨oc, od, .func (PySem.W.fnOf x qual (defArgs st) (defBody st) (defScope st) .none kV doc pm an cdv ct), osl⟩)
    (c : PySem.W.codeIn K cdv qual = true) (k : PySem.W.keepIn K (.ref f) = true) : Fun K x qual st f (PySem.W.fnOf x qual (defArgs st) (defBody st) (defScope st) .none kV doc pm an cdv ct) := ⟨⟨oc, od, kV, doc, pm, an, cdv, ct, osl, rfl, l, c⟩, k⟩
end
/-! ### expressions in short: the name that stands in the i-th slot -/
section
variable {X : Cx}
theorem pv (i : Nat) {x : Str} {pos : Pos} (hN : X.N[i]? = some x := by rfl) (hv : Vis X.env.scope x := by first | exact Or.inl rfl | exact Or.inr (Or.inl rfl) | exact Or.inr (Or.inr rfl)) (hd : (x == ("__debug__" : Str)) = false := by decide)
    (hcd : (x == ("__classdict__" : Str)) = false := by decide) : PE X (.Name x pos) (tVar i) := pe_var hN hv hd hcd
end

/-! ### tests -/
theorem iteF {A B : Prop} (h : B) : if false = true then A else B := by
  rw [if_neg Bool.false_ne_true]
  exact h
theorem iteT {A B : Prop} (h : A) : if true = true then A else B := by
  rw [if_pos rfl]
  exact h
theorem ite2 {c A B : Prop} [Decidable c] (h1 : c → A) (h2 : ¬ c → B) : if c then A else B := by
  by_cases h : c
  · rw [if_pos h]
    exact h1 h
  · rw [if_neg h]
    exact h2 h
theorem iteNS {c A B : Prop} [Decidable c] (hc : c) (h : B) : if (!decide c) = true then A else B := by
  rw [decide_eq_true hc]
  exact iteF h

/-! ### heaps -/
/-- all that was tracked is as it was -/
def Same (H H' : Hp) : Prop := ∀ b o, H b = some o → H' b = some o
theorem Same.refl (H : Hp) : Same H H := fun _ _ h => h
theorem Same.trans {H H1 H2 : Hp} (a : Same H H1) (b : Same H1 H2) : Same H H2 := fun c o h => b c o (a c o h)
theorem Same.free {H H' : Hp} (e : Same H H') {l : Addr} (h : H' l = Option.none) : H l = Option.none := by
  cases q : H l with
  | none => rfl
  | some o =>
    rw [e l o q] at h
    cases h
theorem Same.seq {K : PySem.W.Frag} {H H' : Hp} {a : Addr} {xs : List V} (e : Same H H') (h : SqL K H a xs) : SqL K H' a xs := by
  rcases h with (h | ⟨o, h⟩) | h
  · exact .inl (.inl (e _ _ h))
  · exact .inl (.inr ⟨o, e _ _ h⟩)
  · exact .inr h

end L2

set_option Elab.async false
set_option linter.all false
set_option maxRecDepth 100000
set_option maxHeartbeats 4000000
/-! MORE RULES over the hand layer: isinstance, is, all, insert, tuples repeated and joined, comprehensions. -/
namespace L2
open PySem PySem.Spec PyProof.Rows

/-! ### isinstance, is -/
def rIsi (K : PySem.W.Frag) : List V → Hp → VK → Prop := fun xs H Q => ∃ x T t b, xs = [x, .ty T] ∧ TyOf K H x t ∧ PySem.W.kitOne K t (.type T) = some b ∧ Q (.bl b) H
section
variable {X : Cx}
theorem call_isi : CallR X (.builtin "isinstance") (rIsi X.K) := by
  intro pins s σ H xs us Q I r h
  obtain ⟨x, T, t, b, rfl, ty, e, q⟩ := h
  obtain ⟨u, w', rfl, rx, rT⟩ := vals2 r
  cases (show w' = Value.type T from rT)
  exact isinst_ok I rx ty e fun tk => ⟨.bl b, H, I.tok _, rfl, q⟩
/-! ### all(..) of a list of bools -/
theorem vals_bl : ∀ {bs : List Bool} {us : List Value}, Vals (bs.map V.bl) us → us = bs.map Value.bool
  | [], _, r => by rw [List.map_nil] at r; cases r; rfl
  | b :: bs, _, r => by
    rw [List.map_cons] at r
    cases r with
    | cons r1 r2 =>
      cases (show _ = Value.bool b from r1)
      rw [vals_bl r2]
      rfl
theorem all_range (bs : List Bool) : ((List.range bs.length).all fun i => bs.getD i true) = bs.all id := by
  rw [Bool.eq_iff_iff, List.all_eq_true, List.all_eq_true]
  constructor
  · intro h b hb
    obtain ⟨i, hi, rfl⟩ := List.getElem_of_mem hb
    have := h i (List.mem_range.mpr hi)
    rw [List.getD_eq_getElem?_getD, List.getElem?_eq_getElem hi] at this
    exact this
  · intro h i hi
    have hi' := List.mem_range.mp hi
    rw [List.getD_eq_getElem?_getD, List.getElem?_eq_getElem hi']
    exact h _ (List.getElem_mem hi')
theorem call_all (hc : X.calm = true) : CallR X (.builtin "all") (fun xs H Q => ∃ (p : Addr) (bs : List Bool), xs = [.ref p] ∧ SqL X.K H p (bs.map V.bl) ∧ Q (.bl (bs.all id)) H) := by
  intro pins s σ H xs us Q I r h
  obtain ⟨p, bs, rfl, hq, q⟩ := h
  obtain ⟨u, rfl, ru⟩ := vals1 r
  cases ru
  obtain ⟨its, rv, pl, hz⟩ := I.list hq
  have ei := vals_bl rv
  subst ei
  have hp : p < s.heap.objs.size := by obtain ⟨_, _, e, _⟩ := pl; exact Heap.lt_size e
  have hd : X.A.in1.handled = none := I.ok.hd hc
  refine call_all_walk (wpAny_pyIter_list pl.isList ?_)
  refine ⟨s.heap.objs.size, _, _, _, _, _, (fun i => bs.getD i true), rfl, Walks.list hd s.heap.objs.size p (Nat.ne_of_lt hp) (bs.map Value.bool).toArray, ⟨⟨_, Heap.get?_push_size _ rfl, rfl, rfl⟩, pl.isList.push _⟩, ?_, ?_⟩
  · intro i v s' Q' E' hv hQ
    have hv' : (bs.map Value.bool)[i]? = some v := by simpa using hv
    rw [List.getElem?_map] at hv'
    cases e : bs[i]? with
    | none => rw [e] at hv'; cases hv'
    | some b =>
      rw [e] at hv'
      cases hv'
      have hQ' : Q' (bs.getD i true) s' := hQ
      rw [List.getD_eq_getElem?_getD, e] at hQ'
      exact wpAny_truthy_bool hQ'
  · intro h' tk hk
    refine ⟨.bl (bs.all id), H, I.kept fun b o e => hk b o ?_ (Heap.get?_push_of_some _ e), ?_, q⟩
    · intro z
      rw [List.mem_singleton.mp z] at e
      exact absurd (Heap.lt_size e) (Nat.lt_irrefl _)
    · show Value.bool _ = Value.bool _
      rw [← all_range bs]
      simp

/-! ### xs.insert(i, y) -/
def rInsert : V → List V → Hp → VK → Prop := fun x vs H Q => ∃ l xs i y, x = .ref l ∧ vs = [.int i, y] ∧ H l = some (.lst xs) ∧ 0 ≤ i ∧ i < 2 ^ 63 ∧ xs.length < sizeLine ∧
  Q .non (upd H l (.lst (xs.take (min i.toNat xs.length) ++ y :: xs.drop (min i.toNat xs.length))))
theorem insert_arr (its : List Value) (k : Nat) (u : Value) : (its.toArray.extract 0 k).push u ++ its.toArray.extract k = (its.take k ++ u :: its.drop k).toArray := by
  apply Array.toList_inj.mp
  simp
  exact List.take_of_length_le (by simp)
theorem mt_insert : MtM X "list.insert" rInsert := by
  intro pins s σ H x vs v us Q I rx rv h
  obtain ⟨l, xs, i, y, rfl, rfl, hH, h0, h1, hz, q⟩ := h
  cases rx
  obtain ⟨ui, uy, rfl, ⟨t, rfl⟩, ry⟩ := vals2 rv
  obtain ⟨z, its, n, r, hl, e⟩ := I.lstM hH
  have hfit : ¬ (!Builtin.List.listFitsIndex i) = true := by
    rw [fitsIndex_both (by omega) h1]
    exact Bool.false_ne_true
  refine call_meets F.slot_list_insert ⟨_, e, rfl⟩ F.entry_list_insert (F.args_list_insert_3 _ _ _) (AutoListH.list_insert_list_int_val_1 l its.toArray n i t uy hfit (by rw [List.size_toArray]; omega)) ⟨e, ?_⟩
  refine ⟨.non, _, I.lset (its' := its.take (min i.toNat xs.length) ++ uy :: its.drop (min i.toNat xs.length)) hH e ?_ ((r.take _).append (.cons ry (r.drop _))) ?_, rfl, q⟩
  · have hk : (if i < 0 then (i + ((its.toArray.size : Nat) : Int)).toNat else min i.toNat its.toArray.size) = min i.toNat xs.length := by
      rw [if_neg (by omega), List.size_toArray, hl]
    show ((its.toArray.extract 0 (if i < 0 then (i + ((its.toArray.size : Nat) : Int)).toNat else min i.toNat its.toArray.size)).push uy ++ its.toArray.extract (if i < 0 then (i + ((its.toArray.size : Nat) : Int)).toNat else min i.toNat its.toArray.size)) = _
    rw [hk, insert_arr]
  · simp only [List.length_append, List.length_take, List.length_cons, List.length_drop]
    omega

/-! ### () + u -/
end
end L2

set_option Elab.async false
set_option linter.all false
set_option maxRecDepth 100000
set_option maxHeartbeats 4000000
/-! COMPREHENSIONS over the hand layer. -/
namespace L2
open PySem PySem.Spec PyProof.Rows

/-- the slots of a comprehension's names at its start: those seen from outside have their values -/
def pick (js : List (Option Nat)) (σ : St) : St := js.map fun o => o.bind fun j => (σ[j]?).join
theorem pick_get {js : List (Option Nat)} {σ : St} {i : Nat} {v : V} (h : (pick js σ)[i]? = some (some v)) : ∃ j, js[i]? = some (some j) ∧ σ[j]? = some (some v) := by
  unfold pick at h
  rw [List.getElem?_map] at h
  cases e : js[i]? with
  | none => rw [e] at h; cases h
  | some o =>
    rw [e] at h
    have h' : (o.bind fun j => (σ[j]?).join) = some v := Option.some.inj h
    cases o with
    | none => cases h'
    | some j =>
      refine ⟨j, rfl, ?_⟩
      have h2 : (σ[j]?).join = some v := h'
      cases e2 : σ[j]? with
      | none => rw [e2] at h2; cases h2
      | some q =>
        rw [e2] at h2
        have h3 : q = some v := h2
        rw [h3]
structure CompOk (X : Cx) (scope : Scope) (cl : List (Str × Addr)) (N : List Str) (js : List (Option Nat)) : Prop where
  clos : closureFor scope X.env = pure cl
  nocell : ∀ y ∈ scope.names, y.2 ≠ .cell
  kind : scope.kind = .function
  names : ∀ y ∈ scope.names, y.2 = .local → scope.names.lookup y.1 = some .local
  sub : ∀ x c, cl.lookup x = some c → X.env.cells.lookup x = some c
  has : ∀ x, ((relabel scope X.env).names.lookup x = some .cell ∨ (relabel scope X.env).names.lookup x = some .free) → ∃ c, cl.lookup x = some c
  len : js.length = N.length
  seen : ∀ (i j : Nat) (x : Str), N[i]? = some x → js[i]? = some (some j) → X.N[j]? = some x ∧ X.env.scope.names.lookup x = some .cell ∧ ((relabel scope X.env).names.lookup x = some .cell ∨ (relabel scope X.env).names.lookup x = some .free)

abbrev compCx (X : Cx) (scope : Scope) (cl : List (Str × Addr)) (N : List Str) (fp : List Addr) (pins : List (Addr × Obj)) (s : Shared) (H : Hp) (E : Value → Shared → Prop) : Cx :=
  { X with N := N, s₀ := s, H₀ := H, env := compEnvC scope cl s.heap.objs.size X.env, outer := X.stack, ex := fp, fn := fun _ => false, pn := X.pn ++ pins, xe := E }

/-- what a comprehension asks behind its source -/
def CompW (J : It) (D : Addr) (js : List (Option Nat)) (g : TG) (tc : TT) (te : TE) (σ : St) (H1 : Hp) (Q : VK) : Prop :=
  ∃ W : Nat → Nat → St → Hp → List V → Prop, (∃ m, W 0 m (pick js σ) (upd H1 D (.lst [])) []) ∧ ∀ i m σ' H' ys, W i m σ' H' ys → H' D = some (.lst ys) ∧
    ((J.stop i H' ∧ Q (.ref D) H') ∨ (J.go i H' ∧ ys.length < sizeLine ∧ ∃ N : St → Hp → List V → Prop, (∀ σ2 H2 zs, N σ2 H2 zs → ∃ m', m' < m ∧ W (i + 1) m' σ2 H2 zs) ∧ ∀ x H2, J.yld i H' x H2 → g x σ' H2 fun σ2 H3 => tc σ2 H3 fun k H5 =>
      if k = true then te σ2 H5 fun y H4 => H4 D = some (.lst ys) ∧ N σ2 (upd H4 D (.lst (ys ++ [y]))) (ys ++ [y]) else H5 D = some (.lst ys) ∧ N σ2 H5 ys))
/-- the reading of [e for tg in iter]: D is the new list -/
def tComp (js : List (Option Nat)) (wi : TI) (g : TG) (tc : TT) (te : TE) : TE := fun σ H Q => wi σ H fun J H1 => ∀ D, H1 D = none → CompW J D js g tc te σ H1 Q
/-- n turns, by what holds between them -/
theorem comp_gen {J : It} {n : Nat} {D : Addr} {js : List (Option Nat)} {g : TG} {tc : TT} {te : TE} {σ : St} {H1 : Hp} {Q : VK} (hn : n ≤ sizeLine) (Pv : Nat → St → Hp → List V → Prop) (h0 : Pv 0 (pick js σ) (upd H1 D (.lst [])) [])
    (hp : ∀ i σ' H' ys, i ≤ n → Pv i σ' H' ys → H' D = some (.lst ys) ∧ ys.length ≤ i) (hgo : ∀ i σ' H' ys, i < n → Pv i σ' H' ys → J.go i H') (hst : ∀ σ' H' ys, Pv n σ' H' ys → J.stop n H' ∧ Q (.ref D) H')
    (hs : ∀ i σ' H' ys x H2, i < n → Pv i σ' H' ys → J.yld i H' x H2 → g x σ' H2 fun σ2 H3 => tc σ2 H3 fun k H5 =>
      if k = true then te σ2 H5 fun y H4 => H4 D = some (.lst ys) ∧ Pv (i + 1) σ2 (upd H4 D (.lst (ys ++ [y]))) (ys ++ [y]) else H5 D = some (.lst ys) ∧ Pv (i + 1) σ2 H5 ys) :
    ∃ W : Nat → Nat → St → Hp → List V → Prop, (∃ m, W 0 m (pick js σ) (upd H1 D (.lst [])) []) ∧ ∀ i m σ' H' ys, W i m σ' H' ys → H' D = some (.lst ys) ∧
      ((J.stop i H' ∧ Q (.ref D) H') ∨ (J.go i H' ∧ ys.length < sizeLine ∧ ∃ N : St → Hp → List V → Prop, (∀ σ2 H2 zs, N σ2 H2 zs → ∃ m', m' < m ∧ W (i + 1) m' σ2 H2 zs) ∧ ∀ x H2, J.yld i H' x H2 → g x σ' H2 fun σ2 H3 => tc σ2 H3 fun k H5 =>
        if k = true then te σ2 H5 fun y H4 => H4 D = some (.lst ys) ∧ N σ2 (upd H4 D (.lst (ys ++ [y]))) (ys ++ [y]) else H5 D = some (.lst ys) ∧ N σ2 H5 ys)) := by
  refine ⟨fun i m σ' H' ys => m = n - i ∧ i ≤ n ∧ Pv i σ' H' ys, ⟨n, rfl, Nat.zero_le _, h0⟩, ?_⟩
  rintro i m σ' H' ys ⟨rfl, hi, p⟩
  obtain ⟨hD, hy⟩ := hp i σ' H' ys hi p
  refine ⟨hD, ?_⟩
  by_cases hlt : i < n
  · exact .inr ⟨hgo i σ' H' ys hlt p, by omega, Pv (i + 1), fun σ2 H2 zs p' => ⟨n - (i + 1), by omega, rfl, hlt, p'⟩, fun x H2 y => hs i σ' H' ys x H2 hlt p y⟩
  · have e : i = n := by omega
    subst e
    exact .inl (hst σ' H' ys p)
/-- the tests behind a comprehension's for -/
def PTs (X : Cx) (cs : List Expr) (t : TT) : Prop :=
  ∀ (pins : List (Addr × Obj)) (s : Shared) (σ : St) (H : Hp) (Q : Bool → Hp → Prop), Inv X pins σ H s → t σ H Q →
    wpAny (model X.prog X.w) X.A (forIn cs true fun c r => if r = true then do let ok ← isTrue c X.env (eval c X.env); pure (ForInStep.yield ok) else pure (ForInStep.yield r)) (TP X pins σ Q) X.xe s
def tNoTest : TT := fun _ H Q => Q true H
theorem pts_nil {X : Cx} : PTs X [] tNoTest := fun _ _ _ H _ I h => wpAny_tests_nil ⟨H, I, h⟩
theorem pts_one {X : Cx} {c : Expr} {t : TT} (hc : PT X c t) : PTs X [c] t := fun pins s σ H Q I h => wpAny_tests_one (hc pins s σ H Q I h)

section
variable {prog : Program} {w : World} {A : Around} {R : Result → Shared → Prop} {s : Shared}
/-- the loop of a comprehension with one for -/
theorem loop_go {elt tg iter : Expr} {cs : List Expr} {scope : Scope} {pos : Pos} {it acc : Value} {env : Env} (J : Nat → Shared → Prop)
    (turn : ∀ n s', J n s' → wpAny (model prog w) A (pyNext it) (fun r t1 => match r with
      | none => R (.ok .next) t1
      | some v => wpAny (model prog w) A (letOwnedTupleGo tg it v) (fun _ t2 => wpAny (model prog w) A (assign tg env v) (fun _ t3 =>
          wpAny (model prog w) A (forIn cs true fun c r => if r = true then do let ok ← isTrue c env (eval c env); pure (ForInStep.yield ok) else pure (ForInStep.yield r)) (fun ok t4 =>
            if ok = true then wpAny (model prog w) A (eval elt env) (fun x t5 => wpAny (model prog w) A (call (.builtin "list.append") [acc, x]) (fun _ t6 => ∃ m, m < n ∧ J m t6)
              (notedBy (model prog w) A env fun e s'' => R (.error e) s'') t5) (notedBy (model prog w) A env fun e s'' => R (.error e) s'') t4
            else ∃ m, m < n ∧ J m t4) (notedBy (model prog w) A env fun e s'' => R (.error e) s'') t3) (notedBy (model prog w) A env fun e s'' => R (.error e) s'') t2) (notedBy (model prog w) A env fun e s'' => R (.error e) s'') t1)
        (notedBy (model prog w) A env fun e s'' => R (.error e) s'') s')
    (n : Nat) (h : J n s) : codeAny (model prog w) A (.compLoop (.ListComp elt [⟨tg, iter, cs, 0⟩] scope pos) 0 it acc env) R s := by
  refine codeAny_loop rfl J (fun n s' hJ => ?_) n h
  show wpAny _ A ((compTurn (.ListComp elt [⟨tg, iter, cs, 0⟩] scope pos) 0 it acc env).onRaise (fun z => do noteFrame z env; theTreesLotGoes z)) _ _ s'
  refine wpAny_noted ?_
  rw [compTurn_list]
  refine wpAny_bind (wpAny_standAt (wpAny_bind (thn (turn n s' hJ) fun r t1 k1 => ?_)))
  cases r with
  | none => exact wpAny_pure k1
  | some v =>
    refine wpAny_bind (thn k1 fun _ t2 k2 => wpAny_bind (thn k2 fun _ t3 k3 => wpAny_bind (thn k3 fun ok t4 k4 => ?_)))
    cases ok with
    | false => exact wpAny_pure ⟨rfl, k4⟩
    | true => exact wpAny_bind (wpAny_bind (thn k4 fun x t5 k5 => wpAny_bind (thn k5 fun _ t6 k6 => wpAny_pure (wpAny_pure ⟨rfl, k6⟩))))
end

theorem noEx {M : Model} {A : Around} {α : Type} {t : Sem α} {Q : α → Shared → Prop} {E E' : Value → Shared → Prop} {s : Shared} (hE : ∀ e s', E e s' → False) (h : wpAny M A t Q E s) : wpAny M A t Q E' s := wpAny_mono h (fun _ _ q => q) fun e s' z => (hE e s' z).elim

theorem pe_comp {X : Cx} {elt tg iter : Expr} {cs : List Expr} {scope : Scope} {pos : Pos} {cl : List (Str × Addr)} {N : List Str} {js : List (Option Nat)} {wi : TI} {g : TG} {tc : TT} {te : TE}
    (C : CompOk X scope cl N js) (hc : X.calm = true) (hi : PI X tg iter wi)
    (hg : ∀ fp pins s H, PG (compCx X scope cl N fp pins s H fun _ _ => False) tg g)
    (ht : ∀ fp pins s H, PTs (compCx X scope cl N fp pins s H fun _ _ => False) cs tc)
    (he : ∀ fp pins s H, PE (compCx X scope cl N fp pins s H fun _ _ => False) elt te)
    (hs : ∀ x, foldedSetIterable iter X.env x = pure x := by intro _; rfl) : PE X (.ListComp elt [⟨tg, iter, cs, 0⟩] scope pos) (tComp js wi g tc te) := by
  intro pins s σ H Q I h
  rw [eval_ListComp]
  refine wpAny_comprehension_free (use := none) rfl hs C.clos C.kind C.names (thn (hi pins s σ H _ I h) fun xv s1 h1 => thn h1 fun itv s2 h2 => ?_)
  obtain ⟨it, fp, tn, J, H2, e, I2, T, st2, f2, h2⟩ := h2
  subst e
  obtain ⟨W, ⟨m0, w0⟩, turn⟩ := h2 s2.heap.objs.size I2.fresh
  refine wpAny_newObj_type (wpAny_newFunctionEnv C.nocell (by intro y hy; simp at hy) (fun h4 ns4 sb4 => ?_) C.kind)
  -- the state behind the new list
  have I3 : Inv X pins σ (upd H2 s2.heap.objs.size (.lst [])) { s2 with heap := s2.heap.push { cls := .type "list", data := .seq ([] : List Value).toArray } } := I2.lnew (t' := s2.toks) (its := []) .nil (Nat.zero_le _)
  dsimp only at ns4 sb4 ⊢
  generalize e3 : ({ s2 with heap := s2.heap.push { cls := .type "list", data := .seq ([] : List Value).toArray } } : Shared) = s3 at I3
  have e3h : s2.heap.push { cls := .type "list", data := .seq ([] : List Value).toArray } = s3.heap := by rw [← e3]
  have e3g : s2.gens = s3.gens := by rw [← e3]
  have e3o : s2.os = s3.os := by rw [← e3]
  rw [e3h] at ns4 sb4 ⊢
  generalize eH : upd H2 s2.heap.objs.size (.lst []) = H3 at I3 w0
  have hD : s2.heap.objs.size < s3.heap.objs.size := by rw [← e3h, Heap.size_push]; exact Nat.lt_succ_self _
  have up3 : ∀ b o, s2.heap.get? b = some o → s3.heap.get? b = some o := fun b o q => by rw [← e3h]; exact Heap.get?_push_of_some _ q
  have up4 : ∀ b o, s3.heap.get? b = some o → h4.get? b = some o := fun b o q => sb4.extBut b o (Nat.ne_of_lt (Heap.lt_size q)) (Heap.get?_push_of_some _ q)
  have fpo : ∀ b ∈ fp, b < s3.heap.objs.size := fun b hb => by
    obtain ⟨o, eo, _⟩ := T.obj 0 _ st2 b hb
    exact Heap.lt_size (up3 b o eo)
  have fst : ∀ b ∈ fp, b ∉ frs X.stack := fun b hb z => by
    rcases List.mem_cons.mp (I3.stkSub b z) with q | q
    · exact (f2 b hb).2.1 q
    · exact (f2 b hb).2.2.1 q
  have okY : (compCx X scope cl N fp pins s3 H3 fun _ _ => False).Ok := by
    refine ⟨I.ok.mod, C.kind, I.ok.glob, I.ok.blt, Nat.le_refl _, fun x y c q1 q2 => I.ok.inj x y c (C.sub _ _ q1) (C.sub _ _ q2), C.has, fun x c z => absurd z Bool.false_ne_true, I.ok.hd, I.ok.frames, .inl rfl, fun b hb => ⟨Nat.ne_of_lt (fpo b hb), fun x c q => (f2 b hb).2.2.2.2.1 x c (C.sub _ _ q)⟩,
      I3.bs, Nat.le_trans I.ok.bsz I3.sz, fun b o q hb => ?_, fst, I3.stack, I3.stkFree⟩
    rcases (f2 b hb).2.2.2.1 with z | z
    · exact I.ok.noex b o q z
    · exact absurd (Nat.lt_of_lt_of_le (Heap.lt_size q) (Nat.le_trans I.ok.bsz z)) (Nat.lt_irrefl _)
  have I4 : Inv (compCx X scope cl N fp pins s3 H3 fun _ _ => False) [] (pick js σ) H3 { s3 with heap := h4, toks := s3.toks + ([] : List (Str × Value)).length } := by
    refine ⟨okY, rfl, I3.bare, Un.kept up4, ⟨_, ns4, fun i x v q1 q2 q3 => ?_⟩, fun x c q => ?_, I3.hok.fresh (Nat.le_refl _), fun x c q => I3.freeC x c (C.sub _ _ q), fun p hp => ?_, I3.hok.kept up4, ?_⟩
    · obtain ⟨j, k1, k2⟩ := pick_get q2
      obtain ⟨z1, z2, z3⟩ := C.seen i j x q1 k1
      obtain ⟨m, hn, hl⟩ := I3.loc
      obtain ⟨u, ru, lk⟩ := hl j x v z1 k2 (.inr (.inl z2))
      refine ⟨u, ru, .inr ⟨z3, ?_⟩⟩
      rcases lk with ⟨k, _⟩ | ⟨_, c, ec, oc, hoc, hdc⟩
      · have k' : X.env.scope.names.lookup x = some .local := k
        rw [z2] at k'; cases k'
      · obtain ⟨c', ec'⟩ := C.has x z3
        have := C.sub _ _ ec'
        rw [ec] at this
        cases this
        exact ⟨c, ec', oc, up4 _ _ hoc, hdc⟩
    · obtain ⟨v, oc, hoc, hdc⟩ := I3.cell x c (C.sub _ _ q)
      exact ⟨v, oc, up4 _ _ hoc, hdc⟩
    · have hp' : p ∈ X.pn ++ pins := by simpa using hp
      obtain ⟨q1, q2, q3, q4, q5⟩ := I3.pin p hp'
      refine ⟨up4 _ _ q1, q2, Nat.ne_of_lt (Heap.lt_size q1), fun z => ?_, q5⟩
      rcases List.mem_cons.mp (I3.stkSub _ z) with q | q
      · exact q3 q
      · exact q4 q
    · show (pick js σ).length = N.length
      unfold pick
      rw [List.length_map, C.len]
  have stat : ∀ {H' : Hp}, (∀ b ∈ fp, H' b = none) → ∀ b ∈ fp, FpOk (compCx X scope cl N fp pins s3 H3 fun _ _ => False) [] H' b := fun hn b hb =>
    ⟨hn b hb, Nat.ne_of_lt (fpo b hb), fst b hb, .inl hb, fun x c q => (f2 b hb).2.2.2.2.1 x c (C.sub _ _ q), fun p hp => (f2 b hb).2.2.2.2.2 p (by simpa using hp)⟩
  have st4 : tn 0 h4 := T.keep 0 _ _ st2 fun b hb o q => up4 b o (up3 b o q)
  have nx : ∀ e s', (compCx X scope cl N fp pins s3 H3 fun _ _ => False).xe e s' → False := fun _ _ z => z
  have loop : codeAny (model X.prog X.w) X.A (.compLoop (.ListComp elt [⟨tg, iter, cs, 0⟩] scope pos) 0 (.ref it) (.ref s2.heap.objs.size) (compEnvC scope cl s3.heap.objs.size X.env))
      (compPost (model X.prog X.w) X.A X.xe none (EP X pins σ Q) (.ref s2.heap.objs.size) s3.heap.objs.size) { s3 with heap := h4, toks := s3.toks + ([] : List (Str × Value)).length } := by
    refine loop_go (fun n s' => ∃ i σ' H' ys, Inv (compCx X scope cl N fp pins s3 H3 fun _ _ => False) [] σ' H' s' ∧ tn i s'.heap ∧ (∀ b ∈ fp, H' b = none) ∧ W i n σ' H' ys) ?_ m0 ⟨0, _, H3, [], I4, st4, fun b hb => ?_, w0⟩
    · rintro n s5 ⟨i, σ5, H5, ys, I5, st5, fr5, w5⟩
      obtain ⟨hD5, way⟩ := turn i n σ5 H5 ys w5
      rcases way with ⟨stop, qn⟩ | ⟨go, hz, NN, hN, step⟩
      · refine noEx nx (thn (T.done (compCx X scope cl N fp pins s3 H3 fun _ _ => False) rfl rfl rfl hc i [] s5 σ5 H5 _ I5 (stat fr5) st5 stop) fun r s6 ⟨hr, I6⟩ => ?_)
        subst hr
        obtain ⟨m, hn, _⟩ := I6.loc
        refine ⟨m, hn, fun h' sb => ⟨.ref s2.heap.objs.size, H5, ?_, rfl, qn⟩⟩
        have low : ∀ b o, s3.heap.get? b = some o → b ≠ s3.heap.objs.size := fun b o q => Nat.ne_of_lt (Heap.lt_size q)
        have same : ∀ b, b ≠ s3.heap.objs.size → h'.get? b = s6.heap.get? b := fun b hb => sb.2 b hb
        have B := I6.base
        refine I3.call' (s' := { s6 with heap := h' }) (H' := H5) (ch := fp) I6.os ⟨fun b o q n0 h1 h2 => ?_, fun b o q n0 h1 h2 => ?_, B.free, fun b o q h2 => ?_, B.tups, B.frzs, B.tbls⟩ (fun a o q => ?_) I6.bare (fun b hb => ⟨(f2 b hb).2.2.2.1, (f2 b hb).2.1, (f2 b hb).2.2.2.2.1, (f2 b hb).2.2.2.2.2⟩)
        · exact (same b (low b o q)).trans (B.keep b o q n0 h1 h2)
        · obtain ⟨sl, z⟩ := B.slot b o q n0 h1 h2
          exact ⟨sl, (same b (low b o q)).trans z⟩
        · obtain ⟨o', z⟩ := B.there b o q h2
          exact ⟨o', (same b (low b o q)).trans z⟩
        · have nC : ∀ c u, H5 c = some u → c ≠ s3.heap.objs.size := fun c u z y => by
            have := I6.free
            rw [y] at z
            rw [show H5 s3.heap.objs.size = none from this] at z
            cases z
          refine (I6.hok a o q).stay (fun c u hc' z => (same c ?_).trans z) (fun _ z => z) fun _ _ z => z
          rcases hc' with z' | z'
          · rw [z']; exact nC a o q
          · exact nC c _ z'
      · refine noEx nx (thn (T.item (compCx X scope cl N fp pins s3 H3 fun _ _ => False) rfl rfl rfl hc i [] s5 σ5 H5 _ I5 (stat fr5) st5 go) fun r s6 ⟨u, hr, h6⟩ => ?_)
        subst hr
        refine noEx nx (thn h6 fun _ s7 ⟨x, H7, I7, r7, y7, st7, fr7⟩ => ?_)
        have I7' := I7.pinned (stat fr7) (T.obj _ _ st7)
        refine noEx nx (thn (hg fp pins s3 H3 _ s7 σ5 H7 x u _ I7' r7 (step x H7 y7)) fun _ s8 ⟨σ8, H8, I8, q8⟩ => ?_)
        refine noEx nx (thn (ht fp pins s3 H3 _ s8 σ8 H8 _ I8 q8) fun k s9 ⟨H9, I9, q9⟩ => ?_)
        have fin : ∀ {s' : Shared} {σ' : St} {H' : Hp} {ys' : List V}, Inv (compCx X scope cl N fp pins s3 H3 fun _ _ => False) ([] ++ pinsAt fp s7.heap) σ' H' s' → NN σ' H' ys' →
            ∃ m', m' < n ∧ ∃ i σ' H' ys, Inv (compCx X scope cl N fp pins s3 H3 fun _ _ => False) [] σ' H' s' ∧ tn i s'.heap ∧ (∀ b ∈ fp, H' b = none) ∧ W i m' σ' H' ys := fun {s' σ' H' ys'} Iv nv => by
          obtain ⟨m', hm, wv⟩ := hN σ' H' ys' nv
          refine ⟨m', hm, i + 1, σ', H', ys', Iv.unpinned, T.keep _ _ _ st7 fun b hb o q => (Iv.pin (b, o) (List.mem_append_right _ (List.mem_append_right _ (mem_pinsAt hb q)))).1, fun b hb => ?_, wv⟩
          obtain ⟨o, q, _⟩ := T.obj _ _ st7 b hb
          exact (Iv.pin (b, o) (List.mem_append_right _ (List.mem_append_right _ (mem_pinsAt hb q)))).2.1
        cases k with
        | false =>
          rw [if_neg Bool.false_ne_true] at q9 ⊢
          exact fin I9 q9.2
        | true =>
          rw [if_pos rfl] at q9 ⊢
          refine noEx nx (thn (he fp pins s3 H3 _ s9 σ8 H9 _ I9 q9) fun y sA ⟨yv, HA, IA, rA, hDA, qA⟩ => ?_)
          refine noEx nx (thn (mt_append _ sA σ8 HA (.ref s2.heap.objs.size) [yv] _ [y] (fun _ HB => NN σ8 HB (ys ++ [yv])) IA rfl (.cons rA .nil) ⟨_, ys, yv, rfl, rfl, hDA, hz, qA⟩) fun _ sB ⟨_, HB, IB, _, qB⟩ => ?_)
          exact fin IB qB
    · rw [← eH, upd_ne]
      · exact (f2 b hb).1
      · obtain ⟨o, eo, _⟩ := T.obj 0 _ st2 b hb
        exact Nat.ne_of_lt (Heap.lt_size eo)
  have goal : codeAny (model X.prog X.w) X.A (.compStart (.ListComp elt [⟨tg, iter, cs, 0⟩] scope pos) 0 (.ref it) (.ref s2.heap.objs.size) (compEnvC scope cl s3.heap.objs.size X.env))
      (compPost (model X.prog X.w) X.A X.xe none (EP X pins σ Q) (.ref s2.heap.objs.size) s3.heap.objs.size) { s3 with heap := h4, toks := s3.toks + ([] : List (Str × Value)).length } :=
    codeAny_compStart_list loop (T.self _ 0 _ _ _ st4 loop)
  subst e3
  exact goal
end L2

set_option Elab.async false
set_option linter.all false
set_option maxRecDepth 100000
set_option maxHeartbeats 4000000
/-! ZIP of two tuples, walked. -/
namespace Zt
open PySem PyProof.Rows

theorem notNone (t : Addr) : ¬ ((Value.ref t == Value.none) = true) := Bool.false_ne_true
section
variable {prog : Program} {w : World} {A : Around} {E : Value → Shared → Prop} {s : Shared}
/-- one pull at a tuple's iterator -/
theorem pull {j t : Addr} {k : Nat} {vs : Array Value} {x : Value} {Q : Value → Shared → Prop} (a : s.heap.IsTupleIter j t k) (b : s.heap.IsTuple t vs) (c : vs[k]? = some x)
    (q : ∀ g, g.IsTupleIter j t (k + 1) → Heap.SameBut j s.heap g → Q x { s with heap := g }) : wpAny (model prog w) A (Builtin.SmallTypes.nextOf (.ref j)) Q E s := by
  obtain ⟨oj, gj, cj, dj⟩ := id a
  obtain ⟨ot, gt, _, nt, dt⟩ := b
  unfold Builtin.SmallTypes.nextOf
  refine wpAny_bind (wpAny_callSpecial?_slot (name := Str.ofString "__next__") a.typeIs F.slot_tuple_iterator_next (wpAny_call_entry F.slot_tuple_iterator_next a.typeIs F.entry_tuple_iterator_next ?_ (F.args_tuple_iterator_next_1 _)))
  show wpAny _ _ (field (.ref j) 0 >>= _) _ _ s
  refine wpAny_bind (wpAny_field gj dj (x := .ref t) rfl ?_)
  show wpAny _ _ (ite ((Value.ref t == Value.none) = true) _ _) _ _ s
  rw [if_neg (notNone t)]
  show wpAny _ _ (field (.ref j) 1 >>= _) _ _ s
  refine wpAny_bind (wpAny_field gj dj (x := .int k 0) rfl ?_)
  show wpAny _ _ (seqItems? (.ref t) >>= _) _ _ s
  refine wpAny_bind (wpAny_seqItems gt dt ?_)
  simp only [Int.toNat_natCast, c]
  refine wpAny_bind (wpAny_setField gj dj (by simp) (wpAny_pure ⟨x, rfl, wpAny_pure (q _ ⟨_, Heap.get?_update_self _ gj (Obj.isFreed_of_fields (Obj.data_mapFields dj _)), (Obj.cls_mapFields ..).trans cj, ?_⟩ (Heap.SameBut.update ..))⟩))
  rw [Obj.data_mapFields dj]
  simp [rawInt]
/-- no more there -/
theorem pull_end {j t : Addr} {k : Nat} {vs : Array Value} {Q : Value → Shared → Prop} (hd : A.handled = none) (a : s.heap.IsTupleIter j t k) (b : s.heap.IsTuple t vs) (c : vs[k]? = none)
    (q : ∀ g e, Heap.ExtBut j s.heap g → (∃ o, g.get? e = some o ∧ o.cls = .type "StopIteration") → E (.ref e) { s with heap := g }) : wpAny (model prog w) A (Builtin.SmallTypes.nextOf (.ref j)) Q E s := by
  obtain ⟨oj, gj, cj, dj⟩ := id a
  obtain ⟨ot, gt, _, nt, dt⟩ := b
  unfold Builtin.SmallTypes.nextOf
  refine wpAny_bind (wpAny_callSpecial?_slot (name := Str.ofString "__next__") a.typeIs F.slot_tuple_iterator_next (wpAny_call_entry F.slot_tuple_iterator_next a.typeIs F.entry_tuple_iterator_next ?_ (F.args_tuple_iterator_next_1 _)))
  show wpAny _ _ (field (.ref j) 0 >>= _) _ _ s
  refine wpAny_bind (wpAny_field gj dj (x := .ref t) rfl ?_)
  show wpAny _ _ (ite ((Value.ref t == Value.none) = true) _ _) _ _ s
  rw [if_neg (notNone t)]
  show wpAny _ _ (field (.ref j) 1 >>= _) _ _ s
  refine wpAny_bind (wpAny_field gj dj (x := .int k 0) rfl ?_)
  show wpAny _ _ (seqItems? (.ref t) >>= _) _ _ s
  refine wpAny_bind (wpAny_seqItems gt dt ?_)
  simp only [Int.toNat_natCast, c]
  refine wpAny_bind (wpAny_rule (wpAny_bind (wpAny_setField gj dj (by simp) ?_)))
  show wpAny _ _ (newExc (.type "StopIteration") [] >>= _) _ _ _
  refine wpAny_bind ?_
  simp only [newExc, newTuple]
  refine wpAny_bind (wpAny_newObj_type (wpAny_bind (m := firstArgMember _ _) (wpAny_of_eq (a := Value.none) (by first | rfl | (simp only [firstArgMember]; rfl)) (wpAny_newObj_type ?_ (by size_fits)))) (by size_fits))
  simp only [raiseNew]
  refine wpAny_bind (wpAny_handled ?_)
  first
    | rw [show A.in1.handled = none from hd]
    | rw [hd]
  exact wpAny_bind (wpAny_pure (wpAny_throw (q _ _ (((Heap.SameBut.update ..).extBut.push _).push _) ⟨_, Heap.get?_push_size _ rfl, rfl⟩)))

/-- a zip's step over two tuples -/
theorem zip_item {z TI TO j1 j2 t1 t2 : Addr} {k : Nat} {xs ys : Array Value} {x y a b : Value} {Q : Value → Shared → Prop} (D : ZipApart z TI TO j1 j2 t1 t2)
    (zz : IsZip s.heap z TI TO .none) (zI : IsPair s.heap TI (.ref j1) (.ref j2)) (zO : IsPair s.heap TO a b)
    (i1 : s.heap.IsTupleIter j1 t1 k) (i2 : s.heap.IsTupleIter j2 t2 k) (l1 : s.heap.IsTuple t1 xs) (l2 : s.heap.IsTuple t2 ys) (ex : xs[k]? = some x) (ey : ys[k]? = some y)
    (q : ∀ g, IsZip g z TI TO (rawInt s.heap.objs.size) → IsPair g TO x y → g.IsTupleIter j1 t1 (k + 1) → g.IsTupleIter j2 t2 (k + 1) → IsPair g s.heap.objs.size x y →
      (∀ c o, c ≠ z → c ≠ TO → c ≠ j1 → c ≠ j2 → s.heap.get? c = some o → g.get? c = some o) → Q (.ref s.heap.objs.size) { s with heap := g }) :
    wpAny (model prog w) A (Builtin.«zip.__next__» ⟨[.ref z], []⟩) (fun fin s' => ∃ v, fin = .done (.ret v) ∧ Q v s') E s := by
  show wpAny _ _ (field (.ref z) 2 >>= _) _ _ _
  refine wpAny_bind (wpAny_field zz rfl (x := .bool false) rfl ?_)
  show wpAny _ _ (field (.ref z) 3 >>= _) _ _ _
  refine wpAny_bind (wpAny_field zz rfl (x := .ref TI) rfl (wpAny_bind (wpAny_seqItems zI rfl ?_)))
  show wpAny _ _ (Builtin.SmallTypes.ownedTupleIsFree (.ref z) >>= _) _ _ _
  refine wpAny_bind ?_
  unfold Builtin.SmallTypes.ownedTupleIsFree
  refine wpAny_bind (wpAny_field zz rfl (x := .none) rfl (wpAny_pure ?_))
  simp only [if_true]
  refine wpAny_bind (wpAny_rule (wpAny_bind (wpAny_field zz rfl (x := .ref TO) rfl (wpAny_bind (wpAny_setField_rec zz (by simp) fun g1 zz1 s1 => ?_)))))
  replace zz1 : IsZip g1 z TI TO .ellipsis := zz1
  refine wpAny_bind ?_
  simp only [List.zipIdx_cons, List.zipIdx_nil, List.forIn_cons, List.forIn_nil]
  refine wpAny_bind (wpAny_bind (wpAny_onRaise ?_))
  show wpAny _ _ (Builtin.SmallTypes.nextOf (.ref j1) >>= _) _ _ _
  refine wpAny_bind (pull (i1.extBut s1.extBut D.i1z) (l1.extBut s1.extBut D.l1z) ex fun g2 i1' s2 => wpAny_pure ?_)
  have zO2 : IsPair g2 TO a b := s2.extBut _ _ D.TOi1 (s1.extBut _ _ D.TOz zO)
  refine wpAny_bind (wpAny_seqItems zO2 rfl (wpAny_bind (wpAny_updateSeq_pair zO2 fun g3 zO3 s3 => ?_)))
  replace zO3 : IsPair g3 TO x b := zO3
  refine wpAny_bind (wpAny_letGo (wpAny_pure (wpAny_bind (wpAny_bind (wpAny_onRaise ?_)))))
  show wpAny _ _ (Builtin.SmallTypes.nextOf (.ref j2) >>= _) _ _ _
  have i2' := ((i2.extBut s1.extBut D.i2z).extBut s2.extBut D.i12.symm).extBut s3.extBut D.TOi2.symm
  have l2' := ((l2.extBut s1.extBut D.l2z).extBut s2.extBut D.l2i1).extBut s3.extBut D.l2TO
  refine wpAny_bind (pull i2' l2' ey fun g4 i2'' s4 => wpAny_pure ?_)
  have zO4 : IsPair g4 TO x b := s4.extBut _ _ D.TOi2 zO3
  refine wpAny_bind (wpAny_seqItems zO4 rfl (wpAny_bind (wpAny_updateSeq_pair zO4 fun g5 zO5 s5 => ?_)))
  replace zO5 : IsPair g5 TO x y := zO5
  refine wpAny_bind (wpAny_letGo (wpAny_pure (wpAny_pure (wpAny_bind (wpAny_seqItems zO5 rfl (wpAny_bind (wpAny_newTuple ?_)))))))
  have sz : g5.objs.size = s.heap.objs.size := by rw [s5.1, s4.1, s3.1, s2.1, s1.1]
  have zz5 : IsZip g5 z TI TO .ellipsis := s5.extBut _ _ D.TOz.symm (s4.extBut _ _ D.i2z.symm (s3.extBut _ _ D.TOz.symm (s2.extBut _ _ D.i1z.symm zz1)))
  have up5 : ∀ c o, c ≠ z → c ≠ TO → c ≠ j1 → c ≠ j2 → s.heap.get? c = some o → g5.get? c = some o := fun c o n1 n2 n3 n4 q' =>
    s5.extBut _ _ n2 (s4.extBut _ _ n4 (s3.extBut _ _ n2 (s2.extBut _ _ n3 (s1.extBut _ _ n1 q'))))
  have j15 : g5.IsTupleIter j1 t1 (k + 1) := ((i1'.extBut s3.extBut D.TOi1.symm).extBut s4.extBut D.i12).extBut s5.extBut D.TOi1.symm
  have j25 : g5.IsTupleIter j2 t2 (k + 1) := i2''.extBut s5.extBut D.TOi2.symm
  have zlt : z < g5.objs.size := Heap.lt_size zz5
  show wpAny _ _ (Builtin.SmallTypes.ownedTupleHandOut (.ref z) (.ref g5.objs.size) >>= _) _ _ _
  refine wpAny_bind ?_
  unfold Builtin.SmallTypes.ownedTupleHandOut
  have zz6 : IsZip (g5.push { cls := .type "tuple", data := .seq #[x, y] }) z TI TO .ellipsis := Heap.get?_push_of_some _ zz5
  refine wpAny_bind (wpAny_setField_rec zz6 (by simp) fun g7 zz7 s7 => ?_)
  replace zz7 : IsZip g7 z TI TO (rawInt g5.objs.size) := zz7
  refine wpAny_setField_rec zz7 (by simp) fun g8 zz8 s8 => ?_
  replace zz8 : IsZip g8 z TI TO (rawInt g5.objs.size) := zz8
  have up8 : ∀ c o, c ≠ z → g5.get? c = some o → g8.get? c = some o := fun c o n1 q' => s8.extBut _ _ n1 (s7.extBut _ _ n1 (Heap.get?_push_of_some _ q'))
  have new8 : IsPair g8 g5.objs.size x y := s8.extBut _ _ (Nat.ne_of_gt zlt) (s7.extBut _ _ (Nat.ne_of_gt zlt) (Heap.get?_push_size _ rfl))
  rw [sz] at zz8 new8
  refine wpAny_pure ⟨_, rfl, ?_⟩
  show Q (.ref g5.objs.size) _
  rw [sz]
  refine q g8 zz8 (up8 _ _ D.TOz zO5) ?_ ?_ new8 fun c o n1 n2 n3 n4 q' => up8 c o n1 (up5 c o n1 n2 n3 n4 q')
  · obtain ⟨o, e, r⟩ := j15
    exact ⟨o, up8 _ _ D.i1z e, r⟩
  · obtain ⟨o, e, r⟩ := j25
    exact ⟨o, up8 _ _ D.i2z e, r⟩

theorem zip_stop {z TI TO j1 j2 t1 t2 : Addr} {k : Nat} {xs ys : Array Value} {a b : Value} {Q : Fin → Shared → Prop} (hd : A.handled = none) (D : ZipApart z TI TO j1 j2 t1 t2)
    (zz : IsZip s.heap z TI TO .none) (zI : IsPair s.heap TI (.ref j1) (.ref j2)) (zO : IsPair s.heap TO a b)
    (i1 : s.heap.IsTupleIter j1 t1 k) (i2 : s.heap.IsTupleIter j2 t2 k) (l1 : s.heap.IsTuple t1 xs) (l2 : s.heap.IsTuple t2 ys) (ee : xs[k]? = none ∨ ys[k]? = none)
    (q : ∀ g e, (∀ c o, c ≠ z → c ≠ TO → c ≠ j1 → c ≠ j2 → s.heap.get? c = some o → g.get? c = some o) → (∃ o, g.get? e = some o ∧ o.cls = .type "StopIteration") → E (.ref e) { s with heap := g }) :
    wpAny (model prog w) A (Builtin.«zip.__next__» ⟨[.ref z], []⟩) Q E s := by
  show wpAny _ _ (field (.ref z) 2 >>= _) _ _ _
  refine wpAny_bind (wpAny_field zz rfl (x := .bool false) rfl ?_)
  show wpAny _ _ (field (.ref z) 3 >>= _) _ _ _
  refine wpAny_bind (wpAny_field zz rfl (x := .ref TI) rfl (wpAny_bind (wpAny_seqItems zI rfl ?_)))
  show wpAny _ _ (Builtin.SmallTypes.ownedTupleIsFree (.ref z) >>= _) _ _ _
  refine wpAny_bind ?_
  unfold Builtin.SmallTypes.ownedTupleIsFree
  refine wpAny_bind (wpAny_field zz rfl (x := .none) rfl (wpAny_pure ?_))
  simp only [if_true]
  refine wpAny_bind (wpAny_rule (wpAny_bind (wpAny_field zz rfl (x := .ref TO) rfl (wpAny_bind (wpAny_setField_rec zz (by simp) fun g1 zz1 s1 => ?_)))))
  replace zz1 : IsZip g1 z TI TO .ellipsis := zz1
  refine wpAny_bind ?_
  simp only [List.zipIdx_cons, List.zipIdx_nil, List.forIn_cons, List.forIn_nil]
  refine wpAny_bind (wpAny_bind (wpAny_onRaise ?_))
  show wpAny _ _ (Builtin.SmallTypes.nextOf (.ref j1) >>= _) _ _ _
  cases ex : xs[k]? with
  | none =>
    refine wpAny_bind (pull_end hd (i1.extBut s1.extBut D.i1z) (l1.extBut s1.extBut D.l1z) ex fun g2 e s2 ⟨oe, goe, coe⟩ => ?_)
    have zz2 : IsZip g2 z TI TO .ellipsis := s2 _ _ D.i1z.symm zz1
    have nez : e ≠ z := fun y => by
      subst y
      rw [zz2] at goe
      cases goe
      simp at coe
    exact wpAny_setField_rec zz2 (by simp) fun g3 _ s3 => q g3 e (fun c o n1 _ n3 _ y => s3.extBut _ _ n1 (s2 _ _ n3 (s1.extBut _ _ n1 y))) ⟨oe, s3.extBut _ _ nez goe, coe⟩
  | some x =>
    have ey : ys[k]? = none := ee.resolve_left (by rw [ex]; exact fun y => nomatch y)
    refine wpAny_bind (pull (i1.extBut s1.extBut D.i1z) (l1.extBut s1.extBut D.l1z) ex fun g2 i1' s2 => wpAny_pure ?_)
    have zO2 : IsPair g2 TO a b := s2.extBut _ _ D.TOi1 (s1.extBut _ _ D.TOz zO)
    refine wpAny_bind (wpAny_seqItems zO2 rfl (wpAny_bind (wpAny_updateSeq_pair zO2 fun g3 zO3 s3 => ?_)))
    refine wpAny_bind (wpAny_letGo (wpAny_pure (wpAny_bind (wpAny_bind (wpAny_onRaise ?_)))))
    show wpAny _ _ (Builtin.SmallTypes.nextOf (.ref j2) >>= _) _ _ _
    have i2' := ((i2.extBut s1.extBut D.i2z).extBut s2.extBut D.i12.symm).extBut s3.extBut D.TOi2.symm
    have l2' := ((l2.extBut s1.extBut D.l2z).extBut s2.extBut D.l2i1).extBut s3.extBut D.l2TO
    refine wpAny_bind (pull_end hd i2' l2' ey fun g4 e s4 ⟨oe, goe, coe⟩ => ?_)
    have zz4 : IsZip g4 z TI TO .ellipsis := s4 _ _ D.i2z.symm (s3.extBut _ _ D.TOz.symm (s2.extBut _ _ D.i1z.symm zz1))
    have nez : e ≠ z := fun y => by
      subst y
      rw [zz4] at goe
      cases goe
      simp at coe
    exact wpAny_setField_rec zz4 (by simp) fun g5 _ s5 => q g5 e (fun c o n1 n2 n3 n4 y => s5.extBut _ _ n1 (s4 _ _ n4 (s3.extBut _ _ n2 (s2.extBut _ _ n3 (s1.extBut _ _ n1 y))))) ⟨oe, s5.extBut _ _ nez goe, coe⟩

theorem next_item {z TI TO j1 j2 t1 t2 : Addr} {k : Nat} {xs ys : Array Value} {x y a b : Value} {Q : Option Value → Shared → Prop} (D : ZipApart z TI TO j1 j2 t1 t2)
    (zz : IsZip s.heap z TI TO .none) (zI : IsPair s.heap TI (.ref j1) (.ref j2)) (zO : IsPair s.heap TO a b)
    (i1 : s.heap.IsTupleIter j1 t1 k) (i2 : s.heap.IsTupleIter j2 t2 k) (l1 : s.heap.IsTuple t1 xs) (l2 : s.heap.IsTuple t2 ys) (ex : xs[k]? = some x) (ey : ys[k]? = some y)
    (q : ∀ g, IsZip g z TI TO (rawInt s.heap.objs.size) → IsPair g TO x y → g.IsTupleIter j1 t1 (k + 1) → g.IsTupleIter j2 t2 (k + 1) → IsPair g s.heap.objs.size x y →
      (∀ c o, c ≠ z → c ≠ TO → c ≠ j1 → c ≠ j2 → s.heap.get? c = some o → g.get? c = some o) → Q (some (.ref s.heap.objs.size)) { s with heap := g }) : wpAny (model prog w) A (pyNext (.ref z)) Q E s := by
  have ty : s.TypeIs (.ref z) "zip" := ⟨_, zz, rfl⟩
  unfold pyNext
  refine wpAny_bind (wpAny_attempt (wpAny_callSpecial?_slot (name := Str.ofString "__next__") ty F.slot_zip_next (wpAny_call_entry F.slot_zip_next ty F.entry_zip_next ?_ (F.args_zip_next_1 _))))
  exact zip_item D zz zI zO i1 i2 l1 l2 ex ey fun g b1 b2 b3 b4 b5 b6 => wpAny_pure (q g b1 b2 b3 b4 b5 b6)
theorem next_stop {z TI TO j1 j2 t1 t2 : Addr} {k : Nat} {xs ys : Array Value} {a b : Value} {Q : Option Value → Shared → Prop} (hd : A.handled = none) (D : ZipApart z TI TO j1 j2 t1 t2)
    (zz : IsZip s.heap z TI TO .none) (zI : IsPair s.heap TI (.ref j1) (.ref j2)) (zO : IsPair s.heap TO a b)
    (i1 : s.heap.IsTupleIter j1 t1 k) (i2 : s.heap.IsTupleIter j2 t2 k) (l1 : s.heap.IsTuple t1 xs) (l2 : s.heap.IsTuple t2 ys) (ee : xs[k]? = none ∨ ys[k]? = none)
    (q : ∀ g, (∀ c o, c ≠ z → c ≠ TO → c ≠ j1 → c ≠ j2 → s.heap.get? c = some o → g.get? c = some o) → Q none { s with heap := g }) : wpAny (model prog w) A (pyNext (.ref z)) Q E s := by
  have ty : s.TypeIs (.ref z) "zip" := ⟨_, zz, rfl⟩
  unfold pyNext
  refine wpAny_bind (wpAny_attempt (wpAny_callSpecial?_slot (name := Str.ofString "__next__") ty F.slot_zip_next (wpAny_call_entry F.slot_zip_next ty F.entry_zip_next ?_ (F.args_zip_next_1 _))))
  refine zip_stop hd D zz zI zO i1 i2 l1 l2 ee fun g e up ⟨oe, goe, coe⟩ => ?_
  exact wpAny_bind (wpAny_isInstance (T := "StopIteration") (b := true) ⟨oe, goe, coe⟩ isSubtype_stop (wpAny_pure (q _ up)))
end

/-! making it -/
abbrev mk1 (h : Heap) (t1 : Addr) : Heap := h.push { cls := .type "tuple_iterator", data := .fields #[.ref t1, .int 0 0] }
abbrev mk2 (h : Heap) (t1 t2 : Addr) : Heap := (mk1 h t1).push { cls := .type "tuple_iterator", data := .fields #[.ref t2, .int 0 0] }
abbrev mk3 (h : Heap) (t1 t2 : Addr) : Heap := (mk2 h t1 t2).push { cls := .type "tuple", data := .seq #[.ref h.objs.size, .ref (mk1 h t1).objs.size] }
abbrev mk4 (h : Heap) (t1 t2 : Addr) : Heap := (mk3 h t1 t2).push { cls := .type "tuple", data := .seq #[.none, .none] }
abbrev mk5 (h : Heap) (t1 t2 : Addr) : Heap := (mk4 h t1 t2).push { cls := .type "zip", data := .fields #[.none, .bool false, .bool false, .ref (mk2 h t1 t2).objs.size, .ref (mk3 h t1 t2).objs.size] }
theorem meets_new (t1 t2 : Addr) (xs ys : Array Value) : Meets (Builtin.«zip.__new__» ⟨[.type "zip", .ref t1, .ref t2], []⟩) (fun _ R s => s.heap.IsTuple t1 xs ∧ s.heap.IsTuple t2 ys ∧ R (.ok (.ret (.ref (mk4 s.heap t1 t2).objs.size))) { s with heap := mk5 s.heap t1 t2 }) :=
  .of_wp fun prog w A R s h => by
    obtain ⟨hh, gg, dd, tt, oo⟩ := s
    obtain ⟨a1, a2, h⟩ := h
    have sub := sub_zip
    have b1 : Heap.IsTuple (Shared.heap ⟨hh, gg, dd, tt, oo⟩) t1 xs := a1
    have b2 : Heap.IsTuple (Shared.heap ⟨mk1 hh t1, gg, dd, tt, oo⟩) t2 ys := Heap.IsTuple.push a2 _
    wp_walk using wpAny_pyIter_tuple b1, wpAny_pyIter_tuple b2
    exact ⟨_, rfl, h⟩
section
variable {prog : Program} {w : World} {A : Around} {E : Value → Shared → Prop} {s : Shared}
theorem make {t1 t2 : Addr} {xs ys : Array Value} {Q : Value → Shared → Prop} (a1 : s.heap.IsTuple t1 xs) (a2 : s.heap.IsTuple t2 ys)
    (q : ∀ g, IsZip g (s.heap.objs.size + 4) (s.heap.objs.size + 2) (s.heap.objs.size + 3) .none → IsPair g (s.heap.objs.size + 2) (.ref s.heap.objs.size) (.ref (s.heap.objs.size + 1)) → IsPair g (s.heap.objs.size + 3) .none .none →
      g.IsTupleIter s.heap.objs.size t1 0 → g.IsTupleIter (s.heap.objs.size + 1) t2 0 → (∀ c o, s.heap.get? c = some o → g.get? c = some o) → Q (.ref (s.heap.objs.size + 4)) { s with heap := g }) :
    wpAny (model prog w) A (call (.type "zip") [.ref t1, .ref t2]) Q E s := by
  refine callType_new F.called_zip (by decide) (F.typeCall_zip_2 _ _) (F.newCall_zip_2 _ _) (fun obj => F.args_object_init_3 obj _ _) F.entry_zip_new (meets_new t1 t2 xs ys) ⟨a1, a2, ?_⟩
  have n1 : (mk1 s.heap t1).objs.size = s.heap.objs.size + 1 := Heap.size_push ..
  have n2 : (mk2 s.heap t1 t2).objs.size = s.heap.objs.size + 2 := by rw [Heap.size_push, n1]
  have n3 : (mk3 s.heap t1 t2).objs.size = s.heap.objs.size + 3 := by rw [Heap.size_push, n2]
  have n4 : (mk4 s.heap t1 t2).objs.size = s.heap.objs.size + 4 := by rw [Heap.size_push, n3]
  have p5 : (mk5 s.heap t1 t2).get? (mk4 s.heap t1 t2).objs.size = some _ := Heap.get?_push_size _ rfl
  have p4 : (mk5 s.heap t1 t2).get? (mk3 s.heap t1 t2).objs.size = some _ := Heap.get?_push_of_some _ (Heap.get?_push_size _ rfl)
  have p3 : (mk5 s.heap t1 t2).get? (mk2 s.heap t1 t2).objs.size = some _ := Heap.get?_push_of_some _ (Heap.get?_push_of_some _ (Heap.get?_push_size _ rfl))
  have p2 : (mk5 s.heap t1 t2).get? (mk1 s.heap t1).objs.size = some _ := Heap.get?_push_of_some _ (Heap.get?_push_of_some _ (Heap.get?_push_of_some _ (Heap.get?_push_size _ rfl)))
  have p1 : (mk5 s.heap t1 t2).get? s.heap.objs.size = some _ := Heap.get?_push_of_some _ (Heap.get?_push_of_some _ (Heap.get?_push_of_some _ (Heap.get?_push_of_some _ (Heap.get?_push_size _ rfl))))
  show _ ∧ _
  rw [n2, n3, n4] at p5
  rw [n1, n2] at p3
  rw [n3] at p4
  rw [n1] at p2
  rw [n4]
  exact ⟨⟨_, p5, rfl⟩, q _ p5 p3 p4 ⟨_, p1, rfl, rfl⟩ ⟨_, p2, rfl, rfl⟩ fun c o y => Heap.get?_push_of_some _ (Heap.get?_push_of_some _ (Heap.get?_push_of_some _ (Heap.get?_push_of_some _ (Heap.get?_push_of_some _ y))))⟩
end
end Zt

namespace L2
open PySem PySem.Spec PyProof.Rows
/-- two tuples walked side by side: each turn hands out a new pair -/
def Itz (K : PySem.W.Frag) (a b : Addr) : It :=
  ⟨fun i H => ∃ xs ys x y, SqT K H a xs ∧ SqT K H b ys ∧ xs[i]? = some x ∧ ys[i]? = some y,
   fun i H v H' => ∃ p, H p = none ∧ v = .ref p ∧ ∃ x y, H' = upd H p (.tup [x, y]) ∧ ∀ xs ys, SqT K H a xs → SqT K H b ys → xs[i]? = some x ∧ ys[i]? = some y,
   fun i H => ∃ xs ys, SqT K H a xs ∧ SqT K H b ys ∧ (xs.length ≤ i ∨ ys.length ≤ i)⟩
def tupleTg : Expr → Bool
  | .Tuple _ _ _ => true
  | _ => false
/-- records at L have turned; a new tuple stands at p -/
theorem Inv.turnedNew {X : Cx} {pins : List (Addr × Obj)} {σ : St} {H : Hp} {s : Shared} {h' : Heap} {t' : Nat} {L : List Addr} {p : Addr} {xs : List V} (I : Inv X pins σ H s) (k : ∀ b o, b ∉ L → s.heap.get? b = some o → h'.get? b = some o)
    (hf : ∀ b ∈ L, FpOk X pins H b) (hp : s.heap.objs.size ≤ p) (new : ObjOk X.prog X.w (upd H p (.tup xs)) h' p (.tup xs)) : Inv X pins σ (upd H p (.tup xs)) { s with heap := h', toks := t' } := by
  have hn : H p = none := I.hok.fresh hp
  have ne : ∀ b o, s.heap.get? b = some o → b ≠ p := fun b o e => Nat.ne_of_lt (Nat.lt_of_lt_of_le (Heap.lt_size e) hp)
  have nit : ∀ b u, H b = some u → b ∉ L := fun b u e z => by rw [(hf b z).1] at e; cases e
  refine I.step (g' := s.gens) (d' := s.drawn) (ch := L) (fun b hb => ?_) (fun b o _ _ hc e _ => k b o hc e) (fun b o _ _ hc e _ => ⟨o.slots, k b o hc e⟩) (fun b o _ e n => by rw [upd_ne (ne b o e)]; exact n) (fun b o hc e => ⟨o, k b o hc e⟩)
    (fun b ys e => by rw [upd_ne (ne_of_none e hn)]; exact e) (fun b o u e => by rw [upd_ne (ne_of_none e hn)]; exact e) (fun b ps e => ⟨#[], by rw [upd_ne (ne_of_none e hn), e]; simp⟩) (fun m hm => ?_) (fun b u e => ?_) I.bare
  · obtain ⟨_, f1, _, f3, f4, f5⟩ := hf b hb
    exact ⟨f3, f1, f4, f5⟩
  · obtain ⟨o, es, ep, ho, r⟩ := hm
    exact ⟨o, es, ep, k _ o (fun z => (hf _ z).2.1 rfl) ho, r⟩
  · by_cases hb : b = p
    · subst hb
      rw [upd_same] at e
      cases e
      exact new
    · rw [upd_ne hb] at e
      refine (I.hok b u e).stay (fun c v hc q => k c v ?_ q) (fun c q => by rw [upd_ne (ne_of_none q hn)]; exact q) fun c ys q => by rw [upd_ne (ne_of_none q hn)]; exact q
      rcases hc with z | z
      · rw [z]; exact nit b u e
      · exact nit c _ z
theorem Inv.turnedL {X : Cx} {pins : List (Addr × Obj)} {σ : St} {H : Hp} {s : Shared} {h' : Heap} {t' : Nat} {L : List Addr} (I : Inv X pins σ H s) (k : ∀ b o, b ∉ L → s.heap.get? b = some o → h'.get? b = some o)
    (hf : ∀ b ∈ L, FpOk X pins H b) : Inv X pins σ H { s with heap := h', toks := t' } := by
  have nit : ∀ b u, H b = some u → b ∉ L := fun b u e z => by rw [(hf b z).1] at e; cases e
  refine I.step (g' := s.gens) (d' := s.drawn) (ch := L) (fun b hb => ?_) (fun b o _ _ hc e _ => k b o hc e) (fun b o _ _ hc e _ => ⟨o.slots, k b o hc e⟩) (fun _ _ _ _ n => n) (fun b o hc e => ⟨o, k b o hc e⟩) (fun _ _ e => e) (fun _ _ _ e => e) (fun b ps e => ⟨#[], by rw [e]; simp⟩)
    (fun m hm => ?_) (fun b u e => ?_) I.bare
  · obtain ⟨_, f1, _, f3, f4, f5⟩ := hf b hb
    exact ⟨f3, f1, f4, f5⟩
  · obtain ⟨o, es, ep, ho, r⟩ := hm
    exact ⟨o, es, ep, k _ o (fun z => (hf _ z).2.1 rfl) ho, r⟩
  · refine (I.hok b u e).stay (fun c v hc q => k c v ?_ q) (fun _ q => q) fun _ _ q => q
    rcases hc with z | z
    · rw [z]; exact nit b u e
    · exact nit c _ z
theorem turn_zip {P : Program} {w : World} {K : PySem.W.Frag} {tg : Expr} (htg : tupleTg tg = true) {z TI TO j1 j2 a b : Addr} (D : ZipApart z TI TO j1 j2 a b) :
    Turn P w K tg (Itz K a b) [z, TO, j1, j2, TI] z (fun i h => IsZip h z TI TO .none ∧ IsPair h TI (.ref j1) (.ref j2) ∧ (∃ u v, IsPair h TO u v) ∧ h.IsTupleIter j1 a i ∧ h.IsTupleIter j2 b i) where
  mem := List.mem_cons_self
  obj := fun i h st c hc => by
    obtain ⟨h1, h2, ⟨u, v, h3⟩, ⟨o4, h4, _, d4⟩, ⟨o5, h5, _, d5⟩⟩ := st
    have nof : ∀ {o : Obj} {vs : Array Value}, o.data = .fields vs → ∀ v, o.data ≠ .cell v := fun e v q => by rw [e] at q; cases q
    have nos : ∀ {o : Obj} {vs : Array Value} {n : Nat}, o.data = .seq vs n → ∀ v, o.data ≠ .cell v := fun e v q => by rw [e] at q; cases q
    simp only [List.mem_cons, List.not_mem_nil, or_false] at hc
    rcases hc with rfl | rfl | rfl | rfl | rfl
    · exact ⟨_, h1, nof rfl⟩
    · exact ⟨_, h3, nos rfl⟩
    · exact ⟨_, h4, nof d4⟩
    · exact ⟨_, h5, nof d5⟩
    · exact ⟨_, h2, nos rfl⟩
  keep := fun i h h' st k => by
    obtain ⟨h1, h2, ⟨u, v, h3⟩, ⟨o4, h4, r4⟩, ⟨o5, h5, r5⟩⟩ := st
    exact ⟨k _ (by simp) _ h1, k _ (by simp) _ h2, ⟨u, v, k _ (by simp) _ h3⟩, ⟨o4, k _ (by simp) _ h4, r4⟩, ⟨o5, k _ (by simp) _ h5, r5⟩⟩
  item := by
    intro X hP hw hK hc i pins s σ H E I hf st hg
    subst hP hw hK
    obtain ⟨h1, h2, ⟨u, v, h3⟩, h4, h5⟩ := st
    obtain ⟨xs, ys, x, y, qa, qb, hx, hy⟩ := hg
    obtain ⟨its, rv, pa, _⟩ := I.tuple qa
    obtain ⟨jts, rw', pb, _⟩ := I.tuple qb
    obtain ⟨ux, eux, rux⟩ := rv.get hx
    obtain ⟨uy, euy, ruy⟩ := rw'.get hy
    refine Zt.next_item D h1 h2 h3 h4 h5 (show s.heap.IsTuple a its.toArray from pa) (show s.heap.IsTuple b jts.toArray from pb) (x := ux) (y := uy) (by simpa using eux) (by simpa using euy) fun g b1 b2 b3 b4 b5 b6 => ?_
    refine ⟨_, rfl, ?_⟩
    have zlt : z < s.heap.objs.size := Heap.lt_size h1
    cases tg with
    | Tuple es kk pp =>
      refine wpAny_letOwnedTupleGo_zip b1 fun g' c1 sb => ?_
      have new : IsPair g' s.heap.objs.size ux uy := sb.extBut _ _ (Nat.ne_of_gt zlt) b5
      have I1 : Inv X pins σ (upd H s.heap.objs.size (.tup [x, y])) { s with heap := g' } := by
        refine I.turnedNew (t' := s.toks) (L := [z, TO, j1, j2, TI]) (fun c o hcn e => ?_) hf (Nat.le_refl _) ⟨by show 2 ≤ sizeLine; decide, [ux, uy], .cons rux (.cons ruy .nil), ⟨_, new, rfl, ⟨0, rfl⟩, rfl⟩⟩
        simp only [List.mem_cons, List.not_mem_nil, or_false, not_or] at hcn
        exact sb.extBut c o hcn.1 (b6 c o hcn.1 hcn.2.1 hcn.2.2.1 hcn.2.2.2.1 e)
      have h2' : IsPair g' TI (.ref j1) (.ref j2) := sb.extBut _ _ D.TIz (b6 _ _ D.TIz D.TITO D.TIi1 D.TIi2 h2)
      refine ⟨.ref s.heap.objs.size, _, I1, rfl, ⟨_, I.fresh, rfl, x, y, rfl, fun xs' ys' q1 q2 => ⟨by rw [I.tuple_inj q1 qa]; exact hx, by rw [I.tuple_inj q2 qb]; exact hy⟩⟩, ⟨c1, h2', ⟨_, _, sb.extBut _ _ D.TOz b2⟩, b3.extBut sb.extBut D.i1z, b4.extBut sb.extBut D.i2z⟩, fun c hcm => ?_⟩
      obtain ⟨o, eo, _⟩ : ∃ o, s.heap.get? c = some o ∧ True := by
        simp only [List.mem_cons, List.not_mem_nil, or_false] at hcm
        rcases hcm with rfl | rfl | rfl | rfl | rfl
        · exact ⟨_, h1, trivial⟩
        · exact ⟨_, h3, trivial⟩
        · obtain ⟨o4, g4, _⟩ := h4
          exact ⟨_, g4, trivial⟩
        · obtain ⟨o5, g5, _⟩ := h5
          exact ⟨_, g5, trivial⟩
        · exact ⟨_, h2, trivial⟩
      rw [upd_ne (Nat.ne_of_lt (Heap.lt_size eo))]
      exact (hf c hcm).1
    | _ => exact absurd (show false = true from htg) Bool.false_ne_true
  done := by
    intro X hP hw hK hc i pins s σ H E I hf st hg
    subst hP hw hK
    obtain ⟨h1, h2, ⟨u, v, h3⟩, h4, h5⟩ := st
    obtain ⟨xs, ys, qa, qb, hl⟩ := hg
    obtain ⟨its, rv, pa, _⟩ := I.tuple qa
    obtain ⟨jts, rw', pb, _⟩ := I.tuple qb
    have e1 := rv.length
    have e2 := rw'.length
    refine Zt.next_stop (I.ok.hd hc) D h1 h2 h3 h4 h5 (show s.heap.IsTuple a its.toArray from pa) (show s.heap.IsTuple b jts.toArray from pb) ?_ fun g up => ⟨rfl, ?_⟩
    · rcases hl with hl | hl
      · exact .inl (by simp; omega)
      · exact .inr (by simp; omega)
    · refine I.turnedL (t' := s.toks) (L := [z, TO, j1, j2, TI]) (fun c o hcn e => ?_) hf
      simp only [List.mem_cons, List.not_mem_nil, or_false, not_or] at hcn
      exact up c o hcn.1 hcn.2.1 hcn.2.2.1 hcn.2.2.2.1 e
  self := fun _ _ _ _ _ st h => wpAny_pyIter_zip st.1 h

section
variable {X : Cx} {tg : Expr}
def iZip (K : PySem.W.Frag) (ta : TA) : TI := fun σ H R => ta σ H fun vs H1 => ∃ a b, vs = [.ref a, .ref b] ∧ (∃ xs, SqT K H1 a xs) ∧ (∃ ys, SqT K H1 b ys) ∧ R (Itz K a b) H1
theorem apart_new {n l1 l2 : Addr} (h1 : l1 < n) (h2 : l2 < n) : ZipApart (n + 4) (n + 2) (n + 3) n (n + 1) l1 l2 := zipApart_new h1 h2
theorem pi_zip {e1 e2 : Expr} {ta : TA} {p pos : Pos} (htg : tupleTg tg = true) (hg : Gl X "zip") (hm : X.mg "zip" = none) (ha : PA X [e1, e2] ta) (hs : starEach [e1, e2] X.env = [(false, eval e1 X.env), (false, eval e2 X.env)] := by rfl) (hs2 : starEach [e2] X.env = [(false, eval e2 X.env)] := by rfl)
    (hb : bootBuiltins "zip" = some (.type "zip") := by decide +kernel) : PI X tg (.Call (.Name "zip" p) [e1, e2] [] pos) (iZip X.K ta) := by
  intro pins s σ H R I h
  refine Call_ (ld_blt I hg hm hb (PyProof.Rows.callWith_type1 (thn (ha pos pins s σ H _ I h) fun us s1 ⟨vs, H1, I1, r1, q1⟩ => ?_) (by rw [hs, hs2]) (by rw [hs2]; rfl)))
  obtain ⟨a, b, e, ⟨xs, qa⟩, ⟨ys, qb⟩, q⟩ := q1
  subst e
  obtain ⟨u1, u2, rfl, ra, rb⟩ := vals2 r1
  cases ra
  cases rb
  obtain ⟨its, rv, pa, _⟩ := I1.tuple qa
  obtain ⟨jts, rw', pb, _⟩ := I1.tuple qb
  have la : a < s1.heap.objs.size := by obtain ⟨o, e, _⟩ := pa; exact Heap.lt_size e
  have lb : b < s1.heap.objs.size := by obtain ⟨o, e, _⟩ := pb; exact Heap.lt_size e
  refine Zt.make (show s1.heap.IsTuple a its.toArray from pa) (show s1.heap.IsTuple b jts.toArray from pb) fun g z1 z2 z3 z4 z5 up => ?_
  refine wpAny_pyIter_zip z1 ?_
  have I2 : Inv X pins σ H1 { s1 with heap := g } := I1.kept (t' := s1.toks) up
  refine ⟨_, [s1.heap.objs.size + 4, s1.heap.objs.size + 3, s1.heap.objs.size, s1.heap.objs.size + 1, s1.heap.objs.size + 2], _, _, H1, rfl, I2, turn_zip htg (apart_new la lb), ⟨z1, z2, ⟨_, _, z3⟩, z4, z5⟩, fun c hc => ?_, q⟩
  have big : s1.heap.objs.size ≤ c := by
    simp only [List.mem_cons, List.not_mem_nil, or_false] at hc
    rcases hc with rfl | rfl | rfl | rfl | rfl
    · exact Nat.le_add_right _ _
    · exact Nat.le_add_right _ _
    · exact Nat.le_refl _
    · exact Nat.le_add_right _ _
    · exact Nat.le_add_right _ _
  exact I1.fpOk big (I1.hok.fresh big)
end
/-- for x, y in zip(t, u): the pair's own slot is kept apart -/
theorem for_zip {K : PySem.W.Frag} {a b : Addr} {xs ys : List V} {g : TG} {tb : TS} {D : Ends} {σ : St} {H : Hp} (Pv : Nat → St → Hp → Prop) (h0 : Pv 0 σ H) (hl : ∀ i σ H, i ≤ min xs.length ys.length → Pv i σ H → SqT K H a xs ∧ SqT K H b ys)
    (hs : ∀ i x y p σ H, xs[i]? = some x → ys[i]? = some y → H p = none → Pv i σ H → g (.ref p) σ (upd H p (.tup [x, y])) fun σ2 H2 => tb { D with nx := Pv (i + 1), ct := Pv (i + 1), bk := D.nx } σ2 H2) (hd : ∀ σ H, Pv (min xs.length ys.length) σ H → D.nx σ H) :
    ∃ W : Nat → Nat → St → Hp → Prop, (∃ m, W 0 m σ H) ∧ ∀ i m σ H, W i m σ H →
      ((Itz K a b).stop i H ∧ D.nx σ H) ∨ ((Itz K a b).go i H ∧ ∃ N : St → Hp → Prop, (∀ σ' H', N σ' H' → ∃ m', m' < m ∧ W (i + 1) m' σ' H') ∧ ∀ x H', (Itz K a b).yld i H x H' → g x σ H' fun σ2 H2 => tb { D with nx := N, ct := N, bk := D.nx } σ2 H2) := by
  refine ⟨fun i m σ H => m = min xs.length ys.length - i ∧ i ≤ min xs.length ys.length ∧ Pv i σ H, ⟨_, rfl, Nat.zero_le _, h0⟩, ?_⟩
  rintro i m σ H ⟨rfl, hi, p⟩
  obtain ⟨qa, qb⟩ := hl i σ H hi p
  by_cases hlt : i < min xs.length ys.length
  · have h1 : i < xs.length := by omega
    have h2 : i < ys.length := by omega
    refine .inr ⟨⟨xs, ys, xs[i], ys[i], qa, qb, by simp [h1], by simp [h2]⟩, Pv (i + 1), fun σ' H' p' => ⟨min xs.length ys.length - (i + 1), by omega, rfl, hlt, p'⟩, fun v H' yv => ?_⟩
    obtain ⟨q, hq, rfl, x, y, rfl, hxy⟩ := yv
    obtain ⟨ex, ey⟩ := hxy xs ys qa qb
    exact hs i x y q σ H ex ey hq p
  · have e : i = min xs.length ys.length := by omega
    refine .inl ⟨⟨xs, ys, qa, qb, by omega⟩, hd σ H (e ▸ p)⟩
end L2

set_option Elab.async false
set_option linter.all false
set_option maxRecDepth 100000
set_option maxHeartbeats 4000000
/-! TUPLES: of a range, repeated, cut whole. -/
namespace Tp
open PySem PyProof.Rows
open AutoSeq1 (wpAny_loadPart')
section
variable {prog : Program} {w : World} {A : Around} {E : Value → Shared → Prop} {s : Shared}
end
end Tp

namespace L2
open PySem PySem.Spec PyProof.Rows
section
variable {X : Cx}
end
end L2

set_option Elab.async false
set_option linter.all false
set_option maxRecDepth 100000
set_option maxHeartbeats 4000000
namespace Tp
open PySem PyProof.Rows
open AutoSeq1 (wpAny_loadPart')
theorem noFill_mul : fillsNumberSlot (.type "tuple") "mul" = pure false :=
  PySem.fillsNumberSlot_seq (id := "tuple.__mul__") (r := some (.builtin "tuple.__rmul__")) F.slot_tuple_mul.lookup (by decide +kernel) F.slot_tuple_rmul.lookup (by decide +kernel)
theorem rep_slot : seqRepeat? (.type "tuple") = pure (some (.builtin "tuple.__mul__")) := by
  unfold seqRepeat?
  rw [PySem.seqSlot_of (T := "tuple") (name := "__mul__") (id := "tuple.__mul__") F.slot_tuple_mul.lookup (by decide +kernel), PySem.seqSlot_of (T := "tuple") (name := "__rmul__") (id := "tuple.__rmul__") F.slot_tuple_rmul.lookup (by decide +kernel)]
  rfl
theorem rmul_no (a : Int) (t : Tok) (l : Addr) (items : Array Value) (n : Nat) (dd : Option Addr) (sl : Array (Option Value)) :
    Meets (Builtin.«int.__rmul__» ⟨[.int a t, .ref l], []⟩) (fun _ R s => s.heap.get? l = some { cls := .type "tuple", dict := dd, data := .seq items n, slots := sl } ∧ R (.ok (.ret Value.notImplemented)) s) :=
  .of_wp fun prog w A R s h => by
    obtain ⟨h1, h2, h3, h4, h5⟩ := s
    obtain ⟨hl, h⟩ := h
    wp_walk using wpAny_loadPart' hl
    exact ⟨_, rfl, h⟩
theorem meets_mul (l : Addr) (items : Array Value) (n : Nat) (x : Int) (u : Tok) (dd : Option Addr) (sl : Array (Option Value)) (he : items.isEmpty = false) (h1 : 2 ≤ x) (h2 : x < 2 ^ 63) (hz : items.size * x.toNat ≤ sizeLine) :
    Meets (Builtin.«tuple.__mul__» ⟨[.ref l, .int x u], []⟩) (fun _ R s => s.heap.get? l = some { cls := .type "tuple", dict := dd, data := .seq items n, slots := sl } ∧
      R (.ok (.ret (.ref s.heap.objs.size))) { s with heap := s.heap.push { cls := .type "tuple", data := .seq (List.foldl (fun x1 x2 => x1 ++ x2) #[] (List.replicate x.toNat items)) } }) :=
  .of_wp fun prog w A R s h => by
    obtain ⟨hp, g, d, tk, os⟩ := s
    obtain ⟨hl, h⟩ := h
    have f1 := AutoSeq1.idx_int
    have c0 : ¬ (decide (x < -(2 ^ 63)) || decide (x ≥ 2 ^ 63)) = true := by simp; omega
    have c1 : ¬ (items.isEmpty || x == 1) = true := by rw [he]; simp; omega
    have c2 : ¬ (decide (x ≤ 0) || items.isEmpty) = true := by rw [he]; simp; omega
    have hx : ((x.toNat : Nat) : Int) = x := Int.toNat_of_nonneg (by omega)
    have hm : ((items.size : Nat) : Int) * x = ((items.size * x.toNat : Nat) : Int) := by rw [Int.natCast_mul, hx]
    have hs : sizeLine = 16777216 := sizeLine_eq
    have c3 : ¬ ((items.size : Nat) : Int) * x > (2 ^ 63 - 1) / 8 := by rw [hm]; omega
    have c4 : ¬ Builtin.Tuple.tupleTooMany (((items.size : Nat) : Int) * x) = true := by
      rw [hm]
      unfold Builtin.Tuple.tupleTooMany
      intro z
      have := of_decide_eq_true z
      omega
    have hsz : (List.foldl (fun x1 x2 => x1 ++ x2) #[] (List.replicate x.toNat items)).size ≤ sizeLine := by
      have e := L2.foldl_rep items.toList x.toNat []
      rw [List.nil_append] at e
      have e' : List.foldl (fun x1 x2 => x1 ++ x2) #[] (List.replicate x.toNat items) = (List.replicate x.toNat items.toList).flatten.toArray := by simpa using e
      rw [e', List.size_toArray, L2.len_rep, Array.length_toList, Nat.mul_comm]
      exact hz
    wp_walk using wpAny_loadPart' hl
    rw [if_neg c0]
    refine wpAny_bind (tupleItemsOf_ (items := items) ⟨_, hl, rfl, n, rfl⟩ ?_)
    dsimp only
    rw [if_neg c1, if_neg c2, if_neg c3, if_neg c4]
    unfold Builtin.Tuple.tupleExact
    exact wpAny_bind (wpAny_newObj_type (wpAny_pure ⟨_, rfl, h⟩) hsz)
end Tp
namespace HT
open PySem PyProof.Rows
section
variable {prog : Program} {w : World} {A : Around} {E : Value → Shared → Prop} {s : Shared}
/-- t[a:b], the whole of it: t itself -/
theorem cut_whole {t sl : Addr} {items : Array Value} {vl vu : Value} {lo hi : Option Int} {Q : Value → Shared → Prop} (ht : IsTup s.heap t items) (hs : s.heap.IsSliceOf sl vl vu .none) (pl : IsPart vl lo) (pu : IsPart vu hi)
    (hw : sIx items.size 0 lo = 0 ∧ sIx items.size items.size hi = items.size) (h : Q (.ref t) s) : wpAny (model prog w) A (getItem (.ref t) (.ref sl)) Q E s := by
  obtain ⟨os, hos, hcs, hds⟩ := id hs
  have hTs : s.TypeIs (.ref sl) "slice" := ⟨os, hos, hcs⟩
  unfold getItem
  try with_reducible refine wpAny_holding ?_
  first | refine wpAny_bind (wpAny_pure ?_) | skip
  refine wpAny_bind (wpAny_sequenceKey ht.typeIs (by decide) ?_)
  refine wpAny_bind (wpAny_callSpecial?_slot (name := Str.ofString "__getitem__") ht.typeIs PyProof.Rows.slot_tuple_getitem
    (wpAny_call_entry PyProof.Rows.slot_tuple_getitem ht.typeIs entry_tuple_getitem ?_ (args_tuple_getitem _ _)))
  show wpAny _ _ (Builtin.Tuple.tupleItemsOf (.ref t) >>= _) _ _ s
  refine wpAny_bind (tupleItemsOf_ ht ?_)
  refine wpAny_bind (wpAny_typeOf hTs ?_)
  rw [if_pos (by decide)]
  refine wpAny_bind (sliceApplied_gen hs pl pu ?_)
  have hyes : (((sIx items.size 0 lo : Nat) : Int) == 0 && (1 : Int) == 1 && (sIx items.size items.size hi - sIx items.size 0 lo) == items.size) = true := by
    rw [hw.1, hw.2]; simp
  show wpAny _ _ (if (((sIx items.size 0 lo : Nat) : Int) == 0 && (1 : Int) == 1 && (sIx items.size items.size hi - sIx items.size 0 lo) == items.size) = true then _ else _) _ _ s
  rw [if_pos hyes]
  obtain ⟨ot, got, cot, _⟩ := id ht
  unfold Builtin.Tuple.tupleIsExact
  refine wpAny_bind (wpAny_bind (wpAny_typeOf ht.typeIs (wpAny_pure ?_)))
  rw [if_pos (by decide)]
  exact wpAny_bind (wpAny_rule (wpAny_pure ⟨_, rfl, wpAny_pure h⟩))
end
end HT
namespace L2
open PySem PySem.Spec PyProof.Rows
section
variable {X : Cx}
/-- a tuple, not empty, times an int from 2 on -/
def rRepT : R2 := fun x y H Q => ∃ l k xs, x = .ref l ∧ y = .int k ∧ H l = some (.tup xs) ∧ xs ≠ [] ∧ 2 ≤ k ∧ k < 2 ^ 63 ∧ xs.length * k.toNat ≤ sizeLine ∧
  ∀ p, H p = none → Q (.ref p) (upd H p (.tup (List.replicate k.toNat xs).flatten))
theorem op_repT : OpR X (binaryOp .Mult) rRepT := by
  intro pins s σ H x y v u Q I rx ry h
  obtain ⟨l, k, xs, rfl, rfl, hH, hne, h1, h2, hz, q⟩ := h
  cases rx
  obtain ⟨t, rfl⟩ := ry
  obtain ⟨its, r, pt, hz'⟩ := I.tuple (SqT.of hH)
  have hl := r.length
  obtain ⟨⟨c1, d1, f1, s1⟩, g1, k1, n1, j1⟩ := id pt
  simp only at k1 j1
  subst k1 j1
  have he : its.toArray.isEmpty = false := by
    cases its with
    | nil => exact absurd (r.nil_iff.mp rfl) hne
    | cons a b => rfl
  have hlen : its.toArray.size * k.toNat ≤ sizeLine := by rw [List.size_toArray, ← hl]; exact hz
  have hnew : List.foldl (fun x1 x2 => x1 ++ x2) #[] (List.replicate k.toNat its.toArray) = (List.replicate k.toNat its).flatten.toArray := by
    have := foldl_rep its k.toNat []
    rw [List.nil_append] at this
    exact this
  refine wpAny_binaryOp_repeat_ref (T := "tuple") (U := "int") (by decide) ⟨_, g1, rfl⟩ (fun s' => typeIs_int s' k t) Tp.noFill_mul F.fills_int_mul F.slot_int_rmul Tp.rep_slot F.slot_int_index.lookup
    (call_meets F.slot_int_rmul (typeIs_int s k t) F.entry_int_rmul (F.args_int_rmul_2 _ _) (Tp.rmul_no k t l its.toArray n1 d1 s1)
      ⟨g1, rfl, ⟨_, g1, rfl⟩, call_meets F.slot_tuple_mul ⟨_, g1, rfl⟩ F.entry_tuple_mul (F.args_tuple_mul_2 _ _) (Tp.meets_mul l its.toArray n1 k t d1 s1 he h1 h2 hlen) ⟨g1, ?_⟩⟩)
  rw [hnew]
  refine ⟨.ref s.heap.objs.size, _, I.laid (t' := s.toks) (o := .tup (List.replicate k.toNat xs).flatten) (fun b ob q => Heap.get?_push_of_some _ q) (Nat.le_refl _) ?_, rfl, q _ I.fresh⟩
  exact ⟨by rw [len_rep, Nat.mul_comm]; exact hz, _, r.rep k.toNat, IsTupD.new _ _⟩
/-- t[lo:hi], the whole of it -/
def rSlW (K : PySem.W.Frag) : V → Option Int → Option Int → Hp → VK → Prop := fun x lo hi H Q => ∃ a xs, x = .ref a ∧ SqT K H a xs ∧ HT.sIx xs.length 0 lo = 0 ∧ HT.sIx xs.length xs.length hi = xs.length ∧ Q (.ref a) H
theorem sl_whole : SlR X (rSlW X.K) := by
  intro pins s σ H x v vl vu lo hi sl Q I rx hs pl pu h
  obtain ⟨a, xs, rfl, hx, w1, w2, q⟩ := h
  cases rx
  obtain ⟨its, r, ht, hz⟩ := I.tuple hx
  have hlen : its.toArray.size = xs.length := by rw [List.size_toArray]; exact r.length.symm
  exact ⟨"tuple", _, PyProof.Rows.slot_tuple_getitem.lookup, ht.typeIs, HT.cut_whole ht hs pl pu (by rw [hlen]; exact ⟨w1, w2⟩) ⟨.ref a, H, I, rfl, q⟩⟩
/-- either way -/
theorem sl_tupA : SlR X (fun x lo hi H Q => rSlT X.K x lo hi H Q ∨ rSlW X.K x lo hi H Q) := sl_tup.or sl_whole
end
end L2

namespace L2
open PySem PySem.Spec PyProof.Rows
end L2
namespace L2
open PySem PySem.Spec PyProof.Rows
/-- a built-in type as a value -/
theorem pe_ty {X : Cx} {x : Str} {T : String} {pos : Pos} (hg : Gl X x) (hm : X.mg x = none) (hv : bootBuiltins x = some (.type T)) (hn : x ≠ "__name__" := by decide) (hd : (x == ("__debug__" : Str)) = false := by decide) : PE X (.Name x pos) (tC (.ty T)) :=
  pe_bltn (v := .ty T) hg hm hv rfl hn hd
end L2

namespace Mth
/-! numbers of the ten primes -/
def strip (p : Nat) (n : Nat) : Nat := if h : 2 ≤ p ∧ 1 ≤ n ∧ n % p = 0 then strip p (n / p) else n
termination_by n
decreasing_by exact Nat.div_lt_self h.2.1 h.1

theorem strip_div {p n : Nat} (hp : 2 ≤ p) (hn : 1 ≤ n) (h : n % p = 0) : strip p n = strip p (n / p) := by
  conv => lhs; unfold strip
  rw [dif_pos ⟨hp, hn, h⟩]
theorem strip_not {p n : Nat} (h : n % p ≠ 0) : strip p n = n := by
  unfold strip
  rw [dif_neg (fun q => h q.2.2)]
theorem div_pos_of {p n : Nat} (hn : 1 ≤ n) (h : n % p = 0) : 1 ≤ n / p := by
  have e := Nat.div_add_mod n p
  rw [h] at e
  rcases Nat.eq_zero_or_pos (n / p) with z | z
  · rw [z] at e; omega
  · exact z
theorem strip_pos {p : Nat} (hp : 2 ≤ p) : ∀ n : Nat, 1 ≤ n → 1 ≤ strip p n := by
  intro n
  induction n using Nat.strongRecOn with
  | ind n ih =>
    intro hn
    by_cases h : n % p = 0
    · rw [strip_div hp hn h]
      exact ih _ (Nat.div_lt_self hn hp) (div_pos_of hn h)
    · rw [strip_not h]; exact hn
theorem strip_mod {p : Nat} (hp : 2 ≤ p) : ∀ n : Nat, 1 ≤ n → strip p n % p ≠ 0 := by
  intro n
  induction n using Nat.strongRecOn with
  | ind n ih =>
    intro hn
    by_cases h : n % p = 0
    · rw [strip_div hp hn h]
      exact ih _ (Nat.div_lt_self hn hp) (div_pos_of hn h)
    · rw [strip_not h]; exact h
theorem strip_pow {p : Nat} (hp : 2 ≤ p) {m : Nat} (hm : 1 ≤ m) : ∀ e : Nat, strip p (p ^ e * m) = strip p m := by
  intro e
  induction e with
  | zero => rw [Nat.pow_zero, Nat.one_mul]
  | succ e ih =>
    have h1 : p ^ (e + 1) * m = p * (p ^ e * m) := by rw [Nat.pow_succ, Nat.mul_comm (p ^ e) p, Nat.mul_assoc]
    have hpos : 1 ≤ p ^ e * m := Nat.mul_pos (Nat.pow_pos (by omega)) hm
    have h2 : 1 ≤ p * (p ^ e * m) := Nat.mul_pos (by omega) hpos
    rw [h1, strip_div hp h2 (Nat.mul_mod_right _ _), Nat.mul_div_cancel_left _ (by omega)]
    exact ih

def primes : List Nat := [2, 3, 5, 7, 11, 13, 17, 19, 23, 29]
def stripL (ps : List Nat) (n : Nat) : Nat := ps.foldl (fun m p => strip p m) n
def stripAll (n : Nat) : Nat := stripL primes n
theorem stripL_pos : ∀ (ps : List Nat), (∀ p ∈ ps, 2 ≤ p) → ∀ n, 1 ≤ n → 1 ≤ stripL ps n
  | [], _, _, h => h
  | p :: ps, hp, n, h => stripL_pos ps (fun q hq => hp q (List.mem_cons_of_mem _ hq)) _ (strip_pos (hp p List.mem_cons_self) n h)
theorem two_le : ∀ p ∈ primes, 2 ≤ p := by decide
def noShare (a b : Nat) : Bool := primes.all fun p => a % p != 0 || b % p != 0
theorem noShare_iff {a b : Nat} : noShare a b = true ↔ ∀ p ∈ primes, ¬ (p ∣ a ∧ p ∣ b) := by
  unfold noShare
  rw [List.all_eq_true]
  constructor
  · intro h p hp ⟨h1, h2⟩
    have := h p hp
    rw [Nat.mod_eq_zero_of_dvd h1, Nat.mod_eq_zero_of_dvd h2] at this
    exact absurd this (by decide)
  · intro h p hp
    by_cases h1 : a % p = 0
    · by_cases h2 : b % p = 0
      · exact absurd ⟨Nat.dvd_of_mod_eq_zero h1, Nat.dvd_of_mod_eq_zero h2⟩ (h p hp)
      · simp [h2]
    · simp [h1]
/-! products -/
def prodR : List Nat → List Nat → Nat
  | p :: ps, e :: es => p ^ e * prodR ps es
  | _, _ => 1
theorem prodR_pos : ∀ (ps es : List Nat), (∀ p ∈ ps, 2 ≤ p) → 1 ≤ prodR ps es
  | [], _, _ => Nat.le_refl _
  | _ :: _, [], _ => Nat.le_refl _
  | p :: ps, e :: es, h => Nat.mul_pos (Nat.pow_pos (by have := h p List.mem_cons_self; omega)) (prodR_pos ps es fun q hq => h q (List.mem_cons_of_mem _ hq))
theorem cop_prodR {p : Nat} : ∀ (ps es : List Nat), (∀ q ∈ ps, Nat.Coprime p q) → Nat.Coprime p (prodR ps es)
  | [], _, _ => Nat.coprime_one_right p
  | _ :: _, [], _ => Nat.coprime_one_right p
  | q :: ps, e :: es, h => Nat.Coprime.mul_right (Nat.Coprime.pow_right e (h q List.mem_cons_self)) (cop_prodR ps es fun r hr => h r (List.mem_cons_of_mem _ hr))
theorem not_mod_of_cop {p n : Nat} (hp : 2 ≤ p) (c : Nat.Coprime p n) : n % p ≠ 0 := fun h => by
  have := c.eq_one_of_dvd (Nat.dvd_of_mod_eq_zero h)
  omega
theorem strip_one {p : Nat} (hp : 2 ≤ p) : strip p 1 = 1 := strip_not (by rw [Nat.mod_eq_of_lt (by omega)]; decide)
theorem stripL_one : ∀ (ps : List Nat), (∀ p ∈ ps, 2 ≤ p) → stripL ps 1 = 1
  | [], _ => rfl
  | p :: ps, h => by
    show stripL ps (strip p 1) = 1
    rw [strip_one (h p List.mem_cons_self)]
    exact stripL_one ps fun q hq => h q (List.mem_cons_of_mem _ hq)
theorem stripL_prodR : ∀ (ps es : List Nat), (∀ p ∈ ps, 2 ≤ p) → ps.Pairwise Nat.Coprime → stripL ps (prodR ps es) = 1
  | [], _, _, _ => rfl
  | p :: ps, [], h, _ => stripL_one (p :: ps) h
  | p :: ps, e :: es, h, c => by
    have hp := h p List.mem_cons_self
    have ht : ∀ q ∈ ps, 2 ≤ q := fun q hq => h q (List.mem_cons_of_mem _ hq)
    have c' := List.pairwise_cons.mp c
    show stripL ps (strip p (p ^ e * prodR ps es)) = 1
    rw [strip_pow hp (prodR_pos ps es ht), strip_not (not_mod_of_cop hp (cop_prodR ps es c'.1))]
    exact stripL_prodR ps es ht c'.2
theorem primes_cop : primes.Pairwise Nat.Coprime := by decide
def prod (es : List Nat) : Nat := prodR primes es
theorem prod_pos (es : List Nat) : 1 ≤ prod es := prodR_pos _ _ two_le
theorem stripAll_prod (es : List Nat) : stripAll (prod es) = 1 := stripL_prodR _ _ two_le primes_cop
/-- a prime that does not go in does not divide -/
theorem cop_at {p : Nat} : ∀ (ps es : List Nat) (k : Nat), ps.Pairwise Nat.Coprime → ps[k]? = some p → es.getD k 0 = 0 → Nat.Coprime p (prodR ps es)
  | [], _, _, _, h, _ => by simp at h
  | _ :: _, [], _, _, _, _ => Nat.coprime_one_right p
  | q :: ps, e :: es, 0, c, h, h0 => by
    simp at h h0
    subst h; subst h0
    show Nat.Coprime q (q ^ 0 * prodR ps es)
    rw [Nat.pow_zero, Nat.one_mul]
    exact cop_prodR ps es (List.pairwise_cons.mp c).1
  | q :: ps, e :: es, k + 1, c, h, h0 => by
    have c' := List.pairwise_cons.mp c
    have h' : ps[k]? = some p := by simpa using h
    have hm : p ∈ ps := List.mem_of_getElem? h'
    refine Nat.Coprime.mul_right (Nat.Coprime.pow_right e (Nat.Coprime.symm (c'.1 p hm))) ?_
    exact cop_at ps es k c'.2 h' (by simpa using h0)
theorem noShare_prod {es fs : List Nat} (h : ∀ k, es.getD k 0 = 0 ∨ fs.getD k 0 = 0) : noShare (prod es) (prod fs) = true := by
  rw [noShare_iff]
  intro p hp ⟨h1, h2⟩
  obtain ⟨k, hk⟩ := List.getElem?_of_mem hp
  have tp := two_le p hp
  rcases h k with e | e
  · have := (cop_at primes es k primes_cop hk e).eq_one_of_dvd h1; omega
  · have := (cop_at primes fs k primes_cop hk e).eq_one_of_dvd h2; omega
theorem prodR_le : ∀ (ps es : List Nat), (∀ p ∈ ps, p ≤ 29) → prodR ps es ≤ 29 ^ es.sum
  | [], _, _ => Nat.pow_pos (by decide)
  | _ :: _, [], _ => Nat.le_refl _
  | p :: ps, e :: es, h => by
    rw [List.sum_cons, Nat.pow_add]
    exact Nat.mul_le_mul (Nat.pow_le_pow_left (h p List.mem_cons_self) e) (prodR_le ps es fun q hq => h q (List.mem_cons_of_mem _ hq))
theorem prod_le (es : List Nat) : prod es ≤ 29 ^ es.sum := prodR_le primes es (by decide)

/-! terms, fractions -/
def termB (i : Int) : Bool := decide (1 ≤ i) && decide (i ≤ 1000000000000) && decide (stripAll i.toNat = 1)
def fracB (i j : Int) : Bool := termB i && termB j && noShare i.toNat j.toNat
/-! a row of changes -/
theorem sum_set_le : ∀ (xs : List Nat) (k : Nat) (v : Nat), (xs.set k v).sum + xs.getD k 0 ≤ xs.sum + v
  | [], k, v => by simp
  | x :: xs, 0, v => by simp; omega
  | x :: xs, k + 1, v => by
    have := sum_set_le xs k v
    simp only [List.set_cons_succ, List.sum_cons, List.getD_cons_succ]
    omega
end Mth

set_option Elab.async false
set_option linter.all false
set_option maxRecDepth 100000
set_option maxHeartbeats 4000000
/-! WHAT ALL LAWS SHARE: a def of the module, built-in names, kinds of values, heaps that keep what they had, comprehensions' scopes. -/
namespace L2
open PySem PySem.Spec PyProof.Rows
theorem pe_globC {X : Cx} {x : Str} {i : Int} {pos : Pos} (hg : Gl X x) (hm : ∃ t, X.mg x = some (.int i t)) (hd : (x == ("__debug__" : Str)) = false := by decide) : PE X (.Name x pos) (tC (.int i)) := by
  obtain ⟨t, h⟩ := hm
  exact pe_glob hg h ⟨t, rfl⟩ hd
/-- a comprehension's names as they stand behind the relabelling -/
def relN (sc osc : Scope) : List (Str × NameKind) := sc.names.map fun (n, k) => if (k == .free && osc.kind == .function && osc.names.lookup n == some .cell) then (n, .cell) else (n, k)
def ksOf (sc : Scope) : List Str := ((sc.names.filter (fun p => p.2 == .free)).reverse).map (·.1)
def compChk (sc osc : Scope) (N XN : List Str) (js : List (Option Nat)) : Bool :=
  sc.names.all (fun y => y.2 != .cell) && decide (sc.kind = .function) && sc.names.all (fun y => y.2 != .local || sc.names.lookup y.1 == some .local) &&
  (relN sc osc).all (fun p => !(p.2 == .cell || p.2 == .free) || (ksOf sc).contains p.1) && js.length == N.length &&
  (List.range N.length).all fun i => match js[i]?, N[i]? with
    | some (some j), some x => XN[j]? == some x && osc.names.lookup x == some .cell && ((relN sc osc).lookup x == some .cell || (relN sc osc).lookup x == some .free)
    | _, _ => true
theorem mem_of_lookup {α β : Type} [BEq α] [LawfulBEq α] : ∀ {l : List (α × β)} {x : α} {c : β}, l.lookup x = some c → (x, c) ∈ l
  | [], _, _, h => by simp at h
  | (y, d) :: r, x, c, h => by
    rw [List.lookup_cons] at h
    cases e : (x == y) with
    | true =>
      rw [e] at h
      cases h
      rw [eq_of_beq e]
      exact List.mem_cons_self
    | false =>
      rw [e] at h
      exact List.mem_cons_of_mem _ (mem_of_lookup h)
theorem lookup_of_key {α β : Type} [BEq α] [LawfulBEq α] : ∀ {l : List (α × β)} {x : α}, x ∈ l.map (·.1) → ∃ c, l.lookup x = some c
  | [], _, h => by cases h
  | (y, d) :: r, x, h => by
    rw [List.lookup_cons]
    cases e : (x == y) with
    | true => exact ⟨d, rfl⟩
    | false =>
      rcases List.mem_cons.mp h with z | z
      · rw [z] at e; simp at e
      · exact lookup_of_key z
theorem compOk_of {X : Cx} {sc osc : Scope} {cl : List (Str × Addr)} {N XN : List Str} {js : List (Option Nat)} (ho : X.env.scope = osc) (clos : closureFor sc X.env = pure cl) (hk : cl.map (·.1) = ksOf sc)
    (hsub : ∀ p ∈ cl, X.env.cells.lookup p.1 = some p.2) (chk : compChk sc osc N XN js = true) (hN : X.N = XN) : CompOk X sc cl N js := by
  unfold compChk at chk
  simp only [Bool.and_eq_true] at chk
  obtain ⟨⟨⟨⟨⟨h1, h2⟩, h3⟩, h4⟩, h5⟩, h6⟩ := chk
  have er : (relabel sc X.env).names = relN sc osc := by
    unfold relabel relN Env.kindOf
    rw [ho]
  refine ⟨clos, ?_, of_decide_eq_true h2, ?_, ?_, ?_, eq_of_beq h5, ?_⟩
  · intro y hy
    have := List.all_eq_true.mp h1 y hy
    simpa using this
  · intro y hy hl
    have := List.all_eq_true.mp h3 y hy
    rw [hl] at this
    simpa using this
  · intro x c h
    exact hsub (x, c) (mem_of_lookup h)
  · intro x h
    rw [er] at h
    refine lookup_of_key ?_
    rw [hk]
    rcases h with h | h
    all_goals
      have := List.all_eq_true.mp h4 _ (mem_of_lookup h)
      simpa using this
  · intro i j x hNi hj
    have hi : i < N.length := (List.getElem?_eq_some_iff.mp hNi).1
    have := List.all_eq_true.mp h6 i (List.mem_range.mpr hi)
    rw [hj, hNi] at this
    simp only [Bool.and_eq_true, Bool.or_eq_true] at this
    obtain ⟨⟨a, b⟩, c⟩ := this
    refine ⟨?_, ?_, ?_⟩
    · rw [hN]; exact eq_of_beq a
    · rw [ho]; exact eq_of_beq b
    · rw [er]
      rcases c with c | c
      · exact .inl (eq_of_beq c)
      · exact .inr (eq_of_beq c)
end L2
namespace W2
open PySem L2
/-- a def of the module -/
structure Df (K : PySem.W.Frag) (mg : Str → Option Value) (x : Str) (st : Stmt) (ps : List Str) (f : Addr) (fd : FuncData) : Prop where
  fn : Fun K x x st f fd
  at_ : mg x = some (.ref f)
  bd : Binds K fd ps []
theorem b_len : bootBuiltins "len" = some (.builtin "len") := PySem.boot_len
theorem b_isinstance : bootBuiltins "isinstance" = some (.builtin "isinstance") := by decide +kernel
theorem b_int : bootBuiltins "int" = some (.type "int") := by decide +kernel
theorem b_bool : bootBuiltins "bool" = some (.type "bool") := by decide +kernel
theorem b_tuple : bootBuiltins "tuple" = some (.type "tuple") := by decide +kernel
theorem b_list : bootBuiltins "list" = some (.type "list") := by decide +kernel
theorem b_str : bootBuiltins "str" = some (.type "str") := by decide +kernel
theorem b_max : bootBuiltins "max" = some (.builtin "max") := by decide +kernel
theorem b_min : bootBuiltins "min" = some (.builtin "min") := by decide +kernel
theorem b_all : bootBuiltins "all" = some (.builtin "all") := by decide +kernel

/-! ### kinds -/
def kindV (H : Hp) : V → Prop
  | .non => True
  | .bl _ => True
  | .int _ => True
  | .str _ => True
  | .ref a => (∃ xs, H a = some (.tup xs)) ∨ (∃ xs, H a = some (.lst xs)) ∨ (∃ kvs, H a = some (.dK kvs))
  | _ => False
def tupO : Option HO → Option (List V)
  | some (.tup xs) => some xs
  | _ => none
def isT (H : Hp) : V → Option (List V)
  | .ref a => tupO (H a)
  | _ => none
theorem isT_ref {H : Hp} {a : Addr} {xs : List V} (h : H a = some (.tup xs)) : isT H (.ref a) = some xs := by
  show tupO (H a) = _
  rw [h]
  rfl
theorem isT_some {H : Hp} {v : V} {xs : List V} (h : isT H v = some xs) : ∃ a, v = .ref a ∧ H a = some (.tup xs) := by
  cases v with
  | ref a =>
    refine ⟨a, rfl, ?_⟩
    have h' : tupO (H a) = some xs := h
    cases e : H a with
    | none => rw [e] at h'; cases h'
    | some o =>
      rw [e] at h'
      cases o <;> first | (cases h'; rfl) | cases h'
  | _ => cases h
def isI : V → Bool
  | .int _ => true
  | .bl _ => true
  | _ => false
def isB : V → Bool
  | .bl _ => true
  | _ => false
def isW : V → Bool
  | .int _ => true
  | _ => false
theorem isW_eq (v : V) : (isI v && !isB v) = isW v := by cases v <;> rfl
section
variable {K : PySem.W.Frag} {H : Hp} {v : V}
theorem isi_T (k : kindV H v) : ∃ t, TyOf K H v t ∧ PySem.W.kitOne K t (.type "tuple") = some (isT H v).isSome := by
  cases v with
  | non => exact ⟨_, .non, by kernel_rfl⟩
  | bl b => exact ⟨_, .bl b, by kernel_rfl⟩
  | int i => exact ⟨_, .int i, by kernel_rfl⟩
  | str x => exact ⟨_, .str x, by kernel_rfl⟩
  | ref a =>
    rcases (show (∃ xs, H a = some (.tup xs)) ∨ (∃ xs, H a = some (.lst xs)) ∨ (∃ kvs, H a = some (.dK kvs)) from k) with ⟨xs, e⟩ | ⟨xs, e⟩ | ⟨kvs, e⟩
    · exact ⟨_, .tup e, by rw [isT_ref e]; kernel_rfl⟩
    · refine ⟨_, .lst e, ?_⟩
      show _ = some (tupO (H a)).isSome
      rw [e]
      kernel_rfl
    · refine ⟨_, .dK e, ?_⟩
      show _ = some (tupO (H a)).isSome
      rw [e]
      kernel_rfl
  | _ => exact False.elim k
theorem isi_I (k : kindV H v) : ∃ t, TyOf K H v t ∧ PySem.W.kitOne K t (.type "int") = some (isI v) := by
  cases v with
  | non => exact ⟨_, .non, by kernel_rfl⟩
  | bl b => exact ⟨_, .bl b, by kernel_rfl⟩
  | int i => exact ⟨_, .int i, by kernel_rfl⟩
  | str x => exact ⟨_, .str x, by kernel_rfl⟩
  | ref a =>
    rcases (show (∃ xs, H a = some (.tup xs)) ∨ (∃ xs, H a = some (.lst xs)) ∨ (∃ kvs, H a = some (.dK kvs)) from k) with ⟨xs, e⟩ | ⟨xs, e⟩ | ⟨kvs, e⟩
    · exact ⟨_, .tup e, by kernel_rfl⟩
    · exact ⟨_, .lst e, by kernel_rfl⟩
    · exact ⟨_, .dK e, by kernel_rfl⟩
  | _ => exact False.elim k
theorem isi_B (k : kindV H v) : ∃ t, TyOf K H v t ∧ PySem.W.kitOne K t (.type "bool") = some (isB v) := by
  cases v with
  | non => exact ⟨_, .non, by kernel_rfl⟩
  | bl b => exact ⟨_, .bl b, by kernel_rfl⟩
  | int i => exact ⟨_, .int i, by kernel_rfl⟩
  | str x => exact ⟨_, .str x, by kernel_rfl⟩
  | ref a =>
    rcases (show (∃ xs, H a = some (.tup xs)) ∨ (∃ xs, H a = some (.lst xs)) ∨ (∃ kvs, H a = some (.dK kvs)) from k) with ⟨xs, e⟩ | ⟨xs, e⟩ | ⟨kvs, e⟩
    · exact ⟨_, .tup e, by kernel_rfl⟩
    · exact ⟨_, .lst e, by kernel_rfl⟩
    · exact ⟨_, .dK e, by kernel_rfl⟩
  | _ => exact False.elim k
end
theorem Same.kind {H H' : Hp} (s : Same H H') {v : V} (k : kindV H v) : kindV H' v := by
  cases v with
  | ref a =>
    rcases (show (∃ xs, H a = some (.tup xs)) ∨ (∃ xs, H a = some (.lst xs)) ∨ (∃ kvs, H a = some (.dK kvs)) from k) with ⟨xs, e⟩ | ⟨xs, e⟩ | ⟨kvs, e⟩
    · exact .inl ⟨xs, s _ _ e⟩
    · exact .inr (.inl ⟨xs, s _ _ e⟩)
    · exact .inr (.inr ⟨kvs, s _ _ e⟩)
  | non => trivial
  | bl b => trivial
  | int i => trivial
  | str x => trivial
  | byt b => exact False.elim k
  | flt b => exact False.elim k
  | ty b => exact False.elim k

/-! ### heaps -/
/-- all but a is as it was -/
def But (a : Addr) (H H' : Hp) : Prop := ∀ b o, b ≠ a → H b = some o → H' b = some o
theorem But.refl (a : Addr) (H : Hp) : But a H H := fun _ _ _ h => h
theorem But.trans {a : Addr} {H H1 H2 : Hp} (x : But a H H1) (y : But a H1 H2) : But a H H2 := fun b o n h => y b o n (x b o n h)
theorem But.of {a : Addr} {H H' : Hp} (x : Same H H') : But a H H' := fun b o _ h => x b o h
theorem But.free {a : Addr} {H H' : Hp} (x : But a H H') {p : Addr} (h : H' p = none) (hp : p ≠ a) : H p = none := by
  cases q : H p with
  | none => rfl
  | some o => rw [x p o hp q] at h; cases h
theorem But.upd {a : Addr} {H : Hp} {o : HO} : But a H (upd H a o) := fun b q n h => by rw [upd_ne n]; exact h
theorem But.new {a p : Addr} {H H' : Hp} {o : HO} (x : But a H H') (h : H' p = none) : But a H (L2.upd H' p o) := fun b q n e => by rw [upd_ne (ne_of_none (x b q n e) h)]; exact x b q n e
theorem But.set {a : Addr} {H H' : Hp} {o : HO} (x : But a H H') : But a H (L2.upd H' a o) := fun b q n e => by rw [upd_ne n]; exact x b q n e
theorem Same.new {H : Hp} {p : Addr} {o : HO} (h : H p = none) : Same H (upd H p o) := fun b q e => by rw [upd_ne (ne_of_none e h)]; exact e
theorem Same.more {H H' : Hp} {p : Addr} {o : HO} (s : Same H H') (h : H' p = none) : Same H (upd H' p o) := s.trans (Same.new h)
theorem Same.tup {K : PySem.W.Frag} {H H' : Hp} {a : Addr} {xs : List V} (e : Same H H') (h : SqT K H a xs) : SqT K H' a xs := by
  rcases h with (h | ⟨o, h⟩) | h
  · exact .inl (.inl (e _ _ h))
  · exact .inl (.inr ⟨o, e _ _ h⟩)
  · exact .inr h
theorem But.tup {K : PySem.W.Frag} {H H' : Hp} {a b : Addr} {xs : List V} (e : But a H H') (n : b ≠ a) (h : SqT K H b xs) : SqT K H' b xs := by
  rcases h with (h | ⟨o, h⟩) | h
  · exact .inl (.inl (e _ _ n h))
  · exact .inl (.inr ⟨o, e _ _ n h⟩)
  · exact .inr h
theorem But.lst {K : PySem.W.Frag} {H H' : Hp} {a b : Addr} {xs : List V} (e : But a H H') (n : b ≠ a) (h : SqL K H b xs) : SqL K H' b xs := by
  rcases h with (h | ⟨o, h⟩) | h
  · exact .inl (.inl (e _ _ n h))
  · exact .inl (.inr ⟨o, e _ _ n h⟩)
  · exact .inr h
theorem map_int_get {ns : List Int} {i : Nat} {y : V} (h : (ns.map V.int)[i]? = some y) : ∃ z, y = .int z ∧ ns[i]? = some z := by
  rw [List.getElem?_map] at h
  cases e : ns[i]? with
  | none => rw [e] at h; cases h
  | some z => rw [e] at h; exact ⟨z, (Option.some.inj h).symm, rfl⟩
theorem atI_of {α : Type} {xs : List α} {i : Int} {v : α} (h0 : 0 ≤ i) (h : xs[i.toNat]? = some v) : atI xs i = some v := by
  have := atI_nat h
  rwa [Int.toNat_of_nonneg h0] at this
theorem ixN_of {n : Nat} {i : Int} (h0 : 0 ≤ i) (h : i < n) : ixN n i = some i.toNat := by
  unfold ixN
  rw [if_pos h0, if_pos h]
end W2

set_option Elab.async false
set_option linter.all false
set_option maxRecDepth 100000
set_option maxHeartbeats 4000000
/-! COMPREHENSIONS by what holds between two turns: over a list, a tuple, a range; pure elements: a map. SLICES. -/
namespace L2
open PySem PySem.Spec PyProof.Rows
def noStar : Expr → Bool
  | .Starred _ _ => false
  | _ => true
theorem starEach_cons {e : Expr} (h : noStar e = true) (es : List Expr) (env : Env) : starEach (e :: es) env = (false, eval e env) :: starEach es env := by
  cases e <;> first | rfl | cases h
/-- an argument ahead of the others, the list's length no matter -/
theorem pa_c {X : Cx} {e : Expr} {es : List Expr} {te : TE} {t : TA} (ha : PE X e te) (hr : PA X es t) (h : noStar e = true := by rfl) : PA X (e :: es) (tCons te t) := pa_cons ha hr (starEach_cons h es X.env)
section
variable {K : PySem.W.Frag} {a D : Addr} {js : List (Option Nat)} {g : TG} {te : TE} {σ : St} {H1 : Hp} {Q : VK}
/-- a comprehension without a test, n turns -/
theorem comp_plain {J : It} {n : Nat} (hn : n ≤ sizeLine) (Pv : Nat → St → Hp → List V → Prop) (h0 : Pv 0 (pick js σ) (upd H1 D (.lst [])) [])
    (hgo : ∀ i σ' H' ys, i < n → H' D = some (.lst ys) → Pv i σ' H' ys → J.go i H') (hst : ∀ σ' H' ys, H' D = some (.lst ys) → ys.length = n → Pv n σ' H' ys → J.stop n H' ∧ Q (.ref D) H')
    (hs : ∀ i σ' H' ys x H2 (R : St → V → Hp → Prop), i < n → H' D = some (.lst ys) → ys.length = i → Pv i σ' H' ys → J.yld i H' x H2 →
      (∀ σ2 y H4, H4 D = some (.lst ys) → Pv (i + 1) σ2 (upd H4 D (.lst (ys ++ [y]))) (ys ++ [y]) → R σ2 y H4) → g x σ' H2 fun σ2 H3 => te σ2 H3 fun y H4 => R σ2 y H4) :
    CompW J D js g tNoTest te σ H1 Q := by
  refine ⟨fun i m σ' H' ys => m = n - i ∧ i ≤ n ∧ H' D = some (.lst ys) ∧ ys.length = i ∧ Pv i σ' H' ys, ⟨n, rfl, Nat.zero_le _, upd_same, rfl, h0⟩, ?_⟩
  rintro i m σ' H' ys ⟨rfl, hi, hD, hy, p⟩
  refine ⟨hD, ?_⟩
  by_cases e : i = n
  · subst e
    exact .inl (hst σ' H' ys hD hy p)
  · have hlt : i < n := by omega
    refine .inr ⟨hgo i σ' H' ys hlt hD p, by omega, fun σ2 H2 zs => H2 D = some (.lst zs) ∧ zs.length = i + 1 ∧ Pv (i + 1) σ2 H2 zs, fun σ2 H2 zs ⟨z1, z2, z3⟩ => ⟨n - (i + 1), by omega, rfl, by omega, z1, z2, z3⟩, fun x H2 hx => ?_⟩
    exact hs i σ' H' ys x H2 (fun σ2 y H4 => H4 D = some (.lst ys) ∧ (upd H4 D (.lst (ys ++ [y]))) D = some (.lst (ys ++ [y])) ∧ (ys ++ [y]).length = i + 1 ∧ Pv (i + 1) σ2 (upd H4 D (.lst (ys ++ [y]))) (ys ++ [y])) hlt hD hy p hx
      fun σ2 y H4 z1 z2 => ⟨z1, upd_same, by rw [List.length_append, hy]; rfl, z2⟩
theorem comp_list {xs : List V} (hn : xs.length ≤ sizeLine) (Pv : Nat → St → Hp → List V → Prop) (h0 : Pv 0 (pick js σ) (upd H1 D (.lst [])) [])
    (hl : ∀ i σ' H' ys, i ≤ xs.length → H' D = some (.lst ys) → Pv i σ' H' ys → SqL K H' a xs)
    (hs : ∀ i x σ' H' ys (R : St → V → Hp → Prop), xs[i]? = some x → H' D = some (.lst ys) → ys.length = i → Pv i σ' H' ys → (∀ σ2 y H4, H4 D = some (.lst ys) → Pv (i + 1) σ2 (upd H4 D (.lst (ys ++ [y]))) (ys ++ [y]) → R σ2 y H4) →
      g x σ' H' fun σ2 H3 => te σ2 H3 fun y H4 => R σ2 y H4)
    (hst : ∀ σ' H' ys, H' D = some (.lst ys) → ys.length = xs.length → Pv xs.length σ' H' ys → Q (.ref D) H') : CompW (Itl K a) D js g tNoTest te σ H1 Q :=
  comp_plain hn Pv h0 (fun i σ' H' ys hi hD p => ⟨xs, xs[i], hl i σ' H' ys (by omega) hD p, List.getElem?_eq_getElem hi⟩)
    (fun σ' H' ys hD b c => ⟨⟨xs, hl _ σ' H' ys (Nat.le_refl _) hD c, Nat.le_refl _⟩, hst σ' H' ys hD b c⟩) fun i σ' H' ys x H2 R hi hD b c ⟨e1, e2⟩ => by
    subst e1
    exact hs i x σ' H2 ys R (e2 xs (hl i σ' H2 ys (by omega) hD c)) hD b c
theorem comp_tup {xs : List V} (hn : xs.length ≤ sizeLine) (Pv : Nat → St → Hp → List V → Prop) (h0 : Pv 0 (pick js σ) (upd H1 D (.lst [])) [])
    (hl : ∀ i σ' H' ys, i ≤ xs.length → H' D = some (.lst ys) → Pv i σ' H' ys → SqT K H' a xs)
    (hs : ∀ i x σ' H' ys (R : St → V → Hp → Prop), xs[i]? = some x → H' D = some (.lst ys) → ys.length = i → Pv i σ' H' ys → (∀ σ2 y H4, H4 D = some (.lst ys) → Pv (i + 1) σ2 (upd H4 D (.lst (ys ++ [y]))) (ys ++ [y]) → R σ2 y H4) →
      g x σ' H' fun σ2 H3 => te σ2 H3 fun y H4 => R σ2 y H4)
    (hst : ∀ σ' H' ys, H' D = some (.lst ys) → ys.length = xs.length → Pv xs.length σ' H' ys → Q (.ref D) H') : CompW (Itt K a) D js g tNoTest te σ H1 Q :=
  comp_plain hn Pv h0 (fun i σ' H' ys hi hD p => ⟨xs, xs[i], hl i σ' H' ys (by omega) hD p, List.getElem?_eq_getElem hi⟩)
    (fun σ' H' ys hD b c => ⟨⟨xs, hl _ σ' H' ys (Nat.le_refl _) hD c, Nat.le_refl _⟩, hst σ' H' ys hD b c⟩) fun i σ' H' ys x H2 R hi hD b c ⟨e1, e2⟩ => by
    subst e1
    exact hs i x σ' H2 ys R (e2 xs (hl i σ' H2 ys (by omega) hD c)) hD b c
end
theorem SqL.upd_new {K : PySem.W.Frag} {H : Hp} {a D : Addr} {xs : List V} {o : HO} (h : SqL K H a xs) (n : H D = none) : SqL K (upd H D o) a xs := by
  rcases h with (h | ⟨u, h⟩) | h
  · exact .inl (.inl (by rw [upd_ne (ne_of_none h n)]; exact h))
  · exact .inl (.inr ⟨u, by rw [upd_ne (ne_of_none h n)]; exact h⟩)
  · exact .inr h
theorem SqT.upd_new {K : PySem.W.Frag} {H : Hp} {a D : Addr} {xs : List V} {o : HO} (h : SqT K H a xs) (n : H D = none) : SqT K (upd H D o) a xs := by
  rcases h with (h | ⟨u, h⟩) | h
  · exact .inl (.inl (by rw [upd_ne (ne_of_none h n)]; exact h))
  · exact .inl (.inr ⟨u, by rw [upd_ne (ne_of_none h n)]; exact h⟩)
  · exact .inr h
theorem take_map_succ {α β : Type} {f : α → β} {xs : List α} {i : Nat} {x : α} (h : xs[i]? = some x) : (xs.take (i + 1)).map f = (xs.take i).map f ++ [f x] := by
  rw [List.take_add_one, h, List.map_append]
  rfl
section
variable {K : PySem.W.Frag} {a D : Addr} {js : List (Option Nat)} {te : TE} {σ : St} {H1 : Hp} {Q : VK}
theorem comp_map_tup {xs : List V} {o : Option V} {σ0 : St} {f : V → V} (hp : pick js σ = o :: σ0) (hn : xs.length ≤ sizeLine) (hD : H1 D = none) (hS : SqT K H1 a xs)
    (hs : ∀ (x : V) (H' : Hp) (R : VK), x ∈ xs → R (f x) H' → te (some x :: σ0) H' R) (q : Q (.ref D) (upd H1 D (.lst (xs.map f)))) : CompW (Itt K a) D js (gName 0) tNoTest te σ H1 Q := by
  refine comp_tup (xs := xs) hn (fun i σ' H' ys => (∃ u, σ' = u :: σ0) ∧ ys = (xs.take i).map f ∧ H' = upd H1 D (.lst ys)) ⟨⟨o, hp⟩, rfl, rfl⟩ ?_ ?_ ?_
  · rintro i σ' H' ys _ _ ⟨_, rfl, rfl⟩
    exact hS.upd_new hD
  · rintro i x σ' H' ys R hx _ _ ⟨⟨u, rfl⟩, rfl, rfl⟩ k
    refine hs x _ _ (List.mem_of_getElem? hx) (k _ _ _ upd_same ⟨⟨_, rfl⟩, (take_map_succ hx).symm, upd_upd⟩)
  · rintro σ' H' ys _ _ ⟨_, rfl, rfl⟩
    rw [List.take_length]
    exact q
end
/-- a while by what holds between its turns and a number that falls; in the turn: whN -/
theorem while_own {c : TT} {tb : TS} {D : Ends} {σ : St} {H : Hp} (Pv : St → Hp → Prop) (μ : St → Hp → Nat) (h0 : Pv σ H)
    (hs : ∀ σ H, Pv σ H → c σ H fun b H1 => if b = true then ∃ N : St → Hp → Prop, (∀ σ' H', N σ' H' → ∃ m', m' < μ σ H ∧ m' = μ σ' H' ∧ Pv σ' H') ∧ tb { D with nx := N, ct := N, bk := D.nx } σ H1 else D.nx σ H1) : tWhile c tb D σ H :=
  ⟨fun m σ H => m = μ σ H ∧ Pv σ H, ⟨_, rfl, h0⟩, fun m σ H ⟨e, p⟩ => by subst e; exact hs σ H p⟩
theorem whN {tb : TS} {D : Ends} {σ : St} {H1 : Hp} {m : Nat} {Pv : St → Hp → Prop} {μ : St → Hp → Nat} (h : tb { D with nx := fun σ' H' => Pv σ' H' ∧ μ σ' H' < m, ct := fun σ' H' => Pv σ' H' ∧ μ σ' H' < m, bk := D.nx } σ H1) :
    ∃ N : St → Hp → Prop, (∀ σ' H', N σ' H' → ∃ m', m' < m ∧ m' = μ σ' H' ∧ Pv σ' H') ∧ tb { D with nx := N, ct := N, bk := D.nx } σ H1 := ⟨_, fun _ _ ⟨a, b⟩ => ⟨_, b, rfl, a⟩, h⟩
theorem sIx_of {n d : Nat} {i : Int} (h : 0 ≤ i) : HT.sIx n d (some i) = min i.toNat n := by
  show (if i < 0 then _ else _) = _
  rw [if_neg (by omega)]
theorem cutV_pre {xs : List V} {i : Int} (h : 0 ≤ i) : cutV xs none (some i) = xs.take i.toNat := by
  unfold cutV
  rw [sIx_of h]
  show (xs.drop 0).take (min i.toNat xs.length - 0) = _
  rw [List.drop_zero, Nat.sub_zero]
  rcases Nat.le_total i.toNat xs.length with g | g
  · rw [Nat.min_eq_left g]
  · rw [Nat.min_eq_right g, List.take_of_length_le (Nat.le_refl _), List.take_of_length_le g]
end L2

set_option Elab.async false
set_option linter.all false
set_option maxRecDepth 100000
set_option maxHeartbeats 4000000
/-! THE RULES IN BOXES: the elaborator never unfolds a box, so a term of rules costs what it is long. -/
namespace L2
open PySem PySem.Spec PyProof.Rows
structure QE (X : Cx) (e : Expr) (t : TE) : Prop where
  o : PE X e t
structure QT (X : Cx) (e : Expr) (t : TT) : Prop where
  o : PT X e t
structure QW (X : Cx) (e : Expr) (t : TT) : Prop where
  o : PW X e t
structure QA (X : Cx) (e : List Expr) (t : TA) : Prop where
  o : PA X e t
structure QS (X : Cx) (e : Stmt) (t : TS) : Prop where
  o : PS X e t
structure QSs (X : Cx) (e : List Stmt) (t : TS) : Prop where
  o : PSs X e t
structure QG (X : Cx) (e : Expr) (t : TG) : Prop where
  o : PG X e t
structure QGs (X : Cx) (e : List Expr) (t : TGs) : Prop where
  o : PGs X e t
structure QO (X : Cx) (e : Option Expr) (t : TO) : Prop where
  o : PO X e t
structure QTs (X : Cx) (e : List Expr) (t : TT) : Prop where
  o : PTs X e t
structure QI (X : Cx) (tg e : Expr) (t : TI) : Prop where
  o : PI X tg e t
theorem qv (i : Nat) {x : Str} {pos : Pos} (hN : X.N[i]? = some x := by rfl) (hv : Vis X.env.scope x := by first | exact Or.inl rfl | exact Or.inr (Or.inl rfl) | exact Or.inr (Or.inr rfl)) (hd : (x == ("__debug__" : Str)) = false := by decide) (hcd : (x == ("__classdict__" : Str)) = false := by decide) : QE X (.Name x pos) (tVar i) :=
  ⟨pv i hN hv hd hcd⟩
theorem qe_int {i j pos} : QE X (.Constant (.int i) j pos) (tC (.int i)) :=
  ⟨pe_int ⟩
theorem qe_bl {b j pos} : QE X (.Constant (.bool b) j pos) (tC (.bl b)) :=
  ⟨pe_bl ⟩
theorem qe_non {j pos} : QE X (.Constant .none j pos) (tC .non) :=
  ⟨pe_non ⟩
theorem qe_str {x j pos} : QE X (.Constant (.str x) j pos) (tC (.str x)) :=
  ⟨pe_str ⟩
theorem qe_glob {x : Str} {v : V} {u : Value} {pos : Pos} (hg : Gl X x) (hm : X.mg x = some u) (r : RelV v u) (hd : (x == ("__debug__" : Str)) = false := by decide) : QE X (.Name x pos) (tC v) :=
  ⟨pe_glob hg hm r hd⟩
theorem qe_globC {X : Cx} {x : Str} {i : Int} {pos : Pos} (hg : Gl X x) (hm : ∃ t, X.mg x = some (.int i t)) (hd : (x == ("__debug__" : Str)) = false := by decide) : QE X (.Name x pos) (tC (.int i)) :=
  ⟨pe_globC hg hm hd⟩
theorem qe_ty {X : Cx} {x : Str} {T : String} {pos : Pos} (hg : Gl X x) (hm : X.mg x = none) (hv : bootBuiltins x = some (.type T)) (hn : x ≠ "__name__" := by decide) (hd : (x == ("__debug__" : Str)) = false := by decide) : QE X (.Name x pos) (tC (.ty T)) :=
  ⟨pe_ty hg hm hv hn hd⟩
theorem qe_op {a : Expr} {b : Expr} {op : Operator} {r : R2} (ho : OpR X (binaryOp op) r) (ha : QE X a ta) (hb : QE X b tb) : QE X (.BinOp a op b pos) (tOp r ta tb) :=
  ⟨pe_op ho ha.o hb.o⟩
theorem qe_un {a : Expr} {op : UnaryOp} {r : V → Hp → VK → Prop} (ho : UnR X (unaryOp op) r) (ha : QE X a ta) : QE X (.UnaryOp op a pos) (tUn r ta) :=
  ⟨pe_un ho ha.o⟩
theorem qe_and {rest : List Expr} {a : Expr} {b : Expr} (ha : QE X a ta) (hb : QE X (.BoolOp .And (b :: rest) pos) tb) : QE X (.BoolOp .And (a :: b :: rest) pos) (tAndV ta tb) :=
  ⟨pe_and ha.o hb.o⟩
theorem qe_one {a : Expr} {op} {t : TE} (h : QE X a t) : QE X (.BoolOp op [a] pos) t :=
  ⟨pe_one h.o⟩
theorem qe_not {a : Expr} (ha : QE X a ta) : QE X (.UnaryOp .Not a pos) (tNotV ta) :=
  ⟨pe_not ha.o⟩
theorem qe_cmpR {a : Expr} {b : Expr} {op : CmpOp} {r : R2} (ho : OpR X (compareOp op) r) (ha : QE X a ta) (hb : QE X b tb) (hm : behindInMarks op b = false) : QE X (.Compare a [op] [b] pos) (tOp r ta tb) :=
  ⟨pe_cmpR ho ha.o hb.o hm⟩
theorem qe_tup {x1} (h : QA X es t) : QE X (.Tuple es x1 pos) (tTup t) :=
  ⟨pe_tup h.o⟩
theorem qe_lst (h : QA X es t) : QE X (.List es pos) (tLst t) :=
  ⟨pe_lst h.o⟩
theorem qe_ix {a : Expr} {b : Expr} {r : R2} (hr : IxR X r) (ha : QE X a ta) (hb : QE X b tb) (hs : PlainIx b) : QE X (.Subscript a b pos) (tOp r ta tb) :=
  ⟨pe_ix hr ha.o hb.o hs⟩
theorem qe_slice {lo : Option Expr} {hi : Option Expr} {e : Expr} {r : V → Option Int → Option Int → Hp → VK → Prop} (hr : SlR X r) (he : QE X e te) (hl : QO X lo tl) (hu : QO X hi th) : QE X (.Subscript e (.Slice lo hi none p2) pos) (tSl r te tl th) :=
  ⟨pe_slice hr he.o hl.o hu.o⟩
theorem qe_call {e : Expr} (F : FnOk X.prog X.w X.K X.mg X.base CX k f fd ps sp) (hr : Room k X.A) (hg : Gl X x) (hm : X.mg x = some (.ref f)) (hk : PySem.W.keepIn X.K (.ref f) = true) (hb : Binds X.K fd ps ds) (hd : Vals dvs ds) (hx : Passes CX X E) (ha : QA X (e :: es) t) (hdb : (x == ("__debug__" : Str)) = false := by decide) (he : starEach (e :: es) X.env = (false, eval e X.env) :: starEach es X.env := by rfl) (hpl : (backTo pos (starEach es X.env)).any (·.1) = false := by rfl) : QE X (.Call (.Name x p) (e :: es) [] pos) (tCall sp dvs E t) :=
  ⟨pe_call F hr hg hm hk hb hd hx ha.o hdb he hpl⟩
theorem qe_call0 (F : FnOk X.prog X.w X.K X.mg X.base CX k f fd ps sp) (hr : Room k X.A) (hg : Gl X x) (hm : X.mg x = some (.ref f)) (hk : PySem.W.keepIn X.K (.ref f) = true) (hb : Binds X.K fd ps ds) (hd : Vals dvs ds) (hx : Passes CX X E) (hdb : (x == ("__debug__" : Str)) = false := by decide) : QE X (.Call (.Name x p) [] [] pos) (tCall sp dvs E tNil) :=
  ⟨pe_call0 F hr hg hm hk hb hd hx hdb⟩
theorem qe_callB {id : String} {e : Expr} (hc : CallR X (.builtin id) r) (hg : Gl X x) (hm : X.mg x = none) (hv : bootBuiltins x = some (.builtin id)) (ha : QA X (e :: es) t) (hn : x ≠ "__name__" := by decide) (hdb : (x == ("__debug__" : Str)) = false := by decide) (he : starEach (e :: es) X.env = (false, eval e X.env) :: starEach es X.env := by rfl) (hpl : (backTo pos (starEach es X.env)).any (·.1) = false := by rfl) : QE X (.Call (.Name x p) (e :: es) [] pos) (tCB r t) :=
  ⟨pe_callB hc hg hm hv ha.o hn hdb he hpl⟩
theorem qe_callTy {e : Expr} (hc : CallR X (.type T) r) (hg : Gl X x) (hm : X.mg x = none) (hv : bootBuiltins x = some (.type T)) (ha : QA X (e :: es) t) (hn : x ≠ "__name__" := by decide) (hdb : (x == ("__debug__" : Str)) = false := by decide) (he : starEach (e :: es) X.env = (false, eval e X.env) :: starEach es X.env := by rfl) (hpl : (backTo pos (starEach es X.env)).any (·.1) = false := by rfl) : QE X (.Call (.Name x p) (e :: es) [] pos) (tCB r t) :=
  ⟨pe_callTy hc hg hm hv ha.o hn hdb he hpl⟩
theorem qe_bm {id : String} {e : Expr} {o : Expr} (pa : PlainAttrs T) (slot : Slot T name id) (hty : typeOf (.builtin id) = pure (.type "method_descriptor")) (hm : MtR X id r) (ho : QE X o to) (ha : QA X (e :: es) t) (hbase : attributeBase o name X.env (eval o X.env) = eval o X.env := by rfl) (hfew : ((backTo cpos (starEach (e :: es) X.env)).all (fun x => !x.1) && (backToKw cpos (keywordEach [] X.env)).all (fun x => x.1.isSome)
      && decide ((e :: es).length + ([] : List Keyword).length + (if ([] : List Keyword).isEmpty then 0 else 1) < 30)) = true := by rfl) (hline : (apos.endLine == cpos.line) = true := by rfl) (hs : starEach (e :: es) X.env = (false, eval e X.env) :: starEach es X.env := by rfl) (hplain : (backTo cpos (starEach es X.env)).any (·.1) = false := by rfl) : QE X (.Call (.Attribute o name apos) (e :: es) [] cpos) (tBM X.K T r to t) :=
  ⟨pe_bm pa slot hty hm ho.o ha.o hbase hfew hline hs hplain⟩
theorem qt_cmpR {a : Expr} {b : Expr} {op : CmpOp} {r : R2} (ho : OpR X (compareOp op) r) (ha : QE X a ta) (hb : QE X b tb) (hm : behindInMarks op b = false) : QT X (.Compare a [op] [b] pos) (tTest (tOp r ta tb)) :=
  ⟨pt_cmpR ho ha.o hb.o hm⟩
theorem qt_not {a : Expr} (ha : QT X a tA) : QT X (.UnaryOp .Not a pos) (tNot tA) :=
  ⟨pt_not ha.o⟩
theorem qt_val {e : Expr} {t : TE} (h : QE X e t) (he : ∀ whole, isTrue e X.env whole = (do let v ← whole; standAt e.pos; holding [v] (truthy v)) := by intro _; rfl) : QT X e (tB t) :=
  ⟨pt_val h.o he⟩
theorem qw_or {rest : List Expr} {a : Expr} {b : Expr} (ha : QT X a tA) (hb : QW X (.BoolOp .Or (b :: rest) pos) tB') : QW X (.BoolOp .Or (a :: b :: rest) pos) (tOr tA tB') :=
  ⟨pw_or ha.o hb.o⟩
theorem qw_or1 {a : Expr} (ha : QT X a tA) : QW X (.BoolOp .Or [a] pos) tA :=
  ⟨pw_or1 ha.o⟩
theorem qa_nil  : QA X [] tNil :=
  ⟨pa_nil ⟩
theorem qa_c {X : Cx} {e : Expr} {es : List Expr} {te : TE} {t : TA} (ha : QE X e te) (hr : QA X es t) (h : noStar e = true := by rfl) : QA X (e :: es) (tCons te t) :=
  ⟨pa_c ha.o hr.o h⟩
theorem qo_none  : QO X none tNoPart :=
  ⟨po_none ⟩
theorem qo_some {e : Expr} (h : QE X e te) : QO X (some e) (tPart te) :=
  ⟨po_some h.o⟩
theorem qi_list {l : Expr} {tl : TE} (hl : QE X l tl) : QI X tg l (iList X.K tl) :=
  ⟨pi_list hl.o⟩
theorem qi_tup {l : Expr} {tl : TE} (hl : QE X l tl) : QI X tg l (iTup X.K tl) :=
  ⟨pi_tup hl.o⟩
theorem qi_range1 {a : Expr} {ta : TA} {p pos : Pos} (hg : Gl X "range") (hm : X.mg "range" = none) (ha : QA X [a] ta) (hs : starEach [a] X.env = [(false, eval a X.env)] := by rfl) : QI X tg (.Call (.Name "range" p) [a] [] pos) (iRng1 ta) :=
  ⟨pi_range1 hg hm ha.o hs⟩
theorem qi_zip {e1 e2 : Expr} {ta : TA} {p pos : Pos} (htg : tupleTg tg = true) (hg : Gl X "zip") (hm : X.mg "zip" = none) (ha : QA X [e1, e2] ta) (hs : starEach [e1, e2] X.env = [(false, eval e1 X.env), (false, eval e2 X.env)] := by rfl) (hs2 : starEach [e2] X.env = [(false, eval e2 X.env)] := by rfl) (hb : bootBuiltins "zip" = some (.type "zip") := by decide +kernel) : QI X tg (.Call (.Name "zip" p) [e1, e2] [] pos) (iZip X.K ta) :=
  ⟨pi_zip htg hg hm ha.o hs hs2 hb⟩
theorem qg_name {i : Nat} {x : Str} (hN : X.N.Nodup) (hi : X.N[i]? = some x) (hx : Loc X.env.scope x) (hf : X.fn x = true ∨ X.env.scope.names.lookup x = some .local := by first | exact .inl rfl | exact .inr rfl | assumption) : QG X (.Name x pos) (gName i) :=
  ⟨pg_name hN hi hx hf⟩
theorem qg_tup {es : List Expr} {k : Nat} {t : TGs} {n : Nat} (hc : X.calm = true) (h : QGs X es t) (hn : (assignEach es X.env).length = n := by rfl) (hst : (assignEach es X.env).findIdx? (·.1) = none := by rfl) : QG X (.Tuple es k pos) (gTup X.K n t) :=
  ⟨pg_tup hc h.o hn hst⟩
theorem qg_sub {o i : Expr} {to ti : TE} {t : TSet} (ho : QE X o to) (hi : QE X i ti) (hs : PSet X t) (ha : ∀ v, assign (.Subscript o i pos) X.env v = (do
      let ov ← holding [v] (eval o X.env)
      let iv ← holding [v, ov] (eval i X.env)
      standAt pos
      holding [v, ov, iv] (setItem ov iv v)
      release [v, ov, iv] []) := by intro _; rfl) : QG X (.Subscript o i pos) (gSub to ti t) :=
  ⟨pg_sub ho.o hi.o hs ha⟩
theorem qgs_nil  : QGs X [] gNil :=
  ⟨pgs_nil ⟩
theorem qgs_cons {e : Expr} {es : List Expr} {t : TG} {u : TGs} (h1 : QG X e t) (h2 : QGs X es u) (hs : (assignEach (e :: es) X.env).map (·.2) = assign e X.env :: (assignEach es X.env).map (·.2) := by rfl) : QGs X (e :: es) (gCons t u) :=
  ⟨pgs_cons h1.o h2.o hs⟩
theorem qs_set {i : Nat} {x : Str} {e : Expr} {te : TE} {pos' : Pos} (hN : X.N.Nodup) (hi : X.N[i]? = some x) (hx : Loc X.env.scope x) (he : QE X e te) (hs : swapsWith e (some (.Name x pos')) pos.line X.env = pure false := by rfl) (hf : X.fn x = true ∨ X.env.scope.names.lookup x = some .local := by first | exact .inl rfl | exact .inr rfl | assumption) : QS X (.Assign [.Name x pos'] e pos) (tAsg te (gName i)) :=
  ⟨ps_set hN hi hx he.o hs hf⟩
theorem qs_asg {tg e : Expr} {te : TE} {g : TG} (he : QE X e te) (hg : QG X tg g) (hs : swapsWithSole [tg] e pos.line X.env = pure false := by rfl) (hw : swappedStores [tg] e X.env = pure none := by rfl) (h1 : (assignEach [tg] X.env).map (·.2) = [assign tg X.env] := by rfl) : QS X (.Assign [tg] e pos) (tAsg te g) :=
  ⟨ps_asg he.o hg.o hs hw h1⟩
theorem qs_ret {e : Expr} (he : QE X e te) : QS X (.Return (some e) pos) (tRet te) :=
  ⟨ps_ret he.o⟩
theorem qs_expr {e : Expr} (he : QE X e te) (hs : swapsWith e none pos.line X.env = pure false := by rfl) : QS X (.Expr e pos) (tDrop te) :=
  ⟨ps_expr he.o hs⟩
theorem qs_if {c : Expr} {a b : List Stmt} {tc : TT} (hc : QT X c tc) (ha : QSs X a t) (hb : QSs X b u) : QS X (.If c a b pos) (tIfS tc t u) :=
  ⟨ps_if hc.o ha.o hb.o⟩
theorem qs_while {c : Expr} {body : List Stmt} {tc : TT} {tb : TS} (hp : PassesOwn (model X.prog X.w) X.A X.env X.xe) (hc : QT X c tc) (hb : QSs X body tb) : QS X (.While c body [] pos) (tWhile tc tb) :=
  ⟨ps_while hp hc.o hb.o⟩
theorem qs_for {iter : Expr} {body : List Stmt} {wi : TI} {g : TG} {tb : TS} {pos : Pos} (hp : PassesOwn (model X.prog X.w) X.A X.env X.xe) (hc : X.calm = true) (hi : QI X tg iter wi) (hg : QG X tg g) (hb : QSs X body tb) (hs : ∀ x, foldedSetIterable iter X.env x = pure x := by intro _; rfl) : QS X (.For tg iter body [] pos) (tFor wi g tb) :=
  ⟨ps_for hp hc hi.o hg.o hb.o hs⟩
theorem qss_nil  : QSs X [] tNext :=
  ⟨pss_nil ⟩
theorem qss_one {st : Stmt} (h1 : QS X st t) : QSs X [st] t :=
  ⟨pss_one h1.o⟩
theorem qss_cons {rest : List Stmt} {st : Stmt} (h1 : QS X st t) (h2 : QSs X rest u) : QSs X (st :: rest) (tSeq t u) :=
  ⟨pss_cons h1.o h2.o⟩
theorem qts_nil {X : Cx} : QTs X [] tNoTest :=
  ⟨pts_nil ⟩
theorem qts_one {X : Cx} {c : Expr} {t : TT} (hc : QT X c t) : QTs X [c] t :=
  ⟨pts_one hc.o⟩
theorem QW.pt {X : Cx} {e : Expr} {t : TT} (h : QW X e t) : QT X e t :=
  ⟨PW.pt h.o⟩
theorem qe_comp {X : Cx} {elt tg iter : Expr} {cs : List Expr} {scope : Scope} {pos : Pos} {cl : List (Str × Addr)} {N : List Str} {js : List (Option Nat)} {wi : TI} {g : TG} {tc : TT} {te : TE}
    (C : CompOk X scope cl N js) (hc : X.calm = true) (hi : QI X tg iter wi)
    (hg : ∀ fp pins s H, QG (compCx X scope cl N fp pins s H fun _ _ => False) tg g)
    (ht : ∀ fp pins s H, QTs (compCx X scope cl N fp pins s H fun _ _ => False) cs tc)
    (he : ∀ fp pins s H, QE (compCx X scope cl N fp pins s H fun _ _ => False) elt te)
    (hs : ∀ x, foldedSetIterable iter X.env x = pure x := by intro _; rfl) : QE X (.ListComp elt [⟨tg, iter, cs, 0⟩] scope pos) (tComp js wi g tc te) :=
  ⟨pe_comp C hc hi.o (fun a b c d => (hg a b c d).o) (fun a b c d => (ht a b c d).o) (fun a b c d => (he a b c d).o) hs⟩
theorem Fun.okQ {P : Program} {w : World} {K : PySem.W.Frag} {mg : Str → Option Value} {base : Heap} {x qual : Str} {st : Stmt} {f : Addr} {fd : FuncData} {N ps : List Str} {k : Nat} {sp : Sp} (F : Fun K x qual st f fd) (S : FnScope N ps (defScope st)) (len : ∀ vs H Q E, sp vs H Q E → vs.length = ps.length)
    (hbody : ∀ (cdv : Value) (A : Around) (outer : List Env) (s : Shared) (H : Hp) (vs : List V) (Q : VK) (E : XK), Room k (A.deeper (envOfC qual (defScope st) s.heap.objs.size f cdv)) → sp vs H Q E →
      ∃ t, QSs (cxOf CX0 P w K mg base N qual (defScope st) f cdv A outer s H E).nox (defBody st) t ∧ t { nx := fun _ H' => Q .non H', rt := Q } (start N vs) H) : FnOk P w K mg base CX0 (k + 1) f fd ps sp :=
  F.ok S len fun cdv A outer s H vs Q E hr h => let ⟨t, a, b⟩ := hbody cdv A outer s H vs Q E hr h; ⟨t, a.o, b⟩
end L2

set_option Elab.async false
set_option linter.all false
set_option maxRecDepth 100000
set_option maxHeartbeats 4000000
/-! THINGS OF KNOWN KINDS, two deep, and heaps that keep them; slices, sums, new things with the heap a letter. -/
namespace W2
open PySem L2
theorem cut_whole_eq {xs : List V} {lo hi : Option Int} (h1 : HT.sIx xs.length 0 lo = 0) (h2 : HT.sIx xs.length xs.length hi = xs.length) : cutV xs lo hi = xs := by
  unfold cutV
  rw [h1, h2, List.drop_zero, Nat.sub_zero, List.take_length]
theorem slice_any {K : PySem.W.Frag} {a : Addr} {xs : List V} {lo hi : Option Int} {H : Hp} {Q : VK} (ha : H a = some (.tup xs)) (q : ∀ p H', Same H H' → H' p = some (.tup (cutV xs lo hi)) → Q (.ref p) H') :
    rSlT K (.ref a) lo hi H Q ∨ rSlW K (.ref a) lo hi H Q := by
  by_cases e : HT.sIx xs.length 0 lo = 0 ∧ HT.sIx xs.length xs.length hi = xs.length
  · exact .inr ⟨a, xs, rfl, SqT.of ha, e.1, e.2, q a H (Same.refl H) (by rw [cut_whole_eq e.1 e.2]; exact ha)⟩
  · exact .inl ⟨a, xs, rfl, SqT.of ha, e, fun p hp => q p _ (Same.new hp) upd_same⟩
end W2
namespace L2
open PySem PySem.Spec PyProof.Rows
/-! ### rules whose heap behind is a letter -/
theorem OpR.imp {X : Cx} {f : Value → Value → Sem Value} {r r' : R2} (h : OpR X f r) (i : ∀ x y H Q, r' x y H Q → r x y H Q) : OpR X f r' := fun pins s σ H x y v u Q I rx ry z => h pins s σ H x y v u Q I rx ry (i x y H Q z)
theorem CallR.imp {X : Cx} {f : Value} {r r' : List V → Hp → VK → Prop} (h : CallR X f r) (i : ∀ xs H Q, r' xs H Q → r xs H Q) : CallR X f r' := fun pins s σ H xs us Q I rx z => h pins s σ H xs us Q I rx (i xs H Q z)
theorem SlR.imp {X : Cx} {r r' : V → Option Int → Option Int → Hp → VK → Prop} (h : SlR X r) (i : ∀ x lo hi H Q, r' x lo hi H Q → r x lo hi H Q) : SlR X r' := fun pins s σ H x v vl vu lo hi sl Q I rx a b c z => h pins s σ H x v vl vu lo hi sl Q I rx a b c (i x lo hi H Q z)
theorem MtM.imp {X : Cx} {id : String} {r r' : V → List V → Hp → VK → Prop} (h : MtM X id r) (i : ∀ x xs H Q, r' x xs H Q → r x xs H Q) : MtM X id r' := fun pins s σ H x xs v us Q I rx rs z => h pins s σ H x xs v us Q I rx rs (i x xs H Q z)
/-- a new thing o: its address, the heap behind -/
def NewA (o : HO) (H : Hp) (Q : VK) : Prop := ∀ p H', H p = none → Same H H' → H' p = some o → Q (.ref p) H'
theorem NewA.at {o : HO} {H : Hp} {Q : VK} (q : NewA o H Q) : ∀ p, H p = none → Q (.ref p) (upd H p o) := fun p hp => q p _ hp (W2.Same.new hp) upd_same
def tTupA (t : TA) : TE := fun σ H Q => t σ H fun xs H1 => xs.length ≤ sizeLine ∧ NewA (.tup xs) H1 Q
def tLstA (t : TA) : TE := fun σ H Q => t σ H fun xs H1 => xs.length ≤ sizeLine ∧ NewA (.lst xs) H1 Q
section
variable {X : Cx}
theorem qe_tupA {es : List Expr} {t : TA} {x1} {pos : Pos} (h : QA X es t) : QE X (.Tuple es x1 pos) (tTupA t) := ⟨by
  intro pins s σ H Q I hq
  refine wpAny_Tuple_spliced (thn (h.o pos pins s σ H _ I hq) fun us s1 ⟨xs, H1, I1, r, z, q⟩ => ⟨by rw [← r.length]; exact z, ?_⟩)
  have hf : H1 s1.heap.objs.size = none := I1.hok.fresh (Nat.le_refl _)
  refine ⟨.ref s1.heap.objs.size, upd H1 s1.heap.objs.size (.tup xs), I1.laid (t' := s1.toks) (fun b u e => Heap.get?_push_of_some _ e) (Nat.le_refl _) ?_, rfl, q.at _ hf⟩
  exact ⟨z, us, r, ⟨_, Heap.get?_push_size _ rfl, rfl, ⟨_, rfl⟩, rfl⟩⟩⟩
theorem qe_lstA {es : List Expr} {t : TA} {pos : Pos} (h : QA X es t) : QE X (.List es pos) (tLstA t) := ⟨by
  intro pins s σ H Q I hq
  refine wpAny_List_spliced (thn (h.o pos pins s σ H _ I hq) fun us s1 ⟨xs, H1, I1, r, z, q⟩ => ⟨by rw [← r.length]; exact z, ?_⟩)
  have hf : H1 s1.heap.objs.size = none := I1.hok.fresh (Nat.le_refl _)
  refine ⟨.ref s1.heap.objs.size, upd H1 s1.heap.objs.size (.lst xs), I1.laid (t' := s1.toks) (fun b u e => Heap.get?_push_of_some _ e) (Nat.le_refl _) ?_, rfl, q.at _ hf⟩
  exact ⟨z, us, 0, r, Heap.get?_push_size _ rfl⟩⟩
def rCatLA : R2 := fun x y H Q => ∃ l b xs zs, x = .ref l ∧ y = .ref b ∧ H l = some (.lst xs) ∧ H b = some (.lst zs) ∧ xs.length + zs.length ≤ sizeLine ∧ NewA (.lst (xs ++ zs)) H Q
theorem op_catLA : OpR X (binaryOp .Add) rCatLA := op_cat.imp fun x y H Q ⟨l, b, xs, zs, e1, e2, h1, h2, h3, q⟩ => ⟨l, b, xs, zs, e1, e2, h1, h2, h3, q.at⟩
def rRepTA : R2 := fun x y H Q => ∃ l k xs, x = .ref l ∧ y = .int k ∧ H l = some (.tup xs) ∧ xs ≠ [] ∧ 2 ≤ k ∧ k < 2 ^ 63 ∧ xs.length * k.toNat ≤ sizeLine ∧ NewA (.tup (List.replicate k.toNat xs).flatten) H Q
theorem op_repTA : OpR X (binaryOp .Mult) rRepTA := op_repT.imp fun x y H Q ⟨l, k, xs, e1, e2, h1, h2, h3, h4, h5, q⟩ => ⟨l, k, xs, e1, e2, h1, h2, h3, h4, h5, q.at⟩
def rRepLA : R2 := fun x y H Q => ∃ l k xs, x = .ref l ∧ y = .int k ∧ H l = some (.lst xs) ∧ -(2 ^ 63) ≤ k ∧ k < 2 ^ 63 ∧ xs.length * k.toNat ≤ sizeLine ∧ NewA (.lst (List.replicate k.toNat xs).flatten) H Q
theorem op_repLA : OpR X (binaryOp .Mult) rRepLA := op_rep.imp fun x y H Q ⟨l, k, xs, e1, e2, h1, h2, h3, h4, q⟩ => ⟨l, k, xs, e1, e2, h1, h2, h3, h4, q.at⟩
theorem call_tuple_ofA : CallR X (.type "tuple") (fun xs H Q => ∃ p ys, xs = [.ref p] ∧ SqL X.K H p ys ∧ NewA (.tup ys) H Q) := call_tuple_of.imp fun xs H Q ⟨p, ys, e, h, q⟩ => ⟨p, ys, e, .inl ⟨h, q.at⟩⟩
/-- a tuple cut, whole or not -/
def rSlA : V → Option Int → Option Int → Hp → VK → Prop := fun x lo hi H Q => ∃ a xs, x = .ref a ∧ H a = some (.tup xs) ∧ ∀ p H', Same H H' → H' p = some (.tup (cutV xs lo hi)) → Q (.ref p) H'
theorem sl_A : SlR X rSlA := sl_tupA.imp fun x lo hi H Q ⟨a, xs, e, h, q⟩ => by subst e; exact W2.slice_any h q
end
end L2
namespace W2
open PySem L2
/-- all is kept, but what lists hold -/
def Keep (H H' : Hp) : Prop := ∀ b o, H b = some o → H' b = some o ∨ ∃ xs ys, o = .lst xs ∧ H' b = some (.lst ys)
theorem Keep.refl (H : Hp) : Keep H H := fun _ _ h => .inl h
theorem Keep.of {H H' : Hp} (s : Same H H') : Keep H H' := fun b o h => .inl (s b o h)
theorem Keep.trans {H H1 H2 : Hp} (x : Keep H H1) (y : Keep H1 H2) : Keep H H2 := fun b o h => by
  rcases x b o h with z | ⟨xs, ys, rfl, z⟩
  · exact y b o z
  · rcases y b _ z with z2 | ⟨us, vs, e, z2⟩
    · exact .inr ⟨xs, ys, rfl, z2⟩
    · exact .inr ⟨xs, vs, rfl, z2⟩
theorem Keep.but {a : Addr} {H H' : Hp} {xs ys : List V} (bt : But a H H') (h : H a = some (.lst xs)) (h' : H' a = some (.lst ys)) : Keep H H' := fun b o e => by
  by_cases z : b = a
  · subst z
    rw [h] at e
    cases e
    exact .inr ⟨xs, ys, rfl, h'⟩
  · exact .inl (bt b o z e)
theorem Keep.tup {H H' : Hp} (k : Keep H H') {b : Addr} {xs : List V} (h : H b = some (.tup xs)) : H' b = some (.tup xs) := by
  rcases k b _ h with z | ⟨_, _, e, _⟩
  · exact z
  · cases e
theorem Keep.kind {H H' : Hp} (s : Keep H H') {v : V} (k : kindV H v) : kindV H' v := by
  cases v with
  | ref a =>
    rcases (show (∃ xs, H a = some (.tup xs)) ∨ (∃ xs, H a = some (.lst xs)) ∨ (∃ kvs, H a = some (.dK kvs)) from k) with ⟨xs, e⟩ | ⟨xs, e⟩ | ⟨kvs, e⟩
    · exact .inl ⟨xs, s.tup e⟩
    · rcases s _ _ e with z | ⟨_, ys, _, z⟩
      · exact .inr (.inl ⟨xs, z⟩)
      · exact .inr (.inl ⟨ys, z⟩)
    · rcases s _ _ e with z | ⟨_, ys, w, z⟩
      · exact .inr (.inr ⟨kvs, z⟩)
      · cases w
  | non => trivial
  | bl b => trivial
  | int i => trivial
  | str x => trivial
  | byt b => exact False.elim k
  | flt b => exact False.elim k
  | ty b => exact False.elim k
theorem Keep.isT {H H' : Hp} (s : Keep H H') {v : V} (k : kindV H v) : W2.isT H' v = W2.isT H v := by
  cases v with
  | ref a =>
    rcases (show (∃ xs, H a = some (.tup xs)) ∨ (∃ xs, H a = some (.lst xs)) ∨ (∃ kvs, H a = some (.dK kvs)) from k) with ⟨xs, e⟩ | ⟨xs, e⟩ | ⟨kvs, e⟩
    · show tupO (H' a) = tupO (H a)
      rw [s.tup e, e]
    · show tupO (H' a) = tupO (H a)
      rcases s _ _ e with z | ⟨_, ys, _, z⟩ <;> rw [z, e] <;> rfl
    · show tupO (H' a) = tupO (H a)
      rcases s _ _ e with z | ⟨_, ys, w, z⟩
      · rw [z, e]
      · cases w
  | _ => rfl
/-- a thing of known kinds, its parts too -/
def wf1 (H : Hp) (v : V) : Prop := kindV H v ∧ ∀ xs, isT H v = some xs → xs.length ≤ 1000 ∧ ∀ x ∈ xs, kindV H x
theorem Keep.wf1 {H H' : Hp} (s : Keep H H') {v : V} (k : W2.wf1 H v) : W2.wf1 H' v := by
  obtain ⟨k, kp⟩ := k
  refine ⟨s.kind k, fun xs e => ?_⟩
  rw [s.isT k] at e
  obtain ⟨l, m⟩ := kp xs e
  exact ⟨l, fun x hx => s.kind (m x hx)⟩
section
variable {H : Hp} {p : Addr} {xs : List V}
theorem kind_tup (h : H p = some (.tup xs)) : kindV H (.ref p) := .inl ⟨xs, h⟩
theorem wf1_tup (h : H p = some (.tup xs)) (l : xs.length ≤ 1000) (m : ∀ x ∈ xs, kindV H x) : wf1 H (.ref p) := ⟨kind_tup h, fun ys e => by rw [isT_ref h] at e; cases e; exact ⟨l, m⟩⟩
end
end W2

set_option Elab.async false
set_option linter.all false
set_option maxRecDepth 100000
set_option maxHeartbeats 4000000
namespace L2
open PySem PySem.Spec PyProof.Rows
/-! ### lists of pairs as tables -/
section
variable {κ : Type} [DecidableEq κ]
def valV (kvs : List (κ × V)) (k : κ) : Option V := (kvs.find? fun kv => decide (kv.1 = k)).map (·.2)
/-- in its place, or at the end -/
def putK (kvs : List (κ × V)) (k : κ) (v : V) : List (κ × V) :=
  if (kvs.any fun kv => decide (kv.1 = k)) = true then kvs.map (fun kv => if kv.1 = k then (kv.1, v) else kv) else kvs ++ [(k, v)]
def dropK (kvs : List (κ × V)) (k : κ) : List (κ × V) := kvs.filter fun kv => decide (kv.1 ≠ k)

theorem valV_pos {p : κ × V} {r : List (κ × V)} {k : κ} (e : p.1 = k) : valV (p :: r) k = some p.2 := by simp [valV, List.find?_cons, e]
theorem valV_neg {p : κ × V} {r : List (κ × V)} {k : κ} (e : ¬ p.1 = k) : valV (p :: r) k = valV r k := by simp [valV, List.find?_cons, e]
theorem valV_any (k : κ) : ∀ kvs : List (κ × V), (kvs.any fun kv => decide (kv.1 = k)) = (valV kvs k).isSome
  | [] => rfl
  | p :: r => by
    rw [List.any_cons]
    by_cases e : p.1 = k
    · simp only [valV_pos e, decide_eq_true e, Bool.true_or, Option.isSome_some]
    · rw [valV_neg e, decide_eq_false e, Bool.false_or]; exact valV_any k r
theorem RelO.isSome_eq {o : Option V} {u : Option Value} (r : RelO o u) : o.isSome = u.isSome := by
  cases o with
  | none => cases u with
    | none => rfl
    | some _ => exact (show False from r).elim
  | some _ => cases u with
    | none => exact (show False from r).elim
    | some _ => rfl
theorem RelO.getD {o : Option V} {u : Option Value} {d : V} {d' : Value} (r : RelO o u) (rd : RelV d d') : RelV (o.getD d) (u.getD d') := by
  cases o with
  | none => cases u with
    | none => exact rd
    | some _ => exact (show False from r).elim
  | some _ => cases u with
    | none => exact (show False from r).elim
    | some _ => exact r

/-- raw tables of the same keys -/
theorem KV.val {kvs : List (κ × V)} {vs : List (κ × Value)} (r : KV kvs vs) (k : κ) : RelO (valV kvs k) (valueAt vs k) := by
  unfold KV at r
  induction r with
  | nil => exact True.intro
  | @cons p q ps qs h t ih =>
    obtain ⟨h1, h2⟩ := h
    by_cases e : p.1 = k
    · have e' : q.1 = k := h1.symm.trans e
      have b : valueAt (q :: qs) k = some q.2 := by simp [valueAt, List.find?_cons, e']
      rw [valV_pos e, b]; exact h2
    · have e' : ¬ q.1 = k := fun z => e (h1.trans z)
      have b : valueAt (q :: qs) k = valueAt qs k := by simp [valueAt, List.find?_cons, e']
      rw [valV_neg e, b]; exact ih
theorem KV.any {kvs : List (κ × V)} {vs : List (κ × Value)} (r : KV kvs vs) (k : κ) : (kvs.any fun kv => decide (kv.1 = k)) = vs.any fun kv => decide (kv.1 = k) := by
  unfold KV at r
  induction r with
  | nil => rfl
  | cons h t ih => rw [List.any_cons, List.any_cons, ih, h.1]
theorem KV.repl {kvs : List (κ × V)} {vs : List (κ × Value)} (r : KV kvs vs) (k : κ) {y : V} {u : Value} (ry : RelV y u) :
    KV (kvs.map fun kv => if kv.1 = k then (kv.1, y) else kv) (vs.map fun kv => if kv.1 = k then (kv.1, u) else kv) := by
  unfold KV at r ⊢
  induction r with
  | nil => exact .nil
  | @cons p q ps qs h t ih =>
    rw [List.map_cons, List.map_cons]
    refine .cons ?_ ih
    obtain ⟨h1, h2⟩ := h
    by_cases e : p.1 = k
    · rw [if_pos e, if_pos (h1.symm.trans e)]; exact ⟨h1, ry⟩
    · rw [if_neg e, if_neg (fun z => e (h1.trans z))]; exact ⟨h1, h2⟩
theorem KV.put {kvs : List (κ × V)} {vs : List (κ × Value)} (r : KV kvs vs) (k : κ) {y : V} {u : Value} (ry : RelV y u) : KV (putK kvs k y) (stored vs k u) := by
  unfold putK stored
  rw [r.any k]
  by_cases e : (vs.any fun kv => decide (kv.1 = k)) = true
  · rw [if_pos e, if_pos e]; exact r.repl k ry
  · rw [if_neg e, if_neg e]; exact Paired.snoc r ⟨rfl, ry⟩
theorem KV.drop {kvs : List (κ × V)} {vs : List (κ × Value)} (r : KV kvs vs) (k : κ) : KV (dropK kvs k) (without vs k) := by
  unfold KV at r ⊢
  unfold dropK without
  induction r with
  | nil => exact .nil
  | @cons p q ps qs h t ih =>
    obtain ⟨h1, h2⟩ := h
    rw [List.filter_cons, List.filter_cons]
    by_cases e : p.1 = k
    · have a : ¬ decide (p.1 ≠ k) = true := by simp [e]
      have b : ¬ decide (q.1 ≠ k) = true := by simp [h1.symm.trans e]
      rw [if_neg a, if_neg b]; exact ih
    · have e' : ¬ q.1 = k := fun z => e (h1.trans z)
      have a : decide (p.1 ≠ k) = true := by simp [e]
      have b : decide (q.1 ≠ k) = true := by simp [e']
      rw [if_pos a, if_pos b]; exact .cons ⟨h1, h2⟩ ih
theorem KV.keys {kvs : List (κ × V)} {vs : List (κ × Value)} (r : KV kvs vs) : kvs.map (·.1) = vs.map (·.1) := by
  unfold KV at r
  induction r with
  | nil => rfl
  | cons h t ih => rw [List.map_cons, List.map_cons, ih, h.1]
theorem KV.length {kvs : List (κ × V)} {vs : List (κ × Value)} (r : KV kvs vs) : kvs.length = vs.length := Paired.length r
end


/-! ### a tracked dict, its keys ints and texts or tuples of these -/
/-- raw entries of a dict with tuple keys -/
abbrev KT (H : Hp) : List (List Key × V) → List (List Key × Addr × Value) → Prop := Paired fun p q => p.1 = q.1 ∧ H q.2.1 = some (.tup (p.1.map kV)) ∧ RelV p.2 q.2.2
theorem KT.val {H : Hp} {kvs : List (List Key × V)} {xs : List (List Key × Addr × Value)} (r : KT H kvs xs) (k : List Key) : RelO (valV kvs k) ((atKey xs k).map (·.2)) := by
  induction r with
  | nil => exact True.intro
  | @cons p q ps qs h t ih =>
    obtain ⟨h1, _, h2⟩ := h
    by_cases e : p.1 = k
    · have e' : q.1 = k := h1.symm.trans e
      have b : atKey (q :: qs) k = some q.2 := by simp [atKey, List.find?_cons, e']
      rw [valV_pos e, b]; exact h2
    · have e' : ¬ q.1 = k := fun z => e (h1.trans z)
      have b : atKey (q :: qs) k = atKey qs k := by simp [atKey, List.find?_cons, e']
      rw [valV_neg e, b]; exact ih
theorem KT.repl {H : Hp} {kvs : List (List Key × V)} {xs : List (List Key × Addr × Value)} (r : KT H kvs xs) (k : List Key) {y : V} {u : Value} (ry : RelV y u) :
    KT H (kvs.map fun kv => if kv.1 = k then (kv.1, y) else kv) (xs.map (putAt k u)) := by
  induction r with
  | nil => exact .nil
  | @cons p q ps qs h t ih =>
    rw [List.map_cons, List.map_cons]
    refine .cons ?_ ih
    obtain ⟨h1, h2, h3⟩ := h
    unfold putAt
    by_cases e : p.1 = k
    · rw [if_pos e, if_pos (h1.symm.trans e)]; exact ⟨h1, h2, ry⟩
    · rw [if_neg e, if_neg (fun z => e (h1.trans z))]; exact ⟨h1, h2, h3⟩
theorem KT.put {H : Hp} {kvs : List (List Key × V)} {xs : List (List Key × Addr × Value)} (r : KT H kvs xs) (k : List Key) {b : Addr} {y : V} {u : Value} (hb : H b = some (.tup (k.map kV))) (ry : RelV y u) :
    KT H (putK kvs k y) (storedH xs k b u) := by
  have e : (kvs.any fun kv => decide (kv.1 = k)) = (atKey xs k).isSome := by
    rw [valV_any, (r.val k).isSome_eq, Option.isSome_map]
  unfold putK storedH
  rw [e]
  by_cases q : (atKey xs k).isSome = true
  · rw [if_pos q, if_pos q]; exact r.repl k ry
  · rw [if_neg q, if_neg q]; exact Paired.snoc r ⟨rfl, hb, ry⟩
theorem KT.keeps {H H' : Hp} {kvs : List (List Key × V)} {xs : List (List Key × Addr × Value)} (r : KT H kvs xs) (ht : ∀ b ys, H b = some (.tup ys) → H' b = some (.tup ys)) : KT H' kvs xs :=
  Paired.mapP r fun _ _ z => ⟨z.1, ht _ _ z.2.1, z.2.2⟩

section
variable {P : Program} {w : World} {H : Hp} {h : Heap} {a : Addr}
end

/-- what the dict at a holds at the key y -/
def DGet (H : Hp) (a : Addr) (y : V) (r : Option V) : Prop :=
  (∃ kvs k, Rd H a (.dK kvs) ∧ y = kV k ∧ r = valV kvs k) ∨ ∃ kvs k b, Rd H a (.dT kvs) ∧ y = .ref b ∧ H b = some (.tup (k.map kV)) ∧ r = valV kvs k
/-- the heap behind a[y] = v -/
def DPut (H : Hp) (a : Addr) (y v : V) (H' : Hp) : Prop :=
  (∃ kvs k, H a = some (.dK kvs) ∧ y = kV k ∧ kvs.length < sizeLine ∧ H' = upd H a (.dK (putK kvs k v))) ∨
  ∃ kvs k b, H a = some (.dT kvs) ∧ y = .ref b ∧ H b = some (.tup (k.map kV)) ∧ kvs.length < sizeLine ∧ H' = upd H a (.dT (putK kvs k v))
theorem DGet.k {H : Hp} {a : Addr} {kvs : List (Key × V)} {k : Key} (e : H a = some (.dK kvs)) : DGet H a (kV k) (valV kvs k) := .inl ⟨kvs, k, .inl e, rfl, rfl⟩
theorem DGet.t {H : Hp} {a b : Addr} {kvs : List (List Key × V)} {k : List Key} (e : H a = some (.dT kvs)) (eb : H b = some (.tup (k.map kV))) : DGet H a (.ref b) (valV kvs k) := .inr ⟨kvs, k, b, .inl e, rfl, eb, rfl⟩
theorem DPut.k {H : Hp} {a : Addr} {kvs : List (Key × V)} {k : Key} {v : V} (e : H a = some (.dK kvs)) (hl : kvs.length < sizeLine) : DPut H a (kV k) v (upd H a (.dK (putK kvs k v))) := .inl ⟨kvs, k, e, rfl, hl, rfl⟩
theorem DPut.t {H : Hp} {a b : Addr} {kvs : List (List Key × V)} {k : List Key} {v : V} (e : H a = some (.dT kvs)) (eb : H b = some (.tup (k.map kV))) (hl : kvs.length < sizeLine) :
    DPut H a (.ref b) v (upd H a (.dT (putK kvs k v))) := .inr ⟨kvs, k, b, e, rfl, eb, hl, rfl⟩


section
variable {X : Cx} {pins : List (Addr × Obj)} {σ : St} {H : Hp} {s : Shared} {a : Addr} {y v : V} {u r : Value} {o : Option V} {A : Around} {E : Value → Shared → Prop}

theorem Inv.big (I : Inv X pins σ H s) : sysModules < s.heap.objs.size := by
  have h : mainGlobals < s.heap.objs.size := (I.mod.glob.keeps I.bk).lt
  exact Nat.lt_trans (by decide) h

end

section
variable {X : Cx} {pins : List (Addr × Obj)} {σ : St} {H : Hp} {s : Shared} {a : Addr} {kvs : List (Key × V)} {k : Key} {u : Value} {A : Around} {E : Value → Shared → Prop}
end


/-! ### readings and rules -/
section
variable {X : Cx} {o i e value : Expr} {pos pos' tpos : Pos} {td ty tv : TE}
end


/-! ### displays -/
section
variable {X : Cx} {pos : Pos}
end

end L2

set_option Elab.async false
set_option linter.all false
set_option maxRecDepth 100000
set_option maxHeartbeats 4000000
/-! ENUMERATE of a list; least, greatest and sum of ints; what is never reached. -/
namespace L2
open PySem PySem.Spec PyProof.Rows
theorem qs_never {X : Cx} {st : Stmt} : QS X st tNever := ⟨ps_never⟩
/-- a list walked with its places: each turn hands out a new pair -/
def Ite (a : Addr) : It :=
  ⟨fun i H => ∃ xs x, H a = some (.lst xs) ∧ xs[i]? = some x,
   fun i H v H' => ∃ p, H p = none ∧ v = .ref p ∧ ∃ x, H' = upd H p (.tup [.int (i : Int), x]) ∧ ∀ xs, H a = some (.lst xs) → xs[i]? = some x,
   fun i H => ∃ xs, H a = some (.lst xs) ∧ xs.length ≤ i⟩
theorem turn_enum {P : Program} {w : World} {K : PySem.W.Frag} {tg : Expr} (htg : tupleTg tg = true) {e it a : Addr} (hne : e ≠ it) :
    Turn P w K tg (Ite a) [e, it] e (fun i h => (∃ old, IsEnum h e it (i : Int) old) ∧ h.IsListIter it a i) where
  mem := List.mem_cons_self
  obj := fun i h st c hc => by
    obtain ⟨⟨old, h1⟩, ⟨o4, h4, _, d4⟩⟩ := st
    have nof : ∀ {o : Obj} {vs : Array Value}, o.data = .fields vs → ∀ v, o.data ≠ .cell v := fun e v q => by rw [e] at q; cases q
    simp only [List.mem_cons, List.not_mem_nil, or_false] at hc
    rcases hc with rfl | rfl
    · exact ⟨_, h1, nof rfl⟩
    · exact ⟨_, h4, nof d4⟩
  keep := fun i h h' st k => by
    obtain ⟨⟨old, h1⟩, ⟨o4, h4, r4⟩⟩ := st
    exact ⟨⟨old, k _ (by simp) _ h1⟩, ⟨o4, k _ (by simp) _ h4, r4⟩⟩
  item := by
    intro X hP hw hK hc i pins s σ H E I hf st hg
    subst hP hw hK
    obtain ⟨⟨old, h1⟩, h4⟩ := st
    obtain ⟨xs, x, qa, hx⟩ := hg
    obtain ⟨z, its, n, rv, hlen, e0⟩ := I.lstM qa
    obtain ⟨ux, eux, rux⟩ := rv.get hx
    refine wpAny_pyNext_enum_item h1 h4 (show s.heap.IsList a its.toArray from ⟨_, e0, rfl, n, rfl⟩) (x := ux) (by simpa using eux) hne fun g b1 b2 b3 b4 b5 => ?_
    refine ⟨_, rfl, ?_⟩
    have elt : e < s.heap.objs.size := Heap.lt_size h1
    cases tg with
    | Tuple es kk pp =>
      refine wpAny_letOwnedTupleGo_enum b1 fun g' c1 sb => ?_
      have new : g'.get? s.heap.objs.size = some { cls := .type "tuple", data := .seq #[.int i s.toks, ux] } := sb.extBut _ _ (Nat.ne_of_gt elt) b3
      have I1 : Inv X pins σ (upd H s.heap.objs.size (.tup [.int (i : Int), x])) { s with heap := g', toks := s.toks + 1 } := by
        refine I.turnedNew (t' := s.toks + 1) (L := [e, it]) (fun c o hcn eo => ?_) hf (Nat.le_refl _) ⟨by show 2 ≤ sizeLine; decide, [.int i s.toks, ux], .cons ⟨_, rfl⟩ (.cons rux .nil), ⟨_, new, rfl, ⟨0, rfl⟩, rfl⟩⟩
        simp only [List.mem_cons, List.not_mem_nil, or_false, not_or] at hcn
        exact sb.extBut c o hcn.1 (b5 c o hcn.1 hcn.2 eo)
      refine ⟨.ref s.heap.objs.size, _, I1, rfl, ⟨_, I.fresh, rfl, x, rfl, fun xs' q1 => ?_⟩, ⟨⟨ux, ?_⟩, b2.extBut sb.extBut hne.symm⟩, fun c hcm => ?_⟩
      · rw [qa] at q1; cases q1; exact hx
      · rw [show ((i + 1 : Nat) : Int) = (i : Int) + 1 by omega]; exact c1
      · obtain ⟨o, eo⟩ : ∃ o, s.heap.get? c = some o := by
          simp only [List.mem_cons, List.not_mem_nil, or_false] at hcm
          rcases hcm with rfl | rfl
          · exact ⟨_, h1⟩
          · obtain ⟨o4, g4, _⟩ := h4
            exact ⟨_, g4⟩
        rw [upd_ne (Nat.ne_of_lt (Heap.lt_size eo))]
        exact (hf c hcm).1
    | _ => exact absurd (show false = true from htg) Bool.false_ne_true
  done := by
    intro X hP hw hK hc i pins s σ H E I hf st hg
    subst hP hw hK
    obtain ⟨⟨old, h1⟩, h4⟩ := st
    obtain ⟨xs, qa, hl⟩ := hg
    obtain ⟨z, its, n, rv, hlen, e0⟩ := I.lstM qa
    refine wpAny_pyNext_enum_end (I.ok.hd hc) h1 h4 (show s.heap.IsList a its.toArray from ⟨_, e0, rfl, n, rfl⟩) (by simp; omega) fun g up => ⟨rfl, ?_⟩
    refine I.turnedL (t' := s.toks) (L := [e, it]) (fun c o hcn eo => ?_) hf
    simp only [List.mem_cons, List.not_mem_nil, or_false, not_or] at hcn
    exact up c o hcn.2 eo
  self := fun _ _ _ _ _ st h => by
    obtain ⟨⟨old, h1⟩, _⟩ := st
    exact wpAny_pyIter_enum h1 h
section
variable {X : Cx} {tg : Expr}
def iEnum (ta : TA) : TI := fun σ H R => ta σ H fun vs H1 => ∃ a xs, vs = [.ref a] ∧ H1 a = some (.lst xs) ∧ R (Ite a) H1
theorem pi_enum {e1 : Expr} {ta : TA} {p pos : Pos} (htg : tupleTg tg = true) (hg : Gl X "enumerate") (hm : X.mg "enumerate" = none) (ha : PA X [e1] ta) (hs : starEach [e1] X.env = [(false, eval e1 X.env)] := by rfl)
    (hb : bootBuiltins "enumerate" = some (.type "enumerate") := by decide +kernel) : PI X tg (.Call (.Name "enumerate" p) [e1] [] pos) (iEnum ta) := by
  intro pins s σ H R I h
  refine Call_ (ld_blt I hg hm hb (PyProof.Rows.callWith_type1 (thn (ha pos pins s σ H _ I h) fun us s1 ⟨vs, H1, I1, r1, q1⟩ => ?_) hs rfl))
  obtain ⟨a, xs, e, qa, q⟩ := q1
  subst e
  obtain ⟨u1, rfl, ra⟩ := vals1 r1
  cases ra
  obtain ⟨z, its, n, rv, hlen, e0⟩ := I1.lstM qa
  refine call_enumerate_1 e0 fun g z1 z2 z3 up => ?_
  refine wpAny_pyIter_enum z1 ?_
  have I2 : Inv X pins σ H1 { s1 with heap := g } := I1.kept (t' := s1.toks) up
  refine ⟨_, [s1.heap.objs.size + 1, s1.heap.objs.size], _, _, H1, rfl, I2, turn_enum htg (Nat.ne_of_gt (Nat.lt_succ_self _)), ⟨⟨_, z1⟩, z2⟩, fun c hc => ?_, q⟩
  have big : s1.heap.objs.size ≤ c := by
    simp only [List.mem_cons, List.not_mem_nil, or_false] at hc
    rcases hc with rfl | rfl
    · exact Nat.le_add_right _ _
    · exact Nat.le_refl _
  exact I1.fpOk big (I1.hok.fresh big)
theorem qi_enum {e1 : Expr} {ta : TA} {p pos : Pos} (htg : tupleTg tg = true) (hg : Gl X "enumerate") (hm : X.mg "enumerate" = none) (ha : QA X [e1] ta) (hs : starEach [e1] X.env = [(false, eval e1 X.env)] := by rfl)
    (hb : bootBuiltins "enumerate" = some (.type "enumerate") := by decide +kernel) : QI X tg (.Call (.Name "enumerate" p) [e1] [] pos) (iEnum ta) := ⟨pi_enum htg hg hm ha.o hs hb⟩
end
/-- for i, x in enumerate(l) -/
theorem for_enum {a : Addr} {xs : List V} {g : TG} {tb : TS} {D : Ends} {σ : St} {H : Hp} (Pv : Nat → St → Hp → Prop) (h0 : Pv 0 σ H) (hl : ∀ i σ H, i ≤ xs.length → Pv i σ H → H a = some (.lst xs))
    (hs : ∀ i x p σ H, xs[i]? = some x → H p = none → Pv i σ H → g (.ref p) σ (upd H p (.tup [.int (i : Int), x])) fun σ2 H2 => tb { D with nx := Pv (i + 1), ct := Pv (i + 1), bk := D.nx } σ2 H2) (hd : ∀ σ H, Pv xs.length σ H → D.nx σ H) :
    ∃ W : Nat → Nat → St → Hp → Prop, (∃ m, W 0 m σ H) ∧ ∀ i m σ H, W i m σ H →
      ((Ite a).stop i H ∧ D.nx σ H) ∨ ((Ite a).go i H ∧ ∃ N : St → Hp → Prop, (∀ σ' H', N σ' H' → ∃ m', m' < m ∧ W (i + 1) m' σ' H') ∧ ∀ x H', (Ite a).yld i H x H' → g x σ H' fun σ2 H2 => tb { D with nx := N, ct := N, bk := D.nx } σ2 H2) := by
  refine ⟨fun i m σ H => m = xs.length - i ∧ i ≤ xs.length ∧ Pv i σ H, ⟨_, rfl, Nat.zero_le _, h0⟩, ?_⟩
  rintro i m σ H ⟨rfl, hi, p⟩
  have qa := hl i σ H hi p
  by_cases hlt : i < xs.length
  · refine .inr ⟨⟨xs, xs[i], qa, by simp [hlt]⟩, Pv (i + 1), fun σ' H' p' => ⟨xs.length - (i + 1), by omega, rfl, hlt, p'⟩, fun v H' yv => ?_⟩
    obtain ⟨q, hq, rfl, x, rfl, hxy⟩ := yv
    exact hs i x q σ H (hxy xs qa) hq p
  · have e : i = xs.length := by omega
    refine .inl ⟨⟨xs, qa, by omega⟩, hd σ H (e ▸ p)⟩
section
variable {X : Cx}
end
end L2

set_option Elab.async false
set_option linter.all false
set_option maxRecDepth 100000
set_option maxHeartbeats 4000000
/-! SORTED of a list of tuples of ints; == and in of tuples of ints. -/
namespace Srt
open PySem PySem.W PyProof.Rows
/-- what the tree of questions comes to, by answers that are known -/
def ev {α : Type} (f : Nat → Nat → Bool) : KasT α → α
  | .ret a => a
  | .ask i j k => ev f (k (f i j))
/-- its questions are of places below n, its ends are as P says -/
def In {α : Type} (n : Nat) (P : α → Prop) : KasT α → Prop
  | .ret a => P a
  | .ask i j k => i < n ∧ j < n ∧ ∀ b, In n P (k b)
theorem In.bind {α β : Type} {n : Nat} {P : α → Prop} {R : β → Prop} {f : α → KasT β} : ∀ (t : KasT α), In n P t → (∀ a, P a → In n R (f a)) → In n R (t.bind f)
  | .ret a, h, hf => hf a h
  | .ask i j k, h, hf => ⟨h.1, h.2.1, fun b => In.bind (k b) (h.2.2 b) hf⟩
theorem In.mono {α : Type} {n : Nat} {P R : α → Prop} (hP : ∀ a, P a → R a) : ∀ (t : KasT α), In n P t → In n R t
  | .ret a, h => hP a h
  | .ask i j k, h => ⟨h.1, h.2.1, fun b => In.mono hP (k b) (h.2.2 b)⟩
theorem In.ev {α : Type} {n : Nat} {P : α → Prop} {f : Nat → Nat → Bool} : ∀ (t : KasT α), In n P t → P (Srt.ev f t)
  | .ret _, h => h
  | .ask i j k, h => In.ev (k (f i j)) (h.2.2 _)
/-- the places 0 .. n - 1 in some order -/
def okp (n : Nat) (p : Array Nat) : Prop := p.toList.Perm (List.range n)
theorem okp.lt {n : Nat} {p : Array Nat} (h : okp n p) (hn : 0 < n) (k : Nat) : p.getD k 0 < n := by
  by_cases hk : k < p.size
  · have e : p.getD k 0 = p.toList[k]'(by simpa using hk) := by simp [Array.getD, hk]
    rw [e]
    exact List.mem_range.mp (h.mem_iff.mp (List.getElem_mem _))
  · have e : p.getD k 0 = 0 := by simp [Array.getD, hk]
    rw [e]; exact hn
section
variable {n : Nat} (hn : 0 < n)
include hn
end
section
variable {prog : Program} {w : World} {A : Around} {E : Value → Shared → Prop} {s : Shared}
/-- tuples of ints stand at vs, as ns tells -/
def Tups (h : Heap) (vs : List Value) (ns : List (List Int)) : Prop := vs.length = ns.length ∧ ∀ i : Nat, i < vs.length → ∃ a o xs n, vs.getD i .none = .ref a ∧ h.get? a = some o ∧ o.cls = .type "tuple" ∧ o.data = .seq xs n ∧ IntsAre xs.toList (ns.getD i []) ∧ ns.getD i [] ≠ []
theorem Tups.kept {h h' : Heap} {vs : List Value} {ns : List (List Int)} (t : Tups h vs ns) {c : Addr} (k : ∀ b o, b ≠ c → h.get? b = some o → h'.get? b = some o) (hc : ∀ o, h.get? c = some o → o.cls ≠ .type "tuple") : Tups h' vs ns := by
  refine ⟨t.1, fun i hi => ?_⟩
  obtain ⟨a, o, xs, n, h1, h2, h3, h4, h5, h6⟩ := t.2 i hi
  exact ⟨a, o, xs, n, h1, k a o (fun z => hc o (z ▸ h2) h3) h2, h3, h4, h5, h6⟩
end
end Srt
namespace L2
open PySem PySem.Spec PyProof.Rows
/-- tuples of ints, one for each row -/
def RowV (H : Hp) (x : V) (c : List Int) : Prop := ∃ a, x = .ref a ∧ H a = some (.tup (c.map V.int))
def RowsV (H : Hp) (xs : List V) (cs : List (List Int)) : Prop := xs.length = cs.length ∧ ∀ (i : Nat) (x : V), xs[i]? = some x → ∃ c, cs[i]? = some c ∧ RowV H x c
section
variable {X : Cx}
end
end L2

set_option Elab.async false
set_option linter.all false
set_option maxRecDepth 100000
set_option maxHeartbeats 4000000
/-! EXCEPTIONS over the hand layer: what a frame's note writes, to the object. -/
namespace Xn
open PySem PyProof.Rows
theorem dict_mapFields (o : Obj) (f : Array Value → Array Value) : (Obj.mapFields f o).dict = o.dict := by
  unfold Obj.mapFields
  split <;> rfl
/-- an exception's record: its class, its dict, the head of its notes -/
def Rec (h : Heap) (e : Addr) (C : Value) (d : Option Addr) (head : Value) : Prop := ∃ oe vs, h.get? e = some oe ∧ oe.cls = C ∧ oe.dict = d ∧ oe.data = .fields vs ∧ vs[1]? = some head
/-- a note -/
def Ent (h : Heap) (T : Addr) (fl : Value) : Prop := ∃ oT ts, h.get? T = some oT ∧ oT.data = .fields ts ∧ ts[3]? = some fl
/-- the frames' addresses -/
abbrev fra (l : List Env) : List Addr := l.filterMap (·.frame)
/-- all is kept but what stands in L; of the frames F the slots may change -/
def KeptBut (L F : List Addr) (h h' : Heap) : Prop := (∀ b o, b ∉ L → b ∉ F → h.get? b = some o → h'.get? b = some o) ∧ ∀ b o, b ∉ L → b ∈ F → h.get? b = some o → ∃ sl, h'.get? b = some { o with slots := sl }
theorem KeptBut.trans {L L' F : List Addr} {h h1 h2 : Heap} (x : KeptBut L F h h1) (y : KeptBut L' F h1 h2) : KeptBut (L ++ L') F h h2 := by
  refine ⟨fun b o nl nf e => ?_, fun b o nl hf e => ?_⟩
  · exact y.1 b o (fun z => nl (List.mem_append_right _ z)) nf (x.1 b o (fun z => nl (List.mem_append_left _ z)) nf e)
  · obtain ⟨sl, e1⟩ := x.2 b o (fun z => nl (List.mem_append_left _ z)) hf e
    obtain ⟨sl', e2⟩ := y.2 b _ (fun z => nl (List.mem_append_right _ z)) hf e1
    exact ⟨sl', e2⟩
theorem KeptBut.mono {L L' F : List Addr} {h h' : Heap} (x : KeptBut L F h h') (s : ∀ b ∈ L, b ∈ L') : KeptBut L' F h h' :=
  ⟨fun b o nl nf e => x.1 b o (fun z => nl (s b z)) nf e, fun b o nl hf e => x.2 b o (fun z => nl (s b z)) hf e⟩
section
variable {M : Model} {A : Around} {E : Value → Shared → Prop} {s : Shared}
theorem entryP {base : Heap} {env : Env} {outer : List Env} {L e : Addr} {oe : Obj} {vs : Array Value} {head : Value} {hadNext : Bool} {Q : Unit → Shared → Prop}
    (hfr : A.frames = some (env :: outer)) (hl : s.heap.FunFrames base (env :: outer)) (hf : env.frame = some L)
    (he : s.heap.get? e = some oe) (hd : oe.data = .fields vs) (hsz : 1 < vs.size)
    (h : ∀ h' T, s.heap.get? T = none → KeptBut [e] (fra (env :: outer)) s.heap h' → Rec h' e oe.cls oe.dict (.ref T) → Ent h' T (rawInt L) → Q () { s with heap := h' }) :
    wpAny M A (do let a ← frameOf env; let pl ← entryPlaceOf L hadNext; let b ← EntryCells.newEntry head a .none (rawInt L) .none pl; setField (.ref e) 1 b) Q E s := by
  have hene : e ∉ fra (env :: outer) := fun hm => by
    obtain ⟨_, o, ho, hnf⟩ := hl.mem hm
    rw [he] at ho; injection ho with ho; subst ho; exact hnf vs hd
  refine wpAny_bind (wpAny_frameOf_fun hfr hl hf fun h1 hs1 => ?_)
  refine wpAny_bind (wpAny_entryPlaceOf fun pl hpl => ?_)
  unfold EntryCells.newEntry newFields
  refine wpAny_bind (wpAny_newObj_type ?_ (hpl.sizeOk5 _ _ _ _ _))
  have he1 : h1.get? e = some oe := (hs1.2.1 e hene).trans he
  have he2 := Heap.get?_push_of_some (h := h1) { cls := .type "traceback", dict := none, data := .fields ([head, .ref L, .none, rawInt L, .none] ++ (if pl.isEmpty then List.replicate 6 Value.none else pl)).toArray } he1
  have hTe : h1.objs.size ≠ e := Nat.ne_of_gt (Heap.lt_size he1)
  have hd3 := Obj.data_mapFields hd (·.setIfInBounds 1 (Value.ref h1.objs.size))
  have he3 := Heap.get?_update_self (Obj.mapFields (·.setIfInBounds 1 (Value.ref h1.objs.size))) he2 (Obj.isFreed_of_fields hd3)
  refine wpAny_setField he2 hd hsz (h _ h1.objs.size ?_ ⟨fun b o nl nf q => ?_, fun b o nl hb q => ?_⟩ ⟨_, _, he3, Obj.cls_mapFields _ _, dict_mapFields _ _, hd3, by simp [hsz]⟩ ⟨_, _, (Heap.get?_update_other _ _ (Ne.symm hTe)).trans (Heap.get?_push_size h1 rfl), rfl, ?_⟩)
  · cases q : s.heap.get? h1.objs.size with
    | none => rfl
    | some o => have := Heap.lt_size q; rw [← hs1.1] at this; exact absurd this (Nat.lt_irrefl _)
  · have nbe : b ≠ e := fun z => nl (by rw [z]; exact List.mem_singleton.mpr rfl)
    rw [Heap.get?_update_other _ _ (Ne.symm nbe)]
    exact Heap.get?_push_of_some _ ((hs1.2.1 b nf).trans q)
  · have nbe : b ≠ e := fun z => nl (by rw [z]; exact List.mem_singleton.mpr rfl)
    obtain ⟨sl, e1⟩ := hs1.2.2 b o q
    refine ⟨sl, ?_⟩
    rw [Heap.get?_update_other _ _ (Ne.symm nbe)]
    exact Heap.get?_push_of_some _ e1
  · first | (simp; done) | (rcases hpl with rfl | ⟨_, _, _, _, _, _, _, rfl⟩ <;> simp)
/-- the frame is noted, nothing noted ahead -/
theorem note_new {base : Heap} {env : Env} {outer : List Env} {L e : Addr} {C : Value} {d : Option Addr} {Q : Unit → Shared → Prop}
    (hfr : A.frames = some (env :: outer)) (hl : s.heap.FunFrames base (env :: outer)) (hf : env.frame = some L) (hr : Rec s.heap e C d .none)
    (h : ∀ h' T, s.heap.get? T = none → KeptBut [e] (fra (env :: outer)) s.heap h' → Rec h' e C d (.ref T) → Ent h' T (rawInt L) → Q () { s with heap := h' }) : wpAny M A (noteFrame (.ref e) env) Q E s := by
  obtain ⟨oe, vs, he, rfl, rfl, hd, h1⟩ := hr
  unfold noteFrame
  simp only [hf]
  refine wpAny_bind (wpAny_field he hd h1 ?_)
  rw [if_neg (show ¬ ((Value.none != Value.none) = true) by decide)]
  exact entryP hfr hl hf he hd (Array.getElem?_eq_some_iff.mp h1).1 h
/-- .. another frame noted it ahead -/
theorem note_on {base : Heap} {env : Env} {outer : List Env} {L e T0 : Addr} {C : Value} {d : Option Addr} {Q : Unit → Shared → Prop}
    (hfr : A.frames = some (env :: outer)) (hl : s.heap.FunFrames base (env :: outer)) (hf : env.frame = some L) (hr : Rec s.heap e C d (.ref T0)) (ht : Ent s.heap T0 .none) (hne : T0 ≠ e)
    (h : ∀ h' T, s.heap.get? T = none → KeptBut [e, T0] (fra (env :: outer)) s.heap h' → Rec h' e C d (.ref T) → Ent h' T (rawInt L) → Q () { s with heap := h' }) : wpAny M A (noteFrame (.ref e) env) Q E s := by
  obtain ⟨oe, vs, he, rfl, rfl, hd, h1⟩ := hr
  obtain ⟨oT, ts, hT, hdT, h3⟩ := ht
  unfold noteFrame
  simp only [hf]
  refine wpAny_bind (wpAny_field he hd h1 ?_)
  rw [if_pos (show (Value.ref T0 != Value.none) = true from by simp)]
  refine wpAny_bind (wpAny_field hT hdT h3 ?_)
  rw [if_neg (show ¬ ((Value.none == rawInt L) = true) from by simp [rawInt])]
  refine wpAny_bind (wpAny_setField hT hdT (Array.getElem?_eq_some_iff.mp h3).1 ?_)
  have other : ∀ b, b ≠ T0 → (s.heap.update T0 (Obj.mapFields (·.setIfInBounds 3 Value.none))).get? b = s.heap.get? b := fun b hb => Heap.get?_update_other _ _ (Ne.symm hb)
  have noRecord : ∀ b o, s.heap.get? b = some o → (∀ vs, o.data ≠ .fields vs) → b ≠ T0 := fun b o hb hnf q => by
    rw [q, hT] at hb; injection hb with hb; subst hb; exact hnf ts hdT
  refine entryP hfr (hl.of_keeps fun b o hb hnf => ⟨o, (other b (noRecord b o hb hnf)).trans hb, rfl⟩) hf ((other e (Ne.symm hne)).trans he) hd (Array.getElem?_eq_some_iff.mp h1).1 fun h' T hTn kb hr' ht' => ?_
  refine h h' T ?_ ⟨fun b o nl nf q => ?_, fun b o nl hb q => ?_⟩ hr' ht'
  · cases q : s.heap.get? T with
    | none => rfl
    | some o =>
      by_cases z : T = T0
      · have hu := Heap.get?_update_self (Obj.mapFields (·.setIfInBounds 3 Value.none)) hT (Obj.isFreed_of_fields (Obj.data_mapFields hdT _))
        rw [← z] at hu
        rw [z] at hTn
        rw [z] at hu
        rw [hu] at hTn; cases hTn
      · rw [other T z, q] at hTn; cases hTn
  · have n1 : b ≠ T0 := fun z => nl (by rw [z]; simp)
    exact kb.1 b o (fun z => nl (by rw [List.mem_singleton.mp z]; simp)) nf ((other b n1).trans q)
  · have n1 : b ≠ T0 := fun z => nl (by rw [z]; simp)
    exact kb.2 b o (fun z => nl (by rw [List.mem_singleton.mp z]; simp)) hb ((other b n1).trans q)
/-- the note's flight ends -/
theorem land {F : List Addr} {e T : Addr} {C fl : Value} {d : Option Addr} {Q : Unit → Shared → Prop} (hr : Rec s.heap e C d (.ref T)) (ht : Ent s.heap T fl) (hne : T ≠ e) (hF : ∀ b ∈ F, b ≠ T)
    (h : ∀ h', KeptBut [T] F s.heap h' → Rec h' e C d (.ref T) → Ent h' T .none → Q () { s with heap := h' }) : wpAny M A (setFlight (.ref e) none) Q E s := by
  obtain ⟨oe, vs, he, hC, hdi, hd, h1⟩ := hr
  obtain ⟨oT, ts, hT, hdT, h3⟩ := ht
  have hsz3 : 3 < ts.size := (Array.getElem?_eq_some_iff.mp h3).1
  unfold setFlight
  refine wpAny_bind (wpAny_field he hd h1 ?_)
  rw [if_pos (show (Value.ref T != Value.none) = true from by simp)]
  refine wpAny_setField hT hdT hsz3 (h _ ⟨fun b o nl _ q => (Heap.get?_update_other _ _ (fun z => nl (by rw [z]; exact List.mem_singleton.mpr rfl))).trans q, fun b o nl _ q => ⟨o.slots, (Heap.get?_update_other _ _ (fun z => nl (by rw [z]; exact List.mem_singleton.mpr rfl))).trans q⟩⟩
    ⟨oe, vs, (Heap.get?_update_other _ _ hne).trans he, hC, hdi, hd, h1⟩ ⟨_, _, Heap.get?_update_self _ hT (Obj.isFreed_of_fields (Obj.data_mapFields hdT _)), Obj.data_mapFields hdT _, by simp [hsz3]⟩)
end
end Xn

set_option Elab.async false
set_option linter.all false
set_option maxRecDepth 100000
set_option maxHeartbeats 4000000
/-! EXCEPTIONS: how one lies behind a call, raise, a call that may raise. -/
namespace Xn
open PySem PyProof.Rows
section
variable {M : Model} {A : Around} {E : Value → Shared → Prop} {s : Shared}
/-- the notes ahead: none, or a landed one -/
def HeadOk (h : Heap) (e : Addr) (head : Value) (L : List Addr) : Prop := (head = .none ∧ L = []) ∨ ∃ T, head = .ref T ∧ Ent h T .none ∧ T ≠ e ∧ L = [T]
theorem noted {base : Heap} {env : Env} {outer : List Env} {L e : Addr} {C head : Value} {d : Option Addr} {hl' : List Addr} {Q : Unit → Shared → Prop}
    (hfr : A.frames = some (env :: outer)) (hl : s.heap.FunFrames base (env :: outer)) (hf : env.frame = some L) (hr : Rec s.heap e C d head) (hh : HeadOk s.heap e head hl')
    (h : ∀ h' T, s.heap.get? T = none → KeptBut (e :: hl') (fra (env :: outer)) s.heap h' → Rec h' e C d (.ref T) → Ent h' T (rawInt L) → Q () { s with heap := h' }) : wpAny M A (noteFrame (.ref e) env) Q E s := by
  rcases hh with ⟨rfl, rfl⟩ | ⟨T0, rfl, ht, hne, rfl⟩
  · exact note_new hfr hl hf hr h
  · exact note_on hfr hl hf hr ht hne h
/-- .. and the flight ends -/
theorem landed {base : Heap} {env : Env} {outer : List Env} {L e : Addr} {C head : Value} {d : Option Addr} {hl' : List Addr} {Q : Unit → Shared → Prop}
    (hfr : A.frames = some (env :: outer)) (hl : s.heap.FunFrames base (env :: outer)) (hf : env.frame = some L) (hr : Rec s.heap e C d head) (hh : HeadOk s.heap e head hl')
    (h : ∀ h' T, s.heap.get? T = none → T ≠ e → KeptBut (e :: hl') (fra (env :: outer)) s.heap h' → Rec h' e C d (.ref T) → Ent h' T .none → Q () { s with heap := h' }) :
    wpAny M A (noteFrame (.ref e) env) (fun _ s' => wpAny M A (setFlight (.ref e) none) Q E s') E s := by
  refine noted hfr hl hf hr hh fun h1 T hT k1 r1 t1 => ?_
  have hTe : T ≠ e := fun z => by
    obtain ⟨oe, _, he, _⟩ := hr
    rw [z, he] at hT; cases hT
  have hTF : ∀ b ∈ fra (env :: outer), b ≠ T := fun b hb z => by
    obtain ⟨_, o, ho, _⟩ := hl.mem hb
    rw [z, hT] at ho; cases ho
  refine land (F := fra (env :: outer)) (s := { s with heap := h1 }) r1 t1 hTe hTF fun h2 k2 r2 t2 => ?_
  have k := k1.trans k2
  refine h h2 T hT hTe ⟨fun b o nl nf q => k.1 b o (fun z => ?_) nf q, fun b o nl hb q => k.2 b o (fun z => ?_) hb q⟩ r2 t2
  all_goals
    rcases List.mem_append.mp z with z | z
    · exact nl z
    · rw [List.mem_singleton.mp z, hT] at q; cases q
theorem leave {base : Heap} {env : Env} {outer : List Env} {L e : Addr} {C head : Value} {d : Option Addr} {hl' : List Addr} {Q : Unit → Shared → Prop}
    (hfr : A.frames = some (env :: outer)) (hl : s.heap.FunFrames base (env :: outer)) (hf : env.frame = some L) (hr : Rec s.heap e C d head) (hh : HeadOk s.heap e head hl')
    (h : ∀ h' T, s.heap.get? T = none → T ≠ e → KeptBut (e :: hl') (fra (env :: outer)) s.heap h' → Rec h' e C d (.ref T) → Ent h' T .none → Q () { s with heap := h' }) : wpAny M A (leaving env (.ref e)) Q E s := by
  unfold leaving
  exact wpAny_bind (landed hfr hl hf hr hh h)
end
end Xn
namespace L2
open PySem PySem.Spec PyProof.Rows Xn
theorem ObjOk.some {P : Program} {w : World} {H : Hp} {h : Heap} {a : Addr} {o : HO} (x : ObjOk P w H h a o) : ∃ ob, h.get? a = some ob := by
  cases o with
  | lst xs => obtain ⟨_, _, _, _, e⟩ := x; exact ⟨_, e⟩
  | tup xs => obtain ⟨_, _, _, ob, e, _⟩ := x; exact ⟨_, e⟩
  | dK kvs => obtain ⟨_, _, _, _, o, _, _, e, _⟩ := x; exact ⟨_, e⟩
  | dT kvs => obtain ⟨_, _, _, _, o, _, _, e, _⟩ := x; exact ⟨_, e⟩
  | set S n => obtain ⟨o, _, _, _, e, _⟩ := x; exact ⟨_, e⟩
  | ins C dx fs => obtain ⟨_, _, _, e, _⟩ := x; exact ⟨_, e⟩
  | own y => obtain ⟨_, e⟩ := x; exact ⟨_, e⟩
  | xd fs => obtain ⟨_, ⟨_, _, _, e, _⟩, _⟩ := x; exact ⟨_, e⟩
  | rng lo hi => obtain ⟨_, _, _, e⟩ := x; exact ⟨_, e⟩
  | frz ob u => obtain ⟨e, _⟩ := x; exact ⟨_, e⟩
  | tbl ps => exact ⟨_, (show h.get? a = Option.some _ from x)⟩
  | met f y => exact ⟨_, (show h.get? a = Option.some _ from x)⟩
  | ext φ => obtain ⟨_, ⟨_, e⟩, _⟩ := x; exact ⟨_, e⟩
theorem HOk.gone {P : Program} {w : World} {H : Hp} {h : Heap} (x : HOk P w H h) {a : Addr} (e : h.get? a = none) : H a = none := by
  cases q : H a with
  | none => rfl
  | some o =>
    obtain ⟨ob, z⟩ := (x a o q).some
    rw [e] at z; cases z
theorem HOk.keptBut {P : Program} {w : World} {H : Hp} {h h' : Heap} {L F : List Addr} (x : HOk P w H h) (k : KeptBut L F h h') (hL : ∀ b ∈ L, H b = none) (hF : ∀ b ∈ F, H b = none) : HOk P w H h' := fun a o e =>
  (x a o e).stay (fun b u hb q => by
    have hn : H b ≠ none := by
      rcases hb with rfl | z
      · rw [e]; simp
      · rw [z]; simp
    exact k.1 b u (fun z => hn (hL b z)) (fun z => hn (hF b z)) q) (fun _ q => q) fun _ _ q => q
theorem Un.keptBut {fs : List Addr} {H0 H : Hp} {h0 h h' : Heap} {L F : List Addr} (u : Un fs [] H0 H h0 h) (k : KeptBut L F h h') (hL : ∀ b ∈ L, h0.get? b = none) (hF : ∀ b ∈ F, b ∈ fs ∨ h0.get? b = none) : Un fs [] H0 H h0 h' := by
  have nL : ∀ b o, h0.get? b = some o → b ∉ L := fun b o e z => by rw [hL b z] at e; cases e
  refine ⟨fun b o e n nf nx => ?_, fun b o e n hf nx => ?_, u.free, fun b o e nx => ?_, u.tups, u.frzs, u.tbls⟩
  · refine k.1 b o (nL b o e) (fun z => ?_) (u.keep b o e n nf nx)
    rcases hF b z with z | z
    · exact nf z
    · rw [z] at e; cases e
  · obtain ⟨sl, e1⟩ := u.slot b o e n hf nx
    by_cases hb : b ∈ F
    · obtain ⟨sl', e2⟩ := k.2 b _ (nL b o e) hb e1
      exact ⟨sl', e2⟩
    · exact ⟨sl, k.1 b _ (nL b o e) hb e1⟩
  · obtain ⟨o', e1⟩ := u.there b o e nx
    by_cases hb : b ∈ F
    · obtain ⟨sl', e2⟩ := k.2 b _ (nL b o e) hb e1
      exact ⟨_, e2⟩
    · exact ⟨_, k.1 b _ (nL b o e) hb e1⟩
/-- how an exception lies behind a call; the wish E is told its class, its dict and the heap -/
def CXE (P : Program) (w : World) : CXT := fun outer H s E ev s' => ∃ (e T C : Addr) (d : Option Addr) (H' : Hp), ev = .ref e ∧ s'.os = s.os ∧ AllBare s'.gens ∧ Un (frs outer) [] H H' s.heap s'.heap ∧ HOk P w H' s'.heap ∧
  s.heap.get? e = none ∧ s.heap.get? T = none ∧ T ≠ e ∧ H' e = none ∧ H' T = none ∧ Rec s'.heap e (.ref C) d (.ref T) ∧ Ent s'.heap T .none ∧ E (.ref C) d H'
/-- an address that the context's own things don't have -/
structure Fresh (X : Cx) (pins : List (Addr × Obj)) (e : Addr) : Prop where
  s0 : X.s₀.heap.get? e = none
  loc : e ≠ X.env.locals
  cell : ∀ x c, X.env.cells.lookup x = some c → c ≠ e
  pin : ∀ p ∈ X.pn ++ pins, p.1 ≠ e
theorem Fresh.of {X : Cx} {pins : List (Addr × Obj)} {σ : St} {H : Hp} {s : Shared} (I : Inv X pins σ H s) (hx : X.ex = []) {e : Addr} (h : s.heap.get? e = none) : Fresh X pins e := by
  refine ⟨?_, ?_, fun x c hc z => ?_, fun p hp z => ?_⟩
  · cases q : X.s₀.heap.get? e with
    | none => rfl
    | some o =>
      obtain ⟨o', z⟩ := I.base.there e o q (by rw [hx]; simp)
      rw [h] at z; cases z
  · intro z
    obtain ⟨m, ⟨o, _, _, ho, _⟩, _⟩ := I.loc
    rw [z, ho] at h; cases h
  · obtain ⟨v, o, ho, _⟩ := I.cell x c hc
    rw [← z, ho] at h; cases h
  · obtain ⟨ho, _⟩ := I.pin p hp
    rw [← z, ho] at h; cases h
/-- the context takes exceptions by the wish E -/
def Xok (X : Cx) (E : XK) : Prop := ∀ (pins : List (Addr × Obj)) (σ : St) (H : Hp) (s : Shared) (e C : Addr) (d : Option Addr) (head : Value) (hl : List Addr), Inv X pins σ H s → Fresh X pins e → H e = none →
  Rec s.heap e (.ref C) d head → HeadOk s.heap e head hl → (∀ b ∈ hl, Fresh X pins b ∧ H b = none) → E (.ref C) d H → X.xe (.ref e) s
theorem passX {X : Cx} {E : XK} (hx : X.ex = []) (k : Xok X E) : Passes (CXE X.prog X.w) X E := by
  rintro pins σ H s ev s' I ⟨e, T, C, d, H', rfl, ho, hg, u, hok, fe, fT, nTe, He, HT, hr, ht, hE⟩
  exact k pins σ H' s' e C d (.ref T) [T] (I.call' ho u hok hg fun b hb => absurd hb (by simp)) (Fresh.of I hx fe) He hr (.inr ⟨T, rfl, ht, nTe, rfl⟩) (fun b hb => by rw [List.mem_singleton.mp hb]; exact ⟨Fresh.of I hx fT, HT⟩) hE
theorem xok_cx {P : Program} {w : World} {K : PySem.W.Frag} {mg : Str → Option Value} {base : Heap} {N : List Str} {qual : Str} {scope : Scope} {f : Addr} {cd : Value} {A : Around} {outer : List Env} {s0 : Shared} {H0 : Hp} {E : XK} :
    Xok (cxOf (CXE P w) P w K mg base N qual scope f cd A outer s0 H0 E) E := by
  intro pins σ H s e C d head hl I fe He hr hh hhl hE
  show wpAny (model P w) (A.deeper (envOfC qual scope s0.heap.objs.size f cd)) (leaving (envOfC qual scope s0.heap.objs.size f cd) (.ref e)) _ _ s
  have hfs : ∀ b ∈ fra (envOfC qual scope s0.heap.objs.size f cd :: outer), H b = none := I.stkFree
  refine leave (base := base) I.ok.frames I.stack rfl hr hh fun h' T hT nTe kb r1 t1 => ⟨e, T, C, d, H, rfl, I.os, I.bare, ?_, ?_, fe.s0, (Fresh.of I rfl hT).s0, nTe, He, I.hok.gone hT, r1, t1, hE⟩
  · refine (show Un (frs outer) [] H0 H s0.heap s.heap from I.base).keptBut kb (fun b hb => ?_) (fun b hb => ?_)
    · rcases List.mem_cons.mp hb with z | z
      · rw [z]; exact fe.s0
      · exact (hhl b z).1.s0
    · rcases List.mem_cons.mp (show b ∈ s0.heap.objs.size :: frs outer from hb) with z | z
      · refine .inr ?_
        cases q : s0.heap.get? b with
        | none => rfl
        | some o => have := Heap.lt_size q; rw [z] at this; exact absurd this (Nat.lt_irrefl _)
      · exact .inl z
  · refine I.hok.keptBut kb (fun b hb => ?_) hfs
    rcases List.mem_cons.mp hb with z | z
    · rw [z]; exact He
    · exact (hhl b z).2
/-- a class of the text under ValueError, by the written part -/
abbrev bmV : List Value := [.type "ValueError", .type "Exception", .type "BaseException", .type "object"]
structure ECls (K : PySem.W.Frag) (mg : Str → Option Value) (x : Str) (C : Addr) : Prop where
  at_ : mg x = some (.ref C)
  is : PySem.W.excIn K C bmV "ValueError.__new__" = true
theorem ECls.own {K : PySem.W.Frag} {mg : Str → Option Value} {x : Str} {C : Addr} {h : Heap} (c : ECls K mg x C) (X : K.In h) : OwnCls x C bmV "ValueError.__new__" mg h := by
  obtain ⟨e, q⟩ := c
  refine ⟨e, ?_⟩
  unfold PySem.W.excIn at q
  split at q
  · rename_i dd cd sl ho
    split at q
    · rename_i C' bm k0 k1 k2 k3 n k5 hm hs
      simp only [Bool.and_eq_true, beq_iff_eq, Bool.not_eq_true'] at q
      obtain ⟨⟨⟨⟨⟨rfl, rfl⟩, hdel⟩, ht⟩, hok⟩, hni⟩ := q
      obtain ⟨nm, bs, mro, ns, qn, hd, sn, sub, ab, col, del⟩ := cd
      dsimp only at hm hdel hok hni
      subst hm hdel
      have hsl : sl = #[k0, k1, k2, k3, some (.builtin "ValueError.__new__"), k5] := by
        obtain ⟨l⟩ := sl
        simp only at hs
        rw [hs]
      subst hsl
      exact ⟨bm, ns, nm, qn, bs, hd, sn, sub, ab, col, dd, k0, k1, k2, k3, k5, _, X _ _ ho, .of_isNs (PySem.W.isNs_of_in X hok), PySem.W.nsMap_none_of_in X hok hni, PySem.W.tail_of_in X ht⟩
    · cases q
  · cases q
/-- raise C(..): no statement comes behind it -/
def sRaise (C : Addr) (E : XK) (ta : TA) : TS := fun _ σ H => ta σ H fun vs H1 => vs.length ≤ sizeLine ∧ E (.ref C) none H1
theorem qs_raise {X : Cx} {E : XK} {x : Str} {C : Addr} {a : Expr} {es : List Expr} {ta : TA} {np cpos pos : Pos} (k : Xok X E) (hx : X.ex = []) (hc : X.calm = true) (c : ECls X.K X.mg x C) (hg : Gl X x) (ha : QA X (a :: es) ta) (hst : noStar a = true := by rfl)
    (hpl : (backTo cpos (starEach es X.env)).any (·.1) = false := by rfl) (hd : (x == ("__debug__" : Str)) = false := by decide) : QS X (.Raise (some (.Call (.Name x np) (a :: es) [] cpos)) none pos) (sRaise C E ta) := ⟨by
  intro pins s σ H D I h
  obtain ⟨tl, N, nm, q, bs, hdct, sn, sub, ab, col, dd, k0, k1, k2, k3, k5, mN, hC, hN, hni, T⟩ := (c.own I.mod.kin).obj
  have he := starEach_cons hst es X.env
  refine wpAny_Raise_call_subT (C := C) (nm := nm) (q := q) (N := N) (bs := bs) (bm := tl) (hdct := hdct) (sn := sn) (sub := sub) (ab := ab) (col := col) (dd := dd) (k0 := k0) (k1 := k1) (k2 := k2) (k3 := k3) (k5 := k5)
    PySem.F.excBase_ValueError (mN := mN) (T.hasType PySem.F.excBase_ValueError.hasBase) (I.ok.hd hc) (by rw [he]; show (false || (backTo cpos (starEach es X.env)).any (·.1)) = false; rw [hpl]; rfl) hni (ld_glob I hg c.at_ ⟨rfl, ?_⟩ hd)
  have ha' := ha.o cpos pins s σ H _ I h
  rw [he] at ha' ⊢
  refine Calls.evalArgs_plain (thn ha' fun us s1 ⟨vs, H1, I1, r, hz, hE⟩ => ?_)
  refine ⟨rfl, by rw [← r.length]; exact hz, I1.bk _ _ hC, hN.keeps I1.bk, T.keeps I1.bk, fun h' e hm => ?_⟩
  · have I2 : Inv X pins σ H1 { s1 with heap := h' } := I1.kept (t' := s1.toks) hm.keeps
    obtain ⟨t, he', _, _⟩ := hm.there
    refine k pins σ H1 _ e C none .none [] I2 (Fresh.of I1 hx hm.new) (I1.hok.gone hm.new) ⟨_, _, he', rfl, rfl, rfl, rfl⟩ (.inl ⟨rfl, rfl⟩) (fun b hb => absurd hb (by simp)) hE⟩
end L2

set_option Elab.async false
set_option linter.all false
set_option maxRecDepth 100000
set_option maxHeartbeats 4000000
/-! EXCEPTIONS: try with one clause of an own class, as a name. -/
namespace PySem
section
variable {M : Model} {A : Around} {E : Value → Shared → Prop}
variable {nm q nm' q' : Str} {C N D N' : Addr} {bs bm bs' bm' : List Value} {hdct hdct' : Bool} {sn sn' : List Str} {sub sub' : List Value} {ab ab' : Bool} {col col' : Option Bool} {dd dd' : Option Addr} {k0 k1 k2 k3 k5 j0 j1 j2 j3 j5 : Option Value} {newId newId' : String}
/-- a clause of an own class that stands above the exception's -/
theorem excMatches_above {h : Heap} {g : Array GenState} {d : Drawn} {t : Nat} {os : OsState} {e : Addr} {oe : Obj} {Q : Bool → Shared → Prop}
    (hC : h.get? C = some (excClassObj nm q C N bs bm hdct sn sub ab col dd k0 k1 k2 k3 k5 newId)) (hD : h.get? D = some (excClassObj nm' q' D N' bs' bm' hdct' sn' sub' ab' col' dd' j0 j1 j2 j3 j5 newId'))
    (he : h.get? e = some oe) (hcls : oe.cls = .ref C) (hbase : bm'.contains (.type "BaseException") = true) (hin : bm.contains (.ref D) = true)
    (hq : Q true ⟨h, g, d, t, os⟩) : wpAny M A (excMatches (.ref e) (.ref D)) Q E ⟨h, g, d, t, os⟩ := by
  have hcB : (Value.ref D :: bm').contains (.type "BaseException") = true := by rw [List.contains_cons, hbase, Bool.or_true]
  have hcC : (Value.ref C :: bm).contains (.ref D) = true := by rw [List.contains_cons, hin, Bool.or_true]
  have f := tc_notTuple
  unfold excMatches
  repeat (first | (with_reducible refine wpAny_loadPart_at he ?_; rw [hcls]) | with_reducible refine wpAny_loadPart_at hD ?_ | (with_reducible refine wpAny_isSubtype_exc hD ?_; rw [hcB]) | (with_reducible refine wpAny_isSubtype_exc hC ?_; rw [hcC]) | wp_step)
  exact hq
end
end PySem
namespace L2
open PySem PySem.Spec PyProof.Rows Xn
theorem Inv.keptBut {X : Cx} {pins : List (Addr × Obj)} {σ : St} {H : Hp} {s : Shared} {h' : Heap} {L : List Addr} (I : Inv X pins σ H s) (hx : X.ex = []) (kb : KeptBut L (frs X.stack) s.heap h') (hL : ∀ b ∈ L, Fresh X pins b ∧ H b = none) :
    Inv X pins σ H { s with heap := h' } := by
  have one : ∀ b o, b ∉ L → s.heap.get? b = some o → ∃ sl, h'.get? b = some { o with slots := sl } := fun b o nl e => by
    by_cases hb : b ∈ frs X.stack
    · exact kb.2 b o nl hb e
    · exact ⟨o.slots, kb.1 b o nl hb e⟩
  refine ⟨I.ok, I.os, I.bare, ?_, ?_, fun x c e => ?_, I.free, I.freeC, fun p hp => ?_, I.hok.keptBut kb (fun b hb => (hL b hb).2) I.stkFree, I.len⟩
  · rw [hx]
    have u := I.base
    rw [hx] at u
    refine u.keptBut kb (fun b hb => (hL b hb).1.s0) fun b hb => ?_
    rcases List.mem_cons.mp (I.stkSub b hb) with z | z
    · refine .inr ?_
      cases q : X.s₀.heap.get? b with
      | none => rfl
      | some o =>
        have := Nat.lt_of_lt_of_le (Heap.lt_size q) I.ok.above
        rw [z] at this; exact absurd this (Nat.lt_irrefl _)
    · exact .inl z
  · obtain ⟨m, ⟨o, es, ep, ho, r⟩, hl⟩ := I.loc
    obtain ⟨sl, e1⟩ := one X.env.locals o (fun z => (hL _ z).1.loc rfl) ho
    refine ⟨m, ⟨_, es, ep, e1, r⟩, fun i x v a b c => ?_⟩
    obtain ⟨u, rv, l⟩ := hl i x v a b c
    refine ⟨u, rv, ?_⟩
    rcases l with l | ⟨k, c, e, oc, ho', hd⟩
    · exact .inl l
    · obtain ⟨sl', e2⟩ := one c oc (fun z => (hL _ z).1.cell x c e rfl) ho'
      exact .inr ⟨k, c, e, _, e2, hd⟩
  · obtain ⟨v, oc, ho', hd⟩ := I.cell x c e
    obtain ⟨sl', e2⟩ := one c oc (fun z => (hL _ z).1.cell x c e rfl) ho'
    exact ⟨v, _, e2, hd⟩
  · obtain ⟨e, n, ne, nf, d⟩ := I.pin p hp
    refine ⟨kb.1 p.1 p.2 (fun z => (hL _ z).1.pin p hp rfl) (fun z => ?_) e, n, ne, nf, d⟩
    rcases List.mem_cons.mp (I.stkSub p.1 z) with y | y
    · exact ne y
    · exact nf y
/-- a local name goes -/
theorem unbind_ok {X : Cx} {pins : List (Addr × Obj)} {σ : St} {H : Hp} {s : Shared} {M : Model} {A : Around} {E : Value → Shared → Prop} {i : Nat} {x : Str} {v : V} {Q : Unit → Shared → Prop} (I : Inv X pins σ H s) (hN : X.N.Nodup) (hi : X.N[i]? = some x) (hk : X.env.scope.names.lookup x = some .local) (hv : σ[i]? = some (some v))
    (h : ∀ s', Inv X pins (σ.set i none) H s' → Q () s') : wpAny M A (unbindName X.env x) Q E s := by
  obtain ⟨m, hn, hl⟩ := id I.loc
  have hcls : (X.env.scope.kind == .class || (X.env.scope.kind == .module && X.env.locals != X.env.globals)) = false := by rw [I.ok.kind]; rfl
  obtain ⟨u, _, lk⟩ := hl i x v hi hv (.inl hk)
  have hm : m x = some u := by
    rcases lk with ⟨_, e⟩ | ⟨k, _⟩
    · exact e
    · have k' : X.env.scope.names.lookup x = some .cell ∨ X.env.scope.names.lookup x = some .free := k
      rw [hk] at k'
      rcases k' with z | z <;> cases z
  refine wpAny_unbindName_local hk hn hm hcls fun h' w' hn' hs => ?_
  obtain ⟨oL, _, _, hoL, _⟩ := id hn
  have ne0 : ∀ b o, X.s₀.heap.get? b = some o → b ≠ X.env.locals := fun b o e => Nat.ne_of_lt (Nat.lt_of_lt_of_le (Heap.lt_size e) I.ok.above)
  refine h _ ⟨I.ok, I.os, I.bare, ⟨fun b o e n hb hx => ?_, fun b o e n hb hx => ?_, I.base.free, fun b o e hx => ?_, I.base.tups, I.base.frzs, I.base.tbls⟩, ⟨_, hn', fun j y v' e1 e2 e3 => ?_⟩, fun y c e => ?_, I.free, I.freeC, fun p hp => ?_, ?_, ?_⟩
  · exact (hs.2 b (ne0 b o e)).trans (I.base.keep b o e n hb hx)
  · obtain ⟨sl, e1⟩ := I.base.slot b o e n hb hx
    exact ⟨sl, (hs.2 b (ne0 b o e)).trans e1⟩
  · obtain ⟨o', e1⟩ := I.base.there b o e hx
    exact ⟨o', (hs.2 b (ne0 b o e)).trans e1⟩
  · by_cases hj : j = i
    · subst hj
      have hiσ : j < σ.length := (List.getElem?_eq_some_iff.mp hv).1
      rw [List.getElem?_set_self hiσ] at e2
      cases e2
    · rw [List.getElem?_set_ne (Ne.symm hj)] at e2
      obtain ⟨u', r', q⟩ := hl j y v' e1 e2 e3
      refine ⟨u', r', ?_⟩
      rcases q with ⟨k, e⟩ | ⟨k, c, e, z⟩
      · refine .inl ⟨k, ?_⟩
        have : y ≠ x := fun e => hj (nodup_ix hN e1 (e ▸ hi))
        simp [this, e]
      · exact .inr ⟨k, c, e, z.sameBut hs (I.cne y c e)⟩
  · obtain ⟨w2, z⟩ := I.cell y c e
    exact ⟨w2, z.sameBut hs (I.cne y c e)⟩
  · obtain ⟨e, n, ne, nf, d⟩ := I.pin p hp
    exact ⟨(hs.2 p.1 ne).trans e, n, ne, nf, d⟩
  · intro b ob e
    refine (I.hok b ob e).stay (fun c w' hc q => (hs.2 c ?_).trans q) (fun _ q => q) fun _ _ q => q
    rintro rfl
    rcases hc with rfl | hc
    · rw [I.free] at e; cases e
    · rw [I.free] at hc; cases hc
  · rw [List.length_set]; exact I.len
/-- an exception as a thing of the heap -/
def excO (e C : Addr) (d : Option Addr) : HO := .ext fun h => ∃ oe vs, h.get? e = some oe ∧ oe.cls = .ref C ∧ oe.dict = d ∧ oe.data = .fields vs
theorem Rec.ok {P : Program} {w : World} {H : Hp} {h : Heap} {e C : Addr} {d : Option Addr} {head : Value} (r : Rec h e (.ref C) d head) : ObjOk P w H h e (excO e C d) := by
  obtain ⟨oe, vs, he, hc, hd, hf, _⟩ := r
  refine ⟨⟨oe, vs, he, hc, hd, hf⟩, ⟨_, he⟩, ?_⟩
  rintro h1 h2 ⟨oe', vs', a, b, c, d'⟩ k
  exact ⟨oe', vs', k _ a, b, c, d'⟩
/-- .. comes to be known -/
theorem Inv.known {X : Cx} {pins : List (Addr × Obj)} {σ : St} {H : Hp} {s : Shared} {e : Addr} {o : HO} (I : Inv X pins σ H s) (hx : X.ex = []) (fe : Fresh X pins e) (he : H e = none) (ok : ObjOk X.prog X.w (upd H e o) s.heap e o) (nf : ∀ b ∈ frs X.stack, b ≠ e) : Inv X pins σ (upd H e o) s := by
  have ne0 : ∀ b ob, X.s₀.heap.get? b = some ob → b ≠ e := fun b ob q z => by rw [z, fe.s0] at q; cases q
  refine ⟨I.ok, I.os, I.bare, ⟨I.base.keep, I.base.slot, fun b ob q n hx => by rw [upd_ne (ne0 b ob q)]; exact I.base.free b ob q n hx, I.base.there, fun b xs q => ?_, fun b ob u q => ?_, fun b ps q => ?_⟩, I.loc, I.cell, ?_, fun x c q => ?_, fun p hp => ?_, fun b ob q => ?_, I.len⟩
  · have := I.base.tups b xs q
    rw [upd_ne (ne_of_none this he)]; exact this
  · have := I.base.frzs b ob u q
    rw [upd_ne (ne_of_none this he)]; exact this
  · obtain ⟨m, this⟩ := I.base.tbls b ps q
    exact ⟨m, by rw [upd_ne (ne_of_none this he)]; exact this⟩
  · rw [upd_ne (Ne.symm fe.loc)]; exact I.free
  · rw [upd_ne (fe.cell x c q)]; exact I.freeC x c q
  · obtain ⟨a, b, c, d, f⟩ := I.pin p hp
    exact ⟨a, by rw [upd_ne (fe.pin p hp)]; exact b, c, d, f⟩
  · by_cases z : b = e
    · subst z
      rw [upd_same] at q
      cases q
      exact ok
    · rw [upd_ne z] at q
      refine (I.hok b ob q).stay (fun _ _ _ q => q) (fun c q => ?_) fun c xs q => ?_
      · rw [upd_ne (ne_of_none q he)]; exact q
      · rw [upd_ne (ne_of_none q he)]; exact q
end L2

set_option Elab.async false
set_option linter.all false
set_option maxRecDepth 100000
set_option maxHeartbeats 4000000
/-! EXCEPTIONS: try .. except C as n, and a def that may raise. -/
namespace L2
open PySem PySem.Spec PyProof.Rows Xn
/-- the context of a try's body -/
abbrev tryCx (X : Cx) (pins : List (Addr × Obj)) (W : Value → Shared → Prop) : Cx :=
  { X with pn := X.pn ++ pins, xe := fun e s1 => wpAny (model X.prog X.w) X.A (noteFrame e X.env) (fun _ s2 => wpAny (model X.prog X.w) X.A (setFlight e none) (fun _ s3 => W e s3) X.xe s2) X.xe s1 }
/-- the context of an except's suite: it raises nothing -/
abbrev supCx (X : Cx) (e : Addr) : Cx := { X with A := X.A.mark (some (.ref e)), calm := false, xe := fun _ _ => False }
section
variable {X : Cx} {pins pins' : List (Addr × Obj)} {σ : St} {H : Hp} {s : Shared} {W : Value → Shared → Prop} {e : Addr}
theorem Cx.Ok.tried (ok : X.Ok) : (tryCx X pins W).Ok :=
  ⟨ok.mod, ok.kind, ok.glob, ok.blt, ok.above, ok.inj, ok.has, ok.cab, ok.hd, ok.frames, ok.stk, ok.exf, ok.bs, ok.bsz, ok.noex, ok.exfs, ok.funs, ok.frf⟩
theorem Cx.Ok.untried (ok : (tryCx X pins W).Ok) : X.Ok :=
  ⟨ok.mod, ok.kind, ok.glob, ok.blt, ok.above, ok.inj, ok.has, ok.cab, ok.hd, ok.frames, ok.stk, ok.exf, ok.bs, ok.bsz, ok.noex, ok.exfs, ok.funs, ok.frf⟩
theorem Cx.Ok.supped (ok : X.Ok) : (supCx X e).Ok :=
  ⟨ok.mod, ok.kind, ok.glob, ok.blt, ok.above, ok.inj, ok.has, ok.cab, fun h => (nomatch h), ok.frames, ok.stk, ok.exf, ok.bs, ok.bsz, ok.noex, ok.exfs, ok.funs, ok.frf⟩
theorem Inv.tried (I : Inv X pins σ H s) : Inv (tryCx X pins W) [] σ H s :=
  ⟨I.ok.tried, I.os, I.bare, I.base, I.loc, I.cell, I.free, I.freeC, fun p hp => I.pin p (by rw [List.append_nil] at hp; exact hp), I.hok, I.len⟩
theorem Inv.untried (I : Inv (tryCx X pins W) pins' σ H s) : Inv X pins σ H s :=
  ⟨I.ok.untried, I.os, I.bare, I.base, I.loc, I.cell, I.free, I.freeC, fun p hp => I.pin p (List.mem_append_left _ hp), I.hok, I.len⟩
theorem Inv.supped (I : Inv X pins σ H s) : Inv (supCx X e) pins σ H s := ⟨I.ok.supped, I.os, I.bare, I.base, I.loc, I.cell, I.free, I.freeC, I.pin, I.hok, I.len⟩
theorem Inv.unsupped (ok : X.Ok) (I : Inv (supCx X e) pins σ H s) : Inv X pins σ H s := ⟨ok, I.os, I.bare, I.base, I.loc, I.cell, I.free, I.freeC, I.pin, I.hok, I.len⟩
theorem Fresh.untried {b : Addr} (f : Fresh (tryCx X pins W) pins' b) : Fresh X pins b := ⟨f.s0, f.loc, f.cell, fun p hp => f.pin p (List.mem_append_left _ hp)⟩
end
/-- the body's exceptions come to W, noted and landed -/
theorem xok_try {X : Cx} {pins : List (Addr × Obj)} {W : Value → Shared → Prop} {E : XK} (hx : X.ex = []) (hst : X.stack = X.env :: X.outer) (hf : X.env.frame = some X.env.locals)
    (hW : ∀ (σ : St) (H : Hp) (s : Shared) (e C T : Addr) (d : Option Addr), Inv X pins σ H s → Fresh X pins e → H e = none → Rec s.heap e (.ref C) d (.ref T) → Ent s.heap T .none → T ≠ e → Fresh X pins T → H T = none → E (.ref C) d H → W (.ref e) s) : Xok (tryCx X pins W) E := by
  intro pins' σ H s e C d head hl I fe He hr hh hhl hE
  have I0 : Inv X pins σ H s := I.untried
  show wpAny (model X.prog X.w) X.A (noteFrame (.ref e) X.env) _ _ s
  have hfr : X.A.frames = some (X.env :: X.outer) := by rw [← hst]; exact I0.ok.frames
  have hl0 : s.heap.FunFrames X.base (X.env :: X.outer) := by rw [← hst]; exact I0.stack
  refine landed hfr hl0 hf hr hh fun h' T hT nTe kb r1 t1 => ?_
  have kb' : KeptBut (e :: hl) (frs X.stack) s.heap h' := by rw [hst]; exact kb
  have I1 : Inv X pins σ H { s with heap := h' } := I0.keptBut hx kb' fun b hb => by
    rcases List.mem_cons.mp hb with z | z
    · rw [z]; exact ⟨fe.untried, He⟩
    · exact ⟨(hhl b z).1.untried, (hhl b z).2⟩
  exact hW σ H _ e C T d I1 fe.untried He r1 t1 nTe (Fresh.of I0 hx hT) (I0.hok.gone hT) hE
/-- the class at C stands under the own class at F -/
structure Under (K : PySem.W.Frag) (C F : Addr) : Prop where
  is : PySem.W.excIn K C bmV "ValueError.__new__" = true
  in_ : PySem.W.mroIn K C (.ref F) = some true
  ne : C ≠ F
/-- try, one clause of the class at F, as the name in slot i: tb the body's reading, ts the suite's; E the wish that the body's calls are given -/
def tTry (K : PySem.W.Frag) (F : Addr) (i : Nat) (E : XK) (tb ts : TS) : TS := fun D σ H => tb D σ H ∧ ∀ C d H1, E (.ref C) d H1 → Under K C F ∧ ∀ (e : Addr) (σ1 : St), H1 e = none → i < σ1.length →
  ts { nx := fun σ2 H2 => D.nx ((σ2.set i (some .non)).set i none) H2, rt := D.rt, bk := fun σ2 H2 => D.bk ((σ2.set i (some .non)).set i none) H2, ct := fun σ2 H2 => D.ct ((σ2.set i (some .non)).set i none) H2 } (σ1.set i (some (.ref e))) (upd H1 e (excO e C d))
theorem qs_try {X : Cx} {E : XK} {x n : Str} {i : Nat} {F : Addr} {body suite : List Stmt} {b0 : Stmt} {tb ts : TS} {np hpos pos : Pos} (hx : X.ex = []) (hst : X.stack = X.env :: X.outer) (hf : X.env.frame = some X.env.locals) (cF : ECls X.K X.mg x F) (hg : Gl X x)
    (hN : X.N.Nodup) (hi : X.N[i]? = some n) (hk : X.env.scope.names.lookup n = some .local)
    (hb : ∀ pins W, Xok (tryCx X pins W) E → QSs (tryCx X pins W) body tb) (hs : ∀ e, QSs (supCx X e) (b0 :: suite) ts) (hd : (x == ("__debug__" : Str)) = false := by decide) :
    QS X (.Try body [.ExceptHandler (some (.Name x np)) (some n) (b0 :: suite) hpos] [] [] pos) (tTry X.K F i E tb ts) := ⟨by
  intro pins s σ H D I ⟨h1, h2⟩
  refine wpAny_Try_except ?_
  have hW : ∀ (σ : St) (H : Hp) (s : Shared) (e C T : Addr) (d : Option Addr), Inv X pins σ H s → Fresh X pins e → H e = none → Rec s.heap e (.ref C) d (.ref T) → Ent s.heap T .none → T ≠ e → Fresh X pins T → H T = none → E (.ref C) d H →
      wpAny (model X.prog X.w) X.A (handleBy (.ref e) X.env [.ExceptHandler (some (.Name x np)) (some n) (b0 :: suite) hpos]) (SP X pins D) X.xe s := by
    intro σ H s e C T d I fe He hr ht nTe fT HT hE
    obtain ⟨U, hsu⟩ := h2 C d H hE
    have hiσ : i < σ.length := by rw [I.len]; exact (List.getElem?_eq_some_iff.mp hi).1
    refine wpAny_handleBy_cons (codeAny_handlers_test (Calls.Name_function_global I.ok.kind hg (Calls.loadGlobal_global (by rw [I.ok.glob]; exact I.mod.glob.keeps I.bk) cF.at_ ?_) hd)) (by intro q; cases q)
    obtain ⟨bm, N, nm, q, bs, hdct, sn, sub, ab, col, dd, k0, k1, k2, k3, k5, mN, hC, hNs, hni, TL⟩ := ((ECls.own (mg := fun _ => some (.ref C)) (x := x) ⟨rfl, U.is⟩) I.kIn).obj
    obtain ⟨bm', N', nm', q', bs', hdct', sn', sub', ab', col', dd', j0, j1, j2, j3, j5, mN', hC', hNs', hni', TL'⟩ := (cF.own I.kIn).obj
    obtain ⟨oe, vs, he, hcl, hdi, hdt, hv1⟩ := id hr
    have hin : bm.contains (.ref F) = true := by
      have m := U.in_
      unfold PySem.W.mroIn at m
      obtain ⟨cd, a, b⟩ := Option.bind_eq_some_iff.mp m
      unfold PySem.W.clsIn at a
      split at a
      · rename_i ho
        have z := I.kIn _ _ ho
        rw [hC] at z
        cases z
        cases a
        split at b
        · cases b
        · have b' : (Value.ref C :: bm).contains (.ref F) = true := Option.some.inj b
          rw [List.contains_cons] at b'
          rcases Bool.or_eq_true_iff.mp b' with y | y
          · have := beq_iff_eq.mp y
            injection this with this
            exact absurd this.symm U.ne
          · exact y
      · cases a
    refine excMatches_above hC hC' he hcl (TL'.hasType PySem.F.excBase_ValueError.hasBase) hin ?_
    refine codeAny_handlers_suite_as ?_
    refine land (F := frs X.stack) hr ht nTe (fun b hb z => ?_) fun h' kb r1 t1 => ?_
    · obtain ⟨_, o, ho, hnf⟩ := I.stack.mem hb
      obtain ⟨oT, ts', hT, hdT, _⟩ := ht
      rw [z, hT] at ho
      injection ho with ho
      subst ho
      exact hnf ts' hdT
    have I1 : Inv X pins σ H { s with heap := h' } := I.keptBut hx kb fun b hb => by rw [List.mem_singleton.mp hb]; exact ⟨fT, HT⟩
    have I2 : Inv X pins σ (upd H e (excO e C d)) { s with heap := h' } := I1.known hx fe He (Rec.ok r1) fun b hb z => by
      obtain ⟨_, o, ho, hnf⟩ := I1.stack.mem hb
      obtain ⟨oe', vs', he', _, _, hd', _⟩ := r1
      rw [z] at ho
      have : (Option.some oe') = some o := he'.symm.trans ho
      injection this with this
      subst this
      exact hnf vs' hd'
    refine store_ok I2 hN hi (.inl hk) (v := .ref e) rfl (fun s2 I3 => ?_) (.inr hk)
    refine wpAny_mono ((hs e).o pins s2 _ _ _ I3.supped (hsu e σ He hiσ)) (fun f s3 hsp => ?_) fun _ _ z => z.elim
    -- behind the suite the name goes
    have fin : ∀ (σ3 : St) (H3 : Hp) (Z : Flow → Shared → Prop) , Inv X pins σ3 H3 s3 → (∀ s5, Inv X pins ((σ3.set i (some .non)).set i none) H3 s5 → Z f s5) →
        wpAny (model X.prog X.w) X.A (do bindName X.env n .none; unbindBehindTheSuite X.env n hpos) (fun _ s5 => Z f s5) X.xe s3 := by
      intro σ3 H3 Z I4 hZ
      have hi3 : i < σ3.length := by rw [I4.len]; exact (List.getElem?_eq_some_iff.mp hi).1
      refine wpAny_bind (wpAny_bindName (store_ok I4 hN hi (.inl hk) (v := .non) rfl (fun s4 I5 => ?_) (.inr hk)))
      unfold unbindBehindTheSuite
      exact wpAny_onRaise (unbind_ok I5 hN hi hk (List.getElem?_set_self hi3) fun s5 I6 => hZ s5 I6)
    cases f with
    | next =>
      obtain ⟨σ3, H3, I4, q⟩ := hsp
      exact fin σ3 H3 (SP X pins D) (I4.unsupped I.ok) fun s5 I6 => ⟨_, _, I6, q⟩
    | brk =>
      obtain ⟨σ3, H3, I4, q⟩ := hsp
      exact fin σ3 H3 (SP X pins D) (I4.unsupped I.ok) fun s5 I6 => ⟨_, _, I6, q⟩
    | cont =>
      obtain ⟨σ3, H3, I4, q⟩ := hsp
      exact fin σ3 H3 (SP X pins D) (I4.unsupped I.ok) fun s5 I6 => ⟨_, _, I6, q⟩
    | ret u =>
      obtain ⟨v, σ3, H3, I4, rv, q⟩ := hsp
      exact fin σ3 H3 (SP X pins D) (I4.unsupped I.ok) fun s5 I6 => ⟨v, _, _, I6, rv, q⟩
  have xk : Xok (tryCx X pins fun e s3 => wpAny (model X.prog X.w) X.A (handleBy e X.env [.ExceptHandler (some (.Name x np)) (some n) (b0 :: suite) hpos]) (SP X pins D) X.xe s3) E := xok_try hx hst hf hW
  refine wpAny_mono ((hb pins _ xk).o [] s σ H D I.tried h1) (fun f s1 hsp => ?_) fun _ _ z => z
  cases f with
  | next =>
    obtain ⟨σ3, H3, I4, q⟩ := hsp
    exact wpAny_execs_nil ⟨σ3, H3, I4.untried, q⟩
  | brk =>
    obtain ⟨σ3, H3, I4, q⟩ := hsp
    exact ⟨σ3, H3, I4.untried, q⟩
  | cont =>
    obtain ⟨σ3, H3, I4, q⟩ := hsp
    exact ⟨σ3, H3, I4.untried, q⟩
  | ret u =>
    obtain ⟨v, σ3, H3, I4, rv, q⟩ := hsp
    exact ⟨v, σ3, H3, I4.untried, rv, q⟩⟩
/-- a def that may raise -/
theorem Fun.okX {P : Program} {w : World} {K : PySem.W.Frag} {mg : Str → Option Value} {base : Heap} {x qual : Str} {st : Stmt} {f : Addr} {fd : FuncData} {N ps : List Str} {k : Nat} {sp : Sp} (F : Fun K x qual st f fd) (S : FnScope N ps (defScope st)) (len : ∀ vs H Q E, sp vs H Q E → vs.length = ps.length)
    (hbody : ∀ (cdv : Value) (A : Around) (outer : List Env) (s : Shared) (H : Hp) (vs : List V) (Q : VK) (E : XK), Room k (A.deeper (envOfC qual (defScope st) s.heap.objs.size f cdv)) → sp vs H Q E →
      ∃ t, QSs (cxOf (CXE P w) P w K mg base N qual (defScope st) f cdv A outer s H E) (defBody st) t ∧ t { nx := fun _ H' => Q .non H', rt := Q } (start N vs) H) : FnOk P w K mg base (CXE P w) (k + 1) f fd ps sp := by
  obtain ⟨oc, od, kV, doc, pm, an, cdv, ct, osl, rfl, lk, hcd⟩ := F.ex
  exact fn_of lk hcd S len fun A outer s H vs Q E hr hsp => let ⟨t, a, b⟩ := hbody cdv A outer s H vs Q E hr hsp; ⟨t, a.o, b⟩
end L2

set_option Elab.async false
set_option linter.all false
set_option maxRecDepth 100000
set_option maxHeartbeats 4000000
/-! isinstance OF AN EXCEPTION of an own class. -/
namespace PySem.W
open PySem PySem.Spec PySem.Calls PyProof.Rows
section
variable {prog : Program} {w : World} {A : Around} {E : Value → Shared → Prop} {s : Shared} {K : Frag} {x C : Addr} {ox : Obj} {od : Option Obj}
theorem findObj_dataO {a g : Value} {name : Str} (hc : (clsIn K C).isSome = true) (ha : findIn K (.ref C) name = some (some a)) (hg : specialIn K a "__get__" = some (some g)) (ht : takesIn K a = some true) : findObj K C od name = some (.bind g a) := by
  obtain ⟨cd, hc⟩ := Option.isSome_iff_exists.mp hc
  unfold findObj
  rw [hc, Option.bind_some, ha, Option.bind_some]
  simp [hg, ht]
/-- what isinstance asks of an exception's class -/
structure XcIs (K : Frag) (C : Addr) : Prop where
  cls : (clsIn K C).isSome = true
  ga : findIn K (.ref C) "__getattribute__" = some (some (.builtin "BaseException.__getattribute__"))
  gn : findIn K (.ref C) "__getattr__" = some none
  at_ : findIn K (.ref C) "__class__" = some (some (.builtin "object.__class__"))
  get : specialIn K (.builtin "object.__class__") "__get__" = some (some (.builtin "getset_descriptor.__get__"))
  tk : takesIn K (.builtin "object.__class__") = some true
  ob : mroIn K C (.type "object") = some true
  be : mroIn K C (.type "BaseException") = some true
theorem xc_entry {tk : Tok} {Q : Fin → Shared → Prop} (X : K.In s.heap) (I : InstAt s.heap x ox C od) (c : XcIs K C) (h : Q (.done (.ret (.ref C))) s) :
    wpAny (model prog w) A (Builtin.«object.__getattribute__» ⟨[.ref x, .str "__class__" tk], []⟩) Q E s := by
  obtain ⟨hh, g, d, t, os⟩ := s
  have L0 := I.type (M := model prog w)
  have L1 := looks_find (M := model prog w) X I (findObj_dataO c.cls c.at_ c.get c.tk)
  refine wpAny_bind (wpAny_pure (wpAny_bind (wpAny_pure (wpAny_bind (L0.at (wpAny_bind (L1.at ?_)))))))
  show wpAny _ _ (holding [Value.builtin "object.__class__"] (call (.builtin "getset_descriptor.__get__") [.builtin "object.__class__", .ref x, .ref C]) >>= ret) _ _ _
  exact wpAny_bind (wpAny_holding (wpAny_call (class_get X I c.ob (wpAny_pure h))))
theorem xc_check {nameV : Value} {Q : Unit → Shared → Prop} (X : K.In s.heap) (I : InstAt s.heap x ox C od) (c : XcIs K C) (h : Q () s) : wpAny (model prog w) A (checkBuiltinCall "BaseException.__getattribute__" ⟨[.ref x, nameV], []⟩) Q E s := by
  have hk : builtinKind "BaseException.__getattribute__" = some .slot := by decide +kernel
  have hsplit : splitId "BaseException.__getattribute__" = some ("BaseException", "__getattribute__") := by decide +kernel
  have ha := F.args_bexc_ga (.ref x) nameV
  obtain ⟨hh, g, d, t, os⟩ := s
  have L0 := I.type (M := model prog w)
  have L1 := looks_mroIn (M := model prog w) X c.be
  simp only [checkBuiltinCall, hk, hsplit]
  refine wpAny_bind ?_
  unfold isInstance
  refine wpAny_bind (L0.at (L1.at ?_))
  repeat (first | assumption | wp_step)
theorem xc_class {Q : Option Value → Shared → Prop} (X : K.In s.heap) (I : InstAt s.heap x ox C od) (c : XcIs K C) (h : Q (some (.ref C)) { s with toks := s.toks + 1 }) : wpAny (model prog w) A (getAttr? (.ref x) "__class__") Q E s := by
  obtain ⟨hh, g, d, t, os⟩ := s
  have L0 := I.type (M := model prog w)
  have L1 := looks_findIn (M := model prog w) X c.ga
  have L2 := looks_findIn (M := model prog w) X c.gn
  have f3 := PySem.F.attr_ValueError.ga.bind (.ref x)
  unfold getAttr? getAttrBy? getAttrBy
  refine wpAny_bind (wpAny_mkText (wpAny_bind (wpAny_attempt (wpAny_holding (wpAny_bind (L0.at (wpAny_bind (L1.at ?_))))))))
  show wpAny _ _ (getAttrByItsOwn _ _ _ _ _ _) _ _ _
  unfold getAttrByItsOwn hookBefore
  refine wpAny_bind (L2.at (wpAny_bind (wpAny_attempt (wpAny_holding ?_))))
  show wpAny _ _ (boundAndCalled _ _ _) _ _ _
  unfold boundAndCalled
  repeat (any_goals (first | assumption | wp_step))
  refine codeAny_call_builtin PySem.F.attr_ValueError.ga.plain PySem.F.entry_bexc_ga (xc_check X I c (xc_entry X I c ?_))
  exact handed_on rfl (wpAny_pure h)
/-- an exception of an own class stands at x -/
def XcAt (x C : Addr) (h : Heap) : Prop := ∃ ox od, InstAt h x ox C od
theorem kitx_exc (c : XcIs K C) : KitX K (.ref x) (.ref C) (XcAt x C) where
  ty := fun _ _ _ ⟨_, _, I⟩ => I.type
  it := fun _ _ X _ => by
    obtain ⟨cdD, hcD⟩ := Option.isSome_iff_exists.mp c.cls
    unfold clsIn at hcD
    split at hcD
    · rename_i c' d' cd' sl' ho
      intro A' Q' E' s' k q
      unfold isType loadHead
      exact wpAny_bind (wpAny_loadPart (k _ _ (X _ _ ho)) (wpAny_pure q))
    · cases hcD
  ne := fun h tp dd its n sl X htp => by
    obtain ⟨cdD, hcD⟩ := Option.isSome_iff_exists.mp c.cls
    refine Bool.eq_false_iff.mpr fun q => ?_
    have e : C = tp := Value.ref.inj (beq_iff_eq.mp q)
    subst e
    unfold clsIn at hcD
    split at hcD
    · rename_i c' d' cd' sl' ho
      have z := (X _ _ ho).symm.trans htp
      cases z
    · cases hcD
  ca := fun X ⟨_, _, I⟩ k => xc_class X I c k
end
end PySem.W
namespace L2
open PySem PySem.Spec PyProof.Rows Xn
/-- a class as a value: one of the text, a built-in one -/
def clsV : V → Option Value
  | .ref a => some (.ref a)
  | .ty T => some (.type T)
  | _ => none
def rIsX (K : PySem.W.Frag) : List V → Hp → VK → Prop := fun xs H Q => ∃ e C c cv b, xs = [.ref e, c] ∧ H e = some (excO e C none) ∧ clsV c = some cv ∧ PySem.W.XcIs K C ∧ PySem.W.kitOne K (.ref C) cv = some b ∧ Q (.bl b) H
theorem call_isX {X : Cx} : CallR X (.builtin "isinstance") (rIsX X.K) := by
  intro pins s σ H xs us Q I r h
  obtain ⟨e, C, c, cv, b, rfl, he, hc, xc, hk, q⟩ := h
  obtain ⟨u, w', rfl, rx, rc⟩ := vals2 r
  cases (show u = Value.ref e from rx)
  have hw : w' = cv := by
    cases c with
    | ref a => cases hc; exact rc
    | ty T => cases hc; exact rc
    | _ => cases hc
  subst hw
  obtain ⟨⟨oe, vs, h1, h2, h3, h4⟩, _, _⟩ := (show ObjOk X.prog X.w H s.heap e (excO e C none) from I.hok e _ he)
  refine PySem.W.kia_one (PySem.W.kitx_exc xc) I.kIn ⟨oe, none, h1, h2, ?_, ?_⟩ hk (fun z => ?_) fun tk => ⟨.bl b, H, I.tok _, rfl, q⟩
  · unfold PySem.W.notCls
    rw [h4]
  · rw [h3]; trivial
  · cases z
end L2

set_option Elab.async false
set_option linter.all false
set_option maxRecDepth 100000
set_option maxHeartbeats 4000000
/-! A CALL WITHIN AN except's SUITE: the callee runs while an exception is handled. -/
namespace L2
open PySem PySem.Spec PyProof.Rows Xn
structure RoomU (k : Nat) (A : Around) : Prop where
  dp : A.depth + 3 * k + 5 < recursionLimit
  un : A.units + 16 * k + 200 < cLine
theorem Room.u {k : Nat} {A : Around} (r : Room k A) : RoomU k A := ⟨r.dp, r.un⟩
theorem Room.mark {k : Nat} {A : Around} (r : Room k A) (e : Option Value) : RoomU k (A.mark e) := ⟨r.dp, r.un⟩
theorem RoomU.mono {j k : Nat} {A : Around} (r : RoomU k A) (h : j ≤ k) : RoomU j A := ⟨by have := r.dp; omega, by have := r.un; omega⟩
theorem RoomU.deeper {k : Nat} {A : Around} (r : RoomU (k + 1) A) (env : Env) : RoomU k (A.deeper env) :=
  ⟨by have := r.dp; show A.depth + 1 + 3 * k + 5 < _; omega, by have := r.un; show A.units + 3 + 16 * k + 200 < _; omega⟩
theorem RoomU.depth {k : Nat} {A : Around} (r : RoomU k A) : A.depth < recursionLimit := by have := r.dp; omega
structure FnOkU (P : Program) (w : World) (K : PySem.W.Frag) (mg : Str → Option Value) (base : Heap) (k : Nat) (f : Addr) (fd : FuncData) (ps : List Str) (sp : Sp) : Prop where
  len : ∀ vs H Q E, sp vs H Q E → vs.length = ps.length
  run : ∀ (A : Around) (outer : List Env) (s : Shared) (H : Hp) (args : Args) (us : List Value) (vs : List V) (Q : VK) (E : XK), RoomU k A → Env0 P w K mg base A outer s H → BindsTo s fd args (ps.zip us) → Vals vs us → sp vs H Q E →
    codeAny (model P w) A (.call (.ref f) args) (CR CX0 outer P w H s Q E) s
/-- a body's context while an exception may be handled -/
abbrev cxU (P : Program) (w : World) (K : PySem.W.Frag) (mg : Str → Option Value) (base : Heap) (N : List Str) (qual : Str) (scope : Scope) (f : Addr) (cd : Value) (A : Around) (outer : List Env) (s : Shared) (H : Hp) (E : XK) : Cx :=
  { cxOf CX0 P w K mg base N qual scope f cd A outer s H E with calm := false, xe := fun _ _ => False }
theorem inv_startU {P : Program} {w : World} {K : PySem.W.Frag} {mg : Str → Option Value} {base : Heap} {N ps : List Str} {qual : Str} {scope : Scope} {f : Addr} {cd : Value} {A : Around} {outer : List Env} {s s1 : Shared} {H : Hp} {E : XK} {us : List Value} {vs : List V}
    (S : FnScope N ps scope) (e0 : Env0 P w K mg base A outer s H) (hl : vs.length = ps.length) (r : Vals vs us)
    (x : InCallC s s.heap.objs.size (bindL (envOfC qual scope s.heap.objs.size f cd).kindOf (ps.zip us) fun _ => none) (cellsFrom (s.heap.objs.size + 1) scope.names []) (bindC (envOfC qual scope s.heap.objs.size f cd).kindOf (ps.zip us) fun _ => none) s1) :
    Inv (cxU P w K mg base N qual scope f cd A outer s H E) [] (start N vs) H s1 := by
  have I : Inv (cxOf CX0 P w K mg base N qual scope f cd ({ A with handled := none }) outer s H E) [] (start N vs) H s1 := inv_start (A := { A with handled := none }) S rfl ⟨e0.frames, e0.mod, e0.bs, e0.bsz, e0.funs, e0.frf, e0.hok, e0.bare⟩ hl r x
  have ok := I.ok
  exact ⟨⟨ok.mod, ok.kind, ok.glob, ok.blt, ok.above, ok.inj, ok.has, ok.cab, fun h => (nomatch h), ok.frames, ok.stk, ok.exf, ok.bs, ok.bsz, ok.noex, ok.exfs, ok.funs, ok.frf⟩, I.os, I.bare, I.base, I.loc, I.cell, I.free, I.freeC, I.pin, I.hok, I.len⟩
theorem Fun.okU {P : Program} {w : World} {K : PySem.W.Frag} {mg : Str → Option Value} {base : Heap} {x qual : Str} {st : Stmt} {f : Addr} {fd : FuncData} {N ps : List Str} {k : Nat} {sp : Sp} (F : Fun K x qual st f fd) (S : FnScope N ps (defScope st)) (len : ∀ vs H Q E, sp vs H Q E → vs.length = ps.length)
    (hbody : ∀ (cdv : Value) (A : Around) (outer : List Env) (s : Shared) (H : Hp) (vs : List V) (Q : VK) (E : XK), RoomU k (A.deeper (envOfC qual (defScope st) s.heap.objs.size f cdv)) → sp vs H Q E →
      ∃ t, QSs (cxU P w K mg base N qual (defScope st) f cdv A outer s H E) (defBody st) t ∧ t { nx := fun _ H' => Q .non H', rt := Q } (start N vs) H) : FnOkU P w K mg base (k + 1) f fd ps sp := by
  obtain ⟨oc, od, kV, doc, pm, an, cdv, ct, osl, rfl, lk, hcd⟩ := F.ex
  refine ⟨len, fun A outer s H args us vs Q E hr e0 hb r hsp => ?_⟩
  have hl := len _ _ _ _ hsp
  have KX : K.In s.heap := e0.mod.kin.keeps fun b o e => (e0.bs b o e).1
  have lim : s.heap.NoLimit := e0.mod.nolimit.keeps fun b o e => (e0.bs b o e).1
  have hkind : ∀ y ∈ ps.zip us, (defScope st).names.lookup y.1 = some .local ∨ ((defScope st).names.lookup y.1 = some .cell ∧ ((cellsFrom (s.heap.objs.size + 1) (defScope st).names []).lookup y.1).isSome = true) := fun ⟨n, v⟩ hy => by
    rcases S.par n (List.of_mem_zip hy).1 with q | q
    · exact .inl q
    · exact .inr ⟨q, PySem.W.cellsFrom_some _ _ _ (.inl q)⟩
  refine codeAny_call_function hr.depth (KX _ _ lk) rfl S.co S.gen rfl (PySem.W.codeRec_of KX hcd) (hb _ _ _ _ ?_)
  refine wpAny_newFunctionEnv_cells S.kind hkind fun env he s1 x => ?_
  subst he
  refine ⟨lim.keeps x.toInCall.keep, codeAny_func ?_⟩
  obtain ⟨t, ht, hq⟩ := hbody cdv A outer s H vs Q E (hr.deeper _) hsp
  have I : Inv (cxU P w K mg base N qual (defScope st) f cdv A outer s H E) [] (start N vs) H s1 := inv_startU S e0 hl r x
  refine wpAny_mono (ht.o [] s1 (start N vs) H _ I hq) (fun fl s' hs => ?_) fun e s' hs => hs.elim
  have fin : ∀ {σ' : St} {H' : Hp} {v : V} {u : Value}, Inv (cxU P w K mg base N qual (defScope st) f cdv A outer s H E) [] σ' H' s' → RelV v u → Q v H' → CE outer P w H s Q u s' :=
    fun {σ' H' v u} J rv q => ⟨v, H', J.os, J.bare, J.base, J.hok, rv, q⟩
  cases fl with
  | ret u =>
    obtain ⟨v, σ', H', J, rv, q⟩ := hs
    exact fin J rv q
  | next =>
    obtain ⟨σ', H', J, q⟩ := hs
    exact fin (v := V.non) (u := Value.none) J rfl q
  | brk =>
    obtain ⟨_, _, _, q⟩ := hs
    exact False.elim q
  | cont =>
    obtain ⟨_, _, _, q⟩ := hs
    exact False.elim q
section
variable {X : Cx} {k : Nat} {f : Addr} {fd : FuncData} {ps : List Str} {sp : Sp} {x : Str} {p pos : Pos} {e : Expr} {es : List Expr} {t : TA}
theorem qe_callU (F : FnOkU X.prog X.w X.K X.mg X.base k f fd ps sp) (hr : RoomU k X.A) (hg : Gl X x) (hm : X.mg x = some (.ref f)) (hk : PySem.W.keepIn X.K (.ref f) = true) (hb : Binds X.K fd ps [])
    (ha : QA X (e :: es) t) (hdb : (x == ("__debug__" : Str)) = false := by decide) (hst : noStar e = true := by rfl) (hpl : (backTo pos (starEach es X.env)).any (·.1) = false := by rfl) :
    QE X (.Call (.Name x p) (e :: es) [] pos) (tCall sp [] E0 t) := ⟨by
  intro pins s σ H Q I h
  refine wpAny_Call_Name_kw (ld_glob I hg hm ?_ hdb)
  refine PySem.W.callWith_K (h₀ := X.base) I.ok.mod.kin hk (thn (ha.o pos pins s σ H _ I h) fun us s1 ⟨vs, H1, I1, r, q⟩ => ⟨I1.kIn, ?_⟩) (starEach_cons hst es X.env) hpl
  have r2 : Vals (vs ++ []) (us ++ []) := r.append .nil
  have hl : (us ++ []).length = ps.length := by rw [← r2.length]; exact F.len _ _ _ _ q
  refine wpAny_call (codeAny_mono (F.run X.A X.stack s1 H1 ⟨us, []⟩ (us ++ []) (vs ++ []) Q E0 hr I1.env0 (hb s1 us I1.kIn hl) r2 q) fun r s' hq => ?_)
  cases r with
  | error e => exact False.elim hq
  | ok fl =>
    cases fl with
    | ret u => exact I1.after hq
    | next => exact False.elim hq
    | brk => exact False.elim hq
    | cont => exact False.elim hq⟩
end
end L2

set_option Elab.async false
set_option linter.all false
set_option maxRecDepth 100000
set_option maxHeartbeats 4000000
/-! list.count, list.index of bools; comprehensions over zip; no promise. -/
namespace L2
open PySem PySem.Spec PySem.SeqAt PyProof.Rows Xn
theorem countP_bools (k : Bool) : ∀ bs : List Bool, (bs.map Value.bool).countP (isBoolOf k) = bs.count k
  | [] => rfl
  | b :: bs => by
    rw [List.map_cons, List.countP_cons, List.count_cons, countP_bools k bs]
    rfl
theorem eq_bools (k : Bool) (bs : List Bool) (y : Value) (hy : y ∈ bs.map Value.bool) (A : Around) (s : Shared) : EqAt A s y (.bool k) (isBoolOf k y) := by
  obtain ⟨b, _, rfl⟩ := List.mem_map.mp hy
  exact EqAt.bool_bool b k
section
variable {X : Cx}
def rCountB : V → List V → Hp → VK → Prop := fun x vs H Q => ∃ (l : Addr) (bs : List Bool) (k : Bool), x = .ref l ∧ vs = [.bl k] ∧ H l = some (.lst (bs.map V.bl)) ∧ Q (.int (bs.count k : Nat)) H
theorem mt_countB : MtM X "list.count" rCountB := by
  intro pins s σ H x vs v us Q I rx rv h
  obtain ⟨l, bs, k, rfl, rfl, hH, q⟩ := h
  cases rx
  obtain ⟨u, rfl, ru⟩ := rv.one
  cases (show u = Value.bool k from ru)
  obtain ⟨z, its, n, r, hl, e⟩ := I.lstM hH
  cases vals_bl r
  refine call_meets PySem.F.slot_list_count ⟨_, e, rfl⟩ PySem.F.entry_list_count (PySem.F.args_list_count_2 _ _) (list_countAt l _ n none #[] (.bool k) (isBoolOf k)) ⟨e, fun y hy => eq_bools k bs y (by simpa using hy) _ _, ?_⟩
  refine ⟨.int (bs.count k : Nat), H, I.tok _, ⟨s.toks, ?_⟩, q⟩
  rw [show (bs.map Value.bool).toArray.toList = bs.map Value.bool from rfl, countP_bools]
def rIndexB : V → List V → Hp → VK → Prop := fun x vs H Q => ∃ (l : Addr) (bs : List Bool) (k : Bool) (j : Nat), x = .ref l ∧ vs = [.bl k] ∧ H l = some (.lst (bs.map V.bl)) ∧ bs[j]? = some k ∧ (∀ m, m < j → bs[m]? = some (!k)) ∧ bs.length ≤ 1000 ∧ Q (.int (j : Nat)) H
theorem mt_indexB : MtM X "list.index" rIndexB := by
  intro pins s σ H x vs v us Q I rx rv h
  obtain ⟨l, bs, k, j, rfl, rfl, hH, hj, hb, hz, q⟩ := h
  cases rx
  obtain ⟨u, rfl, ru⟩ := rv.one
  cases (show u = Value.bool k from ru)
  obtain ⟨z, its, n, r, hl, e⟩ := I.lstM hH
  cases vals_bl r
  have hjl : j < bs.length := (List.getElem?_eq_some_iff.mp hj).1
  refine call_meets PySem.F.slot_list_index ⟨_, e, rfl⟩ PySem.F.entry_list_index (PySem.F.args_list_index_2 _ _)
    (list_indexAt l _ n none #[] (.bool k) (isBoolOf k) j (by simpa using hjl) (by omega) ?_ ?_) ⟨e, fun y hy => eq_bools k bs y (by simpa using hy) _ _, ⟨.int (j : Nat), H, I.tok _, ⟨s.toks, rfl⟩, q⟩⟩
  · have : bs[j] = k := by rw [List.getElem?_eq_getElem hjl] at hj; exact Option.some.inj hj
    simp [isBoolOf, this]
  · intro m hm hlt
    have h2 := hb m hlt
    have hml : m < bs.length := by omega
    have : bs[m] = !k := by rw [List.getElem?_eq_getElem hml] at h2; exact Option.some.inj h2
    simp [isBoolOf, this]
end
section
variable {K : PySem.W.Frag} {a b D : Addr} {js : List (Option Nat)} {g : TG} {te : TE} {σ : St} {H1 : Hp} {Q : VK}
/-- over a zip of two tuples -/
theorem comp_zip {xs ys : List V} (hn : min xs.length ys.length ≤ sizeLine) (Pv : Nat → St → Hp → List V → Prop) (h0 : Pv 0 (pick js σ) (upd H1 D (.lst [])) [])
    (hl : ∀ i σ' H' zs, H' D = some (.lst zs) → Pv i σ' H' zs → SqT K H' a xs ∧ SqT K H' b ys)
    (hs : ∀ i x y p σ' H' zs (R : St → V → Hp → Prop), xs[i]? = some x → ys[i]? = some y → H' p = none → H' D = some (.lst zs) → zs.length = i → Pv i σ' H' zs → (∀ σ2 z H4, H4 D = some (.lst zs) → Pv (i + 1) σ2 (upd H4 D (.lst (zs ++ [z]))) (zs ++ [z]) → R σ2 z H4) →
      g (.ref p) σ' (upd H' p (.tup [x, y])) fun σ2 H3 => te σ2 H3 fun z H4 => R σ2 z H4)
    (hst : ∀ σ' H' zs, H' D = some (.lst zs) → zs.length = min xs.length ys.length → Pv (min xs.length ys.length) σ' H' zs → Q (.ref D) H') : CompW (Itz K a b) D js g tNoTest te σ H1 Q := by
  refine comp_plain hn Pv h0 (fun i σ' H' zs hi hD p => ?_) (fun σ' H' zs hD b' c => ⟨?_, hst σ' H' zs hD b' c⟩) fun i σ' H' zs x H2 R hi hD hz p hx k => ?_
  · obtain ⟨qa, qb⟩ := hl i σ' H' zs hD p
    have h1 : i < xs.length := by omega
    have h2 : i < ys.length := by omega
    exact ⟨xs, ys, xs[i], ys[i], qa, qb, by simp [h1], by simp [h2]⟩
  · obtain ⟨qa, qb⟩ := hl _ σ' H' zs hD c
    exact ⟨xs, ys, qa, qb, by omega⟩
  · obtain ⟨qa, qb⟩ := hl i σ' H' zs hD p
    obtain ⟨q, hq, rfl, x', y', rfl, hxy⟩ := hx
    obtain ⟨ex, ey⟩ := hxy xs ys qa qb
    exact hs i x' y' q σ' H' zs R ex ey hq hD hz p k
end
/-- a tuple as a comprehension's target: the number and the written part named -/
theorem qg_tupN {X : Cx} {K : PySem.W.Frag} {es : List Expr} {k : Nat} {pos : Pos} {t : TGs} {n : Nat} (hK : X.K = K) (hc : X.calm = true) (h : QGs X es t) (hn : (assignEach es X.env).length = n := by rfl) (hst : (assignEach es X.env).findIdx? (·.1) = none := by rfl) : QG X (.Tuple es k pos) (gTup K n t) := by
  subst hK
  exact qg_tup hc h hn hst
/-- an if whose ways meet in J -/
def tIfJ (c : TT) (t u : TS) : TS := fun D σ H => ∃ J : St → Hp → Prop, (c σ H fun b H1 => if b = true then t { D with nx := J } σ H1 else u { D with nx := J } σ H1) ∧ ∀ σ' H', J σ' H' → D.nx σ' H'
theorem qs_ifJ {X : Cx} {c : Expr} {a b : List Stmt} {tc : TT} {t u : TS} {pos : Pos} (hc : QT X c tc) (ha : QSs X a t) (hb : QSs X b u) : QS X (.If c a b pos) (tIfJ tc t u) := ⟨by
  intro pins s σ H D I ⟨J, h1, h2⟩
  refine thn ((qs_if hc ha hb).o pins s σ H { D with nx := J } I h1) fun f s' hs => ?_
  cases f with
  | next => obtain ⟨σ', H', I', q⟩ := hs; exact ⟨σ', H', I', h2 σ' H' q⟩
  | brk => exact hs
  | cont => exact hs
  | ret u => exact hs⟩
/-- nothing is promised: for calls that are not reached -/
theorem ok_never {P : Program} {w : World} {K : PySem.W.Frag} {mg : Str → Option Value} {base : Heap} {CX : CXT} {k : Nat} {f : Addr} {fd : FuncData} {ps : List Str} : FnOk P w K mg base CX k f fd ps (fun _ _ _ _ => False) := ⟨fun _ _ _ _ h => h.elim, fun _ _ _ _ _ _ _ _ _ _ _ _ _ h => h.elim⟩
end L2
namespace PySem.W
theorem cls_of_mro {K : Frag} {C : Addr} {b : Value} {r : Bool} (h : mroIn K C b = some r) : (clsIn K C).isSome = true := by
  unfold mroIn at h
  obtain ⟨cd, a, _⟩ := Option.bind_eq_some_iff.mp h
  rw [a]; rfl
theorem kit_self {K : Frag} {C : Addr} : kitOne K (.ref C) (.ref C) = some true := by
  unfold kitOne
  rw [if_pos (by simp)]
theorem kit_false {K : Frag} {C D : Addr} (ty : typeIn K (.ref D) = some (.type "type")) (mo : mroIn K D (.type "object") = some true) (m : mroIn K C (.ref D) = some false) (n : C ≠ D) : kitOne K (.ref C) (.ref D) = some false := by
  unfold kitOne
  rw [if_neg (fun z => n (by have := beq_iff_eq.mp z; injection this))]
  unfold kitCls
  show (if ((clsIn K D).isSome && typeIn K (.ref D) == some (.type "type")) = true then subIn K (.ref C) (.ref D) else none) = _
  rw [cls_of_mro mo, ty]
  exact m
theorem kit_val {K : Frag} {C : Addr} (m : mroIn K C (.type "ValueError") = some true) : kitOne K (.ref C) (.type "ValueError") = some true := by
  unfold kitOne
  rw [if_neg (fun z => by cases beq_iff_eq.mp z)]
  unfold kitCls
  show (if kitMeta "ValueError" = true then subIn K (.ref C) (.type "ValueError") else none) = _
  rw [if_pos (by decide +kernel)]
  exact m
end PySem.W

set_option Elab.async false
set_option maxHeartbeats 4000000
/-! how often a prime goes into a number -/
namespace Mth
/-- how often p goes into n -/
def cnt (p : Nat) (n : Nat) : Nat := if h : 2 ≤ p ∧ 1 ≤ n ∧ n % p = 0 then cnt p (n / p) + 1 else 0
termination_by n
decreasing_by exact Nat.div_lt_self h.2.1 h.1
theorem cnt_div {p n : Nat} (hp : 2 ≤ p) (hn : 1 ≤ n) (h : n % p = 0) : cnt p n = cnt p (n / p) + 1 := by
  rw [cnt, dif_pos ⟨hp, hn, h⟩]
theorem cnt_not {p n : Nat} (h : n % p ≠ 0) : cnt p n = 0 := by
  rw [cnt, dif_neg fun z => h z.2.2]
def expsL : List Nat → Nat → List Nat
  | [], _ => []
  | p :: ps, n => cnt p n :: expsL ps (strip p n)
/-- n is p so often, times a rest that p does not divide -/
theorem cnt_spec {p : Nat} (hp : 2 ≤ p) : ∀ n : Nat, 1 ≤ n → n = p ^ cnt p n * strip p n := by
  intro n
  induction n using Nat.strongRecOn with
  | _ n ih =>
    intro hn
    by_cases h : n % p = 0
    · have h1 := div_pos_of hn h
      have e := ih (n / p) (Nat.div_lt_self hn hp) h1
      rw [cnt_div hp hn h, strip_div hp hn h, Nat.pow_succ]
      have e2 : n = p * (n / p) := (Nat.mul_div_cancel' (Nat.dvd_of_mod_eq_zero h)).symm
      calc n = p * (n / p) := e2
        _ = p * (p ^ cnt p (n / p) * strip p (n / p)) := by rw [← e]
        _ = p ^ cnt p (n / p) * p * strip p (n / p) := by rw [← Nat.mul_assoc, Nat.mul_comm p]
    · rw [cnt_not h, strip_not h, Nat.pow_zero, Nat.one_mul]
theorem cnt_eq {p : Nat} (hp : 2 ≤ p) : ∀ (e r : Nat), 1 ≤ r → r % p ≠ 0 → cnt p (p ^ e * r) = e
  | 0, r, _, h => by rw [Nat.pow_zero, Nat.one_mul, cnt_not h]
  | e + 1, r, hr, h => by
    have e1 : p ^ (e + 1) * r = p * (p ^ e * r) := by rw [Nat.pow_succ, Nat.mul_comm (p ^ e) p, Nat.mul_assoc]
    have hpos : 1 ≤ p ^ e * r := Nat.mul_pos (Nat.pow_pos (by omega)) hr
    rw [e1, cnt_div hp (Nat.mul_pos (by omega) hpos) (Nat.mul_mod_right p _), Nat.mul_div_cancel_left _ (by omega), cnt_eq hp e r hr h]
theorem cnt_strip {p q : Nat} (hp : 2 ≤ p) (hq : 2 ≤ q) (c : Nat.Coprime p q) {n : Nat} (hn : 1 ≤ n) : cnt p (strip q n) = cnt p n := by
  have e1 := cnt_spec hp n hn
  have e2 := cnt_spec hq n hn
  have hs := strip_pos hq n hn
  have hr := strip_pos hp n hn
  have hrm := strip_mod hp n hn
  have cq : Nat.Coprime (p ^ cnt p n) (q ^ cnt q n) := Nat.Coprime.pow _ _ c
  have hd : p ^ cnt p n ∣ strip q n := by
    have : p ^ cnt p n ∣ q ^ cnt q n * strip q n := by rw [← e2]; exact ⟨strip p n, e1⟩
    exact cq.dvd_of_dvd_mul_left this
  obtain ⟨r, hr'⟩ := hd
  have hr1 : 1 ≤ r := by
    rcases Nat.eq_zero_or_pos r with z | z
    · rw [z, Nat.mul_zero] at hr'; omega
    · exact z
  have hrp : r % p ≠ 0 := fun z => by
    obtain ⟨t, ht⟩ := Nat.dvd_of_mod_eq_zero z
    have e3 : n = p ^ cnt p n * (p * (t * q ^ cnt q n)) := by
      calc n = q ^ cnt q n * strip q n := e2
        _ = q ^ cnt q n * (p ^ cnt p n * (p * t)) := by rw [hr', ht]
        _ = p ^ cnt p n * (p * (t * q ^ cnt q n)) := by
          rw [Nat.mul_comm (q ^ cnt q n), Nat.mul_assoc, Nat.mul_assoc, Nat.mul_comm t]
    have e4 : p ^ cnt p n * strip p n = p ^ cnt p n * (p * (t * q ^ cnt q n)) := by rw [← e1]; exact e3
    have e5 := Nat.eq_of_mul_eq_mul_left (Nat.pow_pos (by omega)) e4
    rw [e5, Nat.mul_mod_right] at hrm
    exact hrm rfl
  rw [hr', cnt_eq hp _ r hr1 hrp]
/-- the law's way, prime by prime with the earlier ones taken out, and the program's way -/
theorem expsL_map : ∀ (ps : List Nat), (∀ p ∈ ps, 2 ≤ p) → ps.Pairwise Nat.Coprime → ∀ n, 1 ≤ n → expsL ps n = ps.map fun p => cnt p n
  | [], _, _, _, _ => rfl
  | p :: ps, h, hc, n, hn => by
    have hp := h p List.mem_cons_self
    rw [List.pairwise_cons] at hc
    show cnt p n :: expsL ps (strip p n) = cnt p n :: ps.map fun q => cnt q n
    rw [expsL_map ps (fun q hq => h q (List.mem_cons_of_mem _ hq)) hc.2 (strip p n) (strip_pos hp n hn)]
    congr 1
    refine List.map_congr_left fun q hq => ?_
    exact cnt_strip (h q (List.mem_cons_of_mem _ hq)) hp (hc.1 q hq).symm hn
theorem expsL_prodR : ∀ (ps es : List Nat), (∀ p ∈ ps, 2 ≤ p) → ps.Pairwise Nat.Coprime → es.length = ps.length → expsL ps (prodR ps es) = es
  | [], [], _, _, _ => rfl
  | [], _ :: _, _, _, h => by cases h
  | _ :: _, [], _, _, h => by cases h
  | p :: ps, e :: es, h, hc, hl => by
    have hp := h p List.mem_cons_self
    rw [List.pairwise_cons] at hc
    have hq : ∀ q ∈ ps, 2 ≤ q := fun q hq => h q (List.mem_cons_of_mem _ hq)
    have hr := prodR_pos ps es hq
    have cp : Nat.Coprime p (prodR ps es) := cop_prodR ps es hc.1
    have nm := not_mod_of_cop hp cp
    show cnt p (p ^ e * prodR ps es) :: expsL ps (strip p (p ^ e * prodR ps es)) = e :: es
    rw [cnt_eq hp e _ hr nm, strip_pow hp hr e, strip_not nm, expsL_prodR ps es hq hc.2 (by simpa using hl)]
/-- the powers of a number, the program's way -/
def powsOf (n : Nat) : List Nat := primes.map fun p => cnt p n
theorem powsOf_exps {n : Nat} (hn : 1 ≤ n) : powsOf n = expsL primes n := (expsL_map primes two_le primes_cop n hn).symm
theorem powsOf_prod {es : List Nat} (h : es.length = 10) : powsOf (prod es) = es := by
  rw [powsOf_exps (prod_pos es)]
  exact expsL_prodR primes es two_le primes_cop h
end Mth

set_option Elab.async false
set_option maxHeartbeats 4000000
/-! steps, and what is ahead, over rows of changes -/
namespace Mth
/-- what a fraction changes, prime by prime -/
def chg (n d : Nat) : List Int := List.zipWith (fun a b : Nat => (a : Int) - (b : Int)) (powsOf n) (powsOf d)
theorem chg_length (n d : Nat) : (chg n d).length = 10 := by simp [chg, powsOf, primes]
def fitsB (c p : List Int) : Bool := (c.zip p).all fun x => decide (0 ≤ x.2 + x.1)
/-- the first row that fits -/
def fstI : List (List Int) → List Int → Option Nat
  | [], _ => none
  | c :: r, p => if fitsB c p = true then some 0 else (fstI r p).map (· + 1)
def mvd (p c : List Int) (m : Int) : List Int := List.zipWith (fun a b => a + m * b) p c
def nn (p : List Int) : Bool := p.all fun x => decide (0 ≤ x)
theorem mvd_length {p c : List Int} {m : Int} (hp : p.length = 10) (hc : c.length = 10) : (mvd p c m).length = 10 := by simp [mvd, hp, hc]
/-- rows of ten -/
def R10 (rows : List (List Int)) : Prop := ∀ c ∈ rows, c.length = 10
theorem fstI_lt : ∀ {rows : List (List Int)} {p : List Int} {i : Nat}, fstI rows p = some i → ∃ c, rows[i]? = some c ∧ fitsB c p = true ∧ i < rows.length
  | [], _, _, h => by cases h
  | c :: r, p, i, h => by
    unfold fstI at h
    by_cases hc : fitsB c p = true
    · rw [if_pos hc] at h
      cases h
      exact ⟨c, rfl, hc, by simp⟩
    · rw [if_neg hc] at h
      cases e : fstI r p with
      | none => rw [e] at h; cases h
      | some j =>
        rw [e] at h
        have hj : j + 1 = i := Option.some.inj h
        subst hj
        obtain ⟨c', h1, h2, h3⟩ := fstI_lt e
        exact ⟨c', by simpa using h1, h2, by simp; omega⟩
/-- looked through from the left -/
theorem fstI_at : ∀ (rows : List (List Int)) (p : List Int) (i : Nat), (∀ j, j < i → ∀ c, rows[j]? = some c → fitsB c p = false) → (∀ c, rows[i]? = some c → fitsB c p = true) → i < rows.length → fstI rows p = some i
  | [], _, _, _, _, h => by simp at h
  | c :: r, p, 0, _, h, _ => by
    unfold fstI
    rw [if_pos (h c rfl)]
  | c :: r, p, i + 1, h, h', hl => by
    have h0 := h 0 (by omega) c rfl
    unfold fstI
    rw [h0, if_neg (by decide), fstI_at r p i (fun j hj c' e => h (j + 1) (by omega) c' (by simpa using e)) (fun c' e => h' c' (by simpa using e)) (by simpa using hl)]
    rfl
theorem fstI_none : ∀ (rows : List (List Int)) (p : List Int), (∀ (j : Nat) c, rows[j]? = some c → fitsB c p = false) → fstI rows p = none
  | [], _, _ => rfl
  | c :: r, p, h => by
    unfold fstI
    rw [h 0 c rfl, if_neg (by decide), fstI_none r p fun j c' e => h (j + 1) c' (by simpa using e)]
    rfl
/-- one step -/
def stp (rows : List (List Int)) (p : List Int) : Option (List Int) := (fstI rows p).map fun i => mvd p (rows.getD i []) 1
def goN (rows : List (List Int)) : Nat → List Int → Option (List Int)
  | 0, p => some p
  | k + 1, p => (goN rows k p).bind (stp rows)
theorem nn_iff {p : List Int} : nn p = true ↔ ∀ x ∈ p, 0 ≤ x := by simp [nn]
theorem fitsB_iff {c p : List Int} : fitsB c p = true ↔ ∀ (i : Nat) (a b : Int), c[i]? = some a → p[i]? = some b → 0 ≤ b + a := by
  unfold fitsB
  rw [List.all_eq_true]
  constructor
  · intro h i a b h1 h2
    have hz : (c.zip p)[i]? = some (a, b) := by rw [List.getElem?_zip_eq_some]; exact ⟨h1, h2⟩
    exact of_decide_eq_true (h _ (List.mem_of_getElem? hz))
  · intro h x hx
    obtain ⟨i, hi⟩ := List.getElem?_of_mem hx
    obtain ⟨a, b⟩ := x
    rw [List.getElem?_zip_eq_some] at hi
    exact decide_eq_true (h i a b hi.1 hi.2)
theorem nn_step {c p : List Int} (h : fitsB c p = true) : nn (mvd p c 1) = true := by
  rw [nn_iff]
  intro x hx
  obtain ⟨i, hi⟩ := List.getElem?_of_mem hx
  unfold mvd at hi
  rw [List.getElem?_zipWith_eq_some] at hi
  obtain ⟨b, a, h1, h2, rfl⟩ := hi
  have := fitsB_iff.mp h i a b h2 h1
  omega
theorem getD_of {rows : List (List Int)} {i : Nat} {c : List Int} (h : rows[i]? = some c) : rows.getD i [] = c := by
  rw [List.getD_eq_getElem?_getD, h]; rfl
theorem stp_of {rows : List (List Int)} {p : List Int} {i : Nat} {c : List Int} (h : fstI rows p = some i) (hc : rows[i]? = some c) : stp rows p = some (mvd p c 1) := by
  unfold stp
  rw [h, ← getD_of hc]
  rfl
theorem stp_none {rows : List (List Int)} {p : List Int} (h : fstI rows p = none) : stp rows p = none := by
  unfold stp; rw [h]; rfl
theorem stp_some {rows : List (List Int)} {p q : List Int} (h : stp rows p = some q) : ∃ i c, fstI rows p = some i ∧ rows[i]? = some c ∧ fitsB c p = true ∧ q = mvd p c 1 := by
  unfold stp at h
  cases e : fstI rows p with
  | none => rw [e] at h; cases h
  | some i =>
    rw [e] at h
    obtain ⟨c, h1, h2, _⟩ := fstI_lt e
    have h3 : mvd p (rows.getD i []) 1 = q := Option.some.inj h
    rw [getD_of h1] at h3
    exact ⟨i, c, rfl, h1, h2, h3.symm⟩
theorem stp_ok {rows : List (List Int)} {p q : List Int} (hr : R10 rows) (hp : p.length = 10) (h : stp rows p = some q) : q.length = 10 ∧ nn q = true := by
  obtain ⟨i, c, _, h2, h3, rfl⟩ := stp_some h
  exact ⟨mvd_length hp (hr c (List.mem_of_getElem? h2)), nn_step h3⟩
theorem goN_ok {rows : List (List Int)} (hr : R10 rows) {p : List Int} (hp : p.length = 10) (hn : nn p = true) : ∀ {k : Nat} {q : List Int}, goN rows k p = some q → q.length = 10 ∧ nn q = true
  | 0, q, h => by cases h; exact ⟨hp, hn⟩
  | k + 1, q, h => by
    obtain ⟨r, h1, h2⟩ := Option.bind_eq_some_iff.mp h
    exact stp_ok hr (goN_ok hr hp hn h1).1 h2
/-- the numbers of the fractions used -/
def trl (rows : List (List Int)) : Nat → List Int → List Nat
  | 0, _ => []
  | k + 1, p => match fstI rows p with
    | none => []
    | some i => i :: trl rows k (mvd p (rows.getD i []) 1)
theorem trl_none {rows : List (List Int)} {p : List Int} (h : fstI rows p = none) : ∀ k, trl rows k p = []
  | 0 => rfl
  | k + 1 => by simp only [trl, h]
theorem trl_some {rows : List (List Int)} {p c : List Int} {i : Nat} (h : fstI rows p = some i) (hc : rows[i]? = some c) (k : Nat) : trl rows (k + 1) p = i :: trl rows k (mvd p c 1) := by
  simp only [trl, h]
  rw [getD_of hc]
theorem trl_len (rows : List (List Int)) : ∀ (k : Nat) (p : List Int), (trl rows k p).length ≤ k
  | 0, _ => Nat.le_refl _
  | k + 1, p => by
    cases h : fstI rows p with
    | none => rw [trl_none h]; simp
    | some i =>
      obtain ⟨c, hc, _, _⟩ := fstI_lt h
      rw [trl_some h hc]
      have := trl_len rows k (mvd p c 1)
      simp; omega
theorem goN_first (rows : List (List Int)) : ∀ (k : Nat) (p : List Int), goN rows (k + 1) p = (stp rows p).bind (goN rows k)
  | 0, p => by
    show stp rows p = (stp rows p).bind fun q => some q
    cases stp rows p <;> rfl
  | k + 1, p => by
    show (goN rows (k + 1) p).bind (stp rows) = (stp rows p).bind fun q => (goN rows k q).bind (stp rows)
    rw [goN_first rows k p]
    cases stp rows p <;> rfl
end Mth
namespace Mth
def natI (l : List Nat) : List Int := l.map fun n : Nat => (n : Int)
end Mth

set_option Elab.async false
set_option linter.all false
set_option maxRecDepth 100000
set_option maxHeartbeats 4000000
/-! ROWS OF INTS in the heap; comprehensions over a zip of two such. -/
namespace L2
open PySem PyProof.Rows
end L2
namespace W2
open PySem L2 Mth
abbrev tupI (c : List Int) : HO := .tup (c.map V.int)
theorem _root_.L2.RowV.same {H H' : Hp} {x : V} {c : List Int} (h : RowV H x c) (s : Same H H') : RowV H' x c := by
  obtain ⟨a, e, ha⟩ := h
  exact ⟨a, e, s _ _ ha⟩
theorem _root_.L2.RowsV.same {H H' : Hp} {xs : List V} {cs : List (List Int)} (h : RowsV H xs cs) (s : Same H H') : RowsV H' xs cs := ⟨h.1, fun i x e => by
  obtain ⟨c, hc, r⟩ := h.2 i x e
  exact ⟨c, hc, r.same s⟩⟩
/-- tuples are kept where some list is written -/
theorem _root_.L2.RowsV.but {H H' : Hp} {xs : List V} {cs : List (List Int)} {l : Addr} {ys : List V} (h : RowsV H xs cs) (hl : H l = some (.lst ys)) (s : But l H H') : RowsV H' xs cs := ⟨h.1, fun i x e => by
  obtain ⟨c, hc, a, ea, ha⟩ := h.2 i x e
  exact ⟨c, hc, a, ea, s _ _ (ne_of ha hl (by intro z; cases z)) ha⟩⟩
theorem _root_.L2.RowsV.nil {H : Hp} : RowsV H [] [] := ⟨rfl, fun i x e => by cases e⟩
theorem _root_.L2.RowsV.app {H : Hp} {xs ys : List V} {cs ds : List (List Int)} (h : RowsV H xs cs) (g : RowsV H ys ds) : RowsV H (xs ++ ys) (cs ++ ds) := by
  refine ⟨by rw [List.length_append, List.length_append, h.1, g.1], fun i x e => ?_⟩
  by_cases hi : i < xs.length
  · rw [List.getElem?_append_left hi] at e
    obtain ⟨c, hc, r⟩ := h.2 i x e
    exact ⟨c, by rw [List.getElem?_append_left (by rw [← h.1]; exact hi)]; exact hc, r⟩
  · rw [List.getElem?_append_right (by omega)] at e
    obtain ⟨c, hc, r⟩ := g.2 _ x e
    exact ⟨c, by rw [List.getElem?_append_right (by rw [← h.1]; omega), ← h.1]; exact hc, r⟩
theorem _root_.L2.RowsV.one {H : Hp} {x : V} {c : List Int} (h : RowV H x c) : RowsV H [x] [c] := by
  refine ⟨rfl, fun i y e => ?_⟩
  cases i with
  | zero => cases e; exact ⟨c, rfl, h⟩
  | succ i => cases e
theorem _root_.L2.RowsV.at {H : Hp} {xs : List V} {cs : List (List Int)} {i : Nat} {x : V} (h : RowsV H xs cs) (e : xs[i]? = some x) : ∃ c a, cs[i]? = some c ∧ x = .ref a ∧ H a = some (tupI c) := by
  obtain ⟨c, hc, a, ea, ha⟩ := h.2 i x e
  exact ⟨c, a, hc, ea, ha⟩
theorem _root_.L2.RowsV.of {H : Hp} {xs : List V} {cs : List (List Int)} {i : Nat} {c : List Int} (h : RowsV H xs cs) (e : cs[i]? = some c) : ∃ x a, xs[i]? = some x ∧ x = .ref a ∧ H a = some (tupI c) := by
  have hi : i < cs.length := (List.getElem?_eq_some_iff.mp e).1
  have hx : xs[i]? = some (xs[i]'(by rw [h.1]; exact hi)) := List.getElem?_eq_getElem _
  obtain ⟨c', a, hc, ea, ha⟩ := h.at hx
  rw [e] at hc
  cases hc
  exact ⟨_, a, hx, ea, ha⟩
def optV : Option Nat → V
  | none => .non
  | some i => .int (i : Int)
/-- fractions, as they are -/
def FrcsV (H : Hp) (xs : List V) (fs : List (Int × Int)) : Prop := xs.length = fs.length ∧ ∀ (k : Nat) (x : V), xs[k]? = some x → ∃ i j c, fs[k]? = some (i, j) ∧ x = .ref c ∧ H c = some (.tup [.int i, .int j]) ∧ fracB i j = true
theorem FrcsV.same {H H' : Hp} {xs : List V} {fs : List (Int × Int)} (h : FrcsV H xs fs) (s : Same H H') : FrcsV H' xs fs := ⟨h.1, fun k x e => by
  obtain ⟨i, j, c, h1, h2, h3, h4⟩ := h.2 k x e
  exact ⟨i, j, c, h1, h2, s _ _ h3, h4⟩⟩
theorem FrcsV.but {H H' : Hp} {xs : List V} {fs : List (Int × Int)} {l : Addr} {ys : List V} (h : FrcsV H xs fs) (hl : H l = some (.lst ys)) (s : But l H H') : FrcsV H' xs fs := ⟨h.1, fun k x e => by
  obtain ⟨i, j, c, h1, h2, h3, h4⟩ := h.2 k x e
  exact ⟨i, j, c, h1, h2, s _ _ (ne_of h3 hl (by intro z; cases z)) h3, h4⟩⟩
def rowsOf (fs : List (Int × Int)) : List (List Int) := fs.map fun f => chg f.1.toNat f.2.toNat
theorem rowsOf_10 (fs : List (Int × Int)) : R10 (rowsOf fs) := fun c hc => by
  obtain ⟨f, _, rfl⟩ := List.mem_map.mp hc
  exact chg_length _ _
theorem rowsOf_len (fs : List (Int × Int)) : (rowsOf fs).length = fs.length := List.length_map _
theorem fracB_parts {i j : Int} (h : fracB i j = true) : (1 ≤ i ∧ stripAll i.toNat = 1) ∧ (1 ≤ j ∧ stripAll j.toNat = 1) := by
  unfold fracB termB at h
  simp only [Bool.and_eq_true, decide_eq_true_eq] at h
  exact ⟨⟨h.1.1.1.1, h.1.1.2⟩, ⟨h.1.2.1.1, h.1.2.2⟩⟩
theorem zipWith_snoc {f : Int → Int → Int} {xs ys : List Int} {i : Nat} {x y : Int} (hx : xs[i]? = some x) (hy : ys[i]? = some y) : (List.zipWith f xs ys).take (i + 1) = (List.zipWith f xs ys).take i ++ [f x y] := by
  have hz : (List.zipWith f xs ys)[i]? = some (f x y) := by rw [List.getElem?_zipWith_eq_some]; exact ⟨x, y, hx, hy, rfl⟩
  rw [List.take_add_one, hz]
  rfl
/-- pure elements over a zip of two tuples of ints -/
theorem comp_zip_ints {K : PySem.W.Frag} {a b D : Addr} {js : List (Option Nat)} {te : TE} {σ : St} {H1 : Hp} {Q : VK} {xs ys : List Int} {σ0 : St} {f : Int → Int → Int} (hn : min xs.length ys.length ≤ sizeLine) (hp : ∃ u v, pick js σ = u :: v :: σ0) (hD : H1 D = none)
    (ha : H1 a = some (tupI xs)) (hb : H1 b = some (tupI ys))
    (hs : ∀ (x y : Int) (H' : Hp) (R : VK), x ∈ xs → y ∈ ys → R (.int (f x y)) H' → te (some (.int x) :: some (.int y) :: σ0) H' R)
    (q : ∀ H', Same H1 H' → H' D = some (.lst ((List.zipWith f xs ys).map V.int)) → Q (.ref D) H') : CompW (Itz K a b) D js (gTup K 2 (gCons (gName 0) (gCons (gName 1) gNil))) tNoTest te σ H1 Q := by
  obtain ⟨u0, v0, hp⟩ := hp
  refine comp_zip (K := K) (a := a) (b := b) (xs := xs.map V.int) (ys := ys.map V.int) (by rw [List.length_map, List.length_map]; exact hn) (fun i σ' H' zs => (∃ u v : Option V, σ' = u :: v :: σ0) ∧ Same H1 H' ∧ zs = ((List.zipWith f xs ys).take i).map V.int) ⟨⟨u0, v0, hp⟩, Same.new hD, rfl⟩ (fun i σ' H' zs _ ⟨_, s', _⟩ => ⟨SqT.of (s' _ _ ha), SqT.of (s' _ _ hb)⟩) ?_ ?_
  · rintro i x y p σ' H' zs R hx hy hp hD' hzl ⟨⟨u, v, rfl⟩, s', rfl⟩ kk
    obtain ⟨x, rfl, hx'⟩ := map_int_get hx
    obtain ⟨y, rfl, hy'⟩ := map_int_get hy
    refine ⟨p, _, rfl, SqT.of upd_same, rfl, _, _, rfl, _, _, rfl, rfl, ?_⟩
    refine hs x y _ _ (List.mem_of_getElem? hx') (List.mem_of_getElem? hy') (kk _ _ _ ?_ ⟨⟨_, _, rfl⟩, ?_, ?_⟩)
    · rw [upd_ne (ne_of_none hD' hp)]; exact hD'
    · intro c o e
      rw [upd_ne (ne_of_none e hD), upd_ne (ne_of_none (s' c o e) hp)]
      exact s' c o e
    · rw [zipWith_snoc hx' hy', List.map_append]
      rfl
  · rintro σ' H' zs hD' hzl ⟨_, s', rfl⟩
    refine q H' s' ?_
    rw [hD', List.length_map, List.length_map, List.take_of_length_le (by rw [List.length_zipWith]; exact Nat.le_refl _)]
end W2

set_option Elab.async false
set_option linter.all false
set_option maxRecDepth 100000
set_option maxHeartbeats 4000000
/-! ZIP of two lists; == of two lists of rows. -/
namespace L2
open PySem PySem.Spec PyProof.Rows
/-- two lists walked side by side: each turn hands out a new pair -/
def Itzl (a b : Addr) : It :=
  ⟨fun i H => ∃ xs ys x y, H a = some (.lst xs) ∧ H b = some (.lst ys) ∧ xs[i]? = some x ∧ ys[i]? = some y,
   fun i H v H' => ∃ p, H p = none ∧ v = .ref p ∧ ∃ x y, H' = upd H p (.tup [x, y]) ∧ ∀ xs ys, H a = some (.lst xs) → H b = some (.lst ys) → xs[i]? = some x ∧ ys[i]? = some y,
   fun i H => ∃ xs ys, H a = some (.lst xs) ∧ H b = some (.lst ys) ∧ (xs.length ≤ i ∨ ys.length ≤ i)⟩
theorem turn_zipL {P : Program} {w : World} {K : PySem.W.Frag} {tg : Expr} (htg : tupleTg tg = true) {z TI TO j1 j2 a b : Addr} (D : ZipApart z TI TO j1 j2 a b) :
    Turn P w K tg (Itzl a b) [z, TO, j1, j2, TI] z (fun i h => IsZip h z TI TO .none ∧ IsPair h TI (.ref j1) (.ref j2) ∧ (∃ u v, IsPair h TO u v) ∧ h.IsListIter j1 a i ∧ h.IsListIter j2 b i) where
  mem := List.mem_cons_self
  obj := fun i h st c hc => by
    obtain ⟨h1, h2, ⟨u, v, h3⟩, ⟨o4, h4, _, d4⟩, ⟨o5, h5, _, d5⟩⟩ := st
    have nof : ∀ {o : Obj} {vs : Array Value}, o.data = .fields vs → ∀ v, o.data ≠ .cell v := fun e v q => by rw [e] at q; cases q
    have nos : ∀ {o : Obj} {vs : Array Value} {n : Nat}, o.data = .seq vs n → ∀ v, o.data ≠ .cell v := fun e v q => by rw [e] at q; cases q
    simp only [List.mem_cons, List.not_mem_nil, or_false] at hc
    rcases hc with rfl | rfl | rfl | rfl | rfl
    · exact ⟨_, h1, nof rfl⟩
    · exact ⟨_, h3, nos rfl⟩
    · exact ⟨_, h4, nof d4⟩
    · exact ⟨_, h5, nof d5⟩
    · exact ⟨_, h2, nos rfl⟩
  keep := fun i h h' st k => by
    obtain ⟨h1, h2, ⟨u, v, h3⟩, ⟨o4, h4, r4⟩, ⟨o5, h5, r5⟩⟩ := st
    exact ⟨k _ (by simp) _ h1, k _ (by simp) _ h2, ⟨u, v, k _ (by simp) _ h3⟩, ⟨o4, k _ (by simp) _ h4, r4⟩, ⟨o5, k _ (by simp) _ h5, r5⟩⟩
  item := by
    intro X hP hw hK hc i pins s σ H E I hf st hg
    subst hP hw hK
    obtain ⟨h1, h2, ⟨u, v, h3⟩, h4, h5⟩ := st
    obtain ⟨xs, ys, x, y, qa, qb, hx, hy⟩ := hg
    obtain ⟨_, its, n1, rv, _, pa⟩ := I.lstM qa
    obtain ⟨_, jts, n2, rw', _, pb⟩ := I.lstM qb
    obtain ⟨ux, eux, rux⟩ := rv.get hx
    obtain ⟨uy, euy, ruy⟩ := rw'.get hy
    refine wpAny_pyNext_zip_item D h1 h2 h3 h4 h5 (show s.heap.IsList a its.toArray from ⟨_, pa, rfl, n1, rfl⟩) (show s.heap.IsList b jts.toArray from ⟨_, pb, rfl, n2, rfl⟩) (x := ux) (y := uy) (by simpa using eux) (by simpa using euy) fun g b1 b2 b3 b4 b5 _ b6 => ?_
    refine ⟨_, rfl, ?_⟩
    have zlt : z < s.heap.objs.size := Heap.lt_size h1
    cases tg with
    | Tuple es kk pp =>
      refine wpAny_letOwnedTupleGo_zip b1 fun g' c1 sb => ?_
      have new : IsPair g' s.heap.objs.size ux uy := sb.extBut _ _ (Nat.ne_of_gt zlt) b5
      have I1 : Inv X pins σ (upd H s.heap.objs.size (.tup [x, y])) { s with heap := g' } := by
        refine I.turnedNew (t' := s.toks) (L := [z, TO, j1, j2, TI]) (fun c o hcn e => ?_) hf (Nat.le_refl _) ⟨by show 2 ≤ sizeLine; decide, [ux, uy], .cons rux (.cons ruy .nil), ⟨_, new, rfl, ⟨0, rfl⟩, rfl⟩⟩
        simp only [List.mem_cons, List.not_mem_nil, or_false, not_or] at hcn
        exact sb.extBut c o hcn.1 (b6 c o hcn.1 hcn.2.1 hcn.2.2.1 hcn.2.2.2.1 e)
      have h2' : IsPair g' TI (.ref j1) (.ref j2) := sb.extBut _ _ D.TIz (b6 _ _ D.TIz D.TITO D.TIi1 D.TIi2 h2)
      refine ⟨.ref s.heap.objs.size, _, I1, rfl, ⟨_, I.fresh, rfl, x, y, rfl, fun xs' ys' q1 q2 => ?_⟩, ⟨c1, h2', ⟨_, _, sb.extBut _ _ D.TOz b2⟩, b3.extBut sb.extBut D.i1z, b4.extBut sb.extBut D.i2z⟩, fun c hcm => ?_⟩
      · rw [qa] at q1
        rw [qb] at q2
        cases q1
        cases q2
        exact ⟨hx, hy⟩
      obtain ⟨o, eo, _⟩ : ∃ o, s.heap.get? c = some o ∧ True := by
        simp only [List.mem_cons, List.not_mem_nil, or_false] at hcm
        rcases hcm with rfl | rfl | rfl | rfl | rfl
        · exact ⟨_, h1, trivial⟩
        · exact ⟨_, h3, trivial⟩
        · obtain ⟨o4, g4, _⟩ := h4
          exact ⟨_, g4, trivial⟩
        · obtain ⟨o5, g5, _⟩ := h5
          exact ⟨_, g5, trivial⟩
        · exact ⟨_, h2, trivial⟩
      rw [upd_ne (Nat.ne_of_lt (Heap.lt_size eo))]
      exact (hf c hcm).1
    | _ => exact absurd (show false = true from htg) Bool.false_ne_true
  done := by
    intro X hP hw hK hc i pins s σ H E I hf st hg
    subst hP hw hK
    obtain ⟨h1, h2, ⟨u, v, h3⟩, h4, h5⟩ := st
    obtain ⟨xs, ys, qa, qb, hl⟩ := hg
    obtain ⟨_, its, n1, rv, e1, pa⟩ := I.lstM qa
    obtain ⟨_, jts, n2, rw', e2, pb⟩ := I.lstM qb
    refine wpAny_pyNext_zip_end (I.ok.hd hc) D h1 h2 h3 h4 h5 (show s.heap.IsList a its.toArray from ⟨_, pa, rfl, n1, rfl⟩) (show s.heap.IsList b jts.toArray from ⟨_, pb, rfl, n2, rfl⟩) ?_ fun g up => ⟨rfl, ?_⟩
    · rcases hl with hl | hl
      · exact .inl (by simp; omega)
      · exact .inr (by simp; omega)
    · refine I.turnedL (t' := s.toks) (L := [z, TO, j1, j2, TI]) (fun c o hcn e => ?_) hf
      simp only [List.mem_cons, List.not_mem_nil, or_false, not_or] at hcn
      exact up c o hcn.1 hcn.2.1 hcn.2.2.1 hcn.2.2.2.1 e
  self := fun _ _ _ _ _ st h => wpAny_pyIter_zip st.1 h
section
variable {X : Cx} {tg : Expr}
def iZipL (ta : TA) : TI := fun σ H R => ta σ H fun vs H1 => ∃ a b xs ys, vs = [.ref a, .ref b] ∧ H1 a = some (.lst xs) ∧ H1 b = some (.lst ys) ∧ R (Itzl a b) H1
theorem qi_zipL {e1 e2 : Expr} {ta : TA} {p pos : Pos} (htg : tupleTg tg = true) (hg : Gl X "zip") (hm : X.mg "zip" = none) (ha : QA X [e1, e2] ta) (hs : starEach [e1, e2] X.env = [(false, eval e1 X.env), (false, eval e2 X.env)] := by rfl) (hs2 : starEach [e2] X.env = [(false, eval e2 X.env)] := by rfl)
    (hb : bootBuiltins "zip" = some (.type "zip") := by decide +kernel) : QI X tg (.Call (.Name "zip" p) [e1, e2] [] pos) (iZipL ta) := ⟨by
  intro pins s σ H R I h
  refine Call_ (ld_blt I hg hm hb (PyProof.Rows.callWith_type1 (thn (ha.o pos pins s σ H _ I h) fun us s1 ⟨vs, H1, I1, r1, q1⟩ => ?_) (by rw [hs, hs2]) (by rw [hs2]; rfl)))
  obtain ⟨a, b, xs, ys, e, qa, qb, q⟩ := q1
  subst e
  obtain ⟨u1, u2, rfl, ra, rb⟩ := vals2 r1
  cases ra
  cases rb
  obtain ⟨_, its, n1, rv, e1, pa⟩ := I1.lstM qa
  obtain ⟨_, jts, n2, rw', e2, pb⟩ := I1.lstM qb
  have la : a < s1.heap.objs.size := Heap.lt_size pa
  have lb : b < s1.heap.objs.size := Heap.lt_size pb
  refine call_zip_2 (show s1.heap.IsList a its.toArray from ⟨_, pa, rfl, n1, rfl⟩) (show s1.heap.IsList b jts.toArray from ⟨_, pb, rfl, n2, rfl⟩) fun g z1 z2 z3 z4 z5 _ up => ?_
  refine wpAny_pyIter_zip z1 ?_
  have I2 : Inv X pins σ H1 { s1 with heap := g } := I1.kept (t' := s1.toks) up
  refine ⟨_, [s1.heap.objs.size + 4, s1.heap.objs.size + 3, s1.heap.objs.size, s1.heap.objs.size + 1, s1.heap.objs.size + 2], _, _, H1, rfl, I2, turn_zipL htg (apart_new la lb), ⟨z1, z2, ⟨_, _, z3⟩, z4, z5⟩, fun c hc => ?_, q⟩
  have big : s1.heap.objs.size ≤ c := by
    simp only [List.mem_cons, List.not_mem_nil, or_false] at hc
    rcases hc with rfl | rfl | rfl | rfl | rfl
    · exact Nat.le_add_right _ _
    · exact Nat.le_add_right _ _
    · exact Nat.le_refl _
    · exact Nat.le_add_right _ _
    · exact Nat.le_add_right _ _
  exact I1.fpOk big (I1.hok.fresh big)⟩
end
section
variable {X : Cx}
end
end L2

set_option Elab.async false
set_option linter.all false
set_option maxRecDepth 100000
set_option maxHeartbeats 4000000
/-! isinstance of a text, of a list; one promise or another (as in t/K1C). -/
namespace W2
open PySem L2 Mth
def isS : V → Bool
  | .str _ => true
  | _ => false
def lstO : Option HO → Bool
  | some (.lst _) => true
  | _ => false
def isL (H : Hp) : V → Bool
  | .ref a => lstO (H a)
  | _ => false
section
variable {K : PySem.W.Frag} {H : Hp} {v : V}
theorem isi_S (k : kindV H v) : ∃ t, TyOf K H v t ∧ PySem.W.kitOne K t (.type "str") = some (isS v) := by
  cases v with
  | non => exact ⟨_, .non, by kernel_rfl⟩
  | bl b => exact ⟨_, .bl b, by kernel_rfl⟩
  | int i => exact ⟨_, .int i, by kernel_rfl⟩
  | str x => exact ⟨_, .str x, by kernel_rfl⟩
  | ref a =>
    rcases (show (∃ xs, H a = some (.tup xs)) ∨ (∃ xs, H a = some (.lst xs)) ∨ (∃ kvs, H a = some (.dK kvs)) from k) with ⟨xs, e⟩ | ⟨xs, e⟩ | ⟨kvs, e⟩
    · exact ⟨_, .tup e, by kernel_rfl⟩
    · exact ⟨_, .lst e, by kernel_rfl⟩
    · exact ⟨_, .dK e, by kernel_rfl⟩
  | _ => exact False.elim k
theorem isi_L (k : kindV H v) : ∃ t, TyOf K H v t ∧ PySem.W.kitOne K t (.type "list") = some (isL H v) := by
  cases v with
  | non => exact ⟨_, .non, by kernel_rfl⟩
  | bl b => exact ⟨_, .bl b, by kernel_rfl⟩
  | int i => exact ⟨_, .int i, by kernel_rfl⟩
  | str x => exact ⟨_, .str x, by kernel_rfl⟩
  | ref a =>
    rcases (show (∃ xs, H a = some (.tup xs)) ∨ (∃ xs, H a = some (.lst xs)) ∨ (∃ kvs, H a = some (.dK kvs)) from k) with ⟨xs, e⟩ | ⟨xs, e⟩ | ⟨kvs, e⟩
    · refine ⟨_, .tup e, ?_⟩
      show _ = some (lstO (H a))
      rw [e]
      kernel_rfl
    · refine ⟨_, .lst e, ?_⟩
      show _ = some (lstO (H a))
      rw [e]
      kernel_rfl
    · refine ⟨_, .dK e, ?_⟩
      show _ = some (lstO (H a))
      rw [e]
      kernel_rfl
  | _ => exact False.elim k
end
theorem FnOk.or {P : Program} {w : World} {K : PySem.W.Frag} {mg : Str → Option Value} {base : Heap} {CX : CXT} {k : Nat} {f : Addr} {fd : FuncData} {ps : List Str} {sp sp' : Sp} (F : FnOk P w K mg base CX k f fd ps sp) (F' : FnOk P w K mg base CX k f fd ps sp') :
    FnOk P w K mg base CX k f fd ps (fun vs H Q E => sp vs H Q E ∨ sp' vs H Q E) :=
  ⟨fun vs H Q E h => h.elim (F.len vs H Q E) (F'.len vs H Q E), fun A outer s H args us vs Q E hr e0 hb r h => h.elim (F.run A outer s H args us vs Q E hr e0 hb r) (F'.run A outer s H args us vs Q E hr e0 hb r)⟩
end W2

set_option Elab.async false
set_option linter.all false
set_option maxRecDepth 100000
set_option maxHeartbeats 4000000
/-! AN EXCEPTION WITH AN OWN __init__: made and raised. -/
namespace Xi
open PySem PyProof.Rows
section
variable {prog : Program} {w : World} {A : Around} {E : Value → Shared → Prop} {h : Heap} {g : Array GenState} {d : Drawn} {t : Nat} {os : OsState}
variable {nm q : Str} {C N : Addr} {bs bm bmB : List Value} {hdct : Bool} {sn : List Str} {sub : List Value} {ab : Bool} {col : Option Bool} {dd : Option Addr} {k0 k1 k2 k3 k5 : Option Value} {B newId initId : String}
end
section
variable {M : Model} {A : Around} {E : Value → Shared → Prop} {env : Env}
variable {nm q : Str} {C N : Addr} {bs bm : List Value} {hdct : Bool} {sn : List Str} {sub : List Value} {ab : Bool} {col : Option Bool} {dd : Option Addr} {k0 k1 k2 k3 k5 : Option Value} {newId : String}
end
section
variable {prog : Program} {w : World} {A : Around} {E : Value → Shared → Prop} {s : Shared} {env : Env}
variable {nm q : Str} {C N : Addr} {bs bm bmB : List Value} {hdct : Bool} {sn : List Str} {sub : List Value} {ab : Bool} {col : Option Bool} {dd : Option Addr} {k0 k1 k2 k3 k5 : Option Value} {B newId initId : String}
end
end Xi

set_option Elab.async false
set_option linter.all false
set_option maxRecDepth 100000
set_option maxHeartbeats 4000000
/-! AN EXCEPTION'S FIELD: written, read. -/
namespace PySem.W
open PySem PySem.Spec PySem.Calls PyProof.Rows Builtin.ObjectAttr
section
variable {prog : Program} {w : World} {A : Around} {E : Value → Shared → Prop} {R : Result → Shared → Prop} {s : Shared} {K : Frag} {x C Fr : Addr} {ox : Obj} {od : Option Obj} {cd : ClassData}
end
end PySem.W

set_option Elab.async false
set_option linter.all false
set_option maxRecDepth 100000
set_option maxHeartbeats 4000000
/-! AN EXCEPTION WITH AN OWN __init__ AND A FIELD, over the layer: raise, try, the field, isinstance. -/
namespace L2
open PySem PySem.Spec PyProof.Rows Xn
/-- the class at C, an own exception with an __init__ of its own at fI, straight under the own class at Fr -/
structure XI (K : PySem.W.Frag) (mg : Str → Option Value) (x : Str) (C Fr fI : Addr) : Prop where
  at_ : mg x = some (.ref C)
  ob : ∃ nm q N bs sn sub ab col dd k0 k1 k2 k3 k5, K.lookup C = some (excClassObj nm q C N bs (.ref Fr :: bmV) true sn sub ab col dd k0 k1 k2 k3 k5 "ValueError.__new__") ∧ PySem.W.nsOkIn K N = true ∧ PySem.W.nsIn K N "__init__" = some (some (.ref fI))
  fr : PySem.W.excIn K Fr bmV "ValueError.__new__" = true
  xc : PySem.W.XcIs K C
  sa : PySem.W.findIn K (.ref C) "__setattr__" = some (some (.builtin "object.__setattr__"))
  fn : ∃ oI, K.lookup fI = some oI ∧ oI.cls = .type "function"
theorem XI.cls {K : PySem.W.Frag} {mg : Str → Option Value} {x : Str} {C Fr fI : Addr} (c : XI K mg x C Fr fI) : ∃ cd, PySem.W.clsIn K C = some cd ∧ cd.mro = .ref C :: .ref Fr :: bmV ∧ cd.hasDict = true := by
  obtain ⟨nm, q, N, bs, sn, sub, ab, col, dd, k0, k1, k2, k3, k5, h, _⟩ := c.ob
  have e : PySem.W.clsIn K C = (match K.lookup C with | some ⟨_, _, .cls cd, _⟩ => some cd | _ => none) := rfl
  rw [h] at e
  exact ⟨_, e, rfl, rfl⟩
theorem XI.hd {K : PySem.W.Frag} {mg : Str → Option Value} {x : Str} {C Fr fI : Addr} (c : XI K mg x C Fr fI) : PySem.W.hasDictIn K C = true := by
  obtain ⟨cd, h1, _, h3⟩ := c.cls
  unfold PySem.W.hasDictIn
  rw [h1]
  exact h3
end L2

set_option Elab.async false
set_option maxHeartbeats 4000000
/-! a step, by the numbers themselves -/
namespace Mth
end Mth

set_option Elab.async false
set_option linter.all false
set_option maxRecDepth 100000
set_option maxHeartbeats 4000000
namespace L2
open PySem PySem.Spec PySem.Calls PyProof.Rows
end L2
namespace Mth
theorem goN_rest {rows : List (List Int)} {p r : List Int} {n : Nat} (h : goN rows n p = some r) (hf : fstI rows r = none) : ∀ j, goN rows (n + 1 + j) p = none
  | 0 => by
    show (goN rows n p).bind (stp rows) = none
    rw [h]
    exact stp_none hf
  | j + 1 => by
    show (goN rows (n + 1 + j) p).bind (stp rows) = none
    rw [goN_rest h hf j]
    rfl
theorem goN_restLt {rows : List (List Int)} {p r q : List Int} {n m : Nat} (h : goN rows n p = some r) (hf : fstI rows r = none) (hm : goN rows m p = some q) : m ≤ n := by
  by_cases z : m ≤ n
  · exact z
  · obtain ⟨j, hj⟩ : ∃ j, m = n + 1 + j := ⟨m - n - 1, by omega⟩
    rw [hj, goN_rest h hf j] at hm
    cases hm
theorem goN_uniq {rows : List (List Int)} {p r q : List Int} {n m : Nat} (h : goN rows n p = some r) (hf : fstI rows r = none) (hm : goN rows m p = some q) (hg : fstI rows q = none) : n = m := Nat.le_antisymm (goN_restLt hm hg h) (goN_restLt h hf hm)
end Mth

set_option Elab.async false
set_option linter.all false
set_option maxRecDepth 100000
set_option maxHeartbeats 4000000
/-! ZIP of a tuple and a list, walked. -/
namespace Zm
open PySem PyProof.Rows Zt
section
variable {prog : Program} {w : World} {A : Around} {E : Value → Shared → Prop} {s : Shared}
/-- a zip's step over a tuple and a list -/
theorem zip_item {z TI TO j1 j2 t1 t2 : Addr} {k : Nat} {xs ys : Array Value} {x y a b : Value} {Q : Value → Shared → Prop} (D : ZipApart z TI TO j1 j2 t1 t2)
    (zz : IsZip s.heap z TI TO .none) (zI : IsPair s.heap TI (.ref j1) (.ref j2)) (zO : IsPair s.heap TO a b)
    (i1 : s.heap.IsTupleIter j1 t1 k) (i2 : s.heap.IsListIter j2 t2 k) (l1 : s.heap.IsTuple t1 xs) (l2 : s.heap.IsList t2 ys) (ex : xs[k]? = some x) (ey : ys[k]? = some y)
    (q : ∀ g, IsZip g z TI TO (rawInt s.heap.objs.size) → IsPair g TO x y → g.IsTupleIter j1 t1 (k + 1) → g.IsListIter j2 t2 (k + 1) → IsPair g s.heap.objs.size x y →
      (∀ c o, c ≠ z → c ≠ TO → c ≠ j1 → c ≠ j2 → s.heap.get? c = some o → g.get? c = some o) → Q (.ref s.heap.objs.size) { s with heap := g }) :
    wpAny (model prog w) A (Builtin.«zip.__next__» ⟨[.ref z], []⟩) (fun fin s' => ∃ v, fin = .done (.ret v) ∧ Q v s') E s := by
  show wpAny _ _ (field (.ref z) 2 >>= _) _ _ _
  refine wpAny_bind (wpAny_field zz rfl (x := .bool false) rfl ?_)
  show wpAny _ _ (field (.ref z) 3 >>= _) _ _ _
  refine wpAny_bind (wpAny_field zz rfl (x := .ref TI) rfl (wpAny_bind (wpAny_seqItems zI rfl ?_)))
  show wpAny _ _ (Builtin.SmallTypes.ownedTupleIsFree (.ref z) >>= _) _ _ _
  refine wpAny_bind ?_
  unfold Builtin.SmallTypes.ownedTupleIsFree
  refine wpAny_bind (wpAny_field zz rfl (x := .none) rfl (wpAny_pure ?_))
  simp only [if_true]
  refine wpAny_bind (wpAny_rule (wpAny_bind (wpAny_field zz rfl (x := .ref TO) rfl (wpAny_bind (wpAny_setField_rec zz (by simp) fun g1 zz1 s1 => ?_)))))
  replace zz1 : IsZip g1 z TI TO .ellipsis := zz1
  refine wpAny_bind ?_
  simp only [List.zipIdx_cons, List.zipIdx_nil, List.forIn_cons, List.forIn_nil]
  refine wpAny_bind (wpAny_bind (wpAny_onRaise ?_))
  show wpAny _ _ (Builtin.SmallTypes.nextOf (.ref j1) >>= _) _ _ _
  refine wpAny_bind (pull (i1.extBut s1.extBut D.i1z) (l1.extBut s1.extBut D.l1z) ex fun g2 i1' s2 => wpAny_pure ?_)
  have zO2 : IsPair g2 TO a b := s2.extBut _ _ D.TOi1 (s1.extBut _ _ D.TOz zO)
  refine wpAny_bind (wpAny_seqItems zO2 rfl (wpAny_bind (wpAny_updateSeq_pair zO2 fun g3 zO3 s3 => ?_)))
  replace zO3 : IsPair g3 TO x b := zO3
  refine wpAny_bind (wpAny_letGo (wpAny_pure (wpAny_bind (wpAny_bind (wpAny_onRaise ?_)))))
  show wpAny _ _ (Builtin.SmallTypes.nextOf (.ref j2) >>= _) _ _ _
  have i2' := ((i2.extBut s1.extBut D.i2z).extBut s2.extBut D.i12.symm).extBut s3.extBut D.TOi2.symm
  have l2' := ((l2.extBut s1.extBut D.l2z).extBut s2.extBut D.l2i1).extBut s3.extBut D.l2TO
  refine wpAny_bind (wpAny_nextOf_list_item i2' l2' ey fun g4 i2'' s4 => wpAny_pure ?_)
  have zO4 : IsPair g4 TO x b := s4.extBut _ _ D.TOi2 zO3
  refine wpAny_bind (wpAny_seqItems zO4 rfl (wpAny_bind (wpAny_updateSeq_pair zO4 fun g5 zO5 s5 => ?_)))
  replace zO5 : IsPair g5 TO x y := zO5
  refine wpAny_bind (wpAny_letGo (wpAny_pure (wpAny_pure (wpAny_bind (wpAny_seqItems zO5 rfl (wpAny_bind (wpAny_newTuple ?_)))))))
  have sz : g5.objs.size = s.heap.objs.size := by rw [s5.1, s4.1, s3.1, s2.1, s1.1]
  have zz5 : IsZip g5 z TI TO .ellipsis := s5.extBut _ _ D.TOz.symm (s4.extBut _ _ D.i2z.symm (s3.extBut _ _ D.TOz.symm (s2.extBut _ _ D.i1z.symm zz1)))
  have up5 : ∀ c o, c ≠ z → c ≠ TO → c ≠ j1 → c ≠ j2 → s.heap.get? c = some o → g5.get? c = some o := fun c o n1 n2 n3 n4 q' =>
    s5.extBut _ _ n2 (s4.extBut _ _ n4 (s3.extBut _ _ n2 (s2.extBut _ _ n3 (s1.extBut _ _ n1 q'))))
  have j15 : g5.IsTupleIter j1 t1 (k + 1) := ((i1'.extBut s3.extBut D.TOi1.symm).extBut s4.extBut D.i12).extBut s5.extBut D.TOi1.symm
  have j25 : g5.IsListIter j2 t2 (k + 1) := i2''.extBut s5.extBut D.TOi2.symm
  have zlt : z < g5.objs.size := Heap.lt_size zz5
  show wpAny _ _ (Builtin.SmallTypes.ownedTupleHandOut (.ref z) (.ref g5.objs.size) >>= _) _ _ _
  refine wpAny_bind ?_
  unfold Builtin.SmallTypes.ownedTupleHandOut
  have zz6 : IsZip (g5.push { cls := .type "tuple", data := .seq #[x, y] }) z TI TO .ellipsis := Heap.get?_push_of_some _ zz5
  refine wpAny_bind (wpAny_setField_rec zz6 (by simp) fun g7 zz7 s7 => ?_)
  replace zz7 : IsZip g7 z TI TO (rawInt g5.objs.size) := zz7
  refine wpAny_setField_rec zz7 (by simp) fun g8 zz8 s8 => ?_
  replace zz8 : IsZip g8 z TI TO (rawInt g5.objs.size) := zz8
  have up8 : ∀ c o, c ≠ z → g5.get? c = some o → g8.get? c = some o := fun c o n1 q' => s8.extBut _ _ n1 (s7.extBut _ _ n1 (Heap.get?_push_of_some _ q'))
  have new8 : IsPair g8 g5.objs.size x y := s8.extBut _ _ (Nat.ne_of_gt zlt) (s7.extBut _ _ (Nat.ne_of_gt zlt) (Heap.get?_push_size _ rfl))
  rw [sz] at zz8 new8
  refine wpAny_pure ⟨_, rfl, ?_⟩
  show Q (.ref g5.objs.size) _
  rw [sz]
  refine q g8 zz8 (up8 _ _ D.TOz zO5) ?_ ?_ new8 fun c o n1 n2 n3 n4 q' => up8 c o n1 (up5 c o n1 n2 n3 n4 q')
  · obtain ⟨o, e, r⟩ := j15
    exact ⟨o, up8 _ _ D.i1z e, r⟩
  · obtain ⟨o, e, r⟩ := j25
    exact ⟨o, up8 _ _ D.i2z e, r⟩

theorem zip_stop {z TI TO j1 j2 t1 t2 : Addr} {k : Nat} {xs ys : Array Value} {a b : Value} {Q : Fin → Shared → Prop} (hd : A.handled = none) (D : ZipApart z TI TO j1 j2 t1 t2)
    (zz : IsZip s.heap z TI TO .none) (zI : IsPair s.heap TI (.ref j1) (.ref j2)) (zO : IsPair s.heap TO a b)
    (i1 : s.heap.IsTupleIter j1 t1 k) (i2 : s.heap.IsListIter j2 t2 k) (l1 : s.heap.IsTuple t1 xs) (l2 : s.heap.IsList t2 ys) (ee : xs[k]? = none ∨ ys[k]? = none)
    (q : ∀ g e, (∀ c o, c ≠ z → c ≠ TO → c ≠ j1 → c ≠ j2 → s.heap.get? c = some o → g.get? c = some o) → (∃ o, g.get? e = some o ∧ o.cls = .type "StopIteration") → E (.ref e) { s with heap := g }) :
    wpAny (model prog w) A (Builtin.«zip.__next__» ⟨[.ref z], []⟩) Q E s := by
  show wpAny _ _ (field (.ref z) 2 >>= _) _ _ _
  refine wpAny_bind (wpAny_field zz rfl (x := .bool false) rfl ?_)
  show wpAny _ _ (field (.ref z) 3 >>= _) _ _ _
  refine wpAny_bind (wpAny_field zz rfl (x := .ref TI) rfl (wpAny_bind (wpAny_seqItems zI rfl ?_)))
  show wpAny _ _ (Builtin.SmallTypes.ownedTupleIsFree (.ref z) >>= _) _ _ _
  refine wpAny_bind ?_
  unfold Builtin.SmallTypes.ownedTupleIsFree
  refine wpAny_bind (wpAny_field zz rfl (x := .none) rfl (wpAny_pure ?_))
  simp only [if_true]
  refine wpAny_bind (wpAny_rule (wpAny_bind (wpAny_field zz rfl (x := .ref TO) rfl (wpAny_bind (wpAny_setField_rec zz (by simp) fun g1 zz1 s1 => ?_)))))
  replace zz1 : IsZip g1 z TI TO .ellipsis := zz1
  refine wpAny_bind ?_
  simp only [List.zipIdx_cons, List.zipIdx_nil, List.forIn_cons, List.forIn_nil]
  refine wpAny_bind (wpAny_bind (wpAny_onRaise ?_))
  show wpAny _ _ (Builtin.SmallTypes.nextOf (.ref j1) >>= _) _ _ _
  cases ex : xs[k]? with
  | none =>
    refine wpAny_bind (pull_end hd (i1.extBut s1.extBut D.i1z) (l1.extBut s1.extBut D.l1z) ex fun g2 e s2 ⟨oe, goe, coe⟩ => ?_)
    have zz2 : IsZip g2 z TI TO .ellipsis := s2 _ _ D.i1z.symm zz1
    have nez : e ≠ z := fun y => by
      subst y
      rw [zz2] at goe
      cases goe
      simp at coe
    exact wpAny_setField_rec zz2 (by simp) fun g3 _ s3 => q g3 e (fun c o n1 _ n3 _ y => s3.extBut _ _ n1 (s2 _ _ n3 (s1.extBut _ _ n1 y))) ⟨oe, s3.extBut _ _ nez goe, coe⟩
  | some x =>
    have ey : ys[k]? = none := ee.resolve_left (by rw [ex]; exact fun y => nomatch y)
    refine wpAny_bind (pull (i1.extBut s1.extBut D.i1z) (l1.extBut s1.extBut D.l1z) ex fun g2 i1' s2 => wpAny_pure ?_)
    have zO2 : IsPair g2 TO a b := s2.extBut _ _ D.TOi1 (s1.extBut _ _ D.TOz zO)
    refine wpAny_bind (wpAny_seqItems zO2 rfl (wpAny_bind (wpAny_updateSeq_pair zO2 fun g3 zO3 s3 => ?_)))
    refine wpAny_bind (wpAny_letGo (wpAny_pure (wpAny_bind (wpAny_bind (wpAny_onRaise ?_)))))
    show wpAny _ _ (Builtin.SmallTypes.nextOf (.ref j2) >>= _) _ _ _
    have i2' := ((i2.extBut s1.extBut D.i2z).extBut s2.extBut D.i12.symm).extBut s3.extBut D.TOi2.symm
    have l2' := ((l2.extBut s1.extBut D.l2z).extBut s2.extBut D.l2i1).extBut s3.extBut D.l2TO
    refine wpAny_bind (wpAny_nextOf_list_end hd i2' l2' ey fun g4 e s4 ⟨oe, goe, coe⟩ => ?_)
    have zz4 : IsZip g4 z TI TO .ellipsis := s4 _ _ D.i2z.symm (s3.extBut _ _ D.TOz.symm (s2.extBut _ _ D.i1z.symm zz1))
    have nez : e ≠ z := fun y => by
      subst y
      rw [zz4] at goe
      cases goe
      simp at coe
    exact wpAny_setField_rec zz4 (by simp) fun g5 _ s5 => q g5 e (fun c o n1 n2 n3 n4 y => s5.extBut _ _ n1 (s4 _ _ n4 (s3.extBut _ _ n2 (s2.extBut _ _ n3 (s1.extBut _ _ n1 y))))) ⟨oe, s5.extBut _ _ nez goe, coe⟩

theorem next_item {z TI TO j1 j2 t1 t2 : Addr} {k : Nat} {xs ys : Array Value} {x y a b : Value} {Q : Option Value → Shared → Prop} (D : ZipApart z TI TO j1 j2 t1 t2)
    (zz : IsZip s.heap z TI TO .none) (zI : IsPair s.heap TI (.ref j1) (.ref j2)) (zO : IsPair s.heap TO a b)
    (i1 : s.heap.IsTupleIter j1 t1 k) (i2 : s.heap.IsListIter j2 t2 k) (l1 : s.heap.IsTuple t1 xs) (l2 : s.heap.IsList t2 ys) (ex : xs[k]? = some x) (ey : ys[k]? = some y)
    (q : ∀ g, IsZip g z TI TO (rawInt s.heap.objs.size) → IsPair g TO x y → g.IsTupleIter j1 t1 (k + 1) → g.IsListIter j2 t2 (k + 1) → IsPair g s.heap.objs.size x y →
      (∀ c o, c ≠ z → c ≠ TO → c ≠ j1 → c ≠ j2 → s.heap.get? c = some o → g.get? c = some o) → Q (some (.ref s.heap.objs.size)) { s with heap := g }) : wpAny (model prog w) A (pyNext (.ref z)) Q E s := by
  have ty : s.TypeIs (.ref z) "zip" := ⟨_, zz, rfl⟩
  unfold pyNext
  refine wpAny_bind (wpAny_attempt (wpAny_callSpecial?_slot (name := Str.ofString "__next__") ty F.slot_zip_next (wpAny_call_entry F.slot_zip_next ty F.entry_zip_next ?_ (F.args_zip_next_1 _))))
  exact zip_item D zz zI zO i1 i2 l1 l2 ex ey fun g b1 b2 b3 b4 b5 b6 => wpAny_pure (q g b1 b2 b3 b4 b5 b6)
theorem next_stop {z TI TO j1 j2 t1 t2 : Addr} {k : Nat} {xs ys : Array Value} {a b : Value} {Q : Option Value → Shared → Prop} (hd : A.handled = none) (D : ZipApart z TI TO j1 j2 t1 t2)
    (zz : IsZip s.heap z TI TO .none) (zI : IsPair s.heap TI (.ref j1) (.ref j2)) (zO : IsPair s.heap TO a b)
    (i1 : s.heap.IsTupleIter j1 t1 k) (i2 : s.heap.IsListIter j2 t2 k) (l1 : s.heap.IsTuple t1 xs) (l2 : s.heap.IsList t2 ys) (ee : xs[k]? = none ∨ ys[k]? = none)
    (q : ∀ g, (∀ c o, c ≠ z → c ≠ TO → c ≠ j1 → c ≠ j2 → s.heap.get? c = some o → g.get? c = some o) → Q none { s with heap := g }) : wpAny (model prog w) A (pyNext (.ref z)) Q E s := by
  have ty : s.TypeIs (.ref z) "zip" := ⟨_, zz, rfl⟩
  unfold pyNext
  refine wpAny_bind (wpAny_attempt (wpAny_callSpecial?_slot (name := Str.ofString "__next__") ty F.slot_zip_next (wpAny_call_entry F.slot_zip_next ty F.entry_zip_next ?_ (F.args_zip_next_1 _))))
  refine zip_stop hd D zz zI zO i1 i2 l1 l2 ee fun g e up ⟨oe, goe, coe⟩ => ?_
  exact wpAny_bind (wpAny_isInstance (T := "StopIteration") (b := true) ⟨oe, goe, coe⟩ isSubtype_stop (wpAny_pure (q _ up)))
end

/-! making it -/
abbrev mk1 (h : Heap) (t1 : Addr) : Heap := h.push { cls := .type "tuple_iterator", data := .fields #[.ref t1, .int 0 0] }
abbrev mk2 (h : Heap) (t1 t2 : Addr) : Heap := (mk1 h t1).push { cls := .type "list_iterator", data := .fields #[.ref t2, .int 0 0] }
abbrev mk3 (h : Heap) (t1 t2 : Addr) : Heap := (mk2 h t1 t2).push { cls := .type "tuple", data := .seq #[.ref h.objs.size, .ref (mk1 h t1).objs.size] }
abbrev mk4 (h : Heap) (t1 t2 : Addr) : Heap := (mk3 h t1 t2).push { cls := .type "tuple", data := .seq #[.none, .none] }
abbrev mk5 (h : Heap) (t1 t2 : Addr) : Heap := (mk4 h t1 t2).push { cls := .type "zip", data := .fields #[.none, .bool false, .bool false, .ref (mk2 h t1 t2).objs.size, .ref (mk3 h t1 t2).objs.size] }
theorem meets_new (t1 t2 : Addr) (xs ys : Array Value) : Meets (Builtin.«zip.__new__» ⟨[.type "zip", .ref t1, .ref t2], []⟩) (fun _ R s => s.heap.IsTuple t1 xs ∧ s.heap.IsList t2 ys ∧ R (.ok (.ret (.ref (mk4 s.heap t1 t2).objs.size))) { s with heap := mk5 s.heap t1 t2 }) :=
  .of_wp fun prog w A R s h => by
    obtain ⟨hh, gg, dd, tt, oo⟩ := s
    obtain ⟨a1, a2, h⟩ := h
    have sub := sub_zip
    have b1 : Heap.IsTuple (Shared.heap ⟨hh, gg, dd, tt, oo⟩) t1 xs := a1
    have b2 : Heap.IsList (Shared.heap ⟨mk1 hh t1, gg, dd, tt, oo⟩) t2 ys := Heap.IsList.push a2 _
    wp_walk using wpAny_pyIter_tuple b1, wpAny_pyIter_list b2
    exact ⟨_, rfl, h⟩
section
variable {prog : Program} {w : World} {A : Around} {E : Value → Shared → Prop} {s : Shared}
theorem make {t1 t2 : Addr} {xs ys : Array Value} {Q : Value → Shared → Prop} (a1 : s.heap.IsTuple t1 xs) (a2 : s.heap.IsList t2 ys)
    (q : ∀ g, IsZip g (s.heap.objs.size + 4) (s.heap.objs.size + 2) (s.heap.objs.size + 3) .none → IsPair g (s.heap.objs.size + 2) (.ref s.heap.objs.size) (.ref (s.heap.objs.size + 1)) → IsPair g (s.heap.objs.size + 3) .none .none →
      g.IsTupleIter s.heap.objs.size t1 0 → g.IsListIter (s.heap.objs.size + 1) t2 0 → (∀ c o, s.heap.get? c = some o → g.get? c = some o) → Q (.ref (s.heap.objs.size + 4)) { s with heap := g }) :
    wpAny (model prog w) A (call (.type "zip") [.ref t1, .ref t2]) Q E s := by
  refine callType_new F.called_zip (by decide) (F.typeCall_zip_2 _ _) (F.newCall_zip_2 _ _) (fun obj => F.args_object_init_3 obj _ _) F.entry_zip_new (meets_new t1 t2 xs ys) ⟨a1, a2, ?_⟩
  have n1 : (mk1 s.heap t1).objs.size = s.heap.objs.size + 1 := Heap.size_push ..
  have n2 : (mk2 s.heap t1 t2).objs.size = s.heap.objs.size + 2 := by rw [Heap.size_push, n1]
  have n3 : (mk3 s.heap t1 t2).objs.size = s.heap.objs.size + 3 := by rw [Heap.size_push, n2]
  have n4 : (mk4 s.heap t1 t2).objs.size = s.heap.objs.size + 4 := by rw [Heap.size_push, n3]
  have p5 : (mk5 s.heap t1 t2).get? (mk4 s.heap t1 t2).objs.size = some _ := Heap.get?_push_size _ rfl
  have p4 : (mk5 s.heap t1 t2).get? (mk3 s.heap t1 t2).objs.size = some _ := Heap.get?_push_of_some _ (Heap.get?_push_size _ rfl)
  have p3 : (mk5 s.heap t1 t2).get? (mk2 s.heap t1 t2).objs.size = some _ := Heap.get?_push_of_some _ (Heap.get?_push_of_some _ (Heap.get?_push_size _ rfl))
  have p2 : (mk5 s.heap t1 t2).get? (mk1 s.heap t1).objs.size = some _ := Heap.get?_push_of_some _ (Heap.get?_push_of_some _ (Heap.get?_push_of_some _ (Heap.get?_push_size _ rfl)))
  have p1 : (mk5 s.heap t1 t2).get? s.heap.objs.size = some _ := Heap.get?_push_of_some _ (Heap.get?_push_of_some _ (Heap.get?_push_of_some _ (Heap.get?_push_of_some _ (Heap.get?_push_size _ rfl))))
  show _ ∧ _
  rw [n2, n3, n4] at p5
  rw [n1, n2] at p3
  rw [n3] at p4
  rw [n1] at p2
  rw [n4]
  exact ⟨⟨_, p5, rfl⟩, q _ p5 p3 p4 ⟨_, p1, rfl, rfl⟩ ⟨_, p2, rfl, rfl⟩ fun c o y => Heap.get?_push_of_some _ (Heap.get?_push_of_some _ (Heap.get?_push_of_some _ (Heap.get?_push_of_some _ (Heap.get?_push_of_some _ y))))⟩
end
end Zm
namespace L2
open PySem PySem.Spec PyProof.Rows
/-- a tuple and a list walked side by side: each turn hands out a new pair -/
def Itm (K : PySem.W.Frag) (a b : Addr) : It :=
  ⟨fun i H => ∃ xs ys x y, SqT K H a xs ∧ SqL K H b ys ∧ xs[i]? = some x ∧ ys[i]? = some y,
   fun i H v H' => ∃ p, H p = none ∧ v = .ref p ∧ ∃ x y, H' = upd H p (.tup [x, y]) ∧ ∀ xs ys, SqT K H a xs → SqL K H b ys → xs[i]? = some x ∧ ys[i]? = some y,
   fun i H => ∃ xs ys, SqT K H a xs ∧ SqL K H b ys ∧ (xs.length ≤ i ∨ ys.length ≤ i)⟩
section
variable {X : Cx} {tg : Expr}
end
end L2

set_option Elab.async false
set_option linter.all false
set_option maxRecDepth 100000
set_option maxHeartbeats 4000000
/-! DICTS whose keys are rows of ints, in boxes. -/
namespace L2
open PySem PySem.Spec PyProof.Rows W2
section
variable {X : Cx}
end
end L2

set_option Elab.async false
set_option linter.all false
set_option maxRecDepth 100000
set_option maxHeartbeats 4000000
/-! == and != of tuples of the same scalars; list[i] += int. -/
namespace L2
open PySem PySem.Spec PyProof.Rows
section
variable {X : Cx}
end
end L2

set_option Elab.async false
set_option maxHeartbeats 4000000
/-! what becomes of powers, within so many steps -/
namespace Mth
inductive FO where
  | round (b l : Nat)
  | rests (n : Nat) (c : List Int)
  | open_
def Dst (rows : List (List Int)) (p : List Int) (k : Nat) : Prop := ∀ i j, i < j → j < k → goN rows i p ≠ goN rows j p
def FateR (rows : List (List Int)) (m : Nat) (p : List Int) : FO → Prop
  | .round b l => 1 ≤ l ∧ b + l ≤ m ∧ (∃ c, goN rows b p = some c ∧ goN rows (b + l) p = some c) ∧ Dst rows p (b + l)
  | .rests n c => n ≤ m ∧ goN rows n p = some c ∧ fstI rows c = none
  | .open_ => (∃ c, goN rows (m + 1) p = some c) ∧ Dst rows p (m + 1)
theorem goN_shift {rows : List (List Int)} {p : List Int} {a b : Nat} (h : goN rows a p = goN rows b p) : ∀ k, goN rows (a + k) p = goN rows (b + k) p
  | 0 => h
  | k + 1 => by
    show (goN rows (a + k) p).bind (stp rows) = (goN rows (b + k) p).bind (stp rows)
    rw [goN_shift h k]
/-- where they come to the same again they never rest -/
theorem no_rest {rows : List (List Int)} {p c : List Int} {a b n : Nat} (hab : a < b) (h : goN rows a p = goN rows b p) (hb : b ≤ n) (hn : goN rows n p = some c) (hf : fstI rows c = none) : False := by
  have e := goN_shift h (n - b)
  rw [show b + (n - b) = n by omega, hn] at e
  have := goN_uniq e hf hn hf
  omega
theorem FateR.uniq {rows : List (List Int)} {m : Nat} {p : List Int} : ∀ {x y : FO}, FateR rows m p x → FateR rows m p y → x = y
  | .round b l, .round b' l', ⟨h1, h2, ⟨c, h3, h4⟩, h5⟩, ⟨g1, g2, ⟨d, g3, g4⟩, g5⟩ => by
    have k1 : ¬ b + l < b' + l' := fun z => g5 b (b + l) (by omega) z (by rw [h3, h4])
    have k2 : ¬ b' + l' < b + l := fun z => h5 b' (b' + l') (by omega) z (by rw [g3, g4])
    have k3 : b + l = b' + l' := by omega
    rw [k3, g4] at h4
    cases h4
    have k4 : ¬ b < b' := fun z => g5 b b' z (by omega) (by rw [h3, g3])
    have k5 : ¬ b' < b := fun z => h5 b' b z (by omega) (by rw [h3, g3])
    have : b = b' := by omega
    subst this
    have : l = l' := by omega
    rw [this]
  | .round b l, .rests n c, ⟨h1, h2, ⟨c', h3, h4⟩, h5⟩, ⟨g1, g2, g3⟩ => (no_rest (a := b) (b := b + l) (by omega) (by rw [h3, h4]) (goN_restLt g2 g3 h4) g2 g3).elim
  | .rests n c, .round b l, ⟨g1, g2, g3⟩, ⟨h1, h2, ⟨c', h3, h4⟩, h5⟩ => (no_rest (a := b) (b := b + l) (by omega) (by rw [h3, h4]) (goN_restLt g2 g3 h4) g2 g3).elim
  | .round b l, .open_, ⟨h1, h2, ⟨c', h3, h4⟩, h5⟩, ⟨_, g⟩ => (g b (b + l) (by omega) (by omega) (by rw [h3, h4])).elim
  | .open_, .round b l, ⟨_, g⟩, ⟨h1, h2, ⟨c', h3, h4⟩, h5⟩ => (g b (b + l) (by omega) (by omega) (by rw [h3, h4])).elim
  | .rests n c, .rests n' c', ⟨h1, h2, h3⟩, ⟨g1, g2, g3⟩ => by
    have := goN_uniq h2 h3 g2 g3
    subst this
    rw [h2] at g2
    cases g2
    rfl
  | .rests n c, .open_, ⟨h1, h2, h3⟩, ⟨⟨d, g⟩, _⟩ => by
    have := goN_restLt h2 h3 g
    omega
  | .open_, .rests n c, ⟨⟨d, g⟩, _⟩, ⟨h1, h2, h3⟩ => by
    have := goN_restLt h2 h3 g
    omega
  | .open_, .open_, _, _ => rfl
end Mth

set_option Elab.async false
set_option linter.all false
set_option maxRecDepth 100000
set_option maxHeartbeats 4000000
namespace Mth
end Mth
namespace W2
open PySem L2 Mth
end W2

set_option Elab.async false
set_option linter.all false
set_option maxRecDepth 100000
set_option maxHeartbeats 4000000
/-! name = [comprehension], stored ahead of the comprehension's own names being let go -/
namespace L2
open PySem PySem.Spec PyProof.Rows
end L2

set_option Elab.async false
set_option linter.all false
set_option maxRecDepth 100000
set_option maxHeartbeats 4000000
/-! ZIP of three tuples, walked; the first is not longer than the others. -/
namespace Z3
open PySem PyProof.Rows Zt
abbrev IsTri (h : Heap) (T : Addr) (a b c : Value) : Prop := h.get? T = some { cls := .type "tuple", data := .seq #[a, b, c] }
theorem nn' {n k m : Nat} (h : k ≠ m) : n + k ≠ n + m := by omega
theorem nk {n k : Nat} (h : 0 < k) : n ≠ n + k := by omega
theorem kn {n k : Nat} (h : 0 < k) : n + k ≠ n := by omega
theorem tl {t n k : Nat} (h : t < n) : t ≠ n + k := by omega
section
variable {prog : Program} {w : World} {A : Around} {E : Value → Shared → Prop} {s : Shared}
theorem upd3 {T : Addr} {a b c x : Value} {k : Nat} {Q : Unit → Shared → Prop} (hT : IsTri s.heap T a b c)
    (h : ∀ h', h'.get? T = some { cls := .type "tuple", data := .seq ((#[a, b, c] : Array Value).setIfInBounds k x) } → Heap.SameBut T s.heap h' → Q () { s with heap := h' }) :
    wpAny (model prog w) A (updateSeq T (·.setIfInBounds k x)) Q E s := by
  refine wpAny_updateSeq hT rfl (h _ ?_ (Heap.SameBut.update ..))
  rw [Heap.get?_update_self _ hT rfl]
  simp [Obj.mapSeq]
theorem zip_item {n t1 t2 t3 : Addr} {k : Nat} {xs ys zs : Array Value} {x y v a b c : Value} {Q : Value → Shared → Prop} (L1 : t1 < n) (L2 : t2 < n) (L3 : t3 < n)
    (zz : IsZip s.heap (n + 5) (n + 3) (n + 4) .none) (zI : IsTri s.heap (n + 3) (.ref n) (.ref (n + 1)) (.ref (n + 2))) (zO : IsTri s.heap (n + 4) a b c)
    (i1 : s.heap.IsTupleIter n t1 k) (i2 : s.heap.IsTupleIter (n + 1) t2 k) (i3 : s.heap.IsTupleIter (n + 2) t3 k) (l1 : s.heap.IsTuple t1 xs) (l2 : s.heap.IsTuple t2 ys) (l3 : s.heap.IsTuple t3 zs) (ex : xs[k]? = some x) (ey : ys[k]? = some y) (ez : zs[k]? = some v)
    (q : ∀ g, IsZip g (n + 5) (n + 3) (n + 4) (rawInt s.heap.objs.size) → IsTri g (n + 4) x y v → g.IsTupleIter n t1 (k + 1) → g.IsTupleIter (n + 1) t2 (k + 1) → g.IsTupleIter (n + 2) t3 (k + 1) → IsTri g s.heap.objs.size x y v →
      (∀ c o, c ≠ n + 5 → c ≠ n + 4 → c ≠ n → c ≠ n + 1 → c ≠ n + 2 → s.heap.get? c = some o → g.get? c = some o) → Q (.ref s.heap.objs.size) { s with heap := g }) :
    wpAny (model prog w) A (Builtin.«zip.__next__» ⟨[.ref (n + 5)], []⟩) (fun fin s' => ∃ v, fin = .done (.ret v) ∧ Q v s') E s := by
  show wpAny _ _ (field (.ref (n + 5)) 2 >>= _) _ _ _
  refine wpAny_bind (wpAny_field zz rfl (x := .bool false) rfl ?_)
  show wpAny _ _ (field (.ref (n + 5)) 3 >>= _) _ _ _
  refine wpAny_bind (wpAny_field zz rfl (x := .ref (n + 3)) rfl (wpAny_bind (wpAny_seqItems zI rfl ?_)))
  show wpAny _ _ (Builtin.SmallTypes.ownedTupleIsFree (.ref (n + 5)) >>= _) _ _ _
  refine wpAny_bind ?_
  unfold Builtin.SmallTypes.ownedTupleIsFree
  refine wpAny_bind (wpAny_field zz rfl (x := .none) rfl (wpAny_pure ?_))
  simp only [if_true]
  refine wpAny_bind (wpAny_rule (wpAny_bind (wpAny_field zz rfl (x := .ref (n + 4)) rfl (wpAny_bind (wpAny_setField_rec zz (by simp) fun g1 zz1 s1 => ?_)))))
  replace zz1 : IsZip g1 (n + 5) (n + 3) (n + 4) .ellipsis := zz1
  refine wpAny_bind ?_
  simp only [List.zipIdx_cons, List.zipIdx_nil, List.forIn_cons, List.forIn_nil]
  -- the first
  refine wpAny_bind (wpAny_bind (wpAny_onRaise ?_))
  show wpAny _ _ (Builtin.SmallTypes.nextOf (.ref n) >>= _) _ _ _
  refine wpAny_bind (pull (i1.extBut s1.extBut (nk (by decide))) (l1.extBut s1.extBut (tl L1)) ex fun g2 i1' s2 => wpAny_pure ?_)
  have zO2 : IsTri g2 (n + 4) a b c := s2.extBut _ _ (kn (by decide)) (s1.extBut _ _ (nn' (by decide)) zO)
  refine wpAny_bind (wpAny_seqItems zO2 rfl (wpAny_bind (upd3 zO2 fun g3 zO3 s3 => ?_)))
  replace zO3 : IsTri g3 (n + 4) x b c := zO3
  -- the second
  refine wpAny_bind (wpAny_letGo (wpAny_pure (wpAny_bind (wpAny_bind (wpAny_onRaise ?_)))))
  show wpAny _ _ (Builtin.SmallTypes.nextOf (.ref (n + 1)) >>= _) _ _ _
  have i2' := ((i2.extBut s1.extBut (nn' (by decide))).extBut s2.extBut (kn (by decide))).extBut s3.extBut (nn' (by decide))
  have l2' := ((l2.extBut s1.extBut (tl L2)).extBut s2.extBut (Nat.ne_of_lt L2)).extBut s3.extBut (tl L2)
  refine wpAny_bind (pull i2' l2' ey fun g4 i2'' s4 => wpAny_pure ?_)
  have zO4 : IsTri g4 (n + 4) x b c := s4.extBut _ _ (nn' (by decide)) zO3
  refine wpAny_bind (wpAny_seqItems zO4 rfl (wpAny_bind (upd3 zO4 fun g5 zO5 s5 => ?_)))
  replace zO5 : IsTri g5 (n + 4) x y c := zO5
  -- the third
  refine wpAny_bind (wpAny_letGo (wpAny_pure (wpAny_bind (wpAny_bind (wpAny_onRaise ?_)))))
  show wpAny _ _ (Builtin.SmallTypes.nextOf (.ref (n + 2)) >>= _) _ _ _
  have i3' := ((((i3.extBut s1.extBut (nn' (by decide))).extBut s2.extBut (kn (by decide))).extBut s3.extBut (nn' (by decide))).extBut s4.extBut (nn' (by decide))).extBut s5.extBut (nn' (by decide))
  have l3' := ((((l3.extBut s1.extBut (tl L3)).extBut s2.extBut (Nat.ne_of_lt L3)).extBut s3.extBut (tl L3)).extBut s4.extBut (tl L3)).extBut s5.extBut (tl L3)
  refine wpAny_bind (pull i3' l3' ez fun g6 i3'' s6 => wpAny_pure ?_)
  have zO6 : IsTri g6 (n + 4) x y c := s6.extBut _ _ (nn' (by decide)) zO5
  refine wpAny_bind (wpAny_seqItems zO6 rfl (wpAny_bind (upd3 zO6 fun g7 zO7 s7 => ?_)))
  replace zO7 : IsTri g7 (n + 4) x y v := zO7
  refine wpAny_bind (wpAny_letGo (wpAny_pure (wpAny_pure (wpAny_bind (wpAny_seqItems zO7 rfl (wpAny_bind (wpAny_newTuple ?_)))))))
  have sz : g7.objs.size = s.heap.objs.size := by rw [s7.1, s6.1, s5.1, s4.1, s3.1, s2.1, s1.1]
  have zz7 : IsZip g7 (n + 5) (n + 3) (n + 4) .ellipsis := s7.extBut _ _ (nn' (by decide)) (s6.extBut _ _ (nn' (by decide)) (s5.extBut _ _ (nn' (by decide)) (s4.extBut _ _ (nn' (by decide)) (s3.extBut _ _ (nn' (by decide)) (s2.extBut _ _ (kn (by decide)) zz1)))))
  have up7 : ∀ c o, c ≠ n + 5 → c ≠ n + 4 → c ≠ n → c ≠ n + 1 → c ≠ n + 2 → s.heap.get? c = some o → g7.get? c = some o := fun c o e5 e4 e0 e1 e2 q' =>
    s7.extBut _ _ e4 (s6.extBut _ _ e2 (s5.extBut _ _ e4 (s4.extBut _ _ e1 (s3.extBut _ _ e4 (s2.extBut _ _ e0 (s1.extBut _ _ e5 q'))))))
  have j17 : g7.IsTupleIter n t1 (k + 1) := ((((i1'.extBut s3.extBut (nk (by decide))).extBut s4.extBut (nk (by decide))).extBut s5.extBut (nk (by decide))).extBut s6.extBut (nk (by decide))).extBut s7.extBut (nk (by decide))
  have j27 : g7.IsTupleIter (n + 1) t2 (k + 1) := ((i2''.extBut s5.extBut (nn' (by decide))).extBut s6.extBut (nn' (by decide))).extBut s7.extBut (nn' (by decide))
  have j37 : g7.IsTupleIter (n + 2) t3 (k + 1) := i3''.extBut s7.extBut (nn' (by decide))
  have zlt : n + 5 < g7.objs.size := Heap.lt_size zz7
  show wpAny _ _ (Builtin.SmallTypes.ownedTupleHandOut (.ref (n + 5)) (.ref g7.objs.size) >>= _) _ _ _
  refine wpAny_bind ?_
  unfold Builtin.SmallTypes.ownedTupleHandOut
  have zz8 : IsZip (g7.push { cls := .type "tuple", data := .seq #[x, y, v] }) (n + 5) (n + 3) (n + 4) .ellipsis := Heap.get?_push_of_some _ zz7
  refine wpAny_bind (wpAny_setField_rec zz8 (by simp) fun g9 zz9 s9 => ?_)
  replace zz9 : IsZip g9 (n + 5) (n + 3) (n + 4) (rawInt g7.objs.size) := zz9
  refine wpAny_setField_rec zz9 (by simp) fun gA zzA sA => ?_
  replace zzA : IsZip gA (n + 5) (n + 3) (n + 4) (rawInt g7.objs.size) := zzA
  have upA : ∀ c o, c ≠ n + 5 → g7.get? c = some o → gA.get? c = some o := fun c o n1 q' => sA.extBut _ _ n1 (s9.extBut _ _ n1 (Heap.get?_push_of_some _ q'))
  have newA : IsTri gA g7.objs.size x y v := sA.extBut _ _ (Nat.ne_of_gt zlt) (s9.extBut _ _ (Nat.ne_of_gt zlt) (Heap.get?_push_size _ rfl))
  rw [sz] at zzA newA
  refine wpAny_pure ⟨_, rfl, ?_⟩
  show Q (.ref g7.objs.size) _
  rw [sz]
  refine q gA zzA (upA _ _ (nn' (by decide)) zO7) ?_ ?_ ?_ newA fun c o e5 e4 e0 e1 e2 q' => upA c o e5 (up7 c o e5 e4 e0 e1 e2 q')
  · obtain ⟨o, e, r⟩ := j17
    exact ⟨o, upA _ _ (nk (by decide)) e, r⟩
  · obtain ⟨o, e, r⟩ := j27
    exact ⟨o, upA _ _ (nn' (by decide)) e, r⟩
  · obtain ⟨o, e, r⟩ := j37
    exact ⟨o, upA _ _ (nn' (by decide)) e, r⟩
theorem zip_stop {n t1 : Addr} {k : Nat} {xs : Array Value} {a b c : Value} {Q : Fin → Shared → Prop} (hd : A.handled = none) (L1 : t1 < n)
    (zz : IsZip s.heap (n + 5) (n + 3) (n + 4) .none) (zI : IsTri s.heap (n + 3) (.ref n) (.ref (n + 1)) (.ref (n + 2)))
    (i1 : s.heap.IsTupleIter n t1 k) (l1 : s.heap.IsTuple t1 xs) (ex : xs[k]? = none)
    (q : ∀ g e, (∀ c o, c ≠ n + 5 → c ≠ n + 4 → c ≠ n → c ≠ n + 1 → c ≠ n + 2 → s.heap.get? c = some o → g.get? c = some o) → (∃ o, g.get? e = some o ∧ o.cls = .type "StopIteration") → E (.ref e) { s with heap := g }) :
    wpAny (model prog w) A (Builtin.«zip.__next__» ⟨[.ref (n + 5)], []⟩) Q E s := by
  show wpAny _ _ (field (.ref (n + 5)) 2 >>= _) _ _ _
  refine wpAny_bind (wpAny_field zz rfl (x := .bool false) rfl ?_)
  show wpAny _ _ (field (.ref (n + 5)) 3 >>= _) _ _ _
  refine wpAny_bind (wpAny_field zz rfl (x := .ref (n + 3)) rfl (wpAny_bind (wpAny_seqItems zI rfl ?_)))
  show wpAny _ _ (Builtin.SmallTypes.ownedTupleIsFree (.ref (n + 5)) >>= _) _ _ _
  refine wpAny_bind ?_
  unfold Builtin.SmallTypes.ownedTupleIsFree
  refine wpAny_bind (wpAny_field zz rfl (x := .none) rfl (wpAny_pure ?_))
  simp only [if_true]
  refine wpAny_bind (wpAny_rule (wpAny_bind (wpAny_field zz rfl (x := .ref (n + 4)) rfl (wpAny_bind (wpAny_setField_rec zz (by simp) fun g1 zz1 s1 => ?_)))))
  replace zz1 : IsZip g1 (n + 5) (n + 3) (n + 4) .ellipsis := zz1
  refine wpAny_bind ?_
  simp only [List.zipIdx_cons, List.zipIdx_nil, List.forIn_cons, List.forIn_nil]
  refine wpAny_bind (wpAny_bind (wpAny_onRaise ?_))
  show wpAny _ _ (Builtin.SmallTypes.nextOf (.ref n) >>= _) _ _ _
  refine wpAny_bind (pull_end hd (i1.extBut s1.extBut (nk (by decide))) (l1.extBut s1.extBut (tl L1)) ex fun g2 e s2 ⟨oe, goe, coe⟩ => ?_)
  have zz2 : IsZip g2 (n + 5) (n + 3) (n + 4) .ellipsis := s2 _ _ (kn (by decide)) zz1
  have nez : e ≠ n + 5 := fun y => by
    subst y
    rw [zz2] at goe
    cases goe
    simp at coe
  exact wpAny_setField_rec zz2 (by simp) fun g3 _ s3 => q g3 e (fun c o n1 _ n3 _ _ y => s3.extBut _ _ n1 (s2 _ _ n3 (s1.extBut _ _ n1 y))) ⟨oe, s3.extBut _ _ nez goe, coe⟩
theorem next_item {n t1 t2 t3 : Addr} {k : Nat} {xs ys zs : Array Value} {x y v a b c : Value} {Q : Option Value → Shared → Prop} (L1 : t1 < n) (L2 : t2 < n) (L3 : t3 < n)
    (zz : IsZip s.heap (n + 5) (n + 3) (n + 4) .none) (zI : IsTri s.heap (n + 3) (.ref n) (.ref (n + 1)) (.ref (n + 2))) (zO : IsTri s.heap (n + 4) a b c)
    (i1 : s.heap.IsTupleIter n t1 k) (i2 : s.heap.IsTupleIter (n + 1) t2 k) (i3 : s.heap.IsTupleIter (n + 2) t3 k) (l1 : s.heap.IsTuple t1 xs) (l2 : s.heap.IsTuple t2 ys) (l3 : s.heap.IsTuple t3 zs) (ex : xs[k]? = some x) (ey : ys[k]? = some y) (ez : zs[k]? = some v)
    (q : ∀ g, IsZip g (n + 5) (n + 3) (n + 4) (rawInt s.heap.objs.size) → IsTri g (n + 4) x y v → g.IsTupleIter n t1 (k + 1) → g.IsTupleIter (n + 1) t2 (k + 1) → g.IsTupleIter (n + 2) t3 (k + 1) → IsTri g s.heap.objs.size x y v →
      (∀ c o, c ≠ n + 5 → c ≠ n + 4 → c ≠ n → c ≠ n + 1 → c ≠ n + 2 → s.heap.get? c = some o → g.get? c = some o) → Q (some (.ref s.heap.objs.size)) { s with heap := g }) : wpAny (model prog w) A (pyNext (.ref (n + 5))) Q E s := by
  have ty : s.TypeIs (.ref (n + 5)) "zip" := ⟨_, zz, rfl⟩
  unfold pyNext
  refine wpAny_bind (wpAny_attempt (wpAny_callSpecial?_slot (name := Str.ofString "__next__") ty F.slot_zip_next (wpAny_call_entry F.slot_zip_next ty F.entry_zip_next ?_ (F.args_zip_next_1 _))))
  exact zip_item L1 L2 L3 zz zI zO i1 i2 i3 l1 l2 l3 ex ey ez fun g b1 b2 b3 b4 b5 b6 b7 => wpAny_pure (q g b1 b2 b3 b4 b5 b6 b7)
theorem next_stop {n t1 : Addr} {k : Nat} {xs : Array Value} {a b c : Value} {Q : Option Value → Shared → Prop} (hd : A.handled = none) (L1 : t1 < n)
    (zz : IsZip s.heap (n + 5) (n + 3) (n + 4) .none) (zI : IsTri s.heap (n + 3) (.ref n) (.ref (n + 1)) (.ref (n + 2)))
    (i1 : s.heap.IsTupleIter n t1 k) (l1 : s.heap.IsTuple t1 xs) (ex : xs[k]? = none)
    (q : ∀ g, (∀ c o, c ≠ n + 5 → c ≠ n + 4 → c ≠ n → c ≠ n + 1 → c ≠ n + 2 → s.heap.get? c = some o → g.get? c = some o) → Q none { s with heap := g }) : wpAny (model prog w) A (pyNext (.ref (n + 5))) Q E s := by
  have ty : s.TypeIs (.ref (n + 5)) "zip" := ⟨_, zz, rfl⟩
  unfold pyNext
  refine wpAny_bind (wpAny_attempt (wpAny_callSpecial?_slot (name := Str.ofString "__next__") ty F.slot_zip_next (wpAny_call_entry F.slot_zip_next ty F.entry_zip_next ?_ (F.args_zip_next_1 _))))
  refine zip_stop (a := a) (b := b) (c := c) hd L1 zz zI i1 l1 ex fun g e up ⟨oe, goe, coe⟩ => ?_
  exact wpAny_bind (wpAny_isInstance (T := "StopIteration") (b := true) ⟨oe, goe, coe⟩ isSubtype_stop (wpAny_pure (q _ up)))
end
/-! making it -/
theorem typeCall_zip_3 (a b c : Value) : checkTypeCall "zip" ⟨[a, b, c], []⟩ = pure () := by kernel_rfl
theorem newCall_zip_3 (a b c : Value) : checkBuiltinCall "zip.__new__" ⟨[.type "zip", a, b, c], []⟩ = pure () := by kernel_rfl
theorem args_object_init_4 (a b c d : Value) : argsOk "object.__init__" ⟨[a, b, c, d], []⟩ := by
  unfold argsOk; rw [signature?_of (id := "object.__init__") (n := ['_', '_', 't', 'i', 'n', 'i', '_', '_']) (o := ['t', 'c', 'e', 'j', 'b', 'o']) (by kernel_rfl) F.owner_object]; kernel_rfl
abbrev it1 (h : Heap) (t : Addr) : Heap := h.push { cls := .type "tuple_iterator", data := .fields #[.ref t, .int 0 0] }
abbrev mk3 (h : Heap) (t1 t2 t3 : Addr) : Heap := it1 (it1 (it1 h t1) t2) t3
abbrev mk4 (h : Heap) (t1 t2 t3 : Addr) : Heap := (mk3 h t1 t2 t3).push { cls := .type "tuple", data := .seq #[.ref h.objs.size, .ref (it1 h t1).objs.size, .ref (it1 (it1 h t1) t2).objs.size] }
abbrev mk5 (h : Heap) (t1 t2 t3 : Addr) : Heap := (mk4 h t1 t2 t3).push { cls := .type "tuple", data := .seq #[.none, .none, .none] }
abbrev mk6 (h : Heap) (t1 t2 t3 : Addr) : Heap := (mk5 h t1 t2 t3).push { cls := .type "zip", data := .fields #[.none, .bool false, .bool false, .ref (mk3 h t1 t2 t3).objs.size, .ref (mk4 h t1 t2 t3).objs.size] }
theorem meets_new (t1 t2 t3 : Addr) (xs ys zs : Array Value) : Meets (Builtin.«zip.__new__» ⟨[.type "zip", .ref t1, .ref t2, .ref t3], []⟩) (fun _ R s => s.heap.IsTuple t1 xs ∧ s.heap.IsTuple t2 ys ∧ s.heap.IsTuple t3 zs ∧ R (.ok (.ret (.ref (mk5 s.heap t1 t2 t3).objs.size))) { s with heap := mk6 s.heap t1 t2 t3 }) :=
  .of_wp fun prog w A R s h => by
    obtain ⟨hh, gg, dd, tt, oo⟩ := s
    obtain ⟨a1, a2, a3, h⟩ := h
    have sub := sub_zip
    have b1 : Heap.IsTuple (Shared.heap ⟨hh, gg, dd, tt, oo⟩) t1 xs := a1
    have b2 : Heap.IsTuple (Shared.heap ⟨it1 hh t1, gg, dd, tt, oo⟩) t2 ys := Heap.IsTuple.push a2 _
    have b3 : Heap.IsTuple (Shared.heap ⟨it1 (it1 hh t1) t2, gg, dd, tt, oo⟩) t3 zs := Heap.IsTuple.push (Heap.IsTuple.push a3 _) _
    wp_walk using wpAny_pyIter_tuple b1, wpAny_pyIter_tuple b2, wpAny_pyIter_tuple b3
    exact ⟨_, rfl, h⟩
section
variable {prog : Program} {w : World} {A : Around} {E : Value → Shared → Prop} {s : Shared}
theorem make {t1 t2 t3 : Addr} {xs ys zs : Array Value} {Q : Value → Shared → Prop} (a1 : s.heap.IsTuple t1 xs) (a2 : s.heap.IsTuple t2 ys) (a3 : s.heap.IsTuple t3 zs)
    (q : ∀ g, IsZip g (s.heap.objs.size + 5) (s.heap.objs.size + 3) (s.heap.objs.size + 4) .none → IsTri g (s.heap.objs.size + 3) (.ref s.heap.objs.size) (.ref (s.heap.objs.size + 1)) (.ref (s.heap.objs.size + 2)) → IsTri g (s.heap.objs.size + 4) .none .none .none →
      g.IsTupleIter s.heap.objs.size t1 0 → g.IsTupleIter (s.heap.objs.size + 1) t2 0 → g.IsTupleIter (s.heap.objs.size + 2) t3 0 → (∀ c o, s.heap.get? c = some o → g.get? c = some o) → Q (.ref (s.heap.objs.size + 5)) { s with heap := g }) :
    wpAny (model prog w) A (call (.type "zip") [.ref t1, .ref t2, .ref t3]) Q E s := by
  refine callType_new F.called_zip (by decide) (typeCall_zip_3 _ _ _) (newCall_zip_3 _ _ _) (fun obj => args_object_init_4 obj _ _ _) F.entry_zip_new (meets_new t1 t2 t3 xs ys zs) ⟨a1, a2, a3, ?_⟩
  have n1 : (it1 s.heap t1).objs.size = s.heap.objs.size + 1 := Heap.size_push ..
  have n2 : (it1 (it1 s.heap t1) t2).objs.size = s.heap.objs.size + 2 := by rw [Heap.size_push, n1]
  have n3 : (mk3 s.heap t1 t2 t3).objs.size = s.heap.objs.size + 3 := by rw [Heap.size_push, n2]
  have n4 : (mk4 s.heap t1 t2 t3).objs.size = s.heap.objs.size + 4 := by rw [Heap.size_push, n3]
  have n5 : (mk5 s.heap t1 t2 t3).objs.size = s.heap.objs.size + 5 := by rw [Heap.size_push, n4]
  have p6 : (mk6 s.heap t1 t2 t3).get? (mk5 s.heap t1 t2 t3).objs.size = some _ := Heap.get?_push_size _ rfl
  have p5 : (mk6 s.heap t1 t2 t3).get? (mk4 s.heap t1 t2 t3).objs.size = some _ := Heap.get?_push_of_some _ (Heap.get?_push_size _ rfl)
  have p4 : (mk6 s.heap t1 t2 t3).get? (mk3 s.heap t1 t2 t3).objs.size = some _ := Heap.get?_push_of_some _ (Heap.get?_push_of_some _ (Heap.get?_push_size _ rfl))
  have p3 : (mk6 s.heap t1 t2 t3).get? (it1 (it1 s.heap t1) t2).objs.size = some _ := Heap.get?_push_of_some _ (Heap.get?_push_of_some _ (Heap.get?_push_of_some _ (Heap.get?_push_size _ rfl)))
  have p2 : (mk6 s.heap t1 t2 t3).get? (it1 s.heap t1).objs.size = some _ := Heap.get?_push_of_some _ (Heap.get?_push_of_some _ (Heap.get?_push_of_some _ (Heap.get?_push_of_some _ (Heap.get?_push_size _ rfl))))
  have p1 : (mk6 s.heap t1 t2 t3).get? s.heap.objs.size = some _ := Heap.get?_push_of_some _ (Heap.get?_push_of_some _ (Heap.get?_push_of_some _ (Heap.get?_push_of_some _ (Heap.get?_push_of_some _ (Heap.get?_push_size _ rfl)))))
  show _ ∧ _
  rw [n3, n4, n5] at p6
  rw [n1, n2, n3] at p4
  rw [n4] at p5
  rw [n2] at p3
  rw [n1] at p2
  rw [n5]
  exact ⟨⟨_, p6, rfl⟩, q _ p6 p4 p5 ⟨_, p1, rfl, rfl⟩ ⟨_, p2, rfl, rfl⟩ ⟨_, p3, rfl, rfl⟩ fun c o y => Heap.get?_push_of_some _ (Heap.get?_push_of_some _ (Heap.get?_push_of_some _ (Heap.get?_push_of_some _ (Heap.get?_push_of_some _ (Heap.get?_push_of_some _ y)))))⟩
end
end Z3

set_option Elab.async false
set_option linter.all false
set_option maxRecDepth 100000
set_option maxHeartbeats 4000000
namespace L2
open PySem PySem.Spec PyProof.Rows Z3
/-- three tuples walked side by side: each turn hands out a new triple -/
def It3 (K : PySem.W.Frag) (a b c : Addr) : It :=
  ⟨fun i H => ∃ xs ys zs x y v, SqT K H a xs ∧ SqT K H b ys ∧ SqT K H c zs ∧ xs[i]? = some x ∧ ys[i]? = some y ∧ zs[i]? = some v,
   fun i H w H' => ∃ p, H p = none ∧ w = .ref p ∧ ∃ x y v, H' = upd H p (.tup [x, y, v]) ∧ ∀ xs ys zs, SqT K H a xs → SqT K H b ys → SqT K H c zs → xs[i]? = some x ∧ ys[i]? = some y ∧ zs[i]? = some v,
   fun i H => ∃ xs, SqT K H a xs ∧ xs.length ≤ i⟩
theorem turn_zip3 {P : Program} {w : World} {K : PySem.W.Frag} {tg : Expr} (htg : tupleTg tg = true) {n a b c : Addr} (L1 : a < n) (L2 : b < n) (L3 : c < n) :
    Turn P w K tg (It3 K a b c) [n + 5, n + 4, n, n + 1, n + 2, n + 3] (n + 5) (fun i h => IsZip h (n + 5) (n + 3) (n + 4) .none ∧ IsTri h (n + 3) (.ref n) (.ref (n + 1)) (.ref (n + 2)) ∧ (∃ u v w, IsTri h (n + 4) u v w) ∧ h.IsTupleIter n a i ∧ h.IsTupleIter (n + 1) b i ∧ h.IsTupleIter (n + 2) c i) where
  mem := List.mem_cons_self
  obj := fun i h st c' hc => by
    obtain ⟨h1, h2, ⟨u, v, w', h3⟩, ⟨o4, h4, _, d4⟩, ⟨o5, h5, _, d5⟩, ⟨o6, h6, _, d6⟩⟩ := st
    have nof : ∀ {o : Obj} {vs : Array Value}, o.data = .fields vs → ∀ v, o.data ≠ .cell v := fun e v q => by rw [e] at q; cases q
    have nos : ∀ {o : Obj} {vs : Array Value} {n : Nat}, o.data = .seq vs n → ∀ v, o.data ≠ .cell v := fun e v q => by rw [e] at q; cases q
    simp only [List.mem_cons, List.not_mem_nil, or_false] at hc
    rcases hc with rfl | rfl | rfl | rfl | rfl | rfl
    · exact ⟨_, h1, nof rfl⟩
    · exact ⟨_, h3, nos rfl⟩
    · exact ⟨_, h4, nof d4⟩
    · exact ⟨_, h5, nof d5⟩
    · exact ⟨_, h6, nof d6⟩
    · exact ⟨_, h2, nos rfl⟩
  keep := fun i h h' st k => by
    obtain ⟨h1, h2, ⟨u, v, w', h3⟩, ⟨o4, h4, r4⟩, ⟨o5, h5, r5⟩, ⟨o6, h6, r6⟩⟩ := st
    exact ⟨k _ (by simp) _ h1, k _ (by simp) _ h2, ⟨u, v, w', k _ (by simp) _ h3⟩, ⟨o4, k _ (by simp) _ h4, r4⟩, ⟨o5, k _ (by simp) _ h5, r5⟩, ⟨o6, k _ (by simp) _ h6, r6⟩⟩
  item := by
    intro X hP hw hK hc i pins s σ H E I hf st hg
    subst hP hw hK
    obtain ⟨h1, h2, ⟨u, v, w', h3⟩, h4, h5, h6⟩ := st
    obtain ⟨xs, ys, zs, x, y, z, qa, qb, qc, hx, hy, hz⟩ := hg
    obtain ⟨its, rv, pa, _⟩ := I.tuple qa
    obtain ⟨jts, rw', pb, _⟩ := I.tuple qb
    obtain ⟨kts, rz', pc, _⟩ := I.tuple qc
    obtain ⟨ux, eux, rux⟩ := rv.get hx
    obtain ⟨uy, euy, ruy⟩ := rw'.get hy
    obtain ⟨uz, euz, ruz⟩ := rz'.get hz
    refine Z3.next_item L1 L2 L3 h1 h2 h3 h4 h5 h6 (show s.heap.IsTuple a its.toArray from pa) (show s.heap.IsTuple b jts.toArray from pb) (show s.heap.IsTuple c kts.toArray from pc) (x := ux) (y := uy) (v := uz) (by simpa using eux) (by simpa using euy) (by simpa using euz) fun g b1 b2 b3 b4 b5 b6 b7 => ?_
    refine ⟨_, rfl, ?_⟩
    have zlt : n + 5 < s.heap.objs.size := Heap.lt_size h1
    cases tg with
    | Tuple es kk pp =>
      refine wpAny_letOwnedTupleGo_zip b1 fun g' c1 sb => ?_
      have new : IsTri g' s.heap.objs.size ux uy uz := sb.extBut _ _ (Nat.ne_of_gt zlt) b6
      have I1 : Inv X pins σ (upd H s.heap.objs.size (.tup [x, y, z])) { s with heap := g' } := by
        refine I.turnedNew (t' := s.toks) (L := [n + 5, n + 4, n, n + 1, n + 2, n + 3]) (fun c o hcn e => ?_) hf (Nat.le_refl _) ⟨by show 3 ≤ sizeLine; decide, [ux, uy, uz], .cons rux (.cons ruy (.cons ruz .nil)), ⟨_, new, rfl, ⟨0, rfl⟩, rfl⟩⟩
        simp only [List.mem_cons, List.not_mem_nil, or_false, not_or] at hcn
        exact sb.extBut c o hcn.1 (b7 c o hcn.1 hcn.2.1 hcn.2.2.1 hcn.2.2.2.1 hcn.2.2.2.2.1 e)
      have h2' : IsTri g' (n + 3) (.ref n) (.ref (n + 1)) (.ref (n + 2)) := sb.extBut _ _ (nn' (by decide)) (b7 _ _ (nn' (by decide)) (nn' (by decide)) (kn (by decide)) (nn' (by decide)) (nn' (by decide)) h2)
      refine ⟨.ref s.heap.objs.size, _, I1, rfl, ⟨_, I.fresh, rfl, x, y, z, rfl, fun xs' ys' zs' q1 q2 q3 => ⟨by rw [I.tuple_inj q1 qa]; exact hx, by rw [I.tuple_inj q2 qb]; exact hy, by rw [I.tuple_inj q3 qc]; exact hz⟩⟩, ⟨c1, h2', ⟨_, _, _, sb.extBut _ _ (nn' (by decide)) b2⟩, b3.extBut sb.extBut (nk (by decide)), b4.extBut sb.extBut (nn' (by decide)), b5.extBut sb.extBut (nn' (by decide))⟩, fun c hcm => ?_⟩
      obtain ⟨o, eo, _⟩ : ∃ o, s.heap.get? c = some o ∧ True := by
        simp only [List.mem_cons, List.not_mem_nil, or_false] at hcm
        rcases hcm with rfl | rfl | rfl | rfl | rfl | rfl
        · exact ⟨_, h1, trivial⟩
        · exact ⟨_, h3, trivial⟩
        · obtain ⟨o4, g4, _⟩ := h4
          exact ⟨_, g4, trivial⟩
        · obtain ⟨o5, g5, _⟩ := h5
          exact ⟨_, g5, trivial⟩
        · obtain ⟨o6, g6, _⟩ := h6
          exact ⟨_, g6, trivial⟩
        · exact ⟨_, h2, trivial⟩
      rw [upd_ne (Nat.ne_of_lt (Heap.lt_size eo))]
      exact (hf c hcm).1
    | _ => exact absurd (show false = true from htg) Bool.false_ne_true
  done := by
    intro X hP hw hK hc i pins s σ H E I hf st hg
    subst hP hw hK
    obtain ⟨h1, h2, ⟨u, v, w', h3⟩, h4, h5, h6⟩ := st
    obtain ⟨xs, qa, hl⟩ := hg
    obtain ⟨its, rv, pa, _⟩ := I.tuple qa
    have e1 := rv.length
    refine Z3.next_stop (a := .none) (b := .none) (c := .none) (I.ok.hd hc) L1 h1 h2 h4 (show s.heap.IsTuple a its.toArray from pa) (by simp; omega) fun g up => ⟨rfl, ?_⟩
    refine I.turnedL (t' := s.toks) (L := [n + 5, n + 4, n, n + 1, n + 2, n + 3]) (fun c o hcn e => ?_) hf
    simp only [List.mem_cons, List.not_mem_nil, or_false, not_or] at hcn
    exact up c o hcn.1 hcn.2.1 hcn.2.2.1 hcn.2.2.2.1 hcn.2.2.2.2.1 e
  self := fun _ _ _ _ _ st h => wpAny_pyIter_zip st.1 h
section
variable {X : Cx} {tg : Expr}
theorem vals3 {x y z : V} {us : List Value} (h : Vals [x, y, z] us) : ∃ u v w, us = [u, v, w] ∧ RelV x u ∧ RelV y v ∧ RelV z w := by
  cases h with
  | cons h1 h =>
    cases h with
    | cons h2 h =>
      cases h with
      | cons h3 h =>
        cases h
        exact ⟨_, _, _, rfl, h1, h2, h3⟩
def iZip3 (K : PySem.W.Frag) (ta : TA) : TI := fun σ H R => ta σ H fun vs H1 => ∃ a b c, vs = [.ref a, .ref b, .ref c] ∧ (∃ xs, SqT K H1 a xs) ∧ (∃ ys, SqT K H1 b ys) ∧ (∃ zs, SqT K H1 c zs) ∧ R (It3 K a b c) H1
theorem qi_zip3 {e1 e2 e3 : Expr} {ta : TA} {p pos : Pos} (htg : tupleTg tg = true) (hg : Gl X "zip") (hm : X.mg "zip" = none) (ha : QA X [e1, e2, e3] ta) (hs : starEach [e1, e2, e3] X.env = [(false, eval e1 X.env), (false, eval e2 X.env), (false, eval e3 X.env)] := by rfl) (hs2 : starEach [e2, e3] X.env = [(false, eval e2 X.env), (false, eval e3 X.env)] := by rfl)
    (hb : bootBuiltins "zip" = some (.type "zip") := by decide +kernel) : QI X tg (.Call (.Name "zip" p) [e1, e2, e3] [] pos) (iZip3 X.K ta) := ⟨by
  intro pins s σ H R I h
  refine Call_ (ld_blt I hg hm hb (PyProof.Rows.callWith_type1 (thn (ha.o pos pins s σ H _ I h) fun us s1 ⟨vs, H1, I1, r1, q1⟩ => ?_) (by rw [hs, hs2]) (by rw [hs2]; rfl)))
  obtain ⟨a, b, c, e, ⟨xs, qa⟩, ⟨ys, qb⟩, ⟨zs, qc⟩, q⟩ := q1
  subst e
  obtain ⟨u1, u2, u3, rfl, ra, rb, rc⟩ := vals3 r1
  cases ra
  cases rb
  cases rc
  obtain ⟨its, rv, pa, _⟩ := I1.tuple qa
  obtain ⟨jts, rw', pb, _⟩ := I1.tuple qb
  obtain ⟨kts, rz', pc, _⟩ := I1.tuple qc
  have la : a < s1.heap.objs.size := by obtain ⟨o, e, _⟩ := pa; exact Heap.lt_size e
  have lb : b < s1.heap.objs.size := by obtain ⟨o, e, _⟩ := pb; exact Heap.lt_size e
  have lc : c < s1.heap.objs.size := by obtain ⟨o, e, _⟩ := pc; exact Heap.lt_size e
  refine Z3.make (show s1.heap.IsTuple a its.toArray from pa) (show s1.heap.IsTuple b jts.toArray from pb) (show s1.heap.IsTuple c kts.toArray from pc) fun g z1 z2 z3 z4 z5 z6 up => ?_
  refine wpAny_pyIter_zip z1 ?_
  have I2 : Inv X pins σ H1 { s1 with heap := g } := I1.kept (t' := s1.toks) up
  refine ⟨_, [s1.heap.objs.size + 5, s1.heap.objs.size + 4, s1.heap.objs.size, s1.heap.objs.size + 1, s1.heap.objs.size + 2, s1.heap.objs.size + 3], _, _, H1, rfl, I2, turn_zip3 htg la lb lc, ⟨z1, z2, ⟨_, _, _, z3⟩, z4, z5, z6⟩, fun c hc => ?_, q⟩
  have big : s1.heap.objs.size ≤ c := by
    simp only [List.mem_cons, List.not_mem_nil, or_false] at hc
    rcases hc with rfl | rfl | rfl | rfl | rfl | rfl
    · exact Nat.le_add_right _ _
    · exact Nat.le_add_right _ _
    · exact Nat.le_refl _
    · exact Nat.le_add_right _ _
    · exact Nat.le_add_right _ _
    · exact Nat.le_add_right _ _
  exact I1.fpOk big (I1.hok.fresh big)⟩
end
theorem for_zip3 {K : PySem.W.Frag} {a b c : Addr} {xs ys zs : List V} {g : TG} {tb : TS} {D : Ends} {σ : St} {H : Hp} (hxy : xs.length = ys.length) (hxz : xs.length = zs.length) (Pv : Nat → St → Hp → Prop) (h0 : Pv 0 σ H) (hl : ∀ i σ H, i ≤ xs.length → Pv i σ H → SqT K H a xs ∧ SqT K H b ys ∧ SqT K H c zs)
    (hs : ∀ i x y z p σ H, xs[i]? = some x → ys[i]? = some y → zs[i]? = some z → H p = none → Pv i σ H → g (.ref p) σ (upd H p (.tup [x, y, z])) fun σ2 H2 => tb { D with nx := Pv (i + 1), ct := Pv (i + 1), bk := D.nx } σ2 H2) (hd : ∀ σ H, Pv xs.length σ H → D.nx σ H) :
    ∃ W : Nat → Nat → St → Hp → Prop, (∃ m, W 0 m σ H) ∧ ∀ i m σ H, W i m σ H →
      ((It3 K a b c).stop i H ∧ D.nx σ H) ∨ ((It3 K a b c).go i H ∧ ∃ N : St → Hp → Prop, (∀ σ' H', N σ' H' → ∃ m', m' < m ∧ W (i + 1) m' σ' H') ∧ ∀ x H', (It3 K a b c).yld i H x H' → g x σ H' fun σ2 H2 => tb { D with nx := N, ct := N, bk := D.nx } σ2 H2) := by
  refine ⟨fun i m σ H => m = xs.length - i ∧ i ≤ xs.length ∧ Pv i σ H, ⟨_, rfl, Nat.zero_le _, h0⟩, ?_⟩
  rintro i m σ H ⟨rfl, hi, p⟩
  obtain ⟨qa, qb, qc⟩ := hl i σ H hi p
  by_cases hlt : i < xs.length
  · have h2 : i < ys.length := by omega
    have h3 : i < zs.length := by omega
    refine .inr ⟨⟨xs, ys, zs, xs[i], ys[i], zs[i], qa, qb, qc, by simp [hlt], by simp [h2], by simp [h3]⟩, Pv (i + 1), fun σ' H' p' => ⟨xs.length - (i + 1), by omega, rfl, hlt, p'⟩, fun v H' yv => ?_⟩
    obtain ⟨q, hq, rfl, x, y, z, rfl, hxy⟩ := yv
    obtain ⟨ex, ey, ez⟩ := hxy xs ys zs qa qb qc
    exact hs i x y z q σ H ex ey ez hq p
  · have e : i = xs.length := by omega
    refine .inl ⟨⟨xs, qa, by omega⟩, hd σ H (e ▸ p)⟩
end L2

set_option Elab.async false
set_option linter.all false
set_option maxRecDepth 100000
set_option maxHeartbeats 4000000
/-! min(list, default=None) -/
namespace MinD
open PySem PyProof.Rows
section
variable {prog : Program} {w : World} {A : Around} {R : Result → Shared → Prop} {I : Addr} {fp wr : List Addr} {n : Nat} {P : Nat → Value → Prop} {St : Nat → Heap → Prop}
theorem more (W : Walks prog w A.in1 I fp wr n P St) (bt : Nat → Nat → Bool) (hcmp : CmpOf prog w A.in1 .Lt P bt) (S : Addr) (hSf : S ∉ fp) (kw : List (Str × Value)) :
    ∀ (k j : Nat) (s : Shared) (vb : Value) (c : Nat), n - (j + 1) = k → j + 1 ≤ n → St (j + 1) s.heap → P (argBest bt j) vb →
    s.heap.get? S = some { cls := .type "list", dict := none, data := .seq #[vb, vb] c, slots := #[] } →
    (∀ v h' tk, P (argBest bt (n - 1)) v → (∀ b o, b ∉ wr → b ≠ S → s.heap.get? b = some o → h'.get? b = some o) → R (.ok (.ret v)) { s with heap := h', toks := tk }) →
    codeAny (model prog w) A (.builtin "min.loop" ⟨[.ref I, .none, .ref S], kw⟩) R s := by
  have hSw : S ∉ wr := fun h => hSf (W.sub _ h)
  have hname : (toString "min" ++ toString ".loop" : String) = "min.loop" := by decide
  intro k
  induction k with
  | zero =>
    intro j s vb c hk hj hst hPb hS hR
    have hin : j + 1 = n := by omega
    refine codeAny_builtin F.entry_min_loop ?_
    rw [Around.under_plainId F.plain_min_loop _]
    show wpAny _ A.in1 (seqItems? (.ref S) >>= _) _ _ s
    refine wpAny_bind (wpAny_seqItems hS rfl ?_)
    show wpAny _ A.in1 (tryCatch (pyNext (.ref I)) _ >>= _) _ _ s
    refine wpAny_bind (wpAny_tryCatch (W.done s _ _ (hin ▸ hst) fun h' tk hk' => ?_))
    have hS' := hk' S _ hSw hS
    show wpAny _ A.in1 (updateSeq S (fun _ => #[]) >>= _) _ _ _
    refine wpAny_bind ?_
    refine wpAny_updateSeq hS' rfl (wpAny_bind (wpAny_letGo (wpAny_pure ?_)))
    refine hR vb _ tk (by rw [← hin]; exact hPb) fun b o hbw hbS e => (Heap.get?_update_other _ _ (Ne.symm hbS)).trans (hk' b o hbw e)
  | succ k ih =>
    intro j s vb c hk hj hst hPb hS hR
    have hlt : j + 1 < n := by omega
    refine codeAny_builtin F.entry_min_loop ?_
    rw [Around.under_plainId F.plain_min_loop _]
    show wpAny _ A.in1 (seqItems? (.ref S) >>= _) _ _ s
    refine wpAny_bind (wpAny_seqItems hS rfl ?_)
    show wpAny _ A.in1 (tryCatch (pyNext (.ref I)) _ >>= _) _ _ s
    refine wpAny_bind (wpAny_tryCatch (W.item (j + 1) s _ _ hlt hst fun v h' tk hP hst' hk' => ?_))
    have hS' := hk' S _ hSw hS
    show wpAny _ A.in1 (tryCatch (holding [v, v] (richCompare .Lt v vb >>= _)) _ >>= _) _ _ _
    refine wpAny_bind (wpAny_tryCatch (wpAny_holding (wpAny_bind (hcmp (j + 1) (argBest bt j) v vb _ _ _ hP hPb ?_))))
    refine wpAny_bind (wpAny_holding (wpAny_truthy_bool ?_))
    refine wpAny_bind (wpAny_letGo (wpAny_pure ?_))
    cases hb : bt (j + 1) (argBest bt j) with
    | true =>
      simp only [if_true]
      refine wpAny_bind ?_
      refine wpAny_updateSeq hS' rfl (wpAny_bind (wpAny_letGo ?_))
      rw [hname]
      refine wpAny_pure ⟨plainId_quiet F.plain_min_loop _, ih (j + 1) _ v _ (by omega) hlt (W.frame _ _ _ hst' fun b hbf o e => ?_) (by simp only [argBest, hb, if_true]; exact hP) (Heap.get?_update_self _ hS' rfl)
        fun v' h'' tk'' hP' hk'' => ?_⟩
      · exact (Heap.get?_update_other _ _ (fun h : S = b => hSf (by rw [h]; exact hbf))).trans e
      · exact hR v' h'' tk'' hP' fun b o hbw hbS e => hk'' b o hbw hbS ((Heap.get?_update_other _ _ (Ne.symm hbS)).trans (hk' b o hbw e))
    | false =>
      simp only [Bool.false_eq_true, if_false]
      refine wpAny_bind (wpAny_letGo ?_)
      rw [hname]
      refine wpAny_pure ⟨plainId_quiet F.plain_min_loop _, ih (j + 1) _ vb c (by omega) hlt hst' (by simp only [argBest, hb, Bool.false_eq_true, if_false]; exact hPb) hS' fun v' h'' tk'' hP' hk'' => ?_⟩
      exact hR v' h'' tk'' hP' fun b o hbw hbS e => hk'' b o hbw hbS (hk' b o hbw e)
theorem first (W : Walks prog w A.in1 I fp wr n P St) (bt : Nat → Nat → Bool) (hcmp : CmpOf prog w A.in1 .Lt P bt) (S : Addr) (hSf : S ∉ fp) (kw : List (Str × Value)) (hn : 0 < n) {s : Shared} {c : Nat} (hst : St 0 s.heap)
    (hS : s.heap.get? S = some { cls := .type "list", dict := none, data := .seq #[] c, slots := #[] })
    (hR : ∀ v h' tk, P (argBest bt (n - 1)) v → (∀ b o, b ∉ wr → b ≠ S → s.heap.get? b = some o → h'.get? b = some o) → R (.ok (.ret v)) { s with heap := h', toks := tk }) :
    codeAny (model prog w) A (.builtin "min.loop" ⟨[.ref I, .none, .ref S], kw⟩) R s := by
  have hSw : S ∉ wr := fun h => hSf (W.sub _ h)
  have hname : (toString "min" ++ toString ".loop" : String) = "min.loop" := by decide
  refine codeAny_builtin F.entry_min_loop ?_
  rw [Around.under_plainId F.plain_min_loop _]
  show wpAny _ A.in1 (seqItems? (.ref S) >>= _) _ _ s
  refine wpAny_bind (wpAny_seqItems hS rfl ?_)
  show wpAny _ A.in1 (tryCatch (pyNext (.ref I)) _ >>= _) _ _ s
  refine wpAny_bind (wpAny_tryCatch (W.item 0 s _ _ hn hst fun v h' tk hP hst' hk' => ?_))
  have hS' := hk' S _ hSw hS
  show wpAny _ A.in1 (updateSeq S (fun _ => #[v, v]) >>= _) _ _ _
  refine wpAny_bind ?_
  refine wpAny_updateSeq hS' rfl ?_
  rw [hname]
  refine wpAny_pure ⟨plainId_quiet F.plain_min_loop _, more W bt hcmp S hSf kw _ 0 _ v _ rfl hn (W.frame _ _ _ hst' fun b hbf o e => ?_) hP (Heap.get?_update_self _ hS' rfl) fun v' h'' tk'' hP' hk'' => ?_⟩
  · exact (Heap.get?_update_other _ _ (fun h : S = b => hSf (by rw [h]; exact hbf))).trans e
  · exact hR v' h'' tk'' hP' fun b o hbw hbS e => hk'' b o hbw hbS ((Heap.get?_update_other _ _ (Ne.symm hbS)).trans (hk' b o hbw e))
theorem empty (W : Walks prog w A.in1 I fp wr n P St) (S : Addr) (hSf : S ∉ fp) (d : Value) (hn : n = 0) {s : Shared} {c : Nat} (hst : St 0 s.heap)
    (hS : s.heap.get? S = some { cls := .type "list", dict := none, data := .seq #[] c, slots := #[] })
    (hR : ∀ h' tk, (∀ b o, b ∉ wr → b ≠ S → s.heap.get? b = some o → h'.get? b = some o) → R (.ok (.ret d)) { s with heap := h', toks := tk }) :
    codeAny (model prog w) A (.builtin "min.loop" ⟨[.ref I, .none, .ref S], [("default", d)]⟩) R s := by
  have hSw : S ∉ wr := fun h => hSf (W.sub _ h)
  subst hn
  refine codeAny_builtin F.entry_min_loop ?_
  rw [Around.under_plainId F.plain_min_loop _]
  show wpAny _ A.in1 (seqItems? (.ref S) >>= _) _ _ s
  refine wpAny_bind (wpAny_seqItems hS rfl ?_)
  show wpAny _ A.in1 (tryCatch (pyNext (.ref I)) _ >>= _) _ _ s
  refine wpAny_bind (wpAny_tryCatch (W.done s _ _ hst fun h' tk hk' => ?_))
  refine wpAny_bind (wpAny_rule (wpAny_pure ?_))
  exact hR h' tk fun b o hbw hbS e => hk' b o hbw e
end
section
variable {prog : Program} {w : World} {A : Around} {E : Value → Shared → Prop} {s : Shared}
theorem call_kw {id : String} {b : Builtin} {args : List Value} {kw : List (Str × Value)} {Q : Value → Shared → Prop} (hk : builtinKind id = none) (hp : plainId id = true)
    (hb : entryFor table id = some b) (ha : argsOk id ⟨args, kw⟩)
    (hc : wpAny (model prog w) A.in1 (b ⟨args, kw⟩) (fun fin s' => match fin with
      | .done f => (match (Except.ok f : Result) with | .ok (.ret v) => Q v s' | .ok _ => False | .error e => E e s')
      | .again c' => c'.quiet = true ∧ codeAny (model prog w) A c' (fun r s' => match r with | .ok (.ret v) => Q v s' | .ok _ => False | .error e => E e s') s') E s) :
    wpAny (model prog w) A (call (.builtin id) args kw) Q E s := by
  refine wpAny_call (codeAny_call_builtin hp hb ?_)
  simp only [checkBuiltinCall, hk]
  cases hsig : Manifest.signature? id with
  | none => exact wpAny_pure hc
  | some sig =>
    simp only [argsOk, hsig] at ha
    have h2 : Bind.checkArgs id sig ⟨args, kw⟩ = pure () := ha
    exact wpAny_of_eq h2 hc
theorem args_min1d (a d : Value) : argsOk "min" ⟨[a], [("default", d)]⟩ := by unfold argsOk; kernel_rfl
theorem bind_min (d : Value) : Builtin.Builtins.bindParams "min" ["key", "default"] 0 ⟨[], [("default", d)]⟩ = pure [none, some d] := by kernel_rfl
theorem call_walk {x d : Value} {Q : Value → Shared → Prop}
    (h : wpAny (model prog w) A.in1 (pyIter x) (fun it s₂ => ∃ I fp wr n P St bt, it = .ref I ∧ Walks prog w A.in1 I fp wr n P St ∧ St 0 s₂.heap ∧ (∀ b ∈ fp, b < s₂.heap.objs.size) ∧ CmpOf prog w A.in1 .Lt P bt ∧
      (0 < n → ∀ v h' tk, P (argBest bt (n - 1)) v → (∀ b o, b ∉ wr → s₂.heap.get? b = some o → h'.get? b = some o) → Q v { s₂ with heap := h', toks := tk }) ∧
      (n = 0 → ∀ h' tk, (∀ b o, b ∉ wr → s₂.heap.get? b = some o → h'.get? b = some o) → Q d { s₂ with heap := h', toks := tk })) E s) :
    wpAny (model prog w) A (call (.builtin "min") [x] [("default", d)]) Q E s := by
  have hname : (toString "min" ++ toString ".loop" : String) = "min.loop" := by decide
  refine call_kw F.kind_min F.plain_min F.entry_min (args_min1d _ _) ?_
  show wpAny _ A.in1 (Builtin.Builtins.bindParams "min" ["key", "default"] 0 ⟨[], [("default", d)]⟩ >>= _) _ _ s
  refine wpAny_bind (wpAny_of_eq (bind_min d) ?_)
  refine wpAny_bind (wpAny_pure ?_)
  refine wpAny_bind (wpAny_mono h (fun it s₂ h₂ => ?_) fun _ _ e => e)
  obtain ⟨I, fp, wr, n, P, St, bt, rfl, W, hst, hfp, hcmp, hQ, hQ0⟩ := h₂
  refine wpAny_bind (wpAny_newObj_type ?_)
  have hSf : s₂.heap.objs.size ∉ fp := fun hm => Nat.lt_irrefl _ (hfp _ hm)
  rw [hname]
  by_cases hn : 0 < n
  · refine wpAny_pure ⟨plainId_quiet F.plain_min_loop _, first W bt hcmp s₂.heap.objs.size hSf _ hn (W.frame _ _ _ hst fun b _ o e => Heap.get?_push_of_some _ e) (Heap.get?_push_size _ rfl) fun v h' tk hP hk => ?_⟩
    exact hQ hn v h' tk hP fun b o hbw e => hk b o hbw (Nat.ne_of_lt (Heap.lt_size e)) (Heap.get?_push_of_some _ e)
  · refine wpAny_pure ⟨plainId_quiet F.plain_min_loop _, empty W s₂.heap.objs.size hSf d (by omega) (W.frame _ _ _ hst fun b _ o e => Heap.get?_push_of_some _ e) (Heap.get?_push_size _ rfl) fun h' tk hk => ?_⟩
    exact hQ0 (by omega) h' tk fun b o hbw e => hk b o hbw (Nat.ne_of_lt (Heap.lt_size e)) (Heap.get?_push_of_some _ e)
theorem min_list {l : Addr} {xs : Array (Int × Tok)} {d : Value} {Q : Value → Shared → Prop} (hh : A.handled = none) (hl : s.heap.IsList l (intItems xs))
    (h : 0 < xs.size → ∀ v h' tk, (intItems xs)[argBest (fun i j => decide (numAt xs i < numAt xs j)) (xs.size - 1)]? = some v → (∀ b o, s.heap.get? b = some o → h'.get? b = some o) → Q v { s with heap := h', toks := tk })
    (h0 : xs.size = 0 → ∀ h' tk, (∀ b o, s.heap.get? b = some o → h'.get? b = some o) → Q d { s with heap := h', toks := tk }) :
    wpAny (model prog w) A (call (.builtin "min") [.ref l] [("default", d)]) Q E s := by
  refine call_walk (iter_intList hl fun s₂ e st hfp hlI => ?_)
  subst e
  refine ⟨_, _, _, _, _, _, _, rfl, Walks.list (A := A.in1) hh _ l hlI (intItems xs), st, hfp, CmpOf.ints_lt (numAt xs) (fun _ _ => intItems_at), fun hn v h' tk hP hk => ?_, fun hn h' tk hk => ?_⟩
  · exact h (by simpa [intItems] using hn) v h' tk (by simpa [intItems] using hP) (old_kept hk)
  · exact h0 (by simpa [intItems] using hn) h' tk (old_kept hk)
end
end MinD
namespace L2
open PySem PySem.Spec PyProof.Rows
section
variable {X : Cx}
def tMinD (K : PySem.W.Frag) (ta : TA) : TE := fun σ H Q => ta σ H fun xs H1 => ∃ (p : Addr) (ns : List Int), xs = [.ref p] ∧ SqL K H1 p (ns.map V.int) ∧ (ns = [] → Q .non H1) ∧ ∀ M, M ∈ ns → (∀ a, a ∈ ns → M ≤ a) → Q (.int M) H1
theorem qe_minD {e : Expr} {ta : TA} {p pos kpos npos : Pos} {j} (hc : X.calm = true) (hg : Gl X "min") (hm : X.mg "min" = none) (hb : bootBuiltins "min" = some (.builtin "min")) (ha : QA X [e] ta) (h1 : starEach [e] X.env = [(false, eval e X.env)] := by rfl) :
    QE X (.Call (.Name "min" p) [e] [⟨some "default", .Constant .none j npos, kpos⟩] pos) (tMinD X.K ta) := ⟨by
  intro pins s σ H Q I h
  refine wpAny_Call_Name_kw (ld_blt I hg hm hb ?_ (by decide) (by decide))
  have e1 : backTo pos (starEach [e] X.env) = (false, eval e X.env) :: backTo pos (starEach [] X.env) := by rw [h1]; rfl
  refine callWith_kw (e := e) (rest := []) ?_ e1 (by rw [h1]; rfl) rfl rfl
  refine thn (ha.o pos pins s σ H _ I h) fun us s1 ⟨vs, H1, I1, r1, q1⟩ => ?_
  obtain ⟨l, ns, rfl, hq, q0, q2⟩ := q1
  obtain ⟨u, rfl, rx⟩ := vals1 r1
  cases rx
  refine kws_cons (thn (pe_non pins s1 σ H1 (fun x H2 => x = .non ∧ H2 = H1) I1 ⟨rfl, rfl⟩) fun v s2 ⟨x, H2, I2, r2, ex, eH⟩ => kws_nil ?_)
  subst ex
  subst eH
  cases r2
  obtain ⟨its, r', pl, hz⟩ := I2.list hq
  have hl := pl.isList
  have hi := intsAre_of r'
  obtain ⟨xs, e⟩ := hi.allInts.items
  have hns : ns = xs.toList.map (·.1) := by rw [← hi.numsOf, ← nums_intItems, ← e]
  rw [e] at hl
  refine MinD.min_list (d := .none) (I2.ok.hd hc) hl (fun hsz v h' tk hv hk => ?_) (fun hsz h' tk hk => ?_)
  · obtain ⟨t, rfl⟩ := intItems_at hv
    obtain ⟨h1, h2⟩ := argBest_lt (numAt xs) (xs.size - 1)
    refine ⟨.int _, _, I2.kept hk, ⟨_, rfl⟩, q2 _ ?_ fun a ha => ?_⟩
    · rw [hns, numAt_eq]; exact getD_mem (by rw [List.length_map, Array.length_toList]; omega)
    · rw [hns] at ha
      obtain ⟨j, hj, rfl⟩ := mem_getD ha
      rw [List.length_map, Array.length_toList] at hj
      rw [← numAt_eq]; exact h2 j (by omega)
  · refine ⟨.non, _, I2.kept hk, rfl, q0 ?_⟩
    rw [hns]
    have : xs.toList = [] := List.eq_nil_of_length_eq_zero (by rw [Array.length_toList]; exact hsz)
    rw [this]
    rfl⟩
end
end L2

set_option Elab.async false
set_option linter.all false
set_option maxRecDepth 100000
set_option maxHeartbeats 4000000
/-! comprehensions with a test -/
namespace W2
open PySem L2 Mth
def keptZ (t : Int → Int → Bool) (f : Int → Int → Int) (xs ys : List Int) : List Int := ((xs.zip ys).filter fun p => t p.1 p.2).map fun p => f p.1 p.2
theorem keptZ_snoc {t : Int → Int → Bool} {f : Int → Int → Int} {l : List (Int × Int)} {i : Nat} {p : Int × Int} (h : l[i]? = some p) : ((l.take (i + 1)).filter fun p => t p.1 p.2).map (fun p => f p.1 p.2) = ((l.take i).filter fun p => t p.1 p.2).map (fun p => f p.1 p.2) ++ (if t p.1 p.2 = true then [f p.1 p.2] else []) := by
  rw [List.take_add_one, h]
  simp only [Option.toList_some, List.filter_append, List.map_append]
  congr 1
  by_cases z : t p.1 p.2 = true
  · simp [z]
  · simp [z]
theorem comp_zip_if {K : PySem.W.Frag} {a b D : Addr} {js : List (Option Nat)} {tc : TT} {te : TE} {σ : St} {H1 : Hp} {Q : VK} {xs ys : List Int} {σ0 : St} {t : Int → Int → Bool} {f : Int → Int → Int} (hn : min xs.length ys.length ≤ sizeLine) (hp : ∃ u v, pick js σ = u :: v :: σ0) (hD : H1 D = none)
    (ha : H1 a = some (tupI xs)) (hb : H1 b = some (tupI ys))
    (ht : ∀ (x y : Int) (H' : Hp) (R : Bool → Hp → Prop), x ∈ xs → y ∈ ys → R (t x y) H' → tc (some (.int x) :: some (.int y) :: σ0) H' R)
    (hs : ∀ (x y : Int) (H' : Hp) (R : VK), x ∈ xs → y ∈ ys → t x y = true → R (.int (f x y)) H' → te (some (.int x) :: some (.int y) :: σ0) H' R)
    (q : ∀ H', Same H1 H' → H' D = some (.lst ((keptZ t f xs ys).map V.int)) → Q (.ref D) H') : CompW (Itz K a b) D js (gTup K 2 (gCons (gName 0) (gCons (gName 1) gNil))) tc te σ H1 Q := by
  obtain ⟨u0, v0, hp⟩ := hp
  have hzl : (xs.zip ys).length = min xs.length ys.length := List.length_zip
  refine comp_gen (n := min xs.length ys.length) hn (fun i σ' H' zs => (∃ u v : Option V, σ' = u :: v :: σ0) ∧ Same H1 H' ∧ H' D = some (.lst zs) ∧ zs.length ≤ i ∧ zs = ((((xs.zip ys).take i).filter fun p => t p.1 p.2).map fun p => f p.1 p.2).map V.int) ⟨⟨u0, v0, hp⟩, Same.new hD, upd_same, Nat.le_refl _, rfl⟩ (fun i σ' H' zs _ ⟨_, _, h3, h4, _⟩ => ⟨h3, h4⟩) (fun i σ' H' zs hi ⟨_, s', _⟩ => ?_) (fun σ' H' zs ⟨_, s', h3, _, e⟩ => ⟨?_, ?_⟩) ?_
  · refine ⟨_, _, .int xs[i], .int ys[i], SqT.of (s' _ _ ha), SqT.of (s' _ _ hb), ?_, ?_⟩
    · rw [List.getElem?_map, List.getElem?_eq_getElem (by omega)]; rfl
    · rw [List.getElem?_map, List.getElem?_eq_getElem (by omega)]; rfl
  · exact ⟨_, _, SqT.of (s' _ _ ha), SqT.of (s' _ _ hb), by rw [List.length_map, List.length_map]; omega⟩
  · refine q H' s' ?_
    rw [h3, e, ← hzl, List.take_length]
    rfl
  · rintro i σ' H' zs v H2 hi ⟨⟨u, v, rfl⟩, s', h3, h4, e⟩ ⟨p, hp', rfl, x, y, rfl, hxy⟩
    obtain ⟨hx, hy⟩ := hxy _ _ (SqT.of (s' _ _ ha)) (SqT.of (s' _ _ hb))
    obtain ⟨x, rfl, hx'⟩ := map_int_get hx
    obtain ⟨y, rfl, hy'⟩ := map_int_get hy
    have hz : (xs.zip ys)[i]? = some (x, y) := by rw [List.getElem?_zip_eq_some]; exact ⟨hx', hy'⟩
    have hsn := keptZ_snoc (t := t) (f := f) hz
    refine ⟨p, _, rfl, SqT.of upd_same, rfl, _, _, rfl, _, _, rfl, rfl, ?_⟩
    have hD2 : (upd H' p (.tup [.int x, .int y])) D = some (.lst zs) := by rw [upd_ne (ne_of_none h3 hp')]; exact h3
    have s2 : Same H1 (upd H' p (.tup [.int x, .int y])) := Same.more s' hp'
    refine ht x y _ _ (List.mem_of_getElem? hx') (List.mem_of_getElem? hy') ?_
    cases hb' : t x y with
    | true =>
      refine hs x y _ _ (List.mem_of_getElem? hx') (List.mem_of_getElem? hy') hb' ⟨hD2, ⟨_, _, rfl⟩, ?_, upd_same, ?_, ?_⟩
      · intro c o e'
        rw [upd_ne (ne_of_none e' hD)]
        exact s2 c o e'
      · rw [List.length_append]; show zs.length + 1 ≤ i + 1; omega
      · rw [hsn, e]
        simp [hb']
    | false =>
      refine ⟨hD2, ⟨_, _, rfl⟩, s2, hD2, by omega, ?_⟩
      rw [hsn, e]
      simp [hb']
theorem comp_list_if {K : PySem.W.Frag} {a D : Addr} {js : List (Option Nat)} {tc : TT} {te : TE} {σ : St} {H1 : Hp} {Q : VK} {xs : List V} {σ0 : St} {t : V → Bool} (hn : xs.length ≤ sizeLine) (hp : ∃ u, pick js σ = u :: σ0) (hD : H1 D = none)
    (ha : H1 a = some (.lst xs))
    (ht : ∀ (x : V) (H' : Hp) (R : Bool → Hp → Prop), Same H1 H' → x ∈ xs → R (t x) H' → tc (some x :: σ0) H' R)
    (hs : ∀ (x : V) (H' : Hp) (R : VK), Same H1 H' → x ∈ xs → t x = true → R x H' → te (some x :: σ0) H' R)
    (q : ∀ H', Same H1 H' → H' D = some (.lst (xs.filter t)) → Q (.ref D) H') : CompW (Itl K a) D js (gName 0) tc te σ H1 Q := by
  obtain ⟨u0, hp⟩ := hp
  refine comp_gen (n := xs.length) hn (fun i σ' H' zs => (∃ u : Option V, σ' = u :: σ0) ∧ Same H1 H' ∧ H' D = some (.lst zs) ∧ zs.length ≤ i ∧ zs = (xs.take i).filter t) ⟨⟨u0, hp⟩, Same.new hD, upd_same, Nat.le_refl _, rfl⟩ (fun i σ' H' zs _ ⟨_, _, h3, h4, _⟩ => ⟨h3, h4⟩) (fun i σ' H' zs hi ⟨_, s', _⟩ => ⟨_, xs[i], SqL.of (s' _ _ ha), List.getElem?_eq_getElem hi⟩) (fun σ' H' zs ⟨_, s', h3, _, e⟩ => ⟨⟨_, SqL.of (s' _ _ ha), Nat.le_refl _⟩, ?_⟩) ?_
  · refine q H' s' ?_
    rw [h3, e, List.take_length]
  · rintro i σ' H' zs x H2 hi ⟨⟨u, rfl⟩, s', h3, h4, e⟩ ⟨rfl, hx⟩
    have hx' := hx _ (SqL.of (s' _ _ ha))
    have hsn : (xs.take (i + 1)).filter t = (xs.take i).filter t ++ (if t x = true then [x] else []) := by
      rw [List.take_add_one, hx']
      simp only [Option.toList_some, List.filter_append]
      congr 1
      by_cases z : t x = true
      · simp [z]
      · simp [z]
    refine ht x _ _ s' (List.mem_of_getElem? hx') ?_
    cases hb' : t x with
    | true =>
      refine hs x _ _ s' (List.mem_of_getElem? hx') hb' ⟨h3, ⟨_, rfl⟩, ?_, upd_same, ?_, ?_⟩
      · intro c o e'
        rw [upd_ne (ne_of_none e' hD)]
        exact s' c o e'
      · rw [List.length_append]; show zs.length + 1 ≤ i + 1; omega
      · rw [hsn, e]
        simp [hb']
    | false =>
      refine ⟨h3, ⟨_, rfl⟩, s', h3, by omega, ?_⟩
      rw [hsn, e]
      simp [hb']
end W2

set_option Elab.async false
set_option linter.all false
set_option maxHeartbeats 4000000
/-! stretches -/
namespace Mth
theorem cnt_40 {p n : Nat} (hp : 2 ≤ p) (hn : 1 ≤ n) (hb : n ≤ 1000000000000) : cnt p n < 40 := by
  have e := cnt_spec hp n hn
  have h1 : p ^ cnt p n ≤ n := by
    have hs := strip_pos hp n hn
    calc p ^ cnt p n ≤ p ^ cnt p n * strip p n := Nat.le_mul_of_pos_right _ hs
      _ = n := e.symm
  have h2 : 2 ^ cnt p n ≤ p ^ cnt p n := Nat.pow_le_pow_left hp _
  have h3 : 2 ^ cnt p n < 2 ^ 40 := by
    have : (1000000000000 : Nat) < 2 ^ 40 := by decide
    omega
  exact (Nat.pow_lt_pow_iff_right (by decide)).mp h3
/-- rows of small numbers -/
def RB (rows : List (List Int)) : Prop := ∀ c ∈ rows, ∀ x ∈ c, -40 < x ∧ x < 40
theorem chg_40 {i j : Nat} (hi : 1 ≤ i) (hj : 1 ≤ j) (bi : i ≤ 1000000000000) (bj : j ≤ 1000000000000) {x : Int} (h : x ∈ chg i j) : -40 < x ∧ x < 40 := by
  obtain ⟨k, hk⟩ := List.getElem?_of_mem h
  unfold chg at hk
  rw [List.getElem?_zipWith_eq_some] at hk
  obtain ⟨a, b, ha, hb, rfl⟩ := hk
  have hm := List.mem_of_getElem? ha
  have hm' := List.mem_of_getElem? hb
  unfold powsOf at hm hm'
  obtain ⟨p, hp, rfl⟩ := List.mem_map.mp hm
  obtain ⟨p', hp', rfl⟩ := List.mem_map.mp hm'
  have := cnt_40 (two_le p hp) hi bi
  have := cnt_40 (two_le p' hp') hj bj
  omega
theorem mvd_get {p c : List Int} {t : Int} {i : Nat} {v : Int} (h : (mvd p c t)[i]? = some v) : ∃ x y, p[i]? = some x ∧ c[i]? = some y ∧ v = x + t * y := by
  unfold mvd at h
  rw [List.getElem?_zipWith_eq_some] at h
  obtain ⟨x, y, hx, hy, rfl⟩ := h
  exact ⟨x, y, hx, hy, rfl⟩
theorem mvd_at {p c : List Int} {t : Int} {i : Nat} {x y : Int} (hx : p[i]? = some x) (hy : c[i]? = some y) : (mvd p c t)[i]? = some (x + t * y) := by
  unfold mvd
  rw [List.getElem?_zipWith_eq_some]
  exact ⟨x, y, hx, hy, rfl⟩
theorem fits_mvd {p c a : List Int} {t : Int} : fitsB a (mvd p c t) = true ↔ ∀ (i : Nat) (x y z : Int), p[i]? = some x → c[i]? = some y → a[i]? = some z → 0 ≤ x + t * y + z := by
  rw [fitsB_iff]
  constructor
  · intro h i x y z hx hy hz
    exact h i z _ hz (mvd_at hx hy)
  · intro h i z v hz hv
    obtain ⟨x, y, hx, hy, rfl⟩ := mvd_get hv
    exact h i x y z hx hy hz
theorem fits_mvd_not {p c a : List Int} {t : Int} (h : fitsB a (mvd p c t) = false) : ∃ (i : Nat) (x y z : Int), p[i]? = some x ∧ c[i]? = some y ∧ a[i]? = some z ∧ x + t * y + z < 0 := by
  by_cases z : ∃ (i : Nat) (x y z : Int), p[i]? = some x ∧ c[i]? = some y ∧ a[i]? = some z ∧ x + t * y + z < 0
  · exact z
  · exfalso
    have : fitsB a (mvd p c t) = true := fits_mvd.mpr fun i x y w hx hy hw => by
      by_cases q : 0 ≤ x + t * y + w
      · exact q
      · exact absurd ⟨i, x, y, w, hx, hy, hw, by omega⟩ z
    rw [h] at this
    cases this
theorem fits_mvd_no {p c a : List Int} {t : Int} {i : Nat} {x y z : Int} (hx : p[i]? = some x) (hy : c[i]? = some y) (hz : a[i]? = some z) (h : x + t * y + z < 0) : fitsB a (mvd p c t) = false := by
  rw [Bool.eq_false_iff]
  intro w
  have := fits_mvd.mp w i x y z hx hy hz
  omega
/-- until it lacks -/
def LackR (p c : List Int) : Option Nat → Prop
  | none => ∀ t : Nat, fitsB c (mvd p c t) = true
  | some m => (∀ t : Nat, t < m → fitsB c (mvd p c t) = true) ∧ fitsB c (mvd p c m) = false ∧ ∃ x ∈ p, (m : Int) ≤ x
/-- until one ahead fits -/
def FitR (p c a : List Int) : Option Nat → Prop
  | none => ∀ t : Nat, fitsB a (mvd p c t) = false
  | some m => (∀ t : Nat, t < m → fitsB a (mvd p c t) = false) ∧ fitsB a (mvd p c m) = true ∧ m ≤ 1000
theorem mem_keptZ {t : Int → Int → Bool} {f : Int → Int → Int} {xs ys : List Int} {M : Int} : M ∈ W2.keptZ t f xs ys ↔ ∃ (i : Nat) (x y : Int), xs[i]? = some x ∧ ys[i]? = some y ∧ t x y = true ∧ M = f x y := by
  unfold W2.keptZ
  rw [List.mem_map]
  constructor
  · rintro ⟨⟨x, y⟩, h, rfl⟩
    obtain ⟨h1, h2⟩ := List.mem_filter.mp h
    obtain ⟨i, hi⟩ := List.getElem?_of_mem h1
    rw [List.getElem?_zip_eq_some] at hi
    exact ⟨i, x, y, hi.1, hi.2, h2, rfl⟩
  · rintro ⟨i, x, y, h1, h2, h3, rfl⟩
    refine ⟨(x, y), List.mem_filter.mpr ⟨?_, h3⟩, rfl⟩
    exact List.mem_of_getElem? (i := i) (by rw [List.getElem?_zip_eq_some]; exact ⟨h1, h2⟩)
abbrev lackL (p c : List Int) : List Int := W2.keptZ (fun _ y => decide (y < 0)) (fun x y => x / (-y)) p c
theorem lack_none {p c : List Int} (hn : nn p = true) (h : lackL p c = []) : LackR p c none := fun t => fits_mvd.mpr fun i x y z hx hy hz => by
  rw [hy] at hz
  cases hz
  have x0 := nn_iff.mp hn x (List.mem_of_getElem? hx)
  by_cases y0 : y < 0
  · have : x / (-y) ∈ lackL p c := mem_keptZ.mpr ⟨i, x, y, hx, hy, decide_eq_true y0, rfl⟩
    rw [h] at this
    cases this
  · have := Int.mul_nonneg (Int.natCast_nonneg t) (show 0 ≤ y by omega)
    omega
theorem lack_some {p c : List Int} (hn : nn p = true) {M : Int} (h : M ∈ lackL p c) (hm : ∀ a ∈ lackL p c, M ≤ a) : 0 ≤ M ∧ LackR p c (some M.toNat) := by
  obtain ⟨i, x, y, hx, hy, ht, rfl⟩ := mem_keptZ.mp h
  have y0 : y < 0 := of_decide_eq_true ht
  have x0 := nn_iff.mp hn x (List.mem_of_getElem? hx)
  have M0 : 0 ≤ x / (-y) := Int.ediv_nonneg x0 (by omega)
  refine ⟨M0, fun t ht' => fits_mvd.mpr fun j x' y' z hx' hy' hz => ?_, ?_, x, List.mem_of_getElem? hx, ?_⟩
  · rw [hy'] at hz
    cases hz
    have x0' := nn_iff.mp hn x' (List.mem_of_getElem? hx')
    by_cases y0' : y' < 0
    · have h1 := hm (x' / (-y')) (mem_keptZ.mpr ⟨j, x', y', hx', hy', decide_eq_true y0', rfl⟩)
      have h2 : ((t : Int) + 1) ≤ x' / (-y') := by omega
      have h3 := (Int.le_ediv_iff_mul_le (show 0 < -y' by omega)).mp h2
      rw [Int.mul_neg, Int.add_mul, Int.one_mul] at h3
      omega
    · have := Int.mul_nonneg (Int.natCast_nonneg t) (show 0 ≤ y' by omega)
      omega
  · refine fits_mvd_no hx hy hy ?_
    have h3 : ¬ (x / (-y) + 1) ≤ x / (-y) := by omega
    rw [Int.le_ediv_iff_mul_le (show 0 < -y by omega), Int.mul_neg, Int.add_mul, Int.one_mul] at h3
    have e : ((x / (-y)).toNat : Int) = x / (-y) := Int.toNat_of_nonneg M0
    rw [e]
    omega
  · rw [Int.toNat_of_nonneg M0]
    exact Int.ediv_le_self _ x0
/-- looked at i places -/
def FitI (p c a : List Int) (i : Nat) (m : Int) : Prop := 0 ≤ m ∧ m ≤ 1000 ∧ (∀ j, j < i → ∀ x y z : Int, p[j]? = some x → c[j]? = some y → a[j]? = some z → 0 < -z - x → 0 < y ∧ -z - x ≤ m * y) ∧ (m = 0 ∨ ∃ (j : Nat) (x y z : Int), p[j]? = some x ∧ c[j]? = some y ∧ a[j]? = some z ∧ 0 < y ∧ (m - 1) * y < -z - x)
theorem FitI.start {p c a : List Int} : FitI p c a 0 0 := ⟨Int.le_refl _, by decide, fun j h => absurd h (by omega), .inl rfl⟩
theorem FitI.skip {p c a : List Int} {i : Nat} {m x y z : Int} (h : FitI p c a i m) (hx : p[i]? = some x) (hz : a[i]? = some z) (hl : ¬ 0 < -z - x) : FitI p c a (i + 1) m := by
  obtain ⟨h1, h2, h3, h4⟩ := h
  refine ⟨h1, h2, fun j hj x' y' z' hx' hy' hz' hl' => ?_, h4⟩
  by_cases e : j = i
  · subst e
    rw [hx] at hx'
    rw [hz] at hz'
    cases hx'
    cases hz'
    exact absurd hl' hl
  · exact h3 j (by omega) x' y' z' hx' hy' hz' hl'
theorem FitI.never {p c a : List Int} {i : Nat} {x y z : Int} (hx : p[i]? = some x) (hy : c[i]? = some y) (hz : a[i]? = some z) (hl : 0 < -z - x) (hy0 : y ≤ 0) : FitR p c a none := fun t => fits_mvd_no hx hy hz (by
  have := Int.mul_nonneg (Int.natCast_nonneg t) (show 0 ≤ -y by omega)
  rw [Int.mul_neg] at this
  omega)
theorem ceil_ok {l y : Int} (hl : 0 < l) (hy : 0 < y) : l ≤ (l + y - 1) / y * y ∧ ((l + y - 1) / y - 1) * y < l ∧ (l + y - 1) / y ≤ l ∧ 0 ≤ (l + y - 1) / y := by
  have h1 := Int.lt_ediv_add_one_mul_self (l + y - 1) hy
  have h2 := Int.ediv_mul_le (l + y - 1) (show y ≠ 0 by omega)
  rw [Int.add_mul, Int.one_mul] at h1
  refine ⟨by omega, by rw [Int.sub_mul, Int.one_mul]; omega, ?_, Int.ediv_nonneg (by omega) (by omega)⟩
  refine Int.ediv_le_of_le_mul hy ?_
  have := Int.mul_nonneg (show 0 ≤ l - 1 by omega) (show 0 ≤ y - 1 by omega)
  rw [Int.sub_mul, Int.mul_sub, Int.one_mul, Int.mul_one] at this
  omega
theorem FitI.more {p c a : List Int} {i : Nat} {m x y z : Int} (h : FitI p c a i m) (hx : p[i]? = some x) (hy : c[i]? = some y) (hz : a[i]? = some z) (hl : 0 < -z - x) (hl' : -z - x ≤ 1000) (hy0 : 0 < y) : FitI p c a (i + 1) (if (-z - x + y - 1) / y > m then (-z - x + y - 1) / y else m) := by
  obtain ⟨h1, h2, h3, h4⟩ := h
  obtain ⟨c1, c2, c3, c4⟩ := ceil_ok hl hy0
  by_cases hgt : (-z - x + y - 1) / y > m
  · rw [if_pos hgt]
    refine ⟨c4, by omega, fun j hj x' y' z' hx' hy' hz' hl' => ?_, .inr ⟨i, x, y, z, hx, hy, hz, hy0, c2⟩⟩
    by_cases e : j = i
    · subst e
      rw [hx] at hx'
      rw [hy] at hy'
      rw [hz] at hz'
      cases hx'
      cases hy'
      cases hz'
      exact ⟨hy0, c1⟩
    · obtain ⟨k1, k2⟩ := h3 j (by omega) x' y' z' hx' hy' hz' hl'
      have := Int.mul_le_mul_of_nonneg_right (show m ≤ (-z - x + y - 1) / y by omega) (show 0 ≤ y' by omega)
      exact ⟨k1, by omega⟩
  · rw [if_neg hgt]
    refine ⟨h1, h2, fun j hj x' y' z' hx' hy' hz' hl' => ?_, h4⟩
    by_cases e : j = i
    · subst e
      rw [hx] at hx'
      rw [hy] at hy'
      rw [hz] at hz'
      cases hx'
      cases hy'
      cases hz'
      have := Int.mul_le_mul_of_nonneg_right (show (-z - x + y - 1) / y ≤ m by omega) (show 0 ≤ y by omega)
      exact ⟨hy0, by omega⟩
    · exact h3 j (by omega) x' y' z' hx' hy' hz' hl'
theorem FitI.less {p c a : List Int} {i : Nat} {m : Int} (h : FitI p c a i m) {t : Nat} (ht : (t : Int) < m) : fitsB a (mvd p c t) = false := by
  obtain ⟨h1, h2, h3, h4⟩ := h
  rcases h4 with z | ⟨j, x, y, z, hx, hy, hz, hy0, hm⟩
  · omega
  · refine fits_mvd_no hx hy hz ?_
    have := Int.mul_le_mul_of_nonneg_right (show (t : Int) ≤ m - 1 by omega) (show 0 ≤ y by omega)
    omega
theorem FitI.yes {p c a : List Int} {i : Nat} {m : Int} (h : FitI p c a i m) (hf : fitsB a (mvd p c m) = true) : FitR p c a (some m.toNat) := by
  have h1 := h.1
  have h2 := h.2.1
  refine ⟨fun t ht => h.less (by omega), by rw [Int.toNat_of_nonneg h1]; exact hf, by omega⟩
theorem FitI.no {p c a : List Int} {m : Int} (hp : p.length = 10) (h : FitI p c a 10 m) (hf : fitsB a (mvd p c m) = false) : FitR p c a none := fun t => by
  by_cases ht : (t : Int) < m
  · exact h.less ht
  · obtain ⟨i, x, y, z, hx, hy, hz, hlt⟩ := fits_mvd_not hf
    obtain ⟨h1, h2, h3, h4⟩ := h
    refine fits_mvd_no hx hy hz ?_
    have hi : i < 10 := by
      have := (List.getElem?_eq_some_iff.mp hx).1
      omega
    by_cases hl : 0 < -z - x
    · obtain ⟨k1, k2⟩ := h3 i hi x y z hx hy hz hl
      omega
    · have y0 : y < 0 := by
        by_cases q : y < 0
        · exact q
        · have := Int.mul_nonneg h1 (show 0 ≤ y by omega)
          omega
      have := Int.mul_le_mul_of_nonneg_right (show m ≤ (t : Int) by omega) (show 0 ≤ -y by omega)
      rw [Int.mul_neg, Int.mul_neg] at this
      omega
/-- the stretch -/
def StR (rows : List (List Int)) (p c : List Int) (k : Nat) : Option Nat → Prop
  | none => ∀ t : Nat, fstI rows (mvd p c t) = some k
  | some T => (∀ t : Nat, t < T → fstI rows (mvd p c t) = some k) ∧ fstI rows (mvd p c T) ≠ some k
theorem fstI_ahead : ∀ {rows : List (List Int)} {p : List Int} {i : Nat}, fstI rows p = some i → ∀ j, j < i → ∀ a, rows[j]? = some a → fitsB a p = false
  | [], _, _, h => by cases h
  | c :: r, p, i, h => by
    unfold fstI at h
    by_cases hc : fitsB c p = true
    · rw [if_pos hc] at h
      cases h
      intro j hj
      omega
    · rw [if_neg hc] at h
      cases e : fstI r p with
      | none => rw [e] at h; cases h
      | some i' =>
        rw [e] at h
        have hi : i' + 1 = i := Option.some.inj h
        subst hi
        intro j hj a ha
        cases j with
        | zero => cases ha; exact Bool.eq_false_iff.mpr hc
        | succ j => exact fstI_ahead e j (by omega) a (by simpa using ha)
theorem fst_iff {rows : List (List Int)} {q c : List Int} {k : Nat} (hk : rows[k]? = some c) : fstI rows q = some k ↔ fitsB c q = true ∧ ∀ j, j < k → ∀ a, rows[j]? = some a → fitsB a q = false := by
  constructor
  · intro h
    obtain ⟨c', h1, h2, _⟩ := fstI_lt h
    rw [hk] at h1
    cases h1
    exact ⟨h2, fstI_ahead h⟩
  · rintro ⟨h1, h2⟩
    exact fstI_at rows q k h2 (fun c' e => by rw [hk] at e; cases e; exact h1) (List.getElem?_eq_some_iff.mp hk).1
theorem st_none {rows : List (List Int)} {p c : List Int} {k : Nat} {o : Option Nat} {os : List (Option Nat)} (hk : rows[k]? = some c) (L : LackR p c o) (F : ∀ j, j < k → ∀ a, rows[j]? = some a → ∃ q, os[j]? = some q ∧ FitR p c a q) (h : (o :: os).filterMap id = []) : StR rows p c k none := fun t => by
  have no : ∀ q ∈ o :: os, q = none := fun q hq => by
    cases q with
    | none => rfl
    | some T =>
      have : T ∈ (o :: os).filterMap id := List.mem_filterMap.mpr ⟨some T, hq, rfl⟩
      rw [h] at this
      cases this
  refine (fst_iff hk).mpr ⟨?_, fun j hj a ha => ?_⟩
  · have := no o List.mem_cons_self
    subst this
    exact L t
  · obtain ⟨q, hq, f⟩ := F j hj a ha
    have := no q (List.mem_cons_of_mem _ (List.mem_of_getElem? hq))
    subst this
    exact f t
theorem st_some {rows : List (List Int)} {p c : List Int} {k : Nat} {o : Option Nat} {os : List (Option Nat)} (hk : rows[k]? = some c) (ho : os.length = k) (L : LackR p c o) (F : ∀ j, j < k → ∀ a, rows[j]? = some a → ∃ q, os[j]? = some q ∧ FitR p c a q) {T : Nat} (h : T ∈ (o :: os).filterMap id) (hm : ∀ a ∈ (o :: os).filterMap id, T ≤ a) : StR rows p c k (some T) ∧ ((∃ x ∈ p, (T : Int) ≤ x) ∨ T ≤ 1000) := by
  have at_ : ∀ q T', q ∈ o :: os → q = some T' → T ≤ T' := fun q T' hq e => hm T' (List.mem_filterMap.mpr ⟨q, hq, by rw [e]; rfl⟩)
  obtain ⟨q, hq, e⟩ := List.mem_filterMap.mp h
  have eq : q = some T := e
  subst eq
  have hkl := (List.getElem?_eq_some_iff.mp hk).1
  have first : ∀ t : Nat, t < T → fstI rows (mvd p c t) = some k := fun t ht => by
    refine (fst_iff hk).mpr ⟨?_, fun j hj a ha => ?_⟩
    · cases o with
      | none => exact L t
      | some m => exact L.1 t (by have := at_ _ m List.mem_cons_self rfl; omega)
    · obtain ⟨q', hq', f⟩ := F j hj a ha
      cases q' with
      | none => exact f t
      | some m => exact f.1 t (by have := at_ _ m (List.mem_cons_of_mem _ (List.mem_of_getElem? hq')) rfl; omega)
  rcases List.mem_cons.mp hq with z | z
  · subst z
    exact ⟨⟨first, fun y => by have := ((fst_iff hk).mp y).1; rw [L.2.1] at this; cases this⟩, .inl L.2.2⟩
  · obtain ⟨j, hj⟩ := List.getElem?_of_mem z
    have hjk : j < k := by
      have := (List.getElem?_eq_some_iff.mp hj).1
      omega
    obtain ⟨q', hq', f⟩ := F j hjk _ (List.getElem?_eq_getElem (by omega))
    rw [hj] at hq'
    cases hq'
    exact ⟨⟨first, fun y => by have := ((fst_iff hk).mp y).2 j hjk _ (List.getElem?_eq_getElem (by omega)); rw [f.2.1] at this; cases this⟩, .inr f.2.2⟩
theorem mvd_zero {p c : List Int} (hp : p.length = 10) (hc : c.length = 10) : mvd p c 0 = p := by
  refine List.ext_getElem (by simp [mvd, hp, hc]) fun i h1 h2 => ?_
  simp only [mvd, List.getElem_zipWith]
  omega
end Mth

set_option Elab.async false
set_option linter.all false
set_option maxRecDepth 100000
set_option maxHeartbeats 4000000
/-! a call of a function that a local name holds; != of tuples of ints -/
namespace L2
open PySem PySem.Spec PyProof.Rows
section
variable {X : Cx} {CX : CXT} {k : Nat} {f : Addr} {fd : FuncData} {ps : List Str} {sp : Sp} {E : XK} {x : Str} {p pos : Pos} {e : Expr} {es : List Expr} {t : TA} {i : Nat}
def tCallV (i : Nat) (f : Addr) (sp : Sp) (E : XK) (t : TA) : TE := fun σ H Q => σ[i]? = some (some (.ref f)) ∧ tCall sp [] E t σ H Q
theorem qe_callV (F : FnOk X.prog X.w X.K X.mg X.base CX k f fd ps sp) (hr : Room k X.A) (hN : X.N[i]? = some x) (hv : Vis X.env.scope x) (hk : PySem.W.keepIn X.K (.ref f) = true) (hb : Binds X.K fd ps []) (hx : Passes CX X E)
    (ha : QA X (e :: es) t) (hdb : (x == ("__debug__" : Str)) = false := by decide) (hcd : (x == ("__classdict__" : Str)) = false := by decide) (hst : noStar e = true := by rfl) (hpl : (backTo pos (starEach es X.env)).any (·.1) = false := by rfl) :
    QE X (.Call (.Name x p) (e :: es) [] pos) (tCallV i f sp E t) := ⟨by
  intro pins s σ H Q I h
  obtain ⟨e1, h⟩ := h
  refine wpAny_Call_Name_kw (thn (pe_var hN hv hdb hcd pins s σ H (fun v H2 => v = .ref f ∧ H2 = H) I ⟨_, e1, rfl, rfl⟩) fun u s1 ⟨v, H1, I1, r1, ev, eH⟩ => ?_)
  subst ev
  subst eH
  cases r1
  refine PySem.W.callWith_K (h₀ := X.base) I1.ok.mod.kin hk (thn (ha.o pos pins s1 σ _ _ I1 h) fun us s2 ⟨vs, H2, I2, r, q⟩ => ⟨I2.kIn, ?_⟩) (starEach_cons hst es X.env) hpl
  exact run_fn F hr hb .nil hx I2 r q⟩
end
end L2
namespace L2
open PySem
end L2
namespace L2
open PySem
end L2

set_option Elab.async false
set_option linter.all false
set_option maxHeartbeats 4000000
namespace Mth
end Mth

set_option Elab.async false
set_option linter.all false
set_option maxHeartbeats 4000000
/-! rows by functions; a stretch reckoned by divisions -/
namespace Mth
def vec (f : Nat → Int) : List Int := (List.range 10).map f
theorem vec_len (f : Nat → Int) : (vec f).length = 10 := by simp [vec]
theorem vec_get {f : Nat → Int} {i : Nat} (h : i < 10) : (vec f)[i]? = some (f i) := by
  unfold vec
  rw [List.getElem?_map, List.getElem?_range h]
  rfl
theorem vec_at {f : Nat → Int} {i : Nat} {x : Int} (h : (vec f)[i]? = some x) : i < 10 ∧ x = f i := by
  have hl := (List.getElem?_eq_some_iff.mp h).1
  rw [vec_len] at hl
  rw [vec_get hl] at h
  exact ⟨hl, (Option.some.inj h).symm⟩
theorem vec_mem {f : Nat → Int} {x : Int} (h : x ∈ vec f) : ∃ i, i < 10 ∧ x = f i := by
  obtain ⟨i, hi⟩ := List.getElem?_of_mem h
  exact ⟨i, vec_at hi⟩
theorem vec_ext {f g : Nat → Int} (h : ∀ i, i < 10 → f i = g i) : vec f = vec g := by
  refine List.map_congr_left fun i hi => h i (List.mem_range.mp hi)
theorem rep_vec : List.replicate 10 (0 : Int) = vec fun _ => 0 := by decide
theorem vec_set (f : Nat → Int) (k : Nat) (v : Int) : (vec f).set k v = vec fun i => if i = k then v else f i := by
  refine List.ext_getElem? fun i => ?_
  by_cases hi : i < 10
  · rw [vec_get hi, List.getElem?_set]
    by_cases e : k = i
    · subst e
      rw [if_pos rfl, vec_len, if_pos hi, if_pos rfl]
    · rw [if_neg e, vec_get hi, if_neg fun z => e z.symm]
  · rw [List.getElem?_eq_none (by rw [List.length_set, vec_len]; omega), List.getElem?_eq_none (by rw [vec_len]; omega)]
theorem mvd_vec (p c : Nat → Int) (m : Int) : mvd (vec p) (vec c) m = vec fun i => p i + m * c i := by
  refine List.ext_getElem? fun i => ?_
  by_cases hi : i < 10
  · rw [vec_get hi]
    exact mvd_at (vec_get hi) (vec_get hi)
  · rw [List.getElem?_eq_none (by simp [mvd, vec_len]; omega), List.getElem?_eq_none (by rw [vec_len]; omega)]
theorem fits_vec {p c a : Nat → Int} {m : Int} : fitsB (vec a) (mvd (vec p) (vec c) m) = true ↔ ∀ i, i < 10 → 0 ≤ p i + m * c i + a i := by
  rw [fits_mvd]
  constructor
  · intro h i hi
    exact h i _ _ _ (vec_get hi) (vec_get hi) (vec_get hi)
  · intro h i x y z hx hy hz
    obtain ⟨hi, rfl⟩ := vec_at hx
    obtain ⟨_, rfl⟩ := vec_at hy
    obtain ⟨_, rfl⟩ := vec_at hz
    exact h i hi
theorem sum_set (xs : List Nat) (k v : Nat) : (xs.set k v).sum ≤ xs.sum + v := by
  have := sum_set_le xs k v
  omega
theorem termB_prod7 {es : List Nat} (h : es.sum ≤ 7) : termB (prod es : Nat) = true := by
  unfold termB
  have h1 := prod_pos es
  have h2 := prod_le es
  have h3 : 29 ^ es.sum ≤ 29 ^ 7 := Nat.pow_le_pow_right (by decide) h
  have h4 : (29 : Nat) ^ 7 = 17249876309 := by decide
  rw [Bool.and_eq_true, Bool.and_eq_true, decide_eq_true_iff, decide_eq_true_iff, decide_eq_true_iff]
  refine ⟨⟨by omega, by omega⟩, ?_⟩
  rw [Int.toNat_natCast]
  exact stripAll_prod es
theorem fracB_prod7 {es fs : List Nat} (h1 : es.sum ≤ 7) (h2 : fs.sum ≤ 7) (h : ∀ k, es.getD k 0 = 0 ∨ fs.getD k 0 = 0) : fracB (prod es : Nat) (prod fs : Nat) = true := by
  unfold fracB
  rw [termB_prod7 h1, termB_prod7 h2, Int.toNat_natCast, Int.toNat_natCast, noShare_prod h]
  rfl
theorem chg_prod {f g : Nat → Int} (hf : ∀ i, i < 10 → 0 ≤ f i) (hg : ∀ i, i < 10 → 0 ≤ g i) : chg (prod ((vec f).map Int.toNat)) (prod ((vec g).map Int.toNat)) = vec fun i => f i - g i := by
  unfold chg
  rw [powsOf_prod (by rw [List.length_map, vec_len]), powsOf_prod (by rw [List.length_map, vec_len])]
  refine List.ext_getElem? fun i => ?_
  by_cases hi : i < 10
  · rw [vec_get hi, List.getElem?_zipWith_eq_some]
    refine ⟨(f i).toNat, (g i).toNat, ?_, ?_, ?_⟩
    · rw [List.getElem?_map, vec_get hi]; rfl
    · rw [List.getElem?_map, vec_get hi]; rfl
    · have := hf i hi
      have := hg i hi
      omega
  · rw [List.getElem?_eq_none (by simp [vec_len]; omega), List.getElem?_eq_none (by rw [vec_len]; omega)]
theorem prod_none : prod ((vec fun _ => 0).map Int.toNat) = 1 := by decide
/-! what is built -/
section
variable (o h z : Nat) (t u wo wt po ph pz : Int)
def fW : Nat → Int := fun i => if i = z then wt else if i = h then wo else 0
def fT : Nat → Int := fun i => if i = h then u else 0
def fB : Nat → Int := fun i => if i = o then t else 0
def fP : Nat → Int := fun i => if i = z then pz else if i = h then ph else if i = o then po else 0
def fA : Nat → Int := fun i => 0 - fW h z wo wt i
end
theorem st_uniq {rows : List (List Int)} {p c : List Int} {k T : Nat} {x : Option Nat} (h1 : StR rows p c k (some T)) (h2 : StR rows p c k x) : x = some T := by
  cases x with
  | none => exact absurd (h2 T) h1.2
  | some T' =>
    congr 1
    rcases Nat.lt_trichotomy T T' with q | q | q
    · exact absurd (h2.1 T q) h1.2
    · exact q.symm
    · exact absurd (h1.1 T' q) h2.2
/-- a list with one more put in -/
theorem nodup_put {xs : List Int} {x : Int} (k : Nat) (h : xs.Nodup) (hx : x ∉ xs) : (xs.take k ++ x :: xs.drop k).Nodup := by
  refine (List.perm_middle.nodup_iff).mpr ?_
  rw [List.take_append_drop]
  exact List.nodup_cons.mpr ⟨hx, h⟩
end Mth

set_option Elab.async false
set_option linter.all false
set_option maxRecDepth 100000
set_option maxHeartbeats 4000000
/-! == of tuples of ints, texts and rows, whatever they are -/
namespace L2
open PySem PySem.Spec PyProof.Rows
section
variable {X : Cx}
end
end L2

set_option Elab.async false
set_option linter.all false
set_option maxRecDepth 100000
set_option maxHeartbeats 4000000
/-! the pairs of a dict, walked, whatever its keys are -/
namespace Itm
open PySem PyProof.Rows
theorem refN (d : Addr) : ¬ ((Value.ref d == Value.none) = true) := Bool.false_ne_true
theorem owns : Builtin.Dict_items.ownsTuple "dict_itemiterator" = true := by decide
section
variable {prog : Program} {w : World} {A : Around} {E : Value → Shared → Prop} {s : Shared}
/-- one more pair -/
theorem step {j d : Addr} {k e : Nat} {od : Obj} {es : Array DictEntry} {x : DictEntry} {u v : Value} {Q : Option Value → Shared → Prop} (zi : IsItemIter s.heap j d k es.size e u v) (zd : s.heap.get? d = some od) (ze : od.data = .dict es e) (zx : es[k]? = some x)
    (q : ∀ g, IsItemIterOut g j d (k + 1) es.size e x.key x.val s.heap.objs.size → g.get? s.heap.objs.size = some { cls := .type "tuple", data := .seq #[x.key, x.val] } → (∀ b o, b ≠ j → s.heap.get? b = some o → g.get? b = some o) → Q (some (.ref s.heap.objs.size)) { s with heap := g }) :
    wpAny (model prog w) A (pyNext (.ref j)) Q E s := by
  obtain ⟨hp, gg, dr, tk, os⟩ := s
  have ty : Shared.TypeIs ⟨hp, gg, dr, tk, os⟩ (.ref j) "dict_itemiterator" := ⟨_, zi, rfl⟩
  unfold pyNext
  refine wpAny_bind (wpAny_attempt (wpAny_callSpecial?_slot (name := Str.ofString "__next__") ty F.slot_dict_itemiterator_next (wpAny_call_entry F.slot_dict_itemiterator_next ty F.entry_dict_itemiterator_next ?_ (F.args_dict_itemiterator_next_1 _))))
  refine wpAny_bind (wpAny_pure (wpAny_bind (wpAny_bind ?_)))
  refine wpAny_bind (wpAny_typeNameOfWhole_itemiter ty (wpAny_pure (wpAny_bind (wpAny_fieldsOf zi rfl ?_))))
  simp only [owns, if_true]
  show wpAny _ _ (if (Value.ref d == Value.none) = true then _ else _) _ _ _
  rw [if_neg (refN d)]
  refine wpAny_bind (wpAny_pure (wpAny_bind (wpAny_dictEntries zd ze ?_)))
  rw [if_neg (by simp)]
  refine wpAny_bind (wpAny_pure (wpAny_bind (wpAny_dictEpoch zd ze ?_)))
  rw [if_neg (by simp)]
  refine wpAny_pure ?_
  have kl : k < es.size := (Array.getElem?_eq_some_iff.mp zx).1
  simp only [show ¬ ((k : Int) < 0) from by omega, if_false, Int.toNat_natCast, zx]
  refine wpAny_bind (wpAny_bind (wpAny_typeNameOfWhole_itemiter ty (wpAny_pure (wpAny_bind (wpAny_isOneOf_itemiter ty ?_)))))
  show wpAny _ _ (setField (.ref j) 3 (rawInt ((k : Int) + 1)) >>= _) _ _ _
  refine wpAny_bind (wpAny_setField_rec zi (by simp) fun h1 a1 b1 => ?_)
  replace b1 : Heap.SameBut j hp h1 := b1
  replace a1 : IsItemIter h1 j d (k + 1) es.size e u v := by
    have z : ((k + 1 : Nat) : Int) = (k : Int) + 1 := by omega
    unfold IsItemIter
    rw [z]
    simpa [rawInt] using a1
  have ty1 : Shared.TypeIs ⟨h1, gg, dr, tk, os⟩ (.ref j) "dict_itemiterator" := ⟨_, a1, rfl⟩
  refine wpAny_bind (wpAny_holding (wpAny_bind (wpAny_isOneOf_itemiter ty1 (wpAny_bind (wpAny_isOneOf_itemiter ty1 ?_)))))
  show wpAny _ _ (Builtin.Dict_items.pairFromOwner (.ref j) 6 x.key x.val) _ _ ⟨h1, gg, dr, tk, os⟩
  unfold Builtin.Dict_items.pairFromOwner
  refine wpAny_bind (wpAny_newTuple ?_)
  have a2 : IsItemIter (h1.push { cls := .type "tuple", data := .seq #[x.key, x.val] }) j d (k + 1) es.size e u v := Heap.get?_push_of_some _ a1
  generalize z2 : h1.push { cls := .type "tuple", data := .seq #[x.key, x.val] } = h2 at a2
  have n1 : h1.objs.size = hp.objs.size := b1.1
  have jl : j < hp.objs.size := Heap.lt_size zi
  have t2 : h2.get? hp.objs.size = some { cls := .type "tuple", data := .seq #[x.key, x.val] } := by rw [← z2, ← n1]; exact Heap.get?_push_size _ rfl
  have k2 : ∀ b o, b ≠ j → hp.get? b = some o → h2.get? b = some o := fun b o nb y => by rw [← z2]; exact Heap.get?_push_of_some _ (b1.extBut b o nb y)
  show wpAny _ _ (Builtin.Dict_items.ownedTupleIsFree (.ref j) >>= _) _ _ ⟨h2, gg, dr, tk, os⟩
  rw [n1]
  refine wpAny_bind ?_
  unfold Builtin.Dict_items.ownedTupleIsFree
  refine wpAny_bind (wpAny_field a2 rfl (x := .none) rfl (wpAny_pure ?_))
  simp only [if_true]
  refine wpAny_bind (wpAny_field a2 rfl (x := u) rfl (wpAny_bind (wpAny_field a2 rfl (x := v) rfl (wpAny_bind (wpAny_setField_rec a2 (by simp) fun h3 a3 b3 => ?_)))))
  replace b3 : Heap.SameBut j h2 h3 := b3
  replace a3 : IsItemIter h3 j d (k + 1) es.size e x.key v := a3
  refine wpAny_bind (wpAny_setField_rec a3 (by simp) fun h4 a4 b4 => ?_)
  replace b4 : Heap.SameBut j h3 h4 := b4
  replace a4 : IsItemIter h4 j d (k + 1) es.size e x.key x.val := a4
  refine wpAny_bind (wpAny_setField_rec a4 (by simp) fun h5 a5 b5 => ?_)
  replace b5 : Heap.SameBut j h4 h5 := b5
  replace a5 : IsItemIterOut h5 j d (k + 1) es.size e x.key x.val hp.objs.size := a5
  refine wpAny_bind (wpAny_setField_rec a5 (by simp) fun h6 a6 b6 => ?_)
  replace b6 : Heap.SameBut j h5 h6 := b6
  replace a6 : IsItemIterOut h6 j d (k + 1) es.size e x.key x.val hp.objs.size := a6
  have k6 : ∀ b o, b ≠ j → h2.get? b = some o → h6.get? b = some o := fun b o nb y => b6.extBut b o nb (b5.extBut b o nb (b4.extBut b o nb (b3.extBut b o nb y)))
  exact wpAny_bind (wpAny_letGo (wpAny_pure (wpAny_pure ⟨_, rfl, wpAny_pure (q h6 a6 (k6 _ _ (Nat.ne_of_gt jl) t2) fun b o nb y => k6 b o nb (k2 b o nb y))⟩)))
/-- no more -/
theorem stop {j d : Addr} {k e : Nat} {od : Obj} {es : Array DictEntry} {u v : Value} {Q : Option Value → Shared → Prop} (hd : A.handled = none) (zi : IsItemIter s.heap j d k es.size e u v) (zd : s.heap.get? d = some od) (ze : od.data = .dict es e) (zx : es.size ≤ k)
    (q : ∀ g, Heap.ExtBut j s.heap g → Q none { s with heap := g }) : wpAny (model prog w) A (pyNext (.ref j)) Q E s := by
  have ty : s.TypeIs (.ref j) "dict_itemiterator" := ⟨_, zi, rfl⟩
  unfold pyNext
  refine wpAny_bind (wpAny_attempt (wpAny_callSpecial?_slot (name := Str.ofString "__next__") ty F.slot_dict_itemiterator_next (wpAny_call_entry F.slot_dict_itemiterator_next ty F.entry_dict_itemiterator_next ?_ (F.args_dict_itemiterator_next_1 _))))
  refine wpAny_bind (wpAny_pure (wpAny_bind (wpAny_bind ?_)))
  refine wpAny_bind (wpAny_typeNameOfWhole_itemiter ty (wpAny_pure (wpAny_bind (wpAny_fieldsOf zi rfl ?_))))
  simp only [owns, if_true]
  show wpAny _ _ (if (Value.ref d == Value.none) = true then _ else _) _ _ s
  rw [if_neg (refN d)]
  refine wpAny_bind (wpAny_pure (wpAny_bind (wpAny_dictEntries zd ze ?_)))
  rw [if_neg (by simp)]
  refine wpAny_bind (wpAny_pure (wpAny_bind (wpAny_dictEpoch zd ze ?_)))
  rw [if_neg (by simp)]
  refine wpAny_pure ?_
  simp only [show ¬ ((k : Int) < 0) from by omega, if_false, Int.toNat_natCast, Array.getElem?_eq_none zx]
  refine wpAny_bind (wpAny_bind (wpAny_typeNameOfWhole_itemiter ty (wpAny_pure ?_)))
  show wpAny _ _ (setField (.ref j) 2 .none >>= _) _ _ s
  refine wpAny_bind (wpAny_setField zi rfl (by simp) ?_)
  show wpAny _ _ (newExc (.type "StopIteration") [] >>= _) _ _ _
  refine wpAny_bind ?_
  simp only [newExc, newTuple]
  refine wpAny_bind (wpAny_newObj_type (wpAny_bind (m := firstArgMember _ _) (wpAny_of_eq (a := Value.none) (by first | rfl | (simp only [firstArgMember]; rfl)) (wpAny_newObj_type ?_ (by size_fits)))) (by size_fits))
  simp only [raiseNew]
  refine wpAny_bind (wpAny_handled ?_)
  first
    | rw [show A.in1.handled = none from hd]
    | rw [hd]
  refine wpAny_bind (wpAny_pure (wpAny_throw ?_))
  exact wpAny_bind (wpAny_isInstance (T := "StopIteration") (b := true) ⟨_, Heap.get?_push_size _ rfl, rfl⟩ isSubtype_stop (wpAny_pure (q _ (((Heap.SameBut.update ..).extBut.push _).push _))))
/-- an iterator over what it shows -/
theorem iter {v d : Addr} {e : Nat} {od : Obj} {es : Array DictEntry} {Q : Value → Shared → Prop} (zv : s.heap.IsItemsView v d) (zd : s.heap.get? d = some od) (ze : od.data = .dict es e)
    (q : Q (.ref s.heap.objs.size) { s with heap := s.heap.push { cls := .type "dict_itemiterator", data := .fields #[.none, .bool false, .ref d, .int 0 0, .int es.size 0, .int e 0, .none, .none] } }) : wpAny (model prog w) A (pyIter (.ref v)) Q E s := by
  obtain ⟨ov, g1, g2, g3⟩ := id zv
  refine wpAny_pyIter_slot zv.typeIs F.slot_dict_items_iter (wpAny_call_entry F.slot_dict_items_iter zv.typeIs F.entry_dict_items_iter ?_ (F.args_dict_items_iter_1 _))
  unfold Builtin.«dict_items.__iter__»
  refine wpAny_bind (wpAny_pure (wpAny_bind ?_))
  unfold Builtin.Dict_items.dictOf
  refine wpAny_bind (wpAny_field g1 g3 (x := .ref d) rfl (wpAny_pure (wpAny_bind ?_)))
  unfold Builtin.Dict_items.newIterator
  refine wpAny_bind (wpAny_dictEntries zd ze (wpAny_bind (wpAny_dictEpoch zd ze ?_)))
  simp only [owns, if_true]
  refine wpAny_newObj_type (wpAny_pure ⟨_, rfl, "dict_itemiterator", _, ⟨_, Heap.get?_push_size _ rfl, rfl⟩, F.slot_dict_itemiterator_next.lookup, ?_⟩) (by simp only [sizeOk, Builtin.Dict_items.ownedTupleFields, List.size_toArray, List.length_append, List.length_cons, List.length_nil, sizeLine_eq]; omega)
  simpa [rawInt, Builtin.Dict_items.ownedTupleFields] using q
end
end Itm

namespace L2
open PySem PySem.Spec PyProof.Rows
section
variable {X : Cx} {tg : Expr}
end
end L2

set_option Elab.async false
set_option linter.all false
set_option maxRecDepth 100000
set_option maxHeartbeats 4000000
/-! reversed(range(n)), walked -/
namespace Rev
open PySem PyProof.Rows
section
variable {prog : Program} {w : World} {A : Around} {E : Value → Shared → Prop} {s : Shared}
end
end Rev

namespace L2
open PySem PySem.Spec PyProof.Rows
section
variable {X : Cx} {tg : Expr}
end
end L2

set_option Elab.async false
set_option linter.all false
set_option maxRecDepth 100000
set_option maxHeartbeats 4000000
/-! min of a list of tuples that begin with two ints, no two alike -/
namespace MinT
open PySem PyProof.Rows
open PySem.SeqAt
open PySem.AutoSeq1 (wpAny_loadPart')
open PySem.MeetsSeq PySem.MeetsSeq2 PySem.MeetsSeq3
abbrev tupO (items : Array Value) (n : Nat) (dd : Option Addr) (sl : Array (Option Value)) : Obj := { cls := .type "tuple", dict := dd, data := .seq items n, slots := sl }
section
variable {prog : Program} {w : World} {A : Around} {E : Value → Shared → Prop} {s : Shared}
/-- a tuple that begins so -/
def Beg (h : Heap) (v : Value) (p : Int × Int) : Prop := ∃ a items t u r, v = .ref a ∧ h.IsTuple a items ∧ items.toList = .int p.1 t :: .int p.2 u :: r
end
theorem best_le (bt : Nat → Nat → Bool) : ∀ k, argBest bt k ≤ k
  | 0 => Nat.le_refl _
  | k + 1 => by
    simp only [argBest]
    split
    · exact Nat.le_refl _
    · exact Nat.le_succ_of_le (best_le bt k)
section
variable {prog : Program} {w : World} {A : Around} {R : Result → Shared → Prop} {I : Addr} {fp wr : List Addr} {n : Nat} {P : Nat → Value → Prop} {St : Nat → Heap → Prop}
theorem more (W : Walks prog w A.in1 I fp wr n P St) (bt : Nat → Nat → Bool) (hcmp : ∀ i j vi vj (s : Shared) (k : Nat) (Q : Value → Shared → Prop) (E : Value → Shared → Prop), P i vi → P j vj → i ≠ j → St k s.heap → Q (.bool (bt i j)) s → wpAny (model prog w) A.in1 (richCompare .Lt vi vj) Q E s) (S : Addr) (hSf : S ∉ fp) (kw : List (Str × Value)) :
    ∀ (k j : Nat) (s : Shared) (vb : Value) (c : Nat), n - (j + 1) = k → j + 1 ≤ n → St (j + 1) s.heap → P (argBest bt j) vb →
    s.heap.get? S = some { cls := .type "list", dict := none, data := .seq #[vb, vb] c, slots := #[] } →
    (∀ v h' tk, P (argBest bt (n - 1)) v → (∀ b o, b ∉ wr → b ≠ S → s.heap.get? b = some o → h'.get? b = some o) → R (.ok (.ret v)) { s with heap := h', toks := tk }) →
    codeAny (model prog w) A (.builtin "min.loop" ⟨[.ref I, .none, .ref S], kw⟩) R s := by
  have hSw : S ∉ wr := fun h => hSf (W.sub _ h)
  have hname : (toString "min" ++ toString ".loop" : String) = "min.loop" := by decide
  intro k
  induction k with
  | zero =>
    intro j s vb c hk hj hst hPb hS hR
    have hin : j + 1 = n := by omega
    refine codeAny_builtin F.entry_min_loop ?_
    rw [Around.under_plainId F.plain_min_loop _]
    show wpAny _ A.in1 (seqItems? (.ref S) >>= _) _ _ s
    refine wpAny_bind (wpAny_seqItems hS rfl ?_)
    show wpAny _ A.in1 (tryCatch (pyNext (.ref I)) _ >>= _) _ _ s
    refine wpAny_bind (wpAny_tryCatch (W.done s _ _ (hin ▸ hst) fun h' tk hk' => ?_))
    have hS' := hk' S _ hSw hS
    show wpAny _ A.in1 (updateSeq S (fun _ => #[]) >>= _) _ _ _
    refine wpAny_bind ?_
    refine wpAny_updateSeq hS' rfl (wpAny_bind (wpAny_letGo (wpAny_pure ?_)))
    refine hR vb _ tk (by rw [← hin]; exact hPb) fun b o hbw hbS e => (Heap.get?_update_other _ _ (Ne.symm hbS)).trans (hk' b o hbw e)
  | succ k ih =>
    intro j s vb c hk hj hst hPb hS hR
    have hlt : j + 1 < n := by omega
    refine codeAny_builtin F.entry_min_loop ?_
    rw [Around.under_plainId F.plain_min_loop _]
    show wpAny _ A.in1 (seqItems? (.ref S) >>= _) _ _ s
    refine wpAny_bind (wpAny_seqItems hS rfl ?_)
    show wpAny _ A.in1 (tryCatch (pyNext (.ref I)) _ >>= _) _ _ s
    refine wpAny_bind (wpAny_tryCatch (W.item (j + 1) s _ _ hlt hst fun v h' tk hP hst' hk' => ?_))
    have hS' := hk' S _ hSw hS
    show wpAny _ A.in1 (tryCatch (holding [v, v] (richCompare .Lt v vb >>= _)) _ >>= _) _ _ _
    refine wpAny_bind (wpAny_tryCatch (wpAny_holding (wpAny_bind (hcmp (j + 1) (argBest bt j) v vb _ _ _ _ hP hPb (Nat.ne_of_gt (Nat.lt_succ_of_le (best_le bt j))) hst' ?_))))
    refine wpAny_bind (wpAny_holding (wpAny_truthy_bool ?_))
    refine wpAny_bind (wpAny_letGo (wpAny_pure ?_))
    cases hb : bt (j + 1) (argBest bt j) with
    | true =>
      simp only [if_true]
      refine wpAny_bind ?_
      refine wpAny_updateSeq hS' rfl (wpAny_bind (wpAny_letGo ?_))
      rw [hname]
      refine wpAny_pure ⟨plainId_quiet F.plain_min_loop _, ih (j + 1) _ v _ (by omega) hlt (W.frame _ _ _ hst' fun b hbf o e => ?_) (by simp only [argBest, hb, if_true]; exact hP) (Heap.get?_update_self _ hS' rfl)
        fun v' h'' tk'' hP' hk'' => ?_⟩
      · exact (Heap.get?_update_other _ _ (fun h : S = b => hSf (by rw [h]; exact hbf))).trans e
      · exact hR v' h'' tk'' hP' fun b o hbw hbS e => hk'' b o hbw hbS ((Heap.get?_update_other _ _ (Ne.symm hbS)).trans (hk' b o hbw e))
    | false =>
      simp only [Bool.false_eq_true, if_false]
      refine wpAny_bind (wpAny_letGo ?_)
      rw [hname]
      refine wpAny_pure ⟨plainId_quiet F.plain_min_loop _, ih (j + 1) _ vb c (by omega) hlt hst' (by simp only [argBest, hb, Bool.false_eq_true, if_false]; exact hPb) hS' fun v' h'' tk'' hP' hk'' => ?_⟩
      exact hR v' h'' tk'' hP' fun b o hbw hbS e => hk'' b o hbw hbS (hk' b o hbw e)
theorem first (W : Walks prog w A.in1 I fp wr n P St) (bt : Nat → Nat → Bool) (hcmp : ∀ i j vi vj (s : Shared) (k : Nat) (Q : Value → Shared → Prop) (E : Value → Shared → Prop), P i vi → P j vj → i ≠ j → St k s.heap → Q (.bool (bt i j)) s → wpAny (model prog w) A.in1 (richCompare .Lt vi vj) Q E s) (S : Addr) (hSf : S ∉ fp) (kw : List (Str × Value)) (hn : 0 < n) {s : Shared} {c : Nat} (hst : St 0 s.heap)
    (hS : s.heap.get? S = some { cls := .type "list", dict := none, data := .seq #[] c, slots := #[] })
    (hR : ∀ v h' tk, P (argBest bt (n - 1)) v → (∀ b o, b ∉ wr → b ≠ S → s.heap.get? b = some o → h'.get? b = some o) → R (.ok (.ret v)) { s with heap := h', toks := tk }) :
    codeAny (model prog w) A (.builtin "min.loop" ⟨[.ref I, .none, .ref S], kw⟩) R s := by
  have hSw : S ∉ wr := fun h => hSf (W.sub _ h)
  have hname : (toString "min" ++ toString ".loop" : String) = "min.loop" := by decide
  refine codeAny_builtin F.entry_min_loop ?_
  rw [Around.under_plainId F.plain_min_loop _]
  show wpAny _ A.in1 (seqItems? (.ref S) >>= _) _ _ s
  refine wpAny_bind (wpAny_seqItems hS rfl ?_)
  show wpAny _ A.in1 (tryCatch (pyNext (.ref I)) _ >>= _) _ _ s
  refine wpAny_bind (wpAny_tryCatch (W.item 0 s _ _ hn hst fun v h' tk hP hst' hk' => ?_))
  have hS' := hk' S _ hSw hS
  show wpAny _ A.in1 (updateSeq S (fun _ => #[v, v]) >>= _) _ _ _
  refine wpAny_bind ?_
  refine wpAny_updateSeq hS' rfl ?_
  rw [hname]
  refine wpAny_pure ⟨plainId_quiet F.plain_min_loop _, more W bt hcmp S hSf kw _ 0 _ v _ rfl hn (W.frame _ _ _ hst' fun b hbf o e => ?_) hP (Heap.get?_update_self _ hS' rfl) fun v' h'' tk'' hP' hk'' => ?_⟩
  · exact (Heap.get?_update_other _ _ (fun h : S = b => hSf (by rw [h]; exact hbf))).trans e
  · exact hR v' h'' tk'' hP' fun b o hbw hbS e => hk'' b o hbw hbS ((Heap.get?_update_other _ _ (Ne.symm hbS)).trans (hk' b o hbw e))
end
section
variable {prog : Program} {w : World} {A : Around} {E : Value → Shared → Prop} {s : Shared}
theorem call_walk {x : Value} {Q : Value → Shared → Prop}
    (h : wpAny (model prog w) A.in1 (pyIter x) (fun it s₂ => ∃ I fp wr n P St bt, it = .ref I ∧ Walks prog w A.in1 I fp wr n P St ∧ St 0 s₂.heap ∧ (∀ b ∈ fp, b < s₂.heap.objs.size) ∧ 0 < n ∧ (∀ i j vi vj (s : Shared) (k : Nat) (Q : Value → Shared → Prop) (E : Value → Shared → Prop), P i vi → P j vj → i ≠ j → St k s.heap → Q (.bool (bt i j)) s → wpAny (model prog w) A.in1 (richCompare .Lt vi vj) Q E s) ∧
      ∀ v h' tk, P (argBest bt (n - 1)) v → (∀ b o, b ∉ wr → s₂.heap.get? b = some o → h'.get? b = some o) → Q v { s₂ with heap := h', toks := tk }) E s) : wpAny (model prog w) A (call (.builtin "min") [x]) Q E s := by
  have hname : (toString "min" ++ toString ".loop" : String) = "min.loop" := by decide
  refine call_function_tree F.kind_min F.plain_min F.entry_min (F.args_min1 x) ?_
  show wpAny _ A.in1 (Builtin.Builtins.bindParams "min" ["key", "default"] 0 ⟨[], []⟩ >>= _) _ _ s
  refine wpAny_bind (wpAny_of_eq (show Builtin.Builtins.bindParams "min" ["key", "default"] 0 ⟨[], []⟩ = pure [none, none] from rfl) (wpAny_bind (wpAny_pure ?_)))
  refine wpAny_bind (wpAny_mono h (fun it s₂ h₂ => ?_) fun _ _ e => e)
  obtain ⟨I, fp, wr, n, P, St, bt, rfl, W, hst, hfp, hn, hcmp, hQ⟩ := h₂
  refine wpAny_bind (wpAny_newObj_type ?_)
  have hSf : s₂.heap.objs.size ∉ fp := fun hm => Nat.lt_irrefl _ (hfp _ hm)
  rw [hname]
  refine wpAny_pure ⟨plainId_quiet F.plain_min_loop _, first W bt hcmp s₂.heap.objs.size hSf _ hn (W.frame _ _ _ hst fun b _ o e => Heap.get?_push_of_some _ e) (Heap.get?_push_size _ rfl) fun v h' tk hP hk => ?_⟩
  exact hQ v h' tk hP fun b o hbw e => hk b o hbw (Nat.ne_of_lt (Heap.lt_size e)) (Heap.get?_push_of_some _ e)
/-- a list of such tuples walked, all of them standing -/
theorem walk {I l : Addr} {items : Array Value} {ps : List (Int × Int)} {tv : List Addr} (hd : A.handled = none) (hne : l ≠ I) (hI : I ∉ tv) : Walks prog w A I (I :: l :: tv) [I] items.size (fun i v => items[i]? = some v) (fun i h => (h.IsListIter I l i ∧ h.IsList l items) ∧ ∀ (k : Nat) v, items[k]? = some v → ∃ a ∈ tv, v = .ref a ∧ ∃ p, ps[k]? = some p ∧ Beg h v p) := by
  have W := Walks.list (prog := prog) (w := w) (A := A) hd I l hne items
  have keep : ∀ {h h' : Heap}, (∀ b ∈ tv, ∀ o, h.get? b = some o → h'.get? b = some o) → (∀ (k : Nat) v, items[k]? = some v → ∃ a ∈ tv, v = .ref a ∧ ∃ p, ps[k]? = some p ∧ Beg h v p) → ∀ (k : Nat) v, items[k]? = some v → ∃ a ∈ tv, v = .ref a ∧ ∃ p, ps[k]? = some p ∧ Beg h' v p := fun {h h'} kk hb k v hv => by
    obtain ⟨a, ha, e, p, hp, a', its, t, u, r, e', ⟨o, ho, rest⟩, hit⟩ := hb k v hv
    refine ⟨a, ha, e, p, hp, a', its, t, u, r, e', ⟨o, kk _ ?_ _ ho, rest⟩, hit⟩
    rw [e] at e'
    cases e'
    exact ha
  refine ⟨fun b hb => ?_, fun i h h' st hk => ⟨W.frame i h h' st.1 fun b hb o e => hk b ?_ o e, keep (fun b hb o e => hk b (by simp [hb]) o e) st.2⟩, fun i s Q E hi st hQ => ?_, fun s Q E st hQ => ?_, fun i s Q E st hQ => W.self i s Q E st.1 hQ⟩
  · rw [List.mem_singleton] at hb
    rw [hb]
    exact List.mem_cons_self
  · simp only [List.mem_cons, List.not_mem_nil, or_false] at hb
    rcases hb with rfl | rfl <;> simp
  · refine W.item i s Q E hi st.1 fun v h' tk hv st' kk => hQ v h' tk hv ⟨st', keep (fun b hb o e => kk b o (fun z => ?_) e) st.2⟩ kk
    rw [List.mem_singleton] at z
    exact hI (z ▸ hb)
  · exact W.done s Q E st.1 hQ
end
end MinT

namespace MinT
end MinT
namespace L2
open PySem PySem.Spec PyProof.Rows
section
variable {X : Cx}
end
end L2

set_option Elab.async false
set_option linter.all false
set_option maxHeartbeats 4000000
/-! where two powers meet -/
namespace Mth
/-- what is come to by at most m steps, each once: n of them -/
structure LstR (rows : List (List Int)) (p : List Int) (m n : Nat) : Prop where
  dst : Dst rows p n
  go : ∀ j, j < n → ∃ e, goN rows j p = some e
  le : n ≤ m + 1
  all : ∀ j, j ≤ m → ∀ e, goN rows j p = some e → ∃ j', j' < n ∧ j' ≤ j ∧ goN rows j' p = some e
theorem goN_some {rows : List (List Int)} {p e : List Int} : ∀ {i : Nat}, goN rows i p = some e → ∀ j, j ≤ i → ∃ q, goN rows j p = some q
  | 0, h, j, hj => by
    have : j = 0 := by omega
    subst this
    exact ⟨e, h⟩
  | i + 1, h, j, hj => by
    by_cases z : j = i + 1
    · subst z
      exact ⟨e, h⟩
    · cases g : goN rows i p with
      | none =>
        have h' : (goN rows i p).bind (stp rows) = some e := h
        rw [g] at h'
        cases h'
      | some q => exact goN_some g j (by omega)
/-- it comes to the same again -/
theorem LstR.again {rows : List (List Int)} {p e : List Int} {m i j : Nat} (D : Dst rows p i) (hi : goN rows i p = some e) (hj : goN rows j p = some e) (hji : j < i) (him : i ≤ m) : LstR rows p m i := by
  refine ⟨D, fun k hk => goN_some hi k (by omega), by omega, ?_⟩
  have key : ∀ k, ∀ q, goN rows k p = some q → ∃ j', j' < i ∧ j' ≤ k ∧ goN rows j' p = some q := by
    intro k
    induction k using Nat.strongRecOn with
    | ind k ih =>
      intro q hq
      by_cases hk : k < i
      · exact ⟨k, hk, Nat.le_refl _, hq⟩
      · have e1 := goN_shift (rows := rows) (p := p) (a := j) (b := i) (by rw [hi, hj]) (k - i)
        rw [show i + (k - i) = k by omega, hq] at e1
        obtain ⟨j', h1, h2, h3⟩ := ih (j + (k - i)) (by omega) q e1
        exact ⟨j', h1, by omega, h3⟩
  exact fun k _ q hq => key k q hq
/-- it rests -/
theorem LstR.rest {rows : List (List Int)} {p e : List Int} {m i : Nat} (D : Dst rows p (i + 1)) (hi : goN rows i p = some e) (hf : fstI rows e = none) (him : i ≤ m) : LstR rows p m (i + 1) :=
  ⟨D, fun k hk => goN_some hi k (by omega), by omega, fun k _ q hq => by
    have := goN_restLt hi hf hq
    exact ⟨k, by omega, Nat.le_refl _, hq⟩⟩
/-- they meet so -/
def MeetR (rows : List (List Int)) (p q : List Int) (m : Nat) : Option (Nat × Nat × List Int) → Prop
  | none => ∀ k j e, k ≤ m → j ≤ m → goN rows k p = some e → goN rows j q ≠ some e
  | some (k, j, e) => k ≤ m ∧ j ≤ m ∧ goN rows k p = some e ∧ goN rows j q = some e ∧ ∀ k' j' e', k' ≤ m → j' ≤ m → goN rows k' p = some e' → goN rows j' q = some e' → k + j < k' + j' ∨ (k + j = k' + j' ∧ k ≤ k')
theorem MeetR.uniq {rows : List (List Int)} {p q : List Int} {m : Nat} : ∀ {x y : Option (Nat × Nat × List Int)}, MeetR rows p q m x → MeetR rows p q m y → x = y
  | none, none, _, _ => rfl
  | none, some (k, j, e), h, ⟨a, b, c, d, _⟩ => absurd d (h k j e a b c)
  | some (k, j, e), none, ⟨a, b, c, d, _⟩, h => absurd d (h k j e a b c)
  | some (k, j, e), some (k', j', e'), ⟨a, b, c, d, f⟩, ⟨a', b', c', d', f'⟩ => by
    have h1 := f k' j' e' a' b' c' d'
    have h2 := f' k j e a b c d
    have : k = k' := by omega
    subst this
    have : j = j' := by omega
    subst this
    rw [c] at c'
    cases c'
    rfl
end Mth

set_option Elab.async false
set_option linter.all false
set_option maxRecDepth 100000
set_option maxHeartbeats 4000000
/-! boxes for the pairs of a dict and for reversed ranges; a list beside an empty one -/
namespace L2
open PySem PySem.Spec PyProof.Rows
section
variable {X : Cx} {tg : Expr}
end
end L2

set_option Elab.async false
set_option linter.all false
set_option maxRecDepth 100000
set_option maxHeartbeats 4000000
/-! != of tuples of ints, texts and rows; of two ints or two rows -/
namespace L2
open PySem PySem.Spec PyProof.Rows
section
variable {X : Cx}
end
end L2

set_option Elab.async false
set_option linter.all false
set_option maxHeartbeats 4000000
/-! what becomes of later powers, and of those ahead -/
namespace Mth
end Mth

set_option Elab.async false
set_option linter.all false
set_option maxRecDepth 100000
set_option maxHeartbeats 4000000
namespace L2
open PySem PySem.Spec PyProof.Rows
end L2

set_option Elab.async false
set_option linter.all false
set_option maxRecDepth 100000
set_option maxHeartbeats 4000000
/-! any of a list of truths; walks over two lists, over a tuple and a list, over three tuples -/
namespace L2
open PySem PySem.Spec PyProof.Rows
section
variable {X : Cx}
end
/-- for over a zip of two lists -/
theorem for_zipL {a b : Addr} {xs ys : List V} {g : TG} {tb : TS} {D : Ends} {σ : St} {H : Hp} (Pv : Nat → St → Hp → Prop) (h0 : Pv 0 σ H) (hl : ∀ i σ H, i ≤ min xs.length ys.length → Pv i σ H → H a = some (.lst xs) ∧ H b = some (.lst ys))
    (hs : ∀ i x y p σ H, xs[i]? = some x → ys[i]? = some y → H p = none → Pv i σ H → g (.ref p) σ (upd H p (.tup [x, y])) fun σ2 H2 => tb { D with nx := Pv (i + 1), ct := Pv (i + 1), bk := D.nx } σ2 H2) (hd : ∀ σ H, Pv (min xs.length ys.length) σ H → D.nx σ H) :
    ∃ W : Nat → Nat → St → Hp → Prop, (∃ m, W 0 m σ H) ∧ ∀ i m σ H, W i m σ H →
      ((Itzl a b).stop i H ∧ D.nx σ H) ∨ ((Itzl a b).go i H ∧ ∃ N : St → Hp → Prop, (∀ σ' H', N σ' H' → ∃ m', m' < m ∧ W (i + 1) m' σ' H') ∧ ∀ x H', (Itzl a b).yld i H x H' → g x σ H' fun σ2 H2 => tb { D with nx := N, ct := N, bk := D.nx } σ2 H2) := by
  refine ⟨fun i m σ H => m = min xs.length ys.length - i ∧ i ≤ min xs.length ys.length ∧ Pv i σ H, ⟨_, rfl, Nat.zero_le _, h0⟩, ?_⟩
  rintro i m σ H ⟨rfl, hi, p⟩
  obtain ⟨qa, qb⟩ := hl i σ H hi p
  by_cases hlt : i < min xs.length ys.length
  · have h1 : i < xs.length := by omega
    have h2 : i < ys.length := by omega
    refine .inr ⟨⟨xs, ys, xs[i], ys[i], qa, qb, by simp [h1], by simp [h2]⟩, Pv (i + 1), fun σ' H' p' => ⟨min xs.length ys.length - (i + 1), by omega, rfl, hlt, p'⟩, fun v H' yv => ?_⟩
    obtain ⟨q, hq, rfl, x, y, rfl, hxy⟩ := yv
    obtain ⟨ex, ey⟩ := hxy xs ys qa qb
    exact hs i x y q σ H ex ey hq p
  · have e : i = min xs.length ys.length := by omega
    exact .inl ⟨⟨xs, ys, qa, qb, by omega⟩, hd σ H (e ▸ p)⟩
end L2

set_option Elab.async false
set_option linter.all false
set_option maxRecDepth 100000
set_option maxHeartbeats 4000000
/-! the greatest of a list's or a tuple's ints; where an int stands in a list -/
namespace L2
open PySem PySem.Spec PySem.SeqAt PyProof.Rows
section
variable {X : Cx}
end
end L2

set_option linter.all false
/-! trails that loop: what shuts a fraction out, what a part of a path adds, the first loop -/
namespace Mth
def shutB (c p d : List Int) : Bool := (List.range 10).any fun i => decide (p.getD i 0 + c.getD i 0 < 0) && decide (d.getD i 0 = 0)
theorem gD {l : List Int} {k : Nat} (h : k < l.length) : l[k]? = some (l.getD k 0) := by
  rw [List.getD_eq_getElem?_getD, List.getElem?_eq_getElem h]
  rfl
def loopB (R P : List (List Int)) (U : List Nat) (d : List Int) : Bool := (List.range U.length).all fun k => (R.take (U.getD k 0)).all fun c => shutB c (P.getD k []) d
def addD (P : List (List Int)) (n : Nat) : List Int := mvd (P.getD n []) (P.getD 0 []) (-1)
def addL (R P : List (List Int)) (U : List Nat) : Option (List Int) := if nn (addD P U.length) = true ∧ loopB R P U (addD P U.length) = true then some (addD P U.length) else none
def cutL {α : Type} (l : List α) (s e : Nat) : List α := (l.drop s).take (e - s)
theorem cutL_get {α : Type} {l : List α} {s e i : Nat} (hi : i < e - s) : (cutL l s e)[i]? = l[s + i]? := by
  unfold cutL
  rw [List.getElem?_take_of_lt hi, List.getElem?_drop]
theorem cutL_none {α : Type} {l : List α} {s e i : Nat} (hi : e - s ≤ i) : (cutL l s e)[i]? = none := by
  unfold cutL
  rw [List.getElem?_take_eq_none hi]
theorem cutL_len {α : Type} {l : List α} {s e : Nat} (he : e ≤ l.length) : (cutL l s e).length = e - s := by
  unfold cutL
  rw [List.length_take, List.length_drop]
  omega
/-- what the part from s to e adds, where it loops -/
def partL (R P : List (List Int)) (U : List Nat) (s e : Nat) : Option (List Int) := addL R (cutL P s (e + 1)) (cutL U s e)
def InB (n s e : Nat) : Prop := s < e ∧ e ≤ n ∧ e ≤ s + 40
def FL (R P : List (List Int)) (U : List Nat) : Option (Nat × Nat × List Int) → Prop
  | some (s, e, d) => InB U.length s e ∧ partL R P U s e = some d ∧ ∀ s' e', InB U.length s' e' → (s' < s ∨ (s' = s ∧ e' < e)) → partL R P U s' e' = none
  | none => ∀ s' e', InB U.length s' e' → partL R P U s' e' = none
theorem FL.uniq {R P : List (List Int)} {U : List Nat} : ∀ {x y : Option (Nat × Nat × List Int)}, FL R P U x → FL R P U y → x = y
  | none, none, _, _ => rfl
  | none, some (s, e, d), h, ⟨h1, h2, _⟩ => by rw [h s e h1] at h2; cases h2
  | some (s, e, d), none, ⟨h1, h2, _⟩, h => by rw [h s e h1] at h2; cases h2
  | some (s, e, d), some (s', e', d'), ⟨h1, h2, h3⟩, ⟨g1, g2, g3⟩ => by
    have es : s = s' ∧ e = e' := by
      rcases Nat.lt_trichotomy s s' with z | z | z
      · rw [g3 s e h1 (.inl z)] at h2; cases h2
      · rcases Nat.lt_trichotomy e e' with w | w | w
        · rw [g3 s e h1 (.inr ⟨z, w⟩)] at h2; cases h2
        · exact ⟨z, w⟩
        · rw [h3 s' e' g1 (.inr ⟨z.symm, w⟩)] at g2; cases g2
      · rw [h3 s' e' g1 (.inl z)] at g2; cases g2
    obtain ⟨rfl, rfl⟩ := es
    rw [h2] at g2
    cases g2
    rfl
theorem addD_len {P : List (List Int)} {n : Nat} {p q : List Int} (hp : P[n]? = some p) (hq : P[0]? = some q) (lp : p.length = 10) (lq : q.length = 10) : (addD P n).length = 10 := by
  unfold addD
  rw [List.getD_eq_getElem?_getD, hp, List.getD_eq_getElem?_getD, hq]
  exact mvd_length lp lq
end Mth

set_option Elab.async false
set_option linter.all false
set_option maxRecDepth 100000
set_option maxHeartbeats 4000000
/-! for over range(a, b, c) with c above 0 -/
namespace L2
open PySem PySem.Spec PyProof.Rows
section
variable {X : Cx} {tg : Expr}
end
end L2

set_option linter.all false
/-! a trail that loops can be gone for ever -/
namespace Mth
theorem ext10 {p q : List Int} (hp : p.length = 10) (hq : q.length = 10) (h : ∀ i, i < 10 → p.getD i 0 = q.getD i 0) : p = q := by
  refine List.ext_getElem? fun i => ?_
  by_cases hi : i < 10
  · rw [gD (by omega), gD (l := q) (by omega), h i hi]
  · rw [List.getElem?_eq_none (by omega), List.getElem?_eq_none (by omega)]
theorem mvd_D {p c : List Int} {m : Int} {i : Nat} (hp : p.length = 10) (hc : c.length = 10) (hi : i < 10) : (mvd p c m).getD i 0 = p.getD i 0 + m * c.getD i 0 := by
  have h1 := gD (l := p) (k := i) (by omega)
  have h2 := gD (l := c) (k := i) (by omega)
  have : (mvd p c m)[i]? = some (p.getD i 0 + m * c.getD i 0) := by
    unfold mvd
    rw [List.getElem?_zipWith_eq_some]
    exact ⟨_, _, h1, h2, rfl⟩
  rw [List.getD_eq_getElem?_getD, this]
  rfl
theorem mvd_comm {p c d : List Int} {m k : Int} (hp : p.length = 10) (hc : c.length = 10) (hd : d.length = 10) : mvd (mvd p c m) d k = mvd (mvd p d k) c m := by
  refine ext10 (mvd_length (mvd_length hp hc) hd) (mvd_length (mvd_length hp hd) hc) fun i hi => ?_
  rw [mvd_D (mvd_length hp hc) hd hi, mvd_D hp hc hi, mvd_D (mvd_length hp hd) hc hi, mvd_D hp hd hi]
  omega
theorem mvd_nought {p d : List Int} (hp : p.length = 10) (hd : d.length = 10) : mvd p d 0 = p := by
  refine ext10 (mvd_length hp hd) hp fun i hi => ?_
  rw [mvd_D hp hd hi]
  omega
theorem fitsB_D {c p : List Int} (hc : c.length = 10) (hp : p.length = 10) : fitsB c p = true ↔ ∀ i, i < 10 → 0 ≤ p.getD i 0 + c.getD i 0 := by
  rw [fitsB_iff]
  constructor
  · intro h i hi
    exact h i _ _ (gD (by omega)) (gD (by omega))
  · intro h i a b h1 h2
    have hi : i < 10 := by rw [← hc]; exact (List.getElem?_eq_some_iff.mp h1).1
    have := h i hi
    rw [List.getD_eq_getElem?_getD, h2, List.getD_eq_getElem?_getD, h1] at this
    exact this
theorem goN_sumB (R : List (List Int)) (a : Nat) (p : List Int) : ∀ b, goN R (a + b) p = (goN R a p).bind (goN R b)
  | 0 => by
    show goN R a p = _
    cases goN R a p <;> rfl
  | b + 1 => by
    show (goN R (a + b) p).bind (stp R) = _
    rw [goN_sumB R a p b]
    cases goN R a p <;> rfl
theorem trl_get (R : List (List Int)) : ∀ (m : Nat) (p : List Int) (i : Nat), (trl R m p)[i]? = if i < m then (goN R i p).bind (fstI R) else none
  | 0, p, i => by rw [if_neg (Nat.not_lt_zero _)]; rfl
  | m + 1, p, i => by
    cases hf : fstI R p with
    | none =>
      rw [trl_none hf]
      show none = _
      cases i with
      | zero => rw [if_pos (Nat.succ_pos _)]; exact hf.symm
      | succ i =>
        rw [goN_first, stp_none hf]
        split <;> rfl
    | some k =>
      obtain ⟨c, hc, _, _⟩ := fstI_lt hf
      rw [trl_some hf hc]
      cases i with
      | zero => rw [if_pos (Nat.succ_pos _)]; exact hf.symm
      | succ i =>
        show (trl R m (mvd p c 1))[i]? = _
        rw [trl_get R m (mvd p c 1) i, goN_first, stp_of hf hc]
        by_cases hi : i < m
        · rw [if_pos hi, if_pos (by omega)]; rfl
        · rw [if_neg hi, if_neg (by omega)]
/-- a path, place by place -/
def PathR (R : List (List Int)) (m : Nat) (ps : List Int) (P : List (List Int)) : Prop := P.length = (trl R m ps).length + 1 ∧ ∀ i, i < P.length → P[i]? = goN R i ps
theorem PathR.get {R : List (List Int)} {m : Nat} {ps : List Int} {P : List (List Int)} (h : PathR R m ps P) {s : Nat} (hs : s ≤ (trl R m ps).length) : ∃ p, P[s]? = some p ∧ goN R s ps = some p := by
  have hl : s < P.length := by rw [h.1]; omega
  exact ⟨P[s], List.getElem?_eq_getElem hl, by rw [← h.2 s hl]; exact List.getElem?_eq_getElem hl⟩
theorem PathR.cut {R : List (List Int)} {m : Nat} {ps : List Int} {P : List (List Int)} (h : PathR R m ps P) {s e : Nat} (hs : s < e) (he : e ≤ (trl R m ps).length) {b : List Int} (hb : goN R s ps = some b) :
    trl R (e - s) b = cutL (trl R m ps) s e ∧ PathR R (e - s) b (cutL P s (e + 1)) := by
  have hm := trl_len R m ps
  have ew : trl R (e - s) b = cutL (trl R m ps) s e := by
    refine List.ext_getElem? fun i => ?_
    rw [trl_get]
    by_cases hi : i < e - s
    · rw [if_pos hi, cutL_get hi, trl_get, if_pos (by omega), goN_sumB, hb]
      rfl
    · rw [if_neg hi, cutL_none (by omega)]
  refine ⟨ew, ?_, fun i hi => ?_⟩
  · rw [ew, cutL_len he, cutL_len (by rw [h.1]; omega)]
    omega
  · rw [cutL_len (by rw [h.1]; omega)] at hi
    rw [cutL_get hi, h.2 (s + i) (by rw [h.1]; omega), goN_sumB, hb]
    rfl
theorem PathR.uniq {R : List (List Int)} {m : Nat} {ps : List Int} {P P' : List (List Int)} (h : PathR R m ps P) (h' : PathR R m ps P') : P = P' := by
  refine List.ext_getElem? fun i => ?_
  by_cases hi : i < P.length
  · rw [h.2 i hi, h'.2 i (by rw [h'.1, ← h.1]; exact hi)]
  · rw [List.getElem?_eq_none (by omega), List.getElem?_eq_none (by have := h.1; have := h'.1; omega)]
theorem PathR.ten {R : List (List Int)} {m : Nat} {ps : List Int} {P : List (List Int)} (h : PathR R m ps P) (hR : R10 R) (hp : ps.length = 10) (hn : nn ps = true) : ∀ p ∈ P, p.length = 10 ∧ nn p = true := by
  intro p hm
  obtain ⟨i, hi⟩ := List.getElem?_of_mem hm
  have hl := (List.getElem?_eq_some_iff.mp hi).1
  rw [h.2 i hl] at hi
  exact goN_ok hR hp hn hi
structure LoopR (R P : List (List Int)) (W : List Nat) (p d : List Int) : Prop where
  r10 : R10 R
  p10 : p.length = 10
  pn : nn p = true
  path : PathR R W.length p P
  wt : trl R W.length p = W
  w1 : 1 ≤ W.length
  add : addL R P W = some d
section
variable {R P : List (List Int)} {W : List Nat} {p d : List Int} (h : LoopR R P W p d)
include h
theorem LoopR.at {r : Nat} (hr : r ≤ W.length) : ∃ q, P[r]? = some q ∧ goN R r p = some q ∧ q.length = 10 ∧ nn q = true := by
  obtain ⟨q, h1, h2⟩ := h.path.get (s := r) (by rw [h.wt]; exact hr)
  obtain ⟨h3, h4⟩ := goN_ok h.r10 h.p10 h.pn h2
  exact ⟨q, h1, h2, h3, h4⟩
theorem LoopR.dd : d = addD P W.length ∧ nn d = true ∧ loopB R P W d = true := by
  have ha := h.add
  unfold addL at ha
  split at ha
  · rename_i hc
    have e : addD P W.length = d := Option.some.inj ha
    rw [e] at hc
    exact ⟨e.symm, hc.1, hc.2⟩
  · cases ha
theorem LoopR.d10 : d.length = 10 := by
  obtain ⟨q, h1, _, h3, _⟩ := h.at (r := W.length) (Nat.le_refl _)
  obtain ⟨q0, g1, _, g3, _⟩ := h.at (r := 0) (Nat.zero_le _)
  rw [h.dd.1]
  exact addD_len h1 g1 h3 g3
theorem LoopR.end_ {q : List Int} (hq : P[W.length]? = some q) {i : Nat} (hi : i < 10) : q.getD i 0 = p.getD i 0 + d.getD i 0 := by
  obtain ⟨q', h1, _, h3, _⟩ := h.at (r := W.length) (Nat.le_refl _)
  obtain ⟨q0, g1, g2, g3, _⟩ := h.at (r := 0) (Nat.zero_le _)
  rw [hq] at h1
  cases h1
  have e0 : q0 = p := (Option.some.inj g2).symm
  subst e0
  rw [h.dd.1]
  unfold addD
  rw [List.getD_eq_getElem?_getD (l := P), hq, List.getD_eq_getElem?_getD (l := P), g1]
  show _ = _ + (mvd q q0 (-1)).getD i 0
  rw [mvd_D h3 g3 hi]
  omega
/-- the same fraction is first, so many times later -/
theorem LoopR.first {r : Nat} (hr : r < W.length) (k : Nat) : ∃ q u c, P[r]? = some q ∧ W[r]? = some u ∧ R[u]? = some c ∧ c.length = 10 ∧ q.length = 10 ∧ P[r + 1]? = some (mvd q c 1) ∧ fstI R (mvd q d k) = some u := by
  obtain ⟨q, h1, h2, h3, h4⟩ := h.at (r := r) (by omega)
  obtain ⟨q', g1, g2, g3, g4⟩ := h.at (r := r + 1) (by omega)
  have hw : W[r]? = fstI R q := by
    have := trl_get R W.length p r
    rw [h.wt, if_pos hr, h2] at this
    exact this
  have hst : stp R q = some q' := by
    have e : (goN R r p).bind (stp R) = some q' := g2
    rw [h2] at e
    exact e
  obtain ⟨u, c, hu, hc, hfit, rfl⟩ := stp_some hst
  have c10 := h.r10 c (List.mem_of_getElem? hc)
  have d10 := h.d10
  obtain ⟨_, dn, dl⟩ := h.dd
  have hwu : W[r]? = some u := by rw [hw, hu]
  refine ⟨q, u, c, h1, hwu, hc, c10, h3, g1, fstI_at R (mvd q d k) u (fun j hj c' hc' => ?_) (fun c' hc' => ?_) (List.getElem?_eq_some_iff.mp hc).1⟩
  · have c10' := h.r10 c' (List.mem_of_getElem? hc')
    have hs : shutB c' q d = true := by
      unfold loopB at dl
      rw [List.all_eq_true] at dl
      have e1 := dl r (List.mem_range.mpr hr)
      rw [List.getD_eq_getElem?_getD, hwu, List.getD_eq_getElem?_getD, h1, List.all_eq_true] at e1
      exact e1 c' (List.mem_of_getElem? (i := j) (by
        show (R.take u)[j]? = some c'
        rw [List.getElem?_take_of_lt hj]; exact hc'))
    unfold shutB at hs
    rw [List.any_eq_true] at hs
    obtain ⟨i, hi, hv⟩ := hs
    have hi' := List.mem_range.mp hi
    rw [Bool.and_eq_true, decide_eq_true_iff, decide_eq_true_iff] at hv
    rw [Bool.eq_false_iff]
    intro z
    have := (fitsB_D c10' (mvd_length h3 d10)).mp z i hi'
    rw [mvd_D h3 d10 hi', hv.2] at this
    omega
  · rw [hc] at hc'
    cases hc'
    refine (fitsB_D c10 (mvd_length h3 d10)).mpr fun i hi => ?_
    have e1 := (fitsB_D c10 h3).mp hfit i hi
    rw [mvd_D h3 d10 hi]
    have e2 : 0 ≤ d.getD i 0 := nn_iff.mp dn _ (List.mem_of_getElem? (gD (by omega)))
    have e3 : 0 ≤ (k : Int) * d.getD i 0 := Int.mul_nonneg (Int.natCast_nonneg k) e2
    omega
theorem LoopR.go (k : Nat) : ∀ r, r ≤ W.length → ∃ q, P[r]? = some q ∧ goN R (k * W.length + r) p = some (mvd q d k) := by
  have d10 := h.d10
  induction k with
  | zero =>
    intro r hr
    obtain ⟨q, h1, h2, h3, _⟩ := h.at hr
    refine ⟨q, h1, ?_⟩
    rw [Nat.zero_mul, Nat.zero_add, h2]
    congr 1
    exact (mvd_nought h3 d10).symm
  | succ k ih =>
    intro r
    induction r with
    | zero =>
      intro _
      obtain ⟨q, h1, h2⟩ := ih W.length (Nat.le_refl _)
      obtain ⟨q0, g1, g2, g3, _⟩ := h.at (r := 0) (Nat.zero_le _)
      obtain ⟨_, h1', _, h3, _⟩ := h.at (r := W.length) (Nat.le_refl _)
      rw [h1] at h1'
      cases h1'
      have e0 : q0 = p := (Option.some.inj g2).symm
      subst e0
      refine ⟨q0, g1, ?_⟩
      rw [Nat.add_zero, show (k + 1) * W.length = k * W.length + W.length from Nat.succ_mul _ _, h2]
      congr 1
      refine ext10 (mvd_length h3 d10) (mvd_length g3 d10) fun i hi => ?_
      rw [mvd_D h3 d10 hi, mvd_D g3 d10 hi, h.end_ h1 hi, Int.natCast_add, Int.add_mul]
      omega
    | succ r ihr =>
      intro hr
      obtain ⟨q, h1, h2⟩ := ihr (by omega)
      obtain ⟨q', u, c, g1, _, g3, c10, q10, g5, g6⟩ := h.first (r := r) (by omega) (k + 1)
      rw [h1] at g1
      cases g1
      refine ⟨_, g5, ?_⟩
      show (goN R ((k + 1) * W.length + r) p).bind (stp R) = _
      rw [h2]
      show stp R _ = _
      rw [stp_of g6 g3]
      congr 1
      exact mvd_comm q10 d10 c10
theorem LoopR.ever (N : Nat) : ∃ q, P[N % W.length]? = some q ∧ goN R N p = some (mvd q d ((N / W.length : Nat) : Int)) := by
  have hw := h.w1
  have hlt : N % W.length < W.length := Nat.mod_lt _ (by omega)
  obtain ⟨q, h1, h2⟩ := h.go (N / W.length) (N % W.length) (by omega)
  refine ⟨q, h1, ?_⟩
  rw [Nat.mul_comm, Nat.div_add_mod] at h2
  exact h2
end
end Mth

set_option Elab.async false
set_option linter.all false
set_option maxRecDepth 100000
set_option maxHeartbeats 4000000
/-! // by divisors up to 2 ** 64 -/
namespace L2
open PySem PySem.Spec PyProof.Rows
section
variable {X : Cx}
end
end L2

set_option linter.all false
/-! a trail that loops, gone once more: it loops from there too -/
namespace Mth
section
variable {R P : List (List Int)} {W : List Nat} {p d : List Int} (h : LoopR R P W p d)
include h
theorem LoopR.p0 : P[0]? = some p := by
  obtain ⟨q0, g1, g2, _, _⟩ := h.at (r := 0) (Nat.zero_le _)
  have e0 : q0 = p := (Option.some.inj g2).symm
  rw [← e0]
  exact g1
theorem LoopR.turn (j : Nat) : goN R W.length (mvd p d (j : Int)) = some (mvd p d ((j + 1 : Nat) : Int)) := by
  obtain ⟨q, h1, h2⟩ := h.go j W.length (Nat.le_refl _)
  obtain ⟨q0, g1, g2⟩ := h.go j 0 (Nat.zero_le _)
  obtain ⟨q1, k1, k2⟩ := h.go (j + 1) 0 (Nat.zero_le _)
  rw [h.p0] at g1 k1
  cases g1
  cases k1
  rw [Nat.add_zero] at g2 k2
  rw [Nat.succ_mul] at k2
  rw [goN_sumB, g2] at k2
  exact k2
theorem LoopR.one (j : Nat) : mvd (mvd p d (j : Int)) d 1 = mvd p d ((j + 1 : Nat) : Int) := by
  have d10 := h.d10
  refine ext10 (mvd_length (mvd_length h.p10 d10) d10) (mvd_length h.p10 d10) fun i hi => ?_
  rw [mvd_D (mvd_length h.p10 d10) d10 hi, mvd_D h.p10 d10 hi, mvd_D h.p10 d10 hi, Int.natCast_add, Int.add_mul]
  omega
end
end Mth

set_option Elab.async false
set_option linter.all false
set_option maxRecDepth 100000
set_option maxHeartbeats 4000000
/-! a tuple turned about: t[::-1] -/
namespace L2
open PySem PySem.Spec PyProof.Rows
namespace HT
section
variable {prog : Program} {w : World} {A : Around} {E : Value → Shared → Prop} {s : Shared}
end
end HT
section
variable {X : Cx} {e st : Expr} {te ts : TE} {pos p2 : Pos}
end
end L2
namespace L2
open PySem PySem.Spec PyProof.Rows
section
variable {X : Cx} {e st : Expr} {te ts : TE} {pos p2 : Pos}
end
end L2

set_option Elab.async false
set_option linter.all false
set_option maxRecDepth 100000
set_option maxHeartbeats 4000000
/-! != of anything flat, a tuple or a list with a text; of a list with the empty one -/
namespace L2
open PySem PySem.Spec PyProof.Rows
section
variable {X : Cx}
end
end L2

set_option Elab.async false
set_option linter.all false
set_option maxRecDepth 100000
set_option maxHeartbeats 4000000
/-! enumerate(l, start=k); enumerate of a tuple; list(reversed(l)) -/
namespace Enk
open PySem PyProof.Rows
section
variable {prog : Program} {w : World} {A : Around} {E : Value → Shared → Prop} {s : Shared}
open AutoSeq1 (wpAny_loadPart')
end
end Enk

set_option Elab.async false
set_option linter.all false
set_option maxRecDepth 100000
set_option maxHeartbeats 4000000
/-! enumerate(l, start=k) and enumerate of a tuple, walked; list(reversed(l)) -/
namespace L2
open PySem PySem.Spec PyProof.Rows
end L2

set_option Elab.async false
set_option linter.all false
set_option maxRecDepth 100000
set_option maxHeartbeats 4000000
/-! list(reversed(l)) -/
namespace Rvl
open PySem PyProof.Rows
theorem sub_self : isSubtype (.type "list_reverseiterator") (.type "list_reverseiterator") = pure true := by rw [isSubtype_type]; kernel_rfl
section
variable {prog : Program} {w : World} {A : Around} {E : Value → Shared → Prop} {s : Shared}
end
end Rvl
namespace L2
open PySem PySem.Spec PyProof.Rows
section
variable {X : Cx}
end
end L2

set_option Elab.async false
set_option linter.all false
set_option maxRecDepth 100000
set_option maxHeartbeats 4000000
/-! enumerate(l, start=k), enumerate of a tuple, in a for -/
namespace Enk
open PySem PyProof.Rows
section
variable {M : Model} {A : Around} {E : Value → Shared → Prop} {s : Shared} {env : Env}
end
end Enk
namespace L2
open PySem PySem.Spec PyProof.Rows
section
variable {X : Cx} {tg : Expr}
end
end L2

set_option Elab.async false
set_option linter.all false
set_option maxRecDepth 100000
set_option maxHeartbeats 4000000
/-! enumerate of a tuple -/
namespace Enk
open PySem PyProof.Rows
section
variable {prog : Program} {w : World} {A : Around} {E : Value → Shared → Prop} {s : Shared}
open AutoSeq1 (wpAny_loadPart')
end
end Enk
namespace L2
open PySem PySem.Spec PyProof.Rows
section
variable {X : Cx} {tg : Expr}
end
end L2

set_option Elab.async false
set_option linter.all false
set_option maxHeartbeats 4000000
namespace Mth
/-! ### kept rows -/
def dotI (r p : List Int) : Int := (List.zipWith (fun a b : Int => a * b) r p).sum
theorem dotI_nil (p : List Int) : dotI [] p = 0 := rfl
theorem dotI_cons (a b : Int) (r p : List Int) : dotI (a :: r) (b :: p) = a * b + dotI r p := by
  show (a * b :: List.zipWith _ r p).sum = _
  rw [List.sum_cons]
  rfl
/-- two rows laid over one another -/
def lay2 (u t : Int) (r o : List Int) : List Int := List.zipWith (fun a b : Int => u * a - t * b) r o
theorem dotI_lay2 (u t : Int) : ∀ (r o p : List Int), r.length = o.length → dotI (lay2 u t r o) p = u * dotI r p - t * dotI o p
  | [], [], p, _ => by
    show dotI [] p = _
    rw [dotI_nil, Int.mul_zero, Int.mul_zero]
    rfl
  | a :: r, b :: o, [], _ => by
    show (0 : Int) = u * 0 - t * 0
    omega
  | a :: r, b :: o, q :: p, h => by
    have ih := dotI_lay2 u t r o p (by simpa using h)
    show dotI ((u * a - t * b) :: lay2 u t r o) (q :: p) = _
    rw [dotI_cons, dotI_cons, dotI_cons, ih, Int.mul_add, Int.mul_add, Int.sub_mul, Int.mul_assoc, Int.mul_assoc]
    omega
theorem dotI_scale (d : Int) : ∀ (r p : List Int), dotI (r.map fun x => d * x) p = d * dotI r p
  | [], p => by rw [List.map_nil, dotI_nil, Int.mul_zero]
  | a :: r, [] => by
    show (0 : Int) = d * 0
    omega
  | a :: r, q :: p => by
    rw [List.map_cons, dotI_cons, dotI_cons, dotI_scale d r p, Int.mul_add, Int.mul_assoc]
/-- what all numbers of a row have in common -/
def gcdL (ns : List Int) : Nat := ns.foldl (fun g n => Nat.gcd g n.natAbs) 0
theorem gcdF_dvd : ∀ (ns : List Int) (g : Nat), (ns.foldl (fun g n => Nat.gcd g n.natAbs) g ∣ g) ∧ ∀ n ∈ ns, ((ns.foldl (fun g n => Nat.gcd g n.natAbs) g : Nat) : Int) ∣ n
  | [], g => ⟨Nat.dvd_refl g, fun n h => by cases h⟩
  | a :: ns, g => by
    obtain ⟨h1, h2⟩ := gcdF_dvd ns (Nat.gcd g a.natAbs)
    refine ⟨Nat.dvd_trans h1 (Nat.gcd_dvd_left _ _), fun n hn => ?_⟩
    rcases List.mem_cons.mp hn with z | z
    · rw [z]
      exact Int.dvd_natAbs.mp (Int.natCast_dvd_natCast.mpr (Nat.dvd_trans h1 (Nat.gcd_dvd_right _ _)))
    · exact h2 n z
theorem gcdL_dvd {ns : List Int} {n : Int} (h : n ∈ ns) : ((gcdL ns : Nat) : Int) ∣ n := (gcdF_dvd ns 0).2 n h
theorem gcdL_pos {ns : List Int} {n : Int} (h : n ∈ ns) (h0 : n ≠ 0) : 0 < gcdL ns := by
  rcases Nat.eq_zero_or_pos (gcdL ns) with z | z
  · have := gcdL_dvd h
    rw [z] at this
    exact absurd (Int.zero_dvd.mp this) h0
  · exact z
/-- the sign of the first number that is not 0 -/
def sgnL (ns : List Int) : Int := match ns.filter (fun n => decide (n ≠ 0)) with
  | [] => 1
  | n :: _ => if n < 0 then -1 else 1
theorem sgnL_is (ns : List Int) : sgnL ns = 1 ∨ sgnL ns = -1 := by
  unfold sgnL
  split
  · exact .inl rfl
  · split
    · exact .inr rfl
    · exact .inl rfl
def lowI (ns : List Int) : List Int := ns.map fun n => n / (sgnL ns * (gcdL ns : Int))
theorem lowI_len (ns : List Int) : (lowI ns).length = ns.length := List.length_map _
theorem low_back {ns : List Int} (h : ∃ n ∈ ns, n ≠ 0) : ns = (lowI ns).map fun x => (sgnL ns * (gcdL ns : Int)) * x := by
  obtain ⟨n, hn, h0⟩ := h
  have hp := gcdL_pos hn h0
  unfold lowI
  rw [List.map_map]
  have : ∀ m ∈ ns, ((fun x => (sgnL ns * (gcdL ns : Int)) * x) ∘ fun n => n / (sgnL ns * (gcdL ns : Int))) m = m := fun m hm => by
    show (sgnL ns * (gcdL ns : Int)) * (m / (sgnL ns * (gcdL ns : Int))) = m
    refine Int.mul_ediv_cancel' ?_
    rcases sgnL_is ns with z | z
    · rw [z, Int.one_mul]; exact gcdL_dvd hm
    · rw [z, Int.neg_mul, Int.one_mul]; exact Int.neg_dvd.mpr (gcdL_dvd hm)
  rw [List.map_congr_left this, List.map_id']
theorem low_fac {ns : List Int} (h : ∃ n ∈ ns, n ≠ 0) : sgnL ns * (gcdL ns : Int) ≠ 0 := by
  obtain ⟨n, hn, h0⟩ := h
  have hp := gcdL_pos hn h0
  rcases sgnL_is ns with z | z <;> rw [z] <;> omega
theorem low_dot {ns p : List Int} (h : ∃ n ∈ ns, n ≠ 0) (hd : dotI ns p = 0) : dotI (lowI ns) p = 0 := by
  have e := low_back h
  rw [e, dotI_scale] at hd
  rcases Int.mul_eq_zero.mp hd with z | z
  · exact absurd z (low_fac h)
  · exact z
theorem low_get {ns : List Int} (x : Nat) : (lowI ns).getD x 0 = ns.getD x 0 / (sgnL ns * (gcdL ns : Int)) := by
  unfold lowI
  rw [List.getD_eq_getElem?_getD, List.getElem?_map, List.getD_eq_getElem?_getD]
  cases ns[x]? with
  | none => exact (Int.zero_ediv _).symm
  | some a => rfl
theorem low_zero {ns : List Int} (h : ∃ n ∈ ns, n ≠ 0) (x : Nat) : (lowI ns).getD x 0 = 0 ↔ ns.getD x 0 = 0 := by
  rw [low_get]
  constructor
  · intro z
    have hd : sgnL ns * (gcdL ns : Int) ∣ ns.getD x 0 := by
      rw [List.getD_eq_getElem?_getD]
      cases hx : ns[x]? with
      | none => exact Int.dvd_zero _
      | some a =>
        have hm := gcdL_dvd (List.mem_of_getElem? hx)
        rcases sgnL_is ns with w | w
        · rw [w, Int.one_mul]; exact hm
        · rw [w, Int.neg_mul, Int.one_mul]; exact Int.neg_dvd.mpr hm
    have := Int.mul_ediv_cancel' hd
    rw [z, Int.mul_zero] at this
    exact this.symm
  · intro z
    rw [z, Int.zero_ediv]
/-- the first number that is not 0 stands at l -/
def LdA (r : List Int) (l : Nat) : Prop := r.getD l 0 ≠ 0 ∧ ∀ x, x < l → r.getD x 0 = 0
def LdR (r s : List Int) : Prop := ∃ l, LdA r l ∧ ∀ x, x ≤ l → s.getD x 0 = 0
theorem LdA.mem {r : List Int} {l : Nat} (h : LdA r l) : ∃ n ∈ r, n ≠ 0 := by
  have h1 := h.1
  rw [List.getD_eq_getElem?_getD] at h1
  cases hx : r[l]? with
  | none => rw [hx] at h1; exact absurd rfl h1
  | some a => rw [hx] at h1; exact ⟨a, List.mem_of_getElem? hx, h1⟩
theorem LdA.low {r : List Int} {l : Nat} (h : LdA r l) : LdA (lowI r) l := ⟨fun z => h.1 ((low_zero h.mem l).mp z), fun x hx => (low_zero h.mem x).mpr (h.2 x hx)⟩
theorem lay2_get {u t : Int} {r o : List Int} (h : r.length = o.length) (x : Nat) : (lay2 u t r o).getD x 0 = u * r.getD x 0 - t * o.getD x 0 := by
  unfold lay2
  rw [List.getD_eq_getElem?_getD, List.getD_eq_getElem?_getD, List.getD_eq_getElem?_getD]
  rcases Nat.lt_or_ge x r.length with z | z
  · have e : (List.zipWith (fun a b : Int => u * a - t * b) r o)[x]? = some (u * r[x] - t * o[x]'(by omega)) := by
      rw [List.getElem?_zipWith_eq_some]
      exact ⟨_, _, List.getElem?_eq_getElem z, List.getElem?_eq_getElem (by omega), rfl⟩
    rw [e, List.getElem?_eq_getElem z, List.getElem?_eq_getElem (by omega)]
    rfl
  · rw [List.getElem?_eq_none (by rw [List.length_zipWith]; omega), List.getElem?_eq_none z, List.getElem?_eq_none (by omega)]
    show (0 : Int) = u * 0 - t * 0
    omega
/-- numbers of at most 2 ^ b -/
def BdI (b : Nat) (r : List Int) : Prop := ∀ n ∈ r, n.natAbs ≤ 2 ^ b
theorem BdI.low {b : Nat} {r : List Int} (h : BdI b r) (hz : ∃ n ∈ r, n ≠ 0) : BdI b (lowI r) := fun n hn => by
  unfold lowI at hn
  obtain ⟨m, hm, rfl⟩ := List.mem_map.mp hn
  have h1 := h m hm
  have h2 := low_fac hz
  have h3 : (m / (sgnL r * (gcdL r : Int))).natAbs ≤ m.natAbs := Int.natAbs_ediv_le_natAbs _ _
  omega
theorem dotI_le {b c : Nat} : ∀ {r p : List Int}, BdI b r → BdI c p → (dotI r p).natAbs ≤ r.length * 2 ^ (b + c)
  | [], p, _, _ => by rw [dotI_nil]; exact Nat.zero_le _
  | a :: r, [], _, _ => by
    show (0 : Int).natAbs ≤ _
    exact Nat.zero_le _
  | a :: r, q :: p, h1, h2 => by
    have ih := dotI_le (r := r) (p := p) (fun n hn => h1 n (List.mem_cons_of_mem _ hn)) (fun n hn => h2 n (List.mem_cons_of_mem _ hn))
    have ha := h1 a List.mem_cons_self
    have hq := h2 q List.mem_cons_self
    rw [dotI_cons, List.length_cons, Nat.add_mul, Nat.one_mul]
    have h3 : (a * q).natAbs ≤ 2 ^ (b + c) := by
      rw [Int.natAbs_mul, Nat.pow_add]
      exact Nat.mul_le_mul ha hq
    have h4 := Int.natAbs_add_le (a * q) (dotI r p)
    omega
theorem lay2_bd {b d : Nat} {u t : Int} {r o : List Int} (hu : u.natAbs ≤ 2 ^ d) (ht : t.natAbs ≤ 2 ^ d) (hr : BdI b r) (ho : BdI b o) : BdI (b + d + 1) (lay2 u t r o) := fun n hn => by
  unfold lay2 at hn
  obtain ⟨i, hi⟩ := List.getElem?_of_mem hn
  rw [List.getElem?_zipWith_eq_some] at hi
  obtain ⟨x, y, hx, hy, rfl⟩ := hi
  have h1 := hr x (List.mem_of_getElem? hx)
  have h2 := ho y (List.mem_of_getElem? hy)
  have h3 : (u * x).natAbs ≤ 2 ^ (b + d) := by
    rw [Int.natAbs_mul, Nat.pow_add, Nat.mul_comm]
    exact Nat.mul_le_mul h1 hu
  have h4 : (t * y).natAbs ≤ 2 ^ (b + d) := by
    rw [Int.natAbs_mul, Nat.pow_add, Nat.mul_comm]
    exact Nat.mul_le_mul h2 ht
  have h5 := Int.natAbs_sub_le (u * x) (t * y)
  rw [Nat.pow_succ]
  omega
/-- what the rows promise, the fractions cs behind them -/
structure BaseR (b : Nat) (cs rows : List (List Int)) : Prop where
  l10 : ∀ r ∈ rows, r.length = 10
  bd : ∀ r ∈ rows, BdI b r
  nz : ∀ r ∈ rows, ∃ l, LdA r l
  pw : rows.Pairwise LdR
  kept : ∀ r ∈ rows, ∀ c ∈ cs, dotI r c = 0
theorem BaseR.more {b b' : Nat} {cs rows : List (List Int)} (h : BaseR b cs rows) (hb : b ≤ b') : BaseR b' cs rows := ⟨h.l10, fun r hr n hn => Nat.le_trans (h.bd r hr n hn) (Nat.pow_le_pow_right (by decide) hb), h.nz, h.pw, h.kept⟩
def evI (c o r : List Int) : List Int := lowI (lay2 (dotI o c) (dotI r c) r o)
/-- the rows ahead of the last one that is not kept, and those behind it -/
def AheadR (c o : List Int) (r : List Int) : Prop := LdR r o ∨ dotI r c = 0
theorem lead_ev {c o r : List Int} (hl : r.length = o.length) (ho : dotI o c ≠ 0) (h : AheadR c o r) {l : Nat} (hr : LdA r l) : LdA (lay2 (dotI o c) (dotI r c) r o) l := by
  have key : ∀ x, x ≤ l → (lay2 (dotI o c) (dotI r c) r o).getD x 0 = dotI o c * r.getD x 0 := fun x hx => by
    rw [lay2_get hl]
    rcases h with ⟨l', hl', hz⟩ | z
    · have e : l' = l := by
        rcases Nat.lt_trichotomy l' l with y | y | y
        · exact absurd (hr.2 l' y) hl'.1
        · exact y
        · exact absurd (hl'.2 l y) hr.1
      rw [hz x (by omega), Int.mul_zero, Int.sub_zero]
    · rw [z, Int.zero_mul, Int.sub_zero]
  refine ⟨?_, fun x hx => ?_⟩
  · rw [key l (Nat.le_refl l)]
    exact Int.mul_ne_zero ho hr.1
  · rw [key x (by omega), hr.2 x hx, Int.mul_zero]
theorem BaseR.step {b : Nat} {cs rows : List (List Int)} {c o : List Int} (h : BaseR b cs rows) (hc : BdI 6 c) (ho : o ∈ rows) (hoc : dotI o c ≠ 0) (ha : ∀ r ∈ rows, r ≠ o → AheadR c o r) : BaseR (b + (b + 10) + 1) (cs ++ [c]) ((rows.filter fun r => decide (r ≠ o)).map (evI c o)) := by
  have lo := h.l10 o ho
  have inf : ∀ r ∈ rows.filter (fun r => decide (r ≠ o)), r ∈ rows ∧ r ≠ o := fun r hr => by
    obtain ⟨h1, h2⟩ := List.mem_filter.mp hr
    exact ⟨h1, of_decide_eq_true h2⟩
  have dl : ∀ r ∈ rows, (dotI r c).natAbs ≤ 2 ^ (b + 10) := fun r hr => by
    have := dotI_le (h.bd r hr) hc
    rw [h.l10 r hr] at this
    have e : 2 ^ (b + 10) = 2 ^ (b + 6) * 16 := by rw [show b + 10 = b + 6 + 4 by omega, Nat.pow_add]
    have := Nat.two_pow_pos (b + 6)
    omega
  have lead : ∀ r ∈ rows, r ≠ o → ∀ l, LdA r l → LdA (lay2 (dotI o c) (dotI r c) r o) l := fun r hr hn l hl => lead_ev (by rw [h.l10 r hr, lo]) hoc (ha r hr hn) hl
  refine ⟨?_, ?_, ?_, ?_, ?_⟩
  · intro r' hr'
    obtain ⟨r, hr, rfl⟩ := List.mem_map.mp hr'
    obtain ⟨h1, h2⟩ := inf r hr
    unfold evI lay2
    rw [lowI_len, List.length_zipWith, h.l10 r h1, lo]
    rfl
  · intro r' hr'
    obtain ⟨r, hr, rfl⟩ := List.mem_map.mp hr'
    obtain ⟨h1, h2⟩ := inf r hr
    obtain ⟨l, hl⟩ := h.nz r h1
    exact (lay2_bd (dl o ho) (dl r h1) (h.bd r h1) (h.bd o ho)).low (lead r h1 h2 l hl).mem
  · intro r' hr'
    obtain ⟨r, hr, rfl⟩ := List.mem_map.mp hr'
    obtain ⟨h1, h2⟩ := inf r hr
    obtain ⟨l, hl⟩ := h.nz r h1
    exact ⟨l, (lead r h1 h2 l hl).low⟩
  · rw [List.pairwise_map]
    refine List.Pairwise.imp_of_mem ?_ (h.pw.filter _)
    intro r s hr hs hrs
    obtain ⟨h1, h2⟩ := inf r hr
    obtain ⟨h3, h4⟩ := inf s hs
    obtain ⟨l, hl, hz⟩ := hrs
    obtain ⟨l2, hl2⟩ := h.nz s h3
    have e2 : l < l2 := by
      rcases Nat.lt_or_ge l l2 with y | y
      · exact y
      · exact absurd (hz l2 y) hl2.1
    have L1 := (lead r h1 h2 l hl).low
    have L2 := (lead s h3 h4 l2 hl2).low
    exact ⟨l, L1, fun x hx => L2.2 x (by omega)⟩
  · intro r' hr' c' hc'
    obtain ⟨r, hr, rfl⟩ := List.mem_map.mp hr'
    obtain ⟨h1, h2⟩ := inf r hr
    obtain ⟨l, hl⟩ := h.nz r h1
    refine low_dot (lead r h1 h2 l hl).mem ?_
    rw [dotI_lay2 _ _ _ _ _ (by rw [h.l10 r h1, lo])]
    rcases List.mem_append.mp hc' with z | z
    · rw [h.kept r h1 c' z, h.kept o ho c' z, Int.mul_zero, Int.mul_zero]
      rfl
    · rw [List.mem_singleton.mp z, Int.mul_comm (dotI o c), Int.sub_self]
theorem BaseR.stay {b : Nat} {cs rows : List (List Int)} {c : List Int} (h : BaseR b cs rows) (hk : ∀ r ∈ rows, dotI r c = 0) : BaseR b (cs ++ [c]) rows := ⟨h.l10, h.bd, h.nz, h.pw, fun r hr c' hc' => by
  rcases List.mem_append.mp hc' with z | z
  · exact h.kept r hr c' z
  · rw [List.mem_singleton.mp z]; exact hk r hr⟩
def unitI (k : Nat) : List Int := (List.range 10).map fun j => if j = k then 1 else 0
theorem BaseR.start : BaseR 0 [] ((List.range 10).map unitI) := by
  refine ⟨?_, ?_, ?_, ?_, fun r _ c hc => by cases hc⟩
  · decide
  · have : ∀ r ∈ (List.range 10).map unitI, ∀ n ∈ r, n.natAbs ≤ 2 ^ 0 := by decide
    exact this
  · intro r hr
    obtain ⟨k, hk, rfl⟩ := List.mem_map.mp hr
    have hk : k < 10 := List.mem_range.mp hk
    have : ∀ k, k < 10 → (unitI k).getD k 0 ≠ 0 ∧ ∀ x, x < k → (unitI k).getD x 0 = 0 := by decide
    exact ⟨k, this k hk⟩
  · rw [List.pairwise_map]
    refine List.Pairwise.imp_of_mem ?_ (List.pairwise_lt_range (n := 10))
    intro j k hj hk hjk
    have hj : j < 10 := List.mem_range.mp hj
    have hk : k < 10 := List.mem_range.mp hk
    have h1 : ∀ k, k < 10 → (unitI k).getD k 0 ≠ 0 ∧ ∀ x, x < k → (unitI k).getD x 0 = 0 := by decide
    exact ⟨j, h1 j hj, fun x hx => (h1 k hk).2 x (by omega)⟩
def units : List (List Int) := (List.range 10).map unitI
def bB : Nat → Nat
  | 0 => 0
  | n + 1 => 2 * bB n + 11
end Mth

set_option Elab.async false
set_option linter.all false
set_option maxRecDepth 100000
set_option maxHeartbeats 4000000
/-! * and // of large ints -/
namespace L2
open PySem PySem.Spec PyProof.Rows
section
variable {X : Cx}
end
end L2

set_option Elab.async false
set_option linter.all false
set_option maxRecDepth 100000
set_option maxHeartbeats 4000000
/-! comprehensions with a test: over enumerate of a list, over zip of two lists -/
namespace W2
open PySem L2 Mth
end W2

set_option Elab.async false
set_option linter.all false
set_option maxRecDepth 100000
set_option maxHeartbeats 4000000
/-! != of two lists of the same ints -/
namespace L2
open PySem PySem.Spec PyProof.Rows
section
variable {X : Cx}
end
end L2

set_option Elab.async false
set_option linter.all false
set_option maxHeartbeats 4000000
/-! kept rows of any number of fractions -/
namespace Mth
theorem BaseR.empty (b : Nat) (cs : List (List Int)) : BaseR b cs [] := ⟨fun r h => (by cases h), fun r h => (by cases h), fun r h => (by cases h), .nil, fun r h => (by cases h)⟩
end Mth

set_option Elab.async false
set_option linter.all false
set_option maxRecDepth 100000
set_option maxHeartbeats 4000000
/-! * of larger ints -/
namespace L2
open PySem PySem.Spec PyProof.Rows
section
variable {X : Cx}
end
end L2

set_option Elab.async false
set_option linter.all false
set_option maxRecDepth 100000
set_option maxHeartbeats 4000000
/-! dict.setdefault and dict.get with keys that are rows of ints -/
namespace PySem
section
variable {prog : Program} {w : World} {K : Type} [DecidableEq K] {kn : HeapKind prog w K} {A : Around} {E : Value → Shared → Prop} {s : Shared}
end
end PySem
namespace PySem
end PySem
namespace L2
open PySem PySem.Spec PyProof.Rows W2
section
variable {X : Cx}
end
end L2

set_option Elab.async false
set_option linter.all false
set_option maxHeartbeats 4000000
namespace Mth
/-! all lines over some places -/
end Mth

set_option Elab.async false
set_option linter.all false
set_option maxRecDepth 100000
set_option maxHeartbeats 4000000
/-! sorted of up to six rows, no two alike: the rising list -/
namespace Srt
open PySem PySem.W PyProof.Rows L2
end Srt
namespace W2
open PySem PySem.W L2 Srt
end W2
namespace W2
end W2
namespace L2
open PySem PySem.Spec PyProof.Rows
section
variable {X : Cx}
end
end L2

set_option Elab.async false
set_option linter.all false
set_option maxHeartbeats 4000000
/-! the base is the one form: leads above 0, nothing in common, 0 at the other leads, and all -/
namespace Mth
theorem LdA.uniq {r : List Int} {l l' : Nat} (h : LdA r l) (h' : LdA r l') : l = l' := by
  rcases Nat.lt_trichotomy l l' with y | y | y
  · exact absurd (h'.2 l y) h.1
  · exact y
  · exact absurd (h.2 l' y) h'.1
theorem filter_lead : ∀ {ns : List Int} {l : Nat}, LdA ns l → ∃ rest, ns.filter (fun n => decide (n ≠ 0)) = ns.getD l 0 :: rest
  | [], l, h => absurd rfl h.1
  | a :: ns, 0, h => by
    have h1 : a ≠ 0 := h.1
    refine ⟨ns.filter fun n => decide (n ≠ 0), ?_⟩
    rw [List.filter_cons, decide_eq_true h1]
    rfl
  | a :: ns, l + 1, h => by
    have h0 : a = 0 := h.2 0 (by omega)
    have h2 : LdA ns l := ⟨h.1, fun x hx => h.2 (x + 1) (by omega)⟩
    obtain ⟨rest, hr⟩ := filter_lead h2
    refine ⟨rest, ?_⟩
    rw [List.filter_cons, h0, decide_eq_false (fun z => z rfl)]
    exact hr
theorem sgn_lead {ns : List Int} {l : Nat} (h : LdA ns l) : sgnL ns = if ns.getD l 0 < 0 then -1 else 1 := by
  obtain ⟨rest, hr⟩ := filter_lead h
  unfold sgnL
  rw [hr]
theorem getD_mem {ns : List Int} {l : Nat} (h : ns.getD l 0 ≠ 0) : ns.getD l 0 ∈ ns := by
  rw [List.getD_eq_getElem?_getD] at h ⊢
  cases hx : ns[l]? with
  | none => rw [hx] at h; exact absurd rfl h
  | some a => exact List.mem_of_getElem? hx
theorem low_pos {ns : List Int} {l : Nat} (h : LdA ns l) : 0 < (lowI ns).getD l 0 := by
  have hm := getD_mem h.1
  have hg := gcdL_pos hm h.1
  obtain ⟨q, hq⟩ := gcdL_dvd hm
  rw [low_get, sgn_lead h]
  have h1 := h.1
  by_cases z : ns.getD l 0 < 0
  · rw [if_pos z, hq, Int.neg_mul, Int.one_mul, Int.ediv_neg, Int.mul_ediv_cancel_left _ (by omega)]
    rw [hq] at z
    have : q < 0 := by
      rcases Int.lt_trichotomy q 0 with y | y | y
      · exact y
      · rw [y, Int.mul_zero] at z; omega
      · have := Int.mul_pos (show (0 : Int) < (gcdL ns : Int) by omega) y
        omega
    omega
  · rw [if_neg z, Int.one_mul, hq, Int.mul_ediv_cancel_left _ (by omega)]
    rw [hq] at z h1
    rcases Int.lt_trichotomy q 0 with y | y | y
    · have := Int.mul_neg_of_pos_of_neg (show (0 : Int) < (gcdL ns : Int) by omega) y
      omega
    · rw [y, Int.mul_zero] at h1; exact absurd rfl h1
    · exact y
theorem gcdF_scale (d : Int) : ∀ (ns : List Int) (g : Nat), (ns.map fun x => d * x).foldl (fun g n => Nat.gcd g n.natAbs) (d.natAbs * g) = d.natAbs * ns.foldl (fun g n => Nat.gcd g n.natAbs) g
  | [], g => rfl
  | a :: ns, g => by
    show (ns.map fun x => d * x).foldl _ (Nat.gcd (d.natAbs * g) (d * a).natAbs) = d.natAbs * ns.foldl _ (Nat.gcd g a.natAbs)
    rw [Int.natAbs_mul, Nat.gcd_mul_left]
    exact gcdF_scale d ns _
theorem low_gcd {ns : List Int} (h : ∃ n ∈ ns, n ≠ 0) : gcdL (lowI ns) = 1 := by
  have hb := low_back h
  obtain ⟨n, hn, h0⟩ := h
  have hp := gcdL_pos hn h0
  have hs := gcdF_scale (sgnL ns * (gcdL ns : Int)) (lowI ns) 0
  rw [← hb, Nat.mul_zero] at hs
  have e : (sgnL ns * (gcdL ns : Int)).natAbs = gcdL ns := by
    rw [Int.natAbs_mul, Int.natAbs_natCast]
    rcases sgnL_is ns with z | z <;> rw [z] <;> simp
  rw [e] at hs
  have h1 : gcdL ns * 1 = gcdL ns * gcdL (lowI ns) := by rw [Nat.mul_one]; exact hs
  exact (Nat.eq_of_mul_eq_mul_left hp h1).symm
structure BaseX (cs rows : List (List Int)) : Prop where
  z0 : ∀ r ∈ rows, ∀ s ∈ rows, r ≠ s → ∀ l, LdA s l → r.getD l 0 = 0
  pos : ∀ r ∈ rows, ∀ l, LdA r l → 0 < r.getD l 0
  one : ∀ r ∈ rows, gcdL r = 1
  all : ∀ x : List Int, x.length = 10 → (∀ c ∈ cs, dotI x c = 0) → (∀ r ∈ rows, ∀ l, LdA r l → x.getD l 0 = 0) → ∀ k, x.getD k 0 = 0
theorem dotI_zero : ∀ (x c : List Int), (∀ k, x.getD k 0 = 0) → dotI x c = 0
  | [], c, _ => rfl
  | a :: x, [], _ => rfl
  | a :: x, b :: c, h => by
    have h0 : a = 0 := h 0
    rw [dotI_cons, h0, Int.zero_mul, Int.zero_add]
    exact dotI_zero x c fun k => h (k + 1)
theorem BaseX.stay {cs rows : List (List Int)} {c : List Int} (h : BaseX cs rows) : BaseX (cs ++ [c]) rows := ⟨h.z0, h.pos, h.one, fun x hx hc hl => h.all x hx (fun c' hc' => hc c' (List.mem_append_left _ hc')) hl⟩
theorem BaseX.step {b : Nat} {cs rows : List (List Int)} {c o : List Int} (hB : BaseR b cs rows) (h : BaseX cs rows) (ho : o ∈ rows) (hoc : dotI o c ≠ 0) (ha : ∀ r ∈ rows, r ≠ o → AheadR c o r) : BaseX (cs ++ [c]) ((rows.filter fun r => decide (r ≠ o)).map (evI c o)) := by
  have lo := hB.l10 o ho
  have inf : ∀ r ∈ rows.filter (fun r => decide (r ≠ o)), r ∈ rows ∧ r ≠ o := fun r hr => by
    obtain ⟨h1, h2⟩ := List.mem_filter.mp hr
    exact ⟨h1, of_decide_eq_true h2⟩
  have lead : ∀ r ∈ rows, r ≠ o → ∀ l, LdA r l → LdA (lay2 (dotI o c) (dotI r c) r o) l := fun r hr hn l hl => lead_ev (by rw [hB.l10 r hr, lo]) hoc (ha r hr hn) hl
  have back : ∀ r ∈ rows, r ≠ o → ∀ l, LdA (evI c o r) l → LdA r l := fun r hr hn l hl => by
    obtain ⟨l0, hl0⟩ := hB.nz r hr
    have := (lead r hr hn l0 hl0).low
    rw [hl.uniq this]
    exact hl0
  refine ⟨?_, ?_, ?_, ?_⟩
  · intro r' hr' s' hs' hne l hl
    obtain ⟨r, hr, rfl⟩ := List.mem_map.mp hr'
    obtain ⟨s, hs, rfl⟩ := List.mem_map.mp hs'
    obtain ⟨r1, r2⟩ := inf r hr
    obtain ⟨s1, s2⟩ := inf s hs
    have hsl := back s s1 s2 l hl
    have hrs : r ≠ s := fun z => hne (by rw [z])
    obtain ⟨l0, hl0⟩ := hB.nz r r1
    show (lowI (lay2 (dotI o c) (dotI r c) r o)).getD l 0 = 0
    rw [low_zero (lead r r1 r2 l0 hl0).mem, lay2_get (by rw [hB.l10 r r1, lo]), h.z0 r r1 s s1 hrs l hsl, h.z0 o ho s s1 (fun z => s2 z.symm) l hsl, Int.mul_zero, Int.mul_zero]
    rfl
  · intro r' hr' l hl
    obtain ⟨r, hr, rfl⟩ := List.mem_map.mp hr'
    obtain ⟨r1, r2⟩ := inf r hr
    exact low_pos (lead r r1 r2 l (back r r1 r2 l hl))
  · intro r' hr'
    obtain ⟨r, hr, rfl⟩ := List.mem_map.mp hr'
    obtain ⟨r1, r2⟩ := inf r hr
    obtain ⟨l0, hl0⟩ := hB.nz r r1
    exact low_gcd (lead r r1 r2 l0 hl0).mem
  · intro x hx hc hl
    obtain ⟨lo', hlo⟩ := hB.nz o ho
    have hz : ∀ k, (lay2 (o.getD lo' 0) (x.getD lo' 0) x o).getD k 0 = 0 := by
      refine h.all _ ?_ (fun c' hc' => ?_) (fun r hr l hrl => ?_)
      · unfold lay2
        rw [List.length_zipWith, hx, lo]
        rfl
      · rw [dotI_lay2 _ _ _ _ _ (by rw [hx, lo]), hc c' (List.mem_append_left _ hc'), hB.kept o ho c' hc', Int.mul_zero, Int.mul_zero]
        rfl
      · rw [lay2_get (by rw [hx, lo])]
        by_cases z : r = o
        · subst z
          rw [hrl.uniq hlo]
          rw [Int.mul_comm, Int.sub_self]
        · have hl' : LdA (evI c o r) l := (lead r hr z l hrl).low
          rw [hl _ (List.mem_map.mpr ⟨r, List.mem_filter.mpr ⟨hr, decide_eq_true z⟩, rfl⟩) l hl', h.z0 o ho r hr (fun y => z y.symm) l hrl, Int.mul_zero, Int.mul_zero]
          rfl
    have hd := dotI_zero _ c hz
    rw [dotI_lay2 _ _ _ _ _ (by rw [hx, lo]), hc c (List.mem_append_right _ List.mem_cons_self), Int.mul_zero, Int.zero_sub] at hd
    have hx0 : x.getD lo' 0 = 0 := by
      rcases Int.mul_eq_zero.mp (show x.getD lo' 0 * dotI o c = 0 by omega) with y | y
      · exact y
      · exact absurd y hoc
    intro k
    have := hz k
    rw [lay2_get (by rw [hx, lo]), hx0, Int.zero_mul, Int.sub_zero] at this
    rcases Int.mul_eq_zero.mp this with y | y
    · exact absurd y hlo.1
    · exact y
theorem BaseX.start : BaseX [] units := by
  have hu : ∀ k, k < 10 → LdA (unitI k) k := by
    have : ∀ k, k < 10 → (unitI k).getD k 0 ≠ 0 ∧ ∀ x, x < k → (unitI k).getD x 0 = 0 := by decide
    exact this
  have hm : ∀ r ∈ units, ∃ k, k < 10 ∧ r = unitI k := fun r hr => by
    obtain ⟨k, hk, rfl⟩ := List.mem_map.mp hr
    exact ⟨k, List.mem_range.mp hk, rfl⟩
  refine ⟨?_, ?_, ?_, ?_⟩
  · intro r hr s hs hne l hl
    obtain ⟨k, hk, rfl⟩ := hm r hr
    obtain ⟨j, hj, rfl⟩ := hm s hs
    rw [hl.uniq (hu j hj)]
    have h1 : ∀ k, k < 10 → ∀ j, j < 10 → k ≠ j → (unitI k).getD j 0 = 0 := by decide
    exact h1 k hk j hj fun z => hne (by rw [z])
  · intro r hr l hl
    obtain ⟨k, hk, rfl⟩ := hm r hr
    rw [hl.uniq (hu k hk)]
    have h1 : ∀ k, k < 10 → 0 < (unitI k).getD k 0 := by decide
    exact h1 k hk
  · intro r hr
    obtain ⟨k, hk, rfl⟩ := hm r hr
    have h1 : ∀ k, k < 10 → gcdL (unitI k) = 1 := by decide
    exact h1 k hk
  · intro x hx _ hl k
    by_cases hk : k < 10
    · exact hl (unitI k) (List.mem_map.mpr ⟨k, List.mem_range.mpr hk, rfl⟩) k (hu k hk)
    · rw [List.getD_eq_getElem?_getD, List.getElem?_eq_none (by omega)]
      rfl
end Mth

set_option Elab.async false
set_option linter.all false
set_option maxHeartbeats 4000000
/-! fewer equations than unknowns: a solution that is not nothing -/
namespace Mth
end Mth

set_option Elab.async false
set_option linter.all false
set_option maxRecDepth 100000
set_option maxHeartbeats 4000000
/-! comprehensions with a test that may make new things on the heap: over range, over enumerate of a tuple, over a tuple, over a list -/
namespace W2
open PySem L2 Mth
end W2
namespace L2
open PySem PySem.Spec PyProof.Rows
section
variable {X : Cx}
end
end L2
namespace L2
open PySem
end L2

set_option linter.all false
/-! idle fractions, and programs that are alike everywhere -/
namespace Mth
open W2
/-- what a step adds -/
def doneI (R : List (List Int)) (p : List Int) : Option (List Int) := (fstI R p).map fun k => R.getD k []
def leP (q p : List Int) : Prop := ∀ (i : Nat) (a b : Int), q[i]? = some a → p[i]? = some b → a ≤ b
def Alike (fs gs : List (Int × Int)) : Prop := ∀ p : List Int, p.length = 10 → nn p = true → doneI (rowsOf fs) p = doneI (rowsOf gs) p
theorem Alike.symm {fs gs : List (Int × Int)} (h : Alike fs gs) : Alike gs fs := fun p hp hn => (h p hp hn).symm
theorem Alike.trans {fs gs hs : List (Int × Int)} (h : Alike fs gs) (h' : Alike gs hs) : Alike fs hs := fun p hp hn => (h p hp hn).trans (h' p hp hn)
theorem Alike.refl (fs : List (Int × Int)) : Alike fs fs := fun _ _ _ => rfl
/-! idle ones -/
theorem leP.trans {a b c : List Int} (h1 : leP a b) (h2 : leP b c) (hl : b.length = c.length) : leP a c := by
  intro i x z hx hz
  have hi : i < b.length := by rw [hl]; exact (List.getElem?_eq_some_iff.mp hz).1
  have := h1 i x _ hx (List.getElem?_eq_getElem hi)
  have := h2 i _ z (List.getElem?_eq_getElem hi) hz
  omega
end Mth

set_option Elab.async false
set_option linter.all false
set_option maxRecDepth 100000
set_option maxHeartbeats 4000000
/-! == and != of rows or nothing; a comprehension over a tuple of pairs -/
namespace L2
open PySem PySem.Spec PyProof.Rows
/-- a row, or nothing -/
def OptR (H : Hp) (v : V) (o : Option (List Int)) : Prop := (v = .non ∧ o = none) ∨ ∃ a c, v = .ref a ∧ o = some c ∧ H a = some (.tup (c.map V.int))
theorem OptR.same {H H' : Hp} {v : V} {o : Option (List Int)} (h : OptR H v o) (s : Same H H') : OptR H' v o := by
  rcases h with h | ⟨a, c, h1, h2, h3⟩
  · exact .inl h
  · exact .inr ⟨a, c, h1, h2, s _ _ h3⟩
section
variable {X : Cx}
end
end L2
namespace W2
open PySem L2 Mth
end W2

set_option linter.all false
set_option maxHeartbeats 4000000
/-! programs that are alike go alike -/
namespace Mth
open W2
theorem stp_done (R : List (List Int)) (p : List Int) : stp R p = (doneI R p).map fun c => mvd p c 1 := by
  unfold stp doneI
  rw [Option.map_map]
  rfl
theorem Alike.stp {fs gs : List (Int × Int)} (h : Alike fs gs) {p : List Int} (hp : p.length = 10) (hn : nn p = true) : Mth.stp (rowsOf fs) p = Mth.stp (rowsOf gs) p := by
  rw [stp_done, stp_done, h p hp hn]
theorem Alike.goN {fs gs : List (Int × Int)} (h : Alike fs gs) {p : List Int} (hp : p.length = 10) (hn : nn p = true) : ∀ k, Mth.goN (rowsOf fs) k p = Mth.goN (rowsOf gs) k p
  | 0 => rfl
  | k + 1 => by
    show (Mth.goN (rowsOf fs) k p).bind (Mth.stp (rowsOf fs)) = (Mth.goN (rowsOf gs) k p).bind (Mth.stp (rowsOf gs))
    have ih := h.goN hp hn k
    rw [← ih]
    cases e : Mth.goN (rowsOf fs) k p with
    | none => rfl
    | some q =>
      obtain ⟨q1, q2⟩ := goN_ok (rowsOf_10 fs) hp hn e
      exact h.stp q1 q2
end Mth

set_option Elab.async false
set_option linter.all false
set_option maxRecDepth 100000
set_option maxHeartbeats 4000000
/-! COMPREHENSIONS whose own names are seen by comprehensions within them. -/
namespace L2
open PySem PySem.Spec PyProof.Rows
section
variable {X : Cx} {tg : Expr}
end
end L2

set_option linter.all false
set_option maxHeartbeats 4000000
/-! the primes of a program -/
namespace Mth
open W2
end Mth

set_option Elab.async false
set_option linter.all false
set_option maxRecDepth 100000
set_option maxHeartbeats 4000000
/-! sorted of a tuple of ints, of a list of ints -/
namespace Srt
open PySem PySem.W PyProof.Rows
section
variable {prog : Program} {w : World} {A : Around} {E : Value → Shared → Prop} {z : Shared}
end
end Srt
namespace L2
open PySem PySem.Spec PyProof.Rows
section
variable {X : Cx}
end
end L2

set_option Elab.async false
set_option linter.all false
set_option maxRecDepth 100000
set_option maxHeartbeats 4000000
/-! COMPREHENSIONS out of which exceptions come. -/
namespace Xn
open PySem PyProof.Rows
section
variable {M : Model} {A : Around} {E : Value → Shared → Prop} {s : Shared}
end
end Xn
namespace L2
open PySem PySem.Spec PyProof.Rows Xn
/-- as Fresh, where iterators are walked -/
structure FreshC (X : Cx) (pins : List (Addr × Obj)) (e : Addr) : Prop where
  s0 : X.s₀.heap.get? e = none ∨ e ∈ X.ex
  loc : e ≠ X.env.locals
theorem FreshC.of {X : Cx} {pins : List (Addr × Obj)} {σ : St} {H : Hp} {s : Shared} (I : Inv X pins σ H s) {e : Addr} (h : s.heap.get? e = none) : FreshC X pins e := by
  refine ⟨?_, ?_⟩
  · cases q : X.s₀.heap.get? e with
    | none => exact .inl rfl
    | some o =>
      refine .inr ?_
      by_cases z : e ∈ X.ex
      · exact z
      · obtain ⟨o', y⟩ := I.base.there e o q z
        rw [h] at y; cases y
  · intro z
    obtain ⟨m, ⟨o, _, _, ho, _⟩, _⟩ := I.loc
    rw [z, ho] at h; cases h
end L2

set_option Elab.async false
set_option linter.all false
set_option maxRecDepth 100000
set_option maxHeartbeats 4000000
/-! tuple.index of ints, list(range(n)), tuple(range(a, b, c)) -/
namespace Tpi
open PySem PyProof.Rows
section
variable {A : Around} {E : Value → Shared → Prop} {s : Shared}
end
end Tpi
namespace L2
open PySem PySem.Spec PyProof.Rows
section
variable {X : Cx}
end
end L2
namespace L2
open PySem PySem.Spec PyProof.Rows
section
variable {X : Cx}
variable {o e : Expr} {es : List Expr} {to : TE} {t : TA} {name : Str} {apos cpos : Pos} {id : String} {r : V → List V → Hp → VK → Prop}
end
end L2

set_option linter.all false
set_option maxHeartbeats 4000000
/-! orders of the ten places -/
namespace Mth
open W2
structure OrdL (os : List Int) : Prop where
  len : os.length = 10
  rng : ∀ m ∈ os, 0 ≤ m ∧ m < 10
  nod : os.Nodup
def tenI : List Int := (List.range 10).map fun i => ((i : Nat) : Int)
theorem nodup_len : ∀ {A B : List Int}, A.Nodup → (∀ x ∈ A, x ∈ B) → A.length ≤ B.length
  | [], _, _, _ => Nat.zero_le _
  | a :: A, B, hn, hs => by
    have ha : a ∈ B := hs a List.mem_cons_self
    obtain ⟨h1, h2⟩ := List.nodup_cons.mp hn
    have ih := nodup_len (A := A) (B := B.erase a) h2 fun x hx => by
      have hxa : x ≠ a := fun z => h1 (z ▸ hx)
      exact (List.mem_erase_of_ne hxa).mpr (hs x (List.mem_cons_of_mem _ hx))
    have := List.length_erase_of_mem ha
    have := List.length_pos_of_mem ha
    rw [List.length_cons]
    omega
theorem mem_tenI {x : Int} : x ∈ tenI ↔ 0 ≤ x ∧ x < 10 := by
  unfold tenI
  rw [List.mem_map]
  constructor
  · rintro ⟨n, hn, rfl⟩
    have := List.mem_range.mp hn
    omega
  · intro h
    exact ⟨x.toNat, List.mem_range.mpr (by omega), by omega⟩
theorem OrdL.all {os : List Int} (h : OrdL os) {i : Nat} (hi : i < 10) : (i : Int) ∈ os := by
  refine Classical.byContradiction fun z => ?_
  have : ((i : Int) :: os).length ≤ tenI.length := nodup_len (List.nodup_cons.mpr ⟨z, h.nod⟩) fun x hx => by
    rw [mem_tenI]
    rcases List.mem_cons.mp hx with y | y
    · rw [y]; omega
    · exact h.rng x y
  rw [List.length_cons, h.len] at this
  exact absurd this (by decide)
end Mth

set_option Elab.async false
set_option linter.all false
set_option maxRecDepth 100000
set_option maxHeartbeats 4000000
/-! texts: walked sign by sign (for, comprehensions), one in another, put together -/
namespace L2
open PySem PySem.Spec PyProof.Rows
section
variable {X : Cx} {tg : Expr}
end
end L2
namespace W2
open PySem L2 Mth
end W2

set_option Elab.async false
set_option linter.all false
set_option maxRecDepth 100000
set_option maxHeartbeats 4000000
/-! own classes (fields, methods, made) in boxes; dicts keyed by texts -/
namespace L2
open PySem PySem.Spec PyProof.Rows W2
section
variable {X : Cx} {CX : CXT} {k : Nat} {f C : Addr} {fd : FuncData} {ps : List Str} {sp : Sp} {dvs : List V} {ds : List Value} {E : XK} {x m fl : Str} {p pos apos pos' : Pos} {e o value : Expr} {es : List Expr} {ta tv : TE} {t : TA}
end
section
variable {X : Cx}
end
end L2

set_option Elab.async false
set_option linter.all false
set_option maxRecDepth 100000
set_option maxHeartbeats 4000000
/-! the sort's tree of questions sorts, whatever the length -/
namespace Srt
open PySem PySem.W PyProof.Rows L2
section
variable {R : List Nat}
def key (R : List Nat) (p : Array Nat) (k : Nat) : Nat := R.getD (p.getD k 0) 0
def lt (R : List Nat) (i j : Nat) : Bool := decide (R.getD i 0 < R.getD j 0)
def Sd (R : List Nat) (p : Array Nat) (k : Nat) : Prop := ∀ i j, i < j → j < k → key R p i < key R p j
def Dd (R : List Nat) (p : Array Nat) (k : Nat) : Prop := ∀ i j, i < j → j < k → key R p j < key R p i
theorem okp.size {n : Nat} {p : Array Nat} (h : okp n p) : p.size = n := by
  have := h.length_eq
  rwa [List.length_range, Array.length_toList] at this
theorem Sd.snoc {p : Array Nat} {m : Nat} (h : Sd R p m) (hm : 1 ≤ m) (hk : key R p (m - 1) < key R p m) : Sd R p (m + 1) := fun i j hij hj => by
  rcases Nat.lt_or_ge j m with z | z
  · exact h i j hij z
  · have ej : j = m := by omega
    subst ej
    rcases Nat.lt_or_ge i (j - 1) with y | y
    · exact Nat.lt_trans (h i (j - 1) y (by omega)) hk
    · rw [show i = j - 1 by omega]; exact hk
theorem Dd.snoc {p : Array Nat} {m : Nat} (h : Dd R p m) (hm : 1 ≤ m) (hk : key R p m < key R p (m - 1)) : Dd R p (m + 1) := fun i j hij hj => by
  rcases Nat.lt_or_ge j m with z | z
  · exact h i j hij z
  · have ej : j = m := by omega
    subst ej
    rcases Nat.lt_or_ge i (j - 1) with y | y
    · exact Nat.lt_trans hk (h i (j - 1) y (by omega))
    · rw [show i = j - 1 by omega]; exact hk
theorem getD_of {p q : Array Nat} {i j : Nat} (h : p[i]? = q[j]?) : p.getD i 0 = q.getD j 0 := by
  rw [Array.getD_eq_getD_getElem?, Array.getD_eq_getD_getElem?, h]
end
end Srt
namespace W2
open PySem PySem.W L2 Srt
end W2

set_option linter.all false
set_option maxHeartbeats 4000000
/-! by other primes: everything goes alike -/
namespace Mth
open W2
section
variable {os : List Int} (O : OrdL os)
include O
end
theorem StR.uniq {rows : List (List Int)} {p c : List Int} {k : Nat} : ∀ {o o' : Option Nat}, StR rows p c k o → StR rows p c k o' → o = o'
  | none, none, _, _ => rfl
  | none, some T, h, h' => absurd (h T) h'.2
  | some T, none, h, h' => absurd (h' T) h.2
  | some T, some T', h, h' => by
    rcases Nat.lt_trichotomy T T' with z | z | z
    · exact absurd (h'.1 T z) h.2
    · rw [z]
    · exact absurd (h.1 T' z) h'.2
end Mth

set_option Elab.async false
set_option linter.all false
set_option maxRecDepth 100000
set_option maxHeartbeats 4000000
/-! tuples of scalars with None, the same; lists of rows, the same; a comprehension over a list whose items make things -/
namespace L2
open PySem PySem.Spec PyProof.Rows
section
variable {X : Cx}
end
end L2
namespace W2
open PySem L2 Mth
end W2

set_option linter.all false
set_option maxHeartbeats 4000000
/-! two programs of different places: first the one, then the other -/
namespace Mth
open W2
def offQ (ns xs : List Int) : Prop := ∀ k : Nat, (k : Int) ∉ ns → xs.getD k 0 = 0
structure Two (n1 n2 : List Int) (r1 r2 : List (List Int)) : Prop where
  dis : ∀ m ∈ n1, m ∉ n2
  t1 : R10 r1
  t2 : R10 r2
  o1 : ∀ c ∈ r1, offQ n1 c
  o2 : ∀ c ∈ r2, offQ n2 c
section
variable {n1 n2 : List Int} {r1 r2 : List (List Int)} (W : Two n1 n2 r1 r2)
include W
end
end Mth

set_option Elab.async false
set_option linter.all false
set_option maxRecDepth 100000
set_option maxHeartbeats 4000000
/-! a new exception while another is handled -/
namespace Hnd
open PySem PySem.Spec PyProof.Rows
section
variable {prog : Program} {w : World} {A : Around} {E : Value → Shared → Prop} {s : Shared}
end
end Hnd

set_option Elab.async false
set_option linter.all false
set_option maxRecDepth 100000
set_option maxHeartbeats 4000000
/-! texts: parts between a sign, numbers written by figures -/
namespace Mth
open PySem PySem.NumText
abbrev sg (c : Nat) : Str := ⟨#[c]⟩
/-- the signs of a text -/
abbrev sgs (x : Str) : List Nat := x.cps.toList
theorem sgs_app (a b : Str) : sgs (a ++ b) = sgs a ++ sgs b := by
  show (a.cps ++ b.cps).toList = _
  rw [Array.toList_append]
theorem sgs_len (a : Str) : (sgs a).length = a.length := Array.length_toList
def Free (c : Nat) (x : Str) : Prop := c ∉ sgs x
theorem Free.app {c : Nat} {a b : Str} (h : Free c a) (g : Free c b) : Free c (a ++ b) := by
  unfold Free
  rw [sgs_app, List.mem_append]
  exact fun z => z.elim h g
theorem join_two (c : Nat) (x y : Str) (r : List Str) : Str.join (sg c) (x :: y :: r) = x ++ sg c ++ Str.join (sg c) (y :: r) := rfl
theorem sgs_two (c : Nat) (x y : Str) (r : List Str) : sgs (Str.join (sg c) (x :: y :: r)) = sgs x ++ c :: sgs (Str.join (sg c) (y :: r)) := by
  rw [join_two, sgs_app, sgs_app, List.append_assoc]
  rfl
/-! numbers written -/
def nT (n : Int) : Str := Str.ofString (toString n)
/-! a fraction, a program, powers -/
/-- a power written -/
def pwT (p e : Int) : Str := nT p ++ sg 94 ++ nT e
/-- the words of powers: those above 0 -/
def wdP (l : List (Int × Int)) : List Str := (l.filter fun p => decide (0 < p.2)).map fun p => pwT p.1 p.2
end Mth

set_option Elab.async false
set_option linter.all false
set_option maxRecDepth 100000
set_option maxHeartbeats 4000000
/-! texts: times a number, joined, cut, formatted, read as numbers; dicts keyed by ints -/
namespace Rvl
open PySem PyProof.Rows
section
variable {prog : Program} {w : World} {A : Around} {E : Value → Shared → Prop} {s : Shared}
end
end Rvl
namespace L2
open PySem PySem.Spec PyProof.Rows W2
section
variable {X : Cx}
end
end L2
namespace W2
open PySem L2 Mth
end W2

set_option Elab.async false
set_option linter.all false
set_option maxRecDepth 100000
set_option maxHeartbeats 4000000
/-! texts cut and compared; lists turned about -/
namespace L2
open PySem PySem.Spec PyProof.Rows W2
section
variable {X : Cx}
end
end L2

set_option Elab.async false
set_option linter.all false
set_option maxRecDepth 100000
set_option maxHeartbeats 4000000
/-! numbers read: as the program reads them, as the law does -/
namespace Mth
open PySem PySem.NumText
instance (x : List Nat) : Decidable (AllDigits x) := by unfold AllDigits; infer_instance
/-- a text of 7-bit signs -/
def Asc (x : Str) : Prop := ∀ c ∈ sgs x, c < 128
theorem Asc.all {x : Str} (h : Asc x) : x.cps.all (· < 128) = true := by
  rw [Array.all_eq_true']
  intro c hc
  exact decide_eq_true (h c (Array.mem_toList_iff.mpr hc))
theorem Asc.app {a b : Str} (h : Asc a) (g : Asc b) : Asc (a ++ b) := fun c hc => by
  rw [sgs_app, List.mem_append] at hc
  exact hc.elim (h c) (g c)
theorem Asc.sub {a b : Str} (h : Asc a) (g : ∀ c ∈ sgs b, c ∈ sgs a) : Asc b := fun c hc => h c (g c hc)
theorem Asc.join {c : Nat} (hc : c < 128) : ∀ {l : List Str}, (∀ y ∈ l, Asc y) → Asc (Str.join (sg c) l)
  | [], _ => fun z hz => by cases hz
  | [x], h => h x (List.mem_singleton.mpr rfl)
  | x :: y :: r, h => by
    have ih := Asc.join hc (l := y :: r) fun z hz => h z (List.mem_cons_of_mem _ hz)
    intro z hz
    rw [sgs_two, List.mem_append, List.mem_cons] at hz
    rcases hz with q | q | q
    · exact h x List.mem_cons_self z q
    · omega
    · exact ih z q
theorem join_part {c : Nat} : ∀ {l : List Str} {y : Str}, y ∈ l → ∀ z ∈ sgs y, z ∈ sgs (Str.join (sg c) l)
  | [], _, h, _, _ => by cases h
  | [x], y, h, z, hz => by
    rw [List.mem_singleton.mp h] at hz
    exact hz
  | x :: x' :: r, y, h, z, hz => by
    rw [sgs_two, List.mem_append]
    rcases List.mem_cons.mp h with rfl | h'
    · exact .inl hz
    · exact .inr (List.mem_cons_of_mem _ (join_part h' z hz))
theorem join_part_len {c : Nat} : ∀ {l : List Str} {y : Str}, y ∈ l → y.length ≤ (Str.join (sg c) l).length
  | [], _, h => by cases h
  | [x], y, h => by rw [List.mem_singleton.mp h]; exact Nat.le_refl _
  | x :: x' :: r, y, h => by
    have e : (Str.join (sg c) (x :: x' :: r)).length = x.length + (1 + (Str.join (sg c) (x' :: r)).length) := by
      rw [← sgs_len, sgs_two, List.length_append, List.length_cons, sgs_len, sgs_len]
      omega
    rw [e]
    rcases List.mem_cons.mp h with rfl | h'
    · omega
    · have := join_part_len (c := c) h'
      omega
/-- the parts of a text -/
theorem split_part {c : Nat} {x y : Str} (h : y ∈ Txt.split x (sg c)) : (∀ z ∈ sgs y, z ∈ sgs x) ∧ y.length ≤ x.length := by
  have e := StrLaws.join_split x (sg c)
  constructor
  · intro z hz
    have := join_part (c := c) h z hz
    rw [e] at this
    exact this
  · have := join_part_len (c := c) h
    rw [e] at this
    exact this
theorem Asc.part {c : Nat} {x y : Str} (h : Asc x) (hy : y ∈ Txt.split x (sg c)) : Asc y := h.sub (split_part hy).1
/-! figures -/
end Mth

set_option Elab.async false
set_option linter.all false
set_option maxRecDepth 100000
set_option maxHeartbeats 4000000
/-! powers read: as the program reads them, as the law does, the same -/
namespace Mth
open PySem PySem.NumText
def primesI : List Int := [2, 3, 5, 7, 11, 13, 17, 19, 23, 29]
abbrev pz (es : List Int) : List (Int × Int) := primesI.zip es
theorem pz_len {es : List Int} (h : es.length = 10) : (pz es).length = 10 := by rw [List.length_zip, h]; rfl
theorem pz_get {es : List Int} {i : Nat} {p e : Int} (h : (pz es)[i]? = some (p, e)) : primesI[i]? = some p ∧ es[i]? = some e := by
  rw [List.getElem?_zip_eq_some] at h
  exact h
def posP (l : List (Int × Int)) : List (Int × Int) := l.filter fun p => decide (0 < p.2)
theorem wdP_pos' (l : List (Int × Int)) : wdP l = (posP l).map fun p => pwT p.1 p.2 := rfl
/-- powers as a text may hold them -/
def VE (es : List Int) : Prop := es.length = 10 ∧ ∀ e ∈ es, 0 ≤ e ∧ e ≤ 1000000
theorem pz_at {es : List Int} (h : es.length = 10) {i : Nat} (hi : i < 10) : (pz es)[i]? = some (primesI[i]'hi, es[i]'(by omega)) := by
  rw [List.getElem?_zip_eq_some]
  exact ⟨List.getElem?_eq_getElem hi, List.getElem?_eq_getElem (by omega)⟩
/-! the law's reading -/
/-- what holds while the law reads -/
structure LawI (ws : List Str) (last : Int) (found : List Int) : Prop where
  ok : VE found
  wd : ws = wdP (pz found)
  af : ∀ (i : Nat) (p : Int), primesI[i]? = some p → last < p → found[i]? = some 0
theorem primes_rise : ∀ i < 10, ∀ j < 10, i ≤ j → (primesI[i]?.getD 0) ≤ (primesI[j]?.getD 0) := by decide
theorem LawI.step {ws : List Str} {last : Int} {found : List Int} (I : LawI ws last found) {p e : Int} (hp : p ∈ primesI) (h1 : 1 ≤ e) (h2 : e ≤ 1000000) (hl : last < p) : LawI (ws ++ [pwT p e]) p (found.set (primesI.idxOf p) e) := by
  have hj : primesI.idxOf p < primesI.length := List.idxOf_lt_length_iff.mpr hp
  have hj10 : primesI.idxOf p < 10 := hj
  have hpj : primesI[primesI.idxOf p]? = some p := by rw [List.getElem?_eq_getElem hj, List.getElem_idxOf hj]
  generalize hjj : primesI.idxOf p = j at hj hj10 hpj
  have hf10 := I.ok.1
  have hz : ∀ i : Nat, j ≤ i → i < 10 → found[i]? = some 0 := fun i h3 h4 => by
    obtain ⟨q, hq⟩ : ∃ q, primesI[i]? = some q := ⟨_, List.getElem?_eq_getElem (show i < primesI.length from h4)⟩
    refine I.af i q hq ?_
    have := primes_rise j hj10 i h4 h3
    rw [hpj, hq] at this
    simp only [Option.getD_some] at this
    omega
  have hset : pz (found.set j e) = (pz found).set j (p, e) := by
    apply List.ext_getElem?
    intro i
    rcases Nat.lt_or_ge i 10 with hi | hi
    · rw [pz_at (by rw [List.length_set]; exact hf10) hi, List.getElem?_set]
      by_cases hij : j = i
      · subst hij
        rw [if_pos rfl, if_pos (by rw [pz_len hf10]; exact hi)]
        have hp2 : primesI[j]'hi = p := Option.some.inj ((List.getElem?_eq_getElem (show j < primesI.length from hi)).symm.trans hpj)
        rw [hp2]
        simp
      · rw [if_neg hij, pz_at hf10 hi]
        simp [hij]
    · rw [List.getElem?_eq_none (by rw [pz_len (by rw [List.length_set]; exact hf10)]; exact hi), List.getElem?_eq_none (by rw [List.length_set, pz_len hf10]; exact hi)]
  have hdrop : ∀ k, j ≤ k → posP ((pz found).drop k) = [] := fun k hk => by
    apply List.filter_eq_nil_iff.mpr
    intro q hq
    obtain ⟨m, hm⟩ := List.getElem?_of_mem hq
    rw [List.getElem?_drop] at hm
    have hlt : k + m < 10 := by
      rcases Nat.lt_or_ge (k + m) 10 with z | z
      · exact z
      · rw [List.getElem?_eq_none (by rw [pz_len hf10]; exact z)] at hm; cases hm
    obtain ⟨q1, q2⟩ := q
    have h5 := (pz_get hm).2
    rw [hz (k + m) (by omega) hlt] at h5
    cases h5
    simp
  have hjl : j < (pz found).length := by rw [pz_len hf10]; exact hj10
  refine ⟨⟨by rw [List.length_set]; exact hf10, fun x hx => ?_⟩, ?_, fun i q hi hq => ?_⟩
  · rcases List.mem_or_eq_of_mem_set hx with z | z
    · exact I.ok.2 x z
    · omega
  · rw [I.wd, hset, wdP_pos', wdP_pos']
    have e1 : posP (pz found) = posP ((pz found).take j) := by
      conv => lhs; rw [← List.take_append_drop j (pz found)]
      unfold posP
      rw [List.filter_append]
      have := hdrop j (Nat.le_refl _)
      unfold posP at this
      rw [this, List.append_nil]
    have e2 : posP ((pz found).set j (p, e)) = posP ((pz found).take j) ++ [(p, e)] := by
      rw [List.set_eq_take_append_cons_drop, if_pos hjl]
      unfold posP
      rw [List.filter_append, List.filter_cons, if_pos (decide_eq_true (show 0 < e by omega))]
      have := hdrop (j + 1) (by omega)
      unfold posP at this
      rw [this]
    rw [e1, e2, List.map_append]
    rfl
  · have hi10 : i < 10 := (List.getElem?_eq_some_iff.mp hi).1
    have hij : j ≠ i := fun z => by
      subst z
      rw [hpj] at hi
      cases hi
      omega
    rw [List.getElem?_set_ne hij]
    exact I.af i q hi (by omega)
/-! the program's reading -/
end Mth

set_option Elab.async false
set_option linter.all false
set_option maxRecDepth 100000
set_option maxHeartbeats 4000000
/-! programs read: as the program reads them, as the law does, the same -/
namespace Mth
open PySem PySem.NumText
/-! shared primes -/
end Mth

set_option Elab.async false
set_option linter.all false
set_option maxRecDepth 100000
set_option maxHeartbeats 4000000
/-! programs known by name: adding, multiplying, the primes -/
namespace Mth
open W2
/-! adding -/
theorem fits10 (c0 c1 c2 c3 c4 c5 c6 c7 c8 c9 p0 p1 p2 p3 p4 p5 p6 p7 p8 p9 : Int) : fitsB [c0, c1, c2, c3, c4, c5, c6, c7, c8, c9] [p0, p1, p2, p3, p4, p5, p6, p7, p8, p9] = true ↔
    (0 ≤ p0 + c0 ∧ 0 ≤ p1 + c1 ∧ 0 ≤ p2 + c2 ∧ 0 ≤ p3 + c3 ∧ 0 ≤ p4 + c4 ∧ 0 ≤ p5 + c5 ∧ 0 ≤ p6 + c6 ∧ 0 ≤ p7 + c7 ∧ 0 ≤ p8 + c8 ∧ 0 ≤ p9 + c9) := by
  unfold fitsB
  simp only [List.zip_cons_cons, List.zip_nil_right, List.all_cons, List.all_nil, Bool.and_true, Bool.and_eq_true, decide_eq_true_eq]
theorem skip_row {c : List Int} {R : List (List Int)} {p : List Int} (h : fitsB c p = false) : stp (c :: R) p = stp R p := by
  unfold stp
  have e : fstI (c :: R) p = (fstI R p).map (· + 1) := by
    show (if fitsB c p = true then some 0 else (fstI R p).map (· + 1)) = _
    rw [h]
    rfl
  rw [e]
  cases fstI R p <;> rfl
theorem take_row {c : List Int} {R : List (List Int)} {p : List Int} (h : fitsB c p = true) : stp (c :: R) p = some (mvd p c 1) := by
  unfold stp
  have e : fstI (c :: R) p = some 0 := by
    show (if fitsB c p = true then some 0 else (fstI R p).map (· + 1)) = _
    rw [h]
    rfl
  rw [e]
  rfl
theorem mvd10 (c0 c1 c2 c3 c4 c5 c6 c7 c8 c9 p0 p1 p2 p3 p4 p5 p6 p7 p8 p9 : Int) : mvd [p0, p1, p2, p3, p4, p5, p6, p7, p8, p9] [c0, c1, c2, c3, c4, c5, c6, c7, c8, c9] 1 = [p0 + c0, p1 + c1, p2 + c2, p3 + c3, p4 + c4, p5 + c5, p6 + c6, p7 + c7, p8 + c8, p9 + c9] := by
  unfold mvd
  simp only [List.zipWith_cons_cons, List.zipWith_nil_right, Int.one_mul]
/-! multiplying -/
abbrev st6 (a b c d e f : Int) : List Int := [a, b, c, d, e, f, 0, 0, 0, 0]
def rMul : List (List Int) := [[0, -1, 1, 1, -1, 1, 0, 0, 0, 0], [0, 0, 0, 0, 1, -1, 0, 0, 0, 0], [0, 0, 0, 0, -1, 0, 0, 0, 0, 0], [0, 1, 0, -1, 0, 0, 0, 0, 0, 0], [-1, 0, 0, 0, 1, 0, 0, 0, 0, 0], [0, -1, 0, 0, 0, 0, 0, 0, 0, 0]]
theorem no_fit {c p : List Int} (h : ¬ fitsB c p = true) : fitsB c p = false := Bool.eq_false_iff.mpr h
section
variable {a b c d e f : Int}
theorem m0 (ha : 0 ≤ a) (hb : 1 ≤ b) (hc : 0 ≤ c) (hd : 0 ≤ d) : stp rMul (st6 a b c d 1 0) = some (st6 a (b - 1) (c + 1) (d + 1) 0 1) := by
  unfold rMul
  rw [take_row (by rw [fits10]; omega), mvd10]
  simp only [Int.add_zero]
  rfl
theorem m1 (ha : 0 ≤ a) (hb : 0 ≤ b) (hc : 0 ≤ c) (hd : 0 ≤ d) : stp rMul (st6 a b c d 0 1) = some (st6 a b c d 1 0) := by
  unfold rMul
  rw [skip_row (no_fit fun z => by rw [fits10] at z; omega), take_row (by rw [fits10]; omega), mvd10]
  simp only [Int.add_zero]
  rfl
theorem m2 (ha : 0 ≤ a) (hc : 0 ≤ c) (hd : 0 ≤ d) : stp rMul (st6 a 0 c d 1 0) = some (st6 a 0 c d 0 0) := by
  unfold rMul
  rw [skip_row (no_fit fun z => by rw [fits10] at z; omega), skip_row (no_fit fun z => by rw [fits10] at z; omega), take_row (by rw [fits10]; omega), mvd10]
  simp only [Int.add_zero]
  rfl
end
/-! the primes -/
end Mth

set_option Elab.async false
set_option linter.all false
set_option maxRecDepth 100000
set_option maxHeartbeats 4000000
/-! one handed back and forth; a stretch without an end -/
namespace Mth
open W2
abbrev fU (k : Nat) (v : Int) : Nat → Int := fun i => if i = k then v else 0
abbrev fV (k : Nat) (v : Int) (j : Nat) (u : Int) : Nat → Int := fun i => if i = j then (if j = k then v else 0) + u else if i = k then v else 0
section
variable {o h z : Nat} {mr : Int} (n12 : o ≠ h) (n13 : o ≠ z) (n23 : h ≠ z) (ho : o < 10) (hh : h < 10) (hz : z < 10) (m0 : 0 ≤ mr)
def rGo (o h z : Nat) (mr : Int) : Nat → Int := fun i => fV h 1 z mr i - fU o 1 i
def rBk (o h : Nat) : Nat → Int := fun i => fU o 1 i - fU h 1 i
def sHB (o h z : Nat) (mr : Int) (j : Nat) : Nat → Int := fun i => if i = o then (if j % 2 = 0 then 1 else 0) else if i = h then (if j % 2 = 0 then 0 else 1) else if i = z then mr * (((j + 1) / 2 : Nat) : Int) else 0
abbrev rHB (o h z : Nat) (mr : Int) : List (List Int) := [vec (rGo o h z mr), vec (rBk o h)]
theorem fits_v {p a : Nat → Int} : fitsB (vec a) (vec p) = true ↔ ∀ i, i < 10 → 0 ≤ p i + a i := by
  have h := fits_vec (p := p) (c := fun _ => 0) (a := a) (m := 0)
  rw [mvd_vec] at h
  have e : (vec fun i => p i + 0 * (0 : Int)) = vec p := vec_ext fun i _ => by omega
  rw [e] at h
  rw [h]
  constructor <;> intro g i hi <;> have := g i hi <;> omega
include n12 n13 n23 ho hh hz m0 in
theorem hb_fst (j : Nat) : fstI (rHB o h z mr) (vec (sHB o h z mr j)) = some (j % 2) := by
  show (if fitsB (vec (rGo o h z mr)) (vec (sHB o h z mr j)) = true then some 0 else (fstI [vec (rBk o h)] (vec (sHB o h z mr j))).map (· + 1)) = _
  have mz : 0 ≤ mr * (((j + 1) / 2 : Nat) : Int) := Int.mul_nonneg m0 (by omega)
  rcases Nat.mod_two_eq_zero_or_one j with e | e
  · rw [if_pos, e]
    rw [fits_v]
    intro i hi
    unfold sHB rGo fV fU
    rw [e]
    (repeat' split) <;> omega
  · rw [if_neg]
    · show ((if fitsB (vec (rBk o h)) (vec (sHB o h z mr j)) = true then some 0 else none).map (· + 1)) = _
      rw [if_pos, e]
      · rfl
      · rw [fits_v]
        intro i hi
        unfold sHB rBk fU
        rw [e]
        (repeat' split) <;> omega
    · rw [fits_v]
      intro g
      have := g o ho
      unfold sHB rGo fV fU at this
      rw [e, if_pos rfl, if_neg (by omega : ¬ (1 : Nat) = 0), if_neg n13, if_neg n12, if_pos rfl] at this
      omega
include n12 n13 n23 in
theorem hb_next (j : Nat) (c : List Int) (hc : (rHB o h z mr)[j % 2]? = some c) : vec (sHB o h z mr (j + 1)) = mvd (vec (sHB o h z mr j)) c 1 := by
  rcases Nat.mod_two_eq_zero_or_one j with e | e
  · rw [e] at hc
    cases hc
    rw [mvd_vec]
    apply vec_ext
    intro i hi
    have e1 : (j + 1) % 2 = 1 := by omega
    have e2 : (j + 1 + 1) / 2 = (j + 1) / 2 + 1 := by omega
    have e3 : mr * (((j + 1) / 2 + 1 : Nat) : Int) = mr * (((j + 1) / 2 : Nat) : Int) + mr := by rw [Int.natCast_add, Int.mul_add]; omega
    unfold sHB rGo fV fU
    rw [e1, e2, e, e3]
    (repeat' split) <;> omega
  · rw [e] at hc
    cases hc
    rw [mvd_vec]
    apply vec_ext
    intro i hi
    have e1 : (j + 1) % 2 = 0 := by omega
    have e2 : (j + 1 + 1) / 2 = (j + 1) / 2 := by omega
    unfold sHB rBk fU
    rw [e1, e2, e]
    (repeat' split) <;> omega
include m0 in
theorem hb_nn (j : Nat) : nn (vec (sHB o h z mr j)) = true := by
  rw [nn_iff]
  intro x hx
  obtain ⟨i, hi, rfl⟩ := vec_mem hx
  have mz : 0 ≤ mr * (((j + 1) / 2 : Nat) : Int) := Int.mul_nonneg m0 (by omega)
  unfold sHB
  split
  · split <;> omega
  · split
    · split <;> omega
    · split <;> omega
include n12 n13 n23 in
theorem hb_begin : vec (sHB o h z mr 0) = vec (fU o 1) := vec_ext fun i hi => by
  have e3 : mr * (((0 + 1) / 2 : Nat) : Int) = 0 := by simp
  unfold sHB fU
  rw [e3]
  (repeat' split) <;> omega
include n12 n13 n23 in
theorem hb_due (j : Nat) : vec (sHB o h z mr j) = vec (fV (if j % 2 = 0 then o else h) 1 z (mr * (((j + 1) / 2 : Nat) : Int))) := vec_ext fun i hi => by
  unfold sHB fV
  (repeat' split) <;> omega
end
/-- a fraction with nothing below -/
theorem end_fst {h : Nat} (t : Nat) : fstI [vec (fU h 2)] (mvd (vec fun _ => 0) (vec (fU h 2)) t) = some 0 := by
  show (if fitsB _ _ = true then some 0 else (fstI [] _).map (· + 1)) = _
  rw [if_pos]
  rw [fits_vec]
  intro i hi
  show 0 ≤ 0 + (t : Int) * (if i = h then 2 else 0) + (if i = h then 2 else 0)
  split <;> omega
theorem end_row {h : Nat} (m : Int) : mvd (vec fun _ => 0) (vec (fU h 2)) m = vec (fU h (2 * m)) := by
  rw [mvd_vec]
  apply vec_ext
  intro i _
  show 0 + m * (if i = h then 2 else 0) = if i = h then 2 * m else 0
  split <;> omega
end Mth

set_option Elab.async false
set_option linter.all false
set_option maxRecDepth 100000
set_option maxHeartbeats 4000000
namespace W2
open PySem L2 Mth Xn
def top (i : Nat) : Stmt := PySem.Challenge.pw_wholefract_k16_leaps_too_far.main.body.getD i (.Pass ⟨0, 0, 0, 0⟩)
abbrev s_is_whole : Stmt := top 16
abbrev s_powers_of : Stmt := top 17
abbrev s_how_often : Stmt := top 18
abbrev s_without_primes : Stmt := top 19
abbrev s_changes_of : Stmt := top 22
abbrev s_fraction_changes : Stmt := top 23
abbrev s_fits : Stmt := top 24
abbrev s_first_of : Stmt := top 25
abbrev s_moved : Stmt := top 26
abbrev s_stretch_steps : Stmt := top 27
abbrev s_steps_to_lack : Stmt := top 28
abbrev s_steps_to_fit : Stmt := top 29
abbrev s_leap : Stmt := top 30
abbrev s_l_cell_at : Stmt := top 32
abbrev s_l_pot : Stmt := top 33
abbrev s_l_take : Stmt := top 34
abbrev s_l_order : Stmt := top 35
abbrev s_l_primes : Stmt := top 36
abbrev s_l_product : Stmt := top 37
abbrev s_l_whole : Stmt := top 38
abbrev s_l_same : Stmt := top 39
abbrev s_l_kind_of : Stmt := top 40
abbrev s_l_told_by : Stmt := top 41
abbrev s_l_of : Stmt := top 42
abbrev s_law : Stmt := top 43
theorem sc_is_whole : FnScope ["thing"] ["thing"] (defScope s_is_whole) := ⟨rfl, rfl, rfl, by decide +kernel, rfl, by decide +kernel, by decide +kernel⟩
theorem sc_powers_of : FnScope ["number"] ["number"] (defScope s_powers_of) := ⟨rfl, rfl, rfl, by decide +kernel, rfl, by decide +kernel, by decide +kernel⟩
theorem sc_how_often : FnScope ["prime", "number", "times", "rest"] ["prime", "number"] (defScope s_how_often) := ⟨rfl, rfl, rfl, by decide +kernel, rfl, by decide +kernel, by decide +kernel⟩
theorem sc_without_primes : FnScope ["number", "rest", "prime"] ["number"] (defScope s_without_primes) := ⟨rfl, rfl, rfl, by decide +kernel, rfl, by decide +kernel, by decide +kernel⟩
theorem sc_changes_of : FnScope ["program"] ["program"] (defScope s_changes_of) := ⟨rfl, rfl, rfl, by decide +kernel, rfl, by decide +kernel, by decide +kernel⟩
theorem sc_fraction_changes : FnScope ["fraction", "tops", "bottoms"] ["fraction"] (defScope s_fraction_changes) := ⟨rfl, rfl, rfl, by decide +kernel, rfl, by decide +kernel, by decide +kernel⟩
theorem sc_fits : FnScope ["changes", "powers", "change", "power"] ["changes", "powers"] (defScope s_fits) := ⟨rfl, rfl, rfl, by decide +kernel, rfl, by decide +kernel, by decide +kernel⟩
theorem sc_first_of : FnScope ["rows", "powers", "number", "changes"] ["rows", "powers"] (defScope s_first_of) := ⟨rfl, rfl, rfl, by decide +kernel, rfl, by decide +kernel, by decide +kernel⟩
theorem sc_moved : FnScope ["powers", "changes", "many"] ["powers", "changes", "many"] (defScope s_moved) := ⟨rfl, rfl, rfl, by decide +kernel, rfl, by decide +kernel, by decide +kernel⟩
theorem sc_stretch_steps : FnScope ["rows", "powers", "number", "used", "ends"] ["rows", "powers", "number"] (defScope s_stretch_steps) := ⟨rfl, rfl, rfl, by decide +kernel, rfl, by decide +kernel, by decide +kernel⟩
theorem sc_steps_to_lack : FnScope ["powers", "used"] ["powers", "used"] (defScope s_steps_to_lack) := ⟨rfl, rfl, rfl, by decide +kernel, rfl, by decide +kernel, by decide +kernel⟩
theorem sc_steps_to_fit : FnScope ["powers", "used", "ahead", "many", "power", "change", "change_ahead", "lacking"] ["powers", "used", "ahead"] (defScope s_steps_to_fit) := ⟨rfl, rfl, rfl, by decide +kernel, rfl, by decide +kernel, by decide +kernel⟩
theorem sc_leap : FnScope ["program", "powers", "many", "rows", "reached", "done", "stretches", "number", "steps"] ["program", "powers", "many"] (defScope s_leap) := ⟨rfl, rfl, rfl, by decide +kernel, rfl, by decide +kernel, by decide +kernel⟩
theorem sc_l_cell_at : FnScope ["script", "k"] ["script", "k"] (defScope s_l_cell_at) := ⟨rfl, rfl, rfl, by decide +kernel, rfl, by decide +kernel, by decide +kernel⟩
theorem sc_l_pot : FnScope ["cell", "number", "j", "more"] ["cell"] (defScope s_l_pot) := ⟨rfl, rfl, rfl, by decide +kernel, rfl, by decide +kernel, by decide +kernel⟩
theorem sc_l_take : FnScope ["pot", "far", "found"] ["pot", "far"] (defScope s_l_take) := ⟨rfl, rfl, rfl, by decide +kernel, rfl, by decide +kernel, by decide +kernel⟩
theorem sc_l_order : FnScope ["pot", "wide", "found", "k"] ["pot", "wide"] (defScope s_l_order) := ⟨rfl, rfl, rfl, by decide +kernel, rfl, by decide +kernel, by decide +kernel⟩
theorem sc_l_primes : FnScope [] [] (defScope s_l_primes) := ⟨rfl, rfl, rfl, by decide +kernel, rfl, by decide +kernel, by decide +kernel⟩
theorem sc_l_product : FnScope ["line", "found", "prime", "often", "turn"] ["line"] (defScope s_l_product) := ⟨rfl, rfl, rfl, by decide +kernel, rfl, by decide +kernel, by decide +kernel⟩
theorem sc_l_whole : FnScope ["found"] ["found"] (defScope s_l_whole) := ⟨rfl, rfl, rfl, by decide +kernel, rfl, by decide +kernel, by decide +kernel⟩
theorem sc_l_same : FnScope ["found", "due"] ["found", "due"] (defScope s_l_same) := ⟨rfl, rfl, rfl, by decide +kernel, rfl, by decide +kernel, by decide +kernel⟩
theorem sc_l_kind_of : FnScope ["e", "some", "words"] ["e"] (defScope s_l_kind_of) := ⟨rfl, rfl, rfl, by decide +kernel, rfl, by decide +kernel, by decide +kernel⟩
theorem sc_l_told_by : FnScope ["call", "program", "line", "many", "e"] ["call", "program", "line", "many"] (defScope s_l_told_by) := ⟨rfl, rfl, rfl, by decide +kernel, rfl, by decide +kernel, by decide +kernel⟩
theorem sc_l_of : FnScope ["places", "often", "found", "place", "one"] ["places", "often"] (defScope s_l_of) := ⟨rfl, rfl, rfl, by decide +kernel, rfl, by decide +kernel, by decide +kernel⟩
theorem sc_law : FnScope ["script", "k", "pot", "one", "other", "third", "more", "go", "back", "begin", "many", "due", "program"] ["script"] (defScope s_law) := ⟨rfl, rfl, rfl, by decide +kernel, rfl, by decide +kernel, by decide +kernel⟩
structure Tx (K : PySem.W.Frag) (mg : Str → Option Value) where
  f_is_whole : Addr
  fd_is_whole : FuncData
  D_is_whole : Df K mg "is_whole" s_is_whole ["thing"] f_is_whole fd_is_whole
  f_powers_of : Addr
  fd_powers_of : FuncData
  D_powers_of : Df K mg "powers_of" s_powers_of ["number"] f_powers_of fd_powers_of
  f_how_often : Addr
  fd_how_often : FuncData
  D_how_often : Df K mg "how_often" s_how_often ["prime", "number"] f_how_often fd_how_often
  f_without_primes : Addr
  fd_without_primes : FuncData
  D_without_primes : Df K mg "without_primes" s_without_primes ["number"] f_without_primes fd_without_primes
  f_changes_of : Addr
  fd_changes_of : FuncData
  D_changes_of : Df K mg "changes_of" s_changes_of ["program"] f_changes_of fd_changes_of
  f_fraction_changes : Addr
  fd_fraction_changes : FuncData
  D_fraction_changes : Df K mg "fraction_changes" s_fraction_changes ["fraction"] f_fraction_changes fd_fraction_changes
  f_fits : Addr
  fd_fits : FuncData
  D_fits : Df K mg "fits" s_fits ["changes", "powers"] f_fits fd_fits
  f_first_of : Addr
  fd_first_of : FuncData
  D_first_of : Df K mg "first_of" s_first_of ["rows", "powers"] f_first_of fd_first_of
  f_moved : Addr
  fd_moved : FuncData
  D_moved : Df K mg "moved" s_moved ["powers", "changes", "many"] f_moved fd_moved
  f_stretch_steps : Addr
  fd_stretch_steps : FuncData
  D_stretch_steps : Df K mg "stretch_steps" s_stretch_steps ["rows", "powers", "number"] f_stretch_steps fd_stretch_steps
  f_steps_to_lack : Addr
  fd_steps_to_lack : FuncData
  D_steps_to_lack : Df K mg "steps_to_lack" s_steps_to_lack ["powers", "used"] f_steps_to_lack fd_steps_to_lack
  f_steps_to_fit : Addr
  fd_steps_to_fit : FuncData
  D_steps_to_fit : Df K mg "steps_to_fit" s_steps_to_fit ["powers", "used", "ahead"] f_steps_to_fit fd_steps_to_fit
  f_leap : Addr
  fd_leap : FuncData
  D_leap : Df K mg "leap" s_leap ["program", "powers", "many"] f_leap fd_leap
  f_l_cell_at : Addr
  fd_l_cell_at : FuncData
  D_l_cell_at : Df K mg "_law_cell_at" s_l_cell_at ["script", "k"] f_l_cell_at fd_l_cell_at
  f_l_pot : Addr
  fd_l_pot : FuncData
  D_l_pot : Df K mg "_law_pot" s_l_pot ["cell"] f_l_pot fd_l_pot
  f_l_take : Addr
  fd_l_take : FuncData
  D_l_take : Df K mg "_law_take" s_l_take ["pot", "far"] f_l_take fd_l_take
  f_l_order : Addr
  fd_l_order : FuncData
  D_l_order : Df K mg "_law_order" s_l_order ["pot", "wide"] f_l_order fd_l_order
  f_l_primes : Addr
  fd_l_primes : FuncData
  D_l_primes : Df K mg "_law_primes" s_l_primes [] f_l_primes fd_l_primes
  f_l_product : Addr
  fd_l_product : FuncData
  D_l_product : Df K mg "_law_product" s_l_product ["line"] f_l_product fd_l_product
  f_l_whole : Addr
  fd_l_whole : FuncData
  D_l_whole : Df K mg "_law_whole" s_l_whole ["found"] f_l_whole fd_l_whole
  f_l_same : Addr
  fd_l_same : FuncData
  D_l_same : Df K mg "_law_same" s_l_same ["found", "due"] f_l_same fd_l_same
  f_l_kind_of : Addr
  fd_l_kind_of : FuncData
  D_l_kind_of : Df K mg "_law_kind_of" s_l_kind_of ["e"] f_l_kind_of fd_l_kind_of
  f_l_told_by : Addr
  fd_l_told_by : FuncData
  D_l_told_by : Df K mg "_law_told_by" s_l_told_by ["call", "program", "line", "many"] f_l_told_by fd_l_told_by
  f_l_of : Addr
  fd_l_of : FuncData
  D_l_of : Df K mg "_law_of" s_l_of ["places", "often"] f_l_of fd_l_of
  c_FractError : Addr
  k_FractError : mg "FractError" = some (.ref c_FractError)
  c_AtRest : Addr
  k_AtRest : mg "AtRest" = some (.ref c_AtRest)
  c_NoText : Addr
  k_NoText : mg "NoText" = some (.ref c_NoText)
  c_NoNumber : Addr
  k_NoNumber : mg "NoNumber" = some (.ref c_NoNumber)
  c_TooMany : Addr
  k_TooMany : mg "TooMany" = some (.ref c_TooMany)
  c_NoOrder : Addr
  k_NoOrder : mg "NoOrder" = some (.ref c_NoOrder)
  c_NoProgram : Addr
  k_NoProgram : mg "NoProgram" = some (.ref c_NoProgram)
  c_Shared : Addr
  k_Shared : mg "Shared" = some (.ref c_Shared)
  c_NoPowers : Addr
  k_NoPowers : mg "NoPowers" = some (.ref c_NoPowers)
  c_NoTrail : Addr
  k_NoTrail : mg "NoTrail" = some (.ref c_NoTrail)
  c_NoName : Addr
  k_NoName : mg "NoName" = some (.ref c_NoName)
  c_NoDeed : Addr
  k_NoDeed : mg "NoDeed" = some (.ref c_NoDeed)
  c_NoRow : Addr
  k_NoRow : mg "NoRow" = some (.ref c_NoRow)
  E_FractError : ECls K mg "FractError" c_FractError
  E_TooMany : ECls K mg "TooMany" c_TooMany
  U_TooMany : Under K c_TooMany c_FractError
  X_TooMany : PySem.W.XcIs K c_TooMany
  V_TooMany : PySem.W.kitOne K (.ref c_TooMany) (.type "ValueError") = some true
  q_TooMany_AtRest : PySem.W.kitOne K (.ref c_TooMany) (.ref c_AtRest) = some false
  q_TooMany_NoText : PySem.W.kitOne K (.ref c_TooMany) (.ref c_NoText) = some false
  q_TooMany_NoNumber : PySem.W.kitOne K (.ref c_TooMany) (.ref c_NoNumber) = some false
  q_TooMany_TooMany : PySem.W.kitOne K (.ref c_TooMany) (.ref c_TooMany) = some true
  q_TooMany_NoOrder : PySem.W.kitOne K (.ref c_TooMany) (.ref c_NoOrder) = some false
  q_TooMany_NoProgram : PySem.W.kitOne K (.ref c_TooMany) (.ref c_NoProgram) = some false
  q_TooMany_Shared : PySem.W.kitOne K (.ref c_TooMany) (.ref c_Shared) = some false
  q_TooMany_NoPowers : PySem.W.kitOne K (.ref c_TooMany) (.ref c_NoPowers) = some false
  q_TooMany_NoTrail : PySem.W.kitOne K (.ref c_TooMany) (.ref c_NoTrail) = some false
  q_TooMany_NoName : PySem.W.kitOne K (.ref c_TooMany) (.ref c_NoName) = some false
  q_TooMany_NoDeed : PySem.W.kitOne K (.ref c_TooMany) (.ref c_NoDeed) = some false
  q_TooMany_NoRow : PySem.W.kitOne K (.ref c_TooMany) (.ref c_NoRow) = some false
  m_len : mg "len" = none
  m_isinstance : mg "isinstance" = none
  m_int : mg "int" = none
  m_bool : mg "bool" = none
  m_tuple : mg "tuple" = none
  m_list : mg "list" = none
  m_range : mg "range" = none
  m_max : mg "max" = none
  m_min : mg "min" = none
  m_all : mg "all" = none
  m_zip : mg "zip" = none
  m_str : mg "str" = none
  m_enumerate : mg "enumerate" = none
  m_ValueError : mg "ValueError" = none
  a_PRIMES : Addr
  g_PRIMES : mg "PRIMES" = some (.ref a_PRIMES)
  t_PRIMES : ∀ H, SqT K H a_PRIMES [.int 2, .int 3, .int 5, .int 7, .int 11, .int 13, .int 17, .int 19, .int 23, .int 29]
  g_MOST_STRETCHES : ∃ t, mg "MOST_STRETCHES" = some (.int 2000 t)
section
variable {P : Program} {w : World} {K : PySem.W.Frag} {mg : Str → Option Value} {base : Heap}
/-! ### _law_take -/
def sp_l_take : Sp := fun vs H Q _ => ∃ (a : Addr) (n far : Int), vs = [.ref a, .int far] ∧ H a = some (.lst [.int n]) ∧ 0 < far ∧ far < 1073741824 ∧ Q (.int (n % far)) (upd H a (.lst [.int (n / far)]))
theorem ok_l_take (T : Tx K mg) : FnOk P w K mg base CX0 1 T.f_l_take T.fd_l_take ["pot", "far"] sp_l_take := by
  refine T.D_l_take.fn.okQ sc_l_take (fun vs H Q E h => ?_) (fun cdv A outer s H vs Q E hr h => ?_)
  · obtain ⟨a, n, far, rfl, _⟩ := h
    rfl
  · obtain ⟨a, n, far, rfl, ha, h0, h1, q⟩ := h
    refine ⟨_, (qss_cons (qs_set (i := 2) sc_l_take.nd rfl (Or.inl rfl) (qe_op op_mod (qe_ix ix_list (qv 0) qe_int (fun _ _ => rfl)) (qv 1)))
      (qss_cons (qs_asg (qe_op op_fdiv (qe_ix ix_list (qv 0) qe_int (fun _ _ => rfl)) (qv 1)) (qg_sub (qv 0) qe_int set_list))
      (qss_one (qs_ret (qv 2))))), ?_⟩
    refine ⟨_, rfl, a, _, _, _, rfl, rfl, SqL.of ha, rfl, _, rfl, _, _, rfl, rfl, h0, ?_⟩
    refine ⟨_, rfl, a, _, _, _, rfl, rfl, SqL.of ha, rfl, _, rfl, _, _, rfl, rfl, ⟨h0, h1⟩, _, rfl, a, _, _, 0, rfl, rfl, ha, rfl, ?_⟩
    exact ⟨_, rfl, q⟩

/-! ### _law_cell_at -/
def sp_l_cell_at (K : PySem.W.Frag) : Sp := fun vs H Q _ => ∃ (a : Addr) (ns : List Int) (k : Int), vs = [.ref a, .int k] ∧ SqL K H a (ns.map V.int) ∧ 0 ≤ k ∧ ∀ c : Int, Q (.int c) H
theorem ok_l_cell_at (T : Tx K mg) : FnOk P w K mg base CX0 1 T.f_l_cell_at T.fd_l_cell_at ["script", "k"] (sp_l_cell_at K) := by
  refine T.D_l_cell_at.fn.okQ sc_l_cell_at (fun vs H Q E h => ?_) (fun cdv A outer s H vs Q E hr h => ?_)
  · obtain ⟨a, ns, k, rfl, _⟩ := h
    rfl
  · obtain ⟨a, ns, k, rfl, hS, h0, q⟩ := h
    refine ⟨_, (qss_cons (qs_if (qt_cmpR op_lt (qv 1) (qe_callB call_len_seq (by rfl) T.m_len b_len (qa_c (qv 0) qa_nil)) (nomark _))
        (qss_one (qs_ret (qe_ix ix_list (qv 0) (qv 1) (fun _ _ => rfl))))
        qss_nil)
      (qss_one (qs_ret qe_int))), ?_⟩
    refine ⟨_, rfl, _, rfl, a, _, rfl, .inl hS, _, _, rfl, rfl, _, rfl, ?_⟩
    refine ite2 (fun hlt => ?_) (fun _ => q 0)
    have hlt' : k < ((ns.map V.int).length : Int) := by simpa using hlt
    rw [List.length_map] at hlt'
    have hk : k.toNat < ns.length := by omega
    have e : (ns.map V.int)[k.toNat]? = some (V.int ns[k.toNat]) := by rw [List.getElem?_map, List.getElem?_eq_getElem hk]; rfl
    exact ⟨_, rfl, _, rfl, a, _, _, _, rfl, rfl, hS, atI_of h0 e, q _⟩

/-! ### _law_pot -/
def sp_l_pot : Sp := fun vs H Q _ => ∃ c : Int, vs = [.int c] ∧ ∀ (n : Int) (p : Addr), H p = none → Q (.ref p) (upd H p (.lst [.int n]))
theorem ok_l_pot (T : Tx K mg) : FnOk P w K mg base CX0 1 T.f_l_pot T.fd_l_pot ["cell"] sp_l_pot := by
  refine T.D_l_pot.fn.okQ sc_l_pot (fun vs H Q E h => ?_) (fun cdv A outer s H vs Q E hr h => ?_)
  · obtain ⟨c, rfl, _⟩ := h
    rfl
  · obtain ⟨c, rfl, q⟩ := h
    refine ⟨_, (qss_cons (qs_if (qt_cmpR op_ge (qv 0) (qe_op op_pow qe_int qe_int) (nomark _))
        (qss_one (qs_ret (qe_lst (qa_c (qe_op op_sub (qv 0) (qe_op op_pow qe_int qe_int)) qa_nil))))
        qss_nil)
      (qss_cons (qs_set (i := 1) sc_l_pot.nd rfl (Or.inl rfl) qe_int)
      (qss_cons (qs_for PassesOwn.never rfl (qi_range1 rfl T.m_range (qa_c qe_int qa_nil)) (qg_name (i := 2) sc_l_pot.nd rfl (Or.inl rfl))
        (qss_cons (qs_set (i := 3) sc_l_pot.nd rfl (Or.inl rfl) (qe_op op_mod (qe_op op_mul (qe_op op_add (qe_op op_add (qe_op op_mod (qv 0) qe_int) (qe_op op_mul qe_int (qv 2))) qe_int) qe_int) qe_int))
      (qss_cons (qs_set (i := 3) sc_l_pot.nd rfl (Or.inl rfl) (qe_op op_mod (qe_op op_add (qe_op op_add (qe_op op_mul (qv 3) (qv 3)) (qe_op op_mul qe_int (qv 2))) qe_int) qe_int))
      (qss_one (qs_set (i := 1) sc_l_pot.nd rfl (Or.inl rfl) (qe_op op_add (qe_op op_mul (qv 1) qe_int) (qv 3)))))))
      (qss_one (qs_ret (qe_lst (qa_c (qv 1) qa_nil))))))), ?_⟩
    refine ⟨_, rfl, _, _, rfl, rfl, ⟨by decide, by decide, by decide⟩, _, _, rfl, rfl, _, rfl, ?_⟩
    refine ite2 (fun _ => ?_) (fun _ => ?_)
    · refine ⟨_, rfl, _, _, rfl, rfl, ⟨by decide, by decide, by decide⟩, _, _, rfl, rfl, (by show 1 ≤ sizeLine; decide), fun p hp => ?_⟩
      exact q _ p hp
    · refine ⟨64, rfl, by decide, by decide, for_range (n := 64) (fun i σ H2 => ∃ (n : Int) (u v : Option V), σ = [some (.int c), some (.int n), u, v] ∧ H2 = H) ⟨0, none, none, rfl, rfl⟩ ?_ ?_⟩
      · rintro i σ H2 hi ⟨n, u, v, rfl, rfl⟩
        refine ⟨_, rfl, _, _, rfl, rfl, (by show (0 : Int) < 2147483629; decide), _, rfl, _, _, rfl, rfl, .inl ⟨by decide, by decide⟩, _, _, rfl, rfl, _, _, rfl, rfl, _, _, rfl, rfl, .inr ⟨by decide, by decide⟩, _, _, rfl, rfl, (by show (0 : Int) < 2147483647; decide), ?_⟩
        refine ⟨_, rfl, _, rfl, _, _, rfl, rfl, .inl ?_, _, rfl, _, _, rfl, rfl, .inl ⟨by decide, by decide⟩, _, _, rfl, rfl, _, _, rfl, rfl, _, _, rfl, rfl, (by show (0 : Int) < 2147483587; decide), ?_⟩
        · have h1 := Int.emod_nonneg ((c % 2147483629 + 7919 * (0 + (i : Int)) + 1) * 48271) (show (2147483647 : Int) ≠ 0 by decide)
          have h2 := Int.emod_lt_of_pos ((c % 2147483629 + 7919 * (0 + (i : Int)) + 1) * 48271) (show (0 : Int) < 2147483647 by decide)
          exact ⟨by omega, by omega⟩
        refine ⟨_, rfl, _, _, rfl, rfl, .inr ⟨by decide, by decide⟩, _, rfl, _, _, rfl, rfl, ?_⟩
        exact ⟨_, _, _, rfl, rfl⟩
      · rintro σ H2 ⟨n, u, v, rfl, rfl⟩
        exact ⟨_, rfl, (by show 1 ≤ sizeLine; decide), fun p hp => q n p hp⟩

/-! ### _law_primes -/
def primesV : List V := [.int 2, .int 3, .int 5, .int 7, .int 11, .int 13, .int 17, .int 19, .int 23, .int 29]
def sp_l_primes : Sp := fun vs H Q _ => vs = [] ∧ ∀ p, H p = none → Q (.ref p) (upd H p (.tup primesV))
theorem ok_l_primes (T : Tx K mg) : FnOk P w K mg base CX0 1 T.f_l_primes T.fd_l_primes [] sp_l_primes := by
  refine T.D_l_primes.fn.okQ sc_l_primes (fun vs H Q E h => ?_) (fun cdv A outer s H vs Q E hr h => ?_)
  · obtain ⟨rfl, _⟩ := h
    rfl
  · obtain ⟨rfl, q⟩ := h
    refine ⟨_, (qss_one (qs_ret (qe_tup (qa_c qe_int (qa_c qe_int (qa_c qe_int (qa_c qe_int (qa_c qe_int (qa_c qe_int (qa_c qe_int (qa_c qe_int (qa_c qe_int (qa_c qe_int qa_nil))))))))))))), ?_⟩
    exact ⟨(by show 10 ≤ sizeLine; decide), fun p hp => q p hp⟩

/-! ### _law_product -/
theorem primesV_get {i : Nat} {x : V} (h : primesV[i]? = some x) : ∃ p : Nat, x = .int (p : Int) ∧ primes[i]? = some p ∧ p < 30 := by
  match i, h with
  | 0, h => cases h; exact ⟨2, rfl, rfl, by decide⟩
  | 1, h => cases h; exact ⟨3, rfl, rfl, by decide⟩
  | 2, h => cases h; exact ⟨5, rfl, rfl, by decide⟩
  | 3, h => cases h; exact ⟨7, rfl, rfl, by decide⟩
  | 4, h => cases h; exact ⟨11, rfl, rfl, by decide⟩
  | 5, h => cases h; exact ⟨13, rfl, rfl, by decide⟩
  | 6, h => cases h; exact ⟨17, rfl, rfl, by decide⟩
  | 7, h => cases h; exact ⟨19, rfl, rfl, by decide⟩
  | 8, h => cases h; exact ⟨23, rfl, rfl, by decide⟩
  | 9, h => cases h; exact ⟨29, rfl, rfl, by decide⟩
  | (k + 10), h => cases h
theorem prodR_snoc : ∀ (ps es : List Nat) (i p e : Nat), ps[i]? = some p → es[i]? = some e → prodR (ps.take (i + 1)) (es.take (i + 1)) = prodR (ps.take i) (es.take i) * p ^ e
  | [], _, _, _, _, h, _ => by cases h
  | _, [], _, _, _, _, h => by cases h
  | p0 :: ps, e0 :: es, 0, p, e, h, h' => by
    have z : p0 = p := Option.some.inj h
    have z' : e0 = e := Option.some.inj h'
    subst z; subst z'
    show p0 ^ e0 * 1 = 1 * p0 ^ e0
    omega
  | p0 :: ps, e0 :: es, i + 1, p, e, h, h' => by
    show p0 ^ e0 * prodR (ps.take (i + 1)) (es.take (i + 1)) = p0 ^ e0 * prodR (ps.take i) (es.take i) * p ^ e
    rw [prodR_snoc ps es i p e h h', Nat.mul_assoc]
def sp_l_product (K : PySem.W.Frag) : Sp := fun vs H Q _ => ∃ (b : Addr) (es : List Int), vs = [.ref b] ∧ SqT K H b (es.map V.int) ∧ es.length = 10 ∧ (∀ e ∈ es, 0 ≤ e ∧ e < 2 ^ 62) ∧ ∀ H', Same H H' → Q (.int (prod (es.map Int.toNat) : Nat)) H'
theorem ok_l_product (T : Tx K mg) : FnOk P w K mg base CX0 2 T.f_l_product T.fd_l_product ["line"] (sp_l_product K) := by
  refine T.D_l_product.fn.okQ sc_l_product (fun vs H Q E h => ?_) (fun cdv A outer s H vs Q E hr h => ?_)
  · obtain ⟨b, es, rfl, _⟩ := h
    rfl
  · obtain ⟨b, es, rfl, hb, he, hm, q⟩ := h
    refine ⟨_, (qss_cons (qs_set (i := 1) sc_l_product.nd rfl (Or.inl rfl) qe_int)
      (qss_cons (qs_for PassesOwn.never rfl (qi_zip rfl rfl T.m_zip (qa_c (qe_call0 (ok_l_primes T) (hr.mono (by decide)) rfl T.D_l_primes.at_ T.D_l_primes.fn.kp T.D_l_primes.bd .nil pass0) (qa_c (qv 0) qa_nil))) (qg_tup rfl (qgs_cons (qg_name (i := 2) sc_l_product.nd rfl (Or.inl rfl)) (qgs_cons (qg_name (i := 3) sc_l_product.nd rfl (Or.inl rfl)) qgs_nil)))
        (qss_one (qs_for PassesOwn.never rfl (qi_range1 rfl T.m_range (qa_c (qv 3) qa_nil)) (qg_name (i := 4) sc_l_product.nd rfl (Or.inl rfl))
        (qss_one (qs_set (i := 1) sc_l_product.nd rfl (Or.inl rfl) (qe_op op_mul (qv 1) (qv 2)))))))
      (qss_one (qs_ret (qv 1))))), ?_⟩
    refine ⟨rfl, fun t ht => ⟨_, rfl, t, b, rfl, ⟨_, SqT.of upd_same⟩, ⟨_, Same.tup (Same.new ht) hb⟩, ?_⟩⟩
    have hpl : primesV.length = 10 := rfl
    have hel : (es.map V.int).length = 10 := by rw [List.length_map]; exact he
    refine for_zip (xs := primesV) (ys := es.map V.int) (fun i σ H2 => (∃ u v x : Option V, σ = [some (.ref b), some (.int (prodR (primes.take i) ((es.map Int.toNat).take i) : Nat)), u, v, x]) ∧ Same (upd H t (.tup primesV)) H2) ⟨⟨none, none, none, rfl⟩, Same.refl _⟩ ?_ ?_ ?_
    · rintro i σ H2 hi ⟨_, s2⟩
      exact ⟨SqT.of (s2 _ _ upd_same), Same.tup s2 (Same.tup (Same.new ht) hb)⟩
    · rintro i x y z σ H2 hx hy hz ⟨⟨u, v, x', rfl⟩, s2⟩
      obtain ⟨p, rfl, hp, hp30⟩ := primesV_get hx
      obtain ⟨e, rfl, hee⟩ := map_int_get hy
      obtain ⟨e0, e1⟩ := hm e (List.mem_of_getElem? hee)
      refine ⟨z, _, rfl, SqT.of upd_same, rfl, _, _, rfl, _, _, rfl, rfl, ?_⟩
      refine ⟨_, rfl, e, rfl, by omega, e1, for_range (n := e.toNat) (fun j σ H3 => (∃ x : Option V, σ = [some (.ref b), some (.int ((prodR (primes.take i) ((es.map Int.toNat).take i) * p ^ j : Nat) : Int)), some (.int p), some (.int e), x]) ∧ Same (upd H t (.tup primesV)) H3) ⟨⟨x', by rw [Nat.pow_zero, Nat.mul_one]; rfl⟩, Same.more s2 hz⟩ ?_ ?_⟩
      · rintro j σ H3 hj ⟨⟨x2, rfl⟩, s3⟩
        refine ⟨_, rfl, _, rfl, _, _, rfl, rfl, .inr ⟨by omega, by omega⟩, ⟨some (.int (0 + (j : Int))), ?_⟩, s3⟩
        rw [Nat.pow_succ, ← Nat.mul_assoc, Int.natCast_mul _ p]
        rfl
      · rintro σ H3 ⟨⟨x2, rfl⟩, s3⟩
        refine ⟨⟨some (.int p), some (.int e), x2, ?_⟩, s3⟩
        have hee' : (es.map Int.toNat)[i]? = some e.toNat := by rw [List.getElem?_map, hee]; rfl
        rw [prodR_snoc primes (es.map Int.toNat) i p e.toNat hp hee']
    · rintro σ H2 ⟨⟨u, v, x, rfl⟩, s2⟩
      have e2 : min primesV.length (es.map V.int).length = 10 := by rw [hpl, hel]; rfl
      refine ⟨_, rfl, ?_⟩
      rw [e2]
      have z1 : primes.take 10 = primes := rfl
      have z2 : (es.map Int.toNat).take 10 = es.map Int.toNat := List.take_of_length_le (by rw [List.length_map, he]; exact Nat.le_refl _)
      rw [z1, z2]
      exact q H2 ((Same.new ht).trans s2)
/-! ### _law_take, the heap behind it a letter -/
def sp_l_takeA : Sp := fun vs H Q _ => ∃ (a : Addr) (n far : Int), vs = [.ref a, .int far] ∧ H a = some (.lst [.int n]) ∧ 0 < far ∧ far < 1073741824 ∧
  ∀ (r n' : Int) (H' : Hp), 0 ≤ r → r < far → But a H H' → H' a = some (.lst [.int n']) → Q (.int r) H'
theorem ok_l_takeA (T : Tx K mg) : FnOk P w K mg base CX0 1 T.f_l_take T.fd_l_take ["pot", "far"] sp_l_takeA :=
  (ok_l_take T).imp fun vs H Q E ⟨a, n, far, e, ha, h0, h1, q⟩ => ⟨a, n, far, e, ha, h0, h1, q _ (n / far) _ (Int.emod_nonneg n (by omega)) (Int.emod_lt_of_pos n h0) But.upd upd_same⟩

/-! ### is_whole -/
def sp_whole : Sp := fun vs H Q _ => ∃ v, vs = [v] ∧ kindV H v ∧ Q (.bl (isW v)) H
theorem ok_is_whole (T : Tx K mg) : FnOk P w K mg base CX0 1 T.f_is_whole T.fd_is_whole ["thing"] sp_whole := by
  refine T.D_is_whole.fn.okQ sc_is_whole (fun vs H Q E h => ?_) (fun cdv A outer s H vs Q E hr h => ?_)
  · obtain ⟨v, rfl, _⟩ := h
    rfl
  · obtain ⟨v, rfl, k, q⟩ := h
    refine ⟨_, (qss_one (qs_ret (qe_and (qe_callB call_isi (by rfl) T.m_isinstance b_isinstance (qa_c (qv 0) (qa_c (qe_ty (by rfl) T.m_int b_int) qa_nil))) (qe_one (qe_not (qe_callB call_isi (by rfl) T.m_isinstance b_isinstance (qa_c (qv 0) (qa_c (qe_ty (by rfl) T.m_bool b_bool) qa_nil)))))))), ?_⟩
    obtain ⟨t, ty, e⟩ := isi_I (K := K) k
    obtain ⟨t', ty', e'⟩ := isi_B (K := K) k
    rw [← isW_eq] at q
    refine ⟨v, rfl, v, "int", t, _, rfl, ty, e, _, rfl, ?_⟩
    cases hi : isI v with
    | false =>
      rw [hi] at q
      exact iteF q
    | true =>
      rw [hi] at q
      exact iteT ⟨v, rfl, v, "bool", t', _, rfl, ty', e', _, rfl, q⟩

/-! ### without_primes -/
def natAt (σ : St) (i : Nat) : Nat := match σ[i]? with
  | some (some (.int r)) => r.toNat
  | _ => 0
theorem int_eq0 {i j : Int} (h : decide (V.int i = V.int j) = true) : i = j := by
  have := of_decide_eq_true h
  injection this
theorem int_ne0 {i j : Int} (h : ¬ decide (V.int i = V.int j) = true) : i ≠ j := fun z => h (decide_eq_true (by rw [z]))
theorem stripL_snoc : ∀ (ps : List Nat) (i p n : Nat), ps[i]? = some p → stripL (ps.take (i + 1)) n = strip p (stripL (ps.take i) n) := by
  intro ps i p n h
  unfold stripL
  rw [List.take_add_one, h, List.foldl_append]
  rfl
def sp_without_primes : Sp := fun vs H Q _ => ∃ m : Int, vs = [.int m] ∧ 1 ≤ m ∧ Q (.int (stripAll m.toNat : Nat)) H
theorem ok_without_primes (T : Tx K mg) : FnOk P w K mg base CX0 1 T.f_without_primes T.fd_without_primes ["number"] sp_without_primes := by
  refine T.D_without_primes.fn.okQ sc_without_primes (fun vs H Q E h => ?_) (fun cdv A outer s H vs Q E hr h => ?_)
  · obtain ⟨m, rfl, _⟩ := h
    rfl
  · obtain ⟨m, rfl, hm, q⟩ := h
    refine ⟨_, (qss_cons (qs_set (i := 1) sc_without_primes.nd rfl (Or.inl rfl) (qv 0))
      (qss_cons (qs_for PassesOwn.never rfl (qi_tup (qe_glob (v := .ref T.a_PRIMES) (by rfl) T.g_PRIMES rfl)) (qg_name (i := 2) sc_without_primes.nd rfl (Or.inl rfl))
        (qss_one (qs_while PassesOwn.never (qt_cmpR op_eq (qe_op op_mod (qv 1) (qv 2)) qe_int (nomark _))
        (qss_one (qs_set (i := 1) sc_without_primes.nd rfl (Or.inl rfl) (qe_op op_fdiv (qv 1) (qv 2)))))))
      (qss_one (qs_ret (qv 1))))), ?_⟩
    refine ⟨_, rfl, T.a_PRIMES, rfl, ⟨primesV, T.t_PRIMES H⟩, for_tup (xs := primesV) (fun i σ H2 => (∃ u : Option V, σ = [some (.int m), some (.int (stripL (primes.take i) m.toNat : Nat)), u]) ∧ H2 = H) ⟨⟨none, ?_⟩, rfl⟩ (fun i σ H2 _ _ => T.t_PRIMES H2) ?_ ?_⟩
    · show [some (V.int m), some (V.int m), none] = _
      rw [show stripL (primes.take 0) m.toNat = m.toNat from rfl, Int.toNat_of_nonneg (by omega)]
    · rintro i x σ H2 hx ⟨⟨u, rfl⟩, rfl⟩
      obtain ⟨p, rfl, hp, hp30⟩ := primesV_get hx
      have hp2 : 2 ≤ p := two_le p (List.mem_of_getElem? hp)
      have hpos : 1 ≤ stripL (primes.take i) m.toNat := stripL_pos _ (fun r hr => two_le r (List.mem_of_mem_take hr)) _ (by omega)
      refine while_own (fun σ H3 => ∃ r : Nat, σ = [some (.int m), some (.int (r : Int)), some (.int (p : Int))] ∧ 1 ≤ r ∧ strip p r = strip p (stripL (primes.take i) m.toNat) ∧ H3 = H2) (fun σ _ => natAt σ 1) ⟨_, rfl, hpos, rfl, rfl⟩ ?_
      rintro σ H3 ⟨r, rfl, hr1, hrs, rfl⟩
      refine ⟨_, rfl, _, rfl, _, _, rfl, rfl, (by show (0 : Int) < p; omega), rfl, _, rfl, ite2 (fun h => ?_) (fun h => ?_)⟩
      · have h0 : (r : Int) % (p : Int) = 0 := int_eq0 h
        have h0' : r % p = 0 := by omega
        refine whN ⟨_, rfl, _, rfl, _, _, rfl, rfl, ⟨by omega, by omega⟩, ?_⟩
        refine ⟨⟨r / p, ?_, div_pos_of hr1 h0', by rw [← strip_div hp2 hr1 h0']; exact hrs, rfl⟩, ?_⟩
        · rw [Int.natCast_ediv]; rfl
        · show ((r : Int) / (p : Int)).toNat < ((r : Int)).toNat
          rw [← Int.natCast_ediv, Int.toNat_natCast, Int.toNat_natCast]
          exact Nat.div_lt_self hr1 hp2
      · have h0 : ¬ (r : Int) % (p : Int) = 0 := int_ne0 h
        have h0' : r % p ≠ 0 := by omega
        refine ⟨⟨some (.int (p : Int)), ?_⟩, rfl⟩
        rw [stripL_snoc primes i p _ hp, ← hrs, strip_not h0']
    · rintro σ H2 ⟨⟨u, rfl⟩, rfl⟩
      exact ⟨_, rfl, q⟩

/-! ### how_often -/
def sp_how_often : Sp := fun vs H Q _ => ∃ (p : Nat) (m : Int), vs = [.int (p : Int), .int m] ∧ 2 ≤ p ∧ p < 30 ∧ 1 ≤ m ∧ Q (.int (cnt p m.toNat : Nat)) H
theorem ok_how_often (T : Tx K mg) : FnOk P w K mg base CX0 1 T.f_how_often T.fd_how_often ["prime", "number"] sp_how_often := by
  refine T.D_how_often.fn.okQ sc_how_often (fun vs H Q E h => ?_) (fun cdv A outer s H vs Q E hr h => ?_)
  · obtain ⟨p, m, rfl, _⟩ := h
    rfl
  · obtain ⟨p, m, rfl, hp2, hp30, hm, q⟩ := h
    refine ⟨_, (qss_cons (qs_set (i := 2) sc_how_often.nd rfl (Or.inl rfl) qe_int)
      (qss_cons (qs_set (i := 3) sc_how_often.nd rfl (Or.inl rfl) (qv 1))
      (qss_cons (qs_while PassesOwn.never (qt_cmpR op_eq (qe_op op_mod (qv 3) (qv 0)) qe_int (nomark _))
        (qss_cons (qs_set (i := 3) sc_how_often.nd rfl (Or.inl rfl) (qe_op op_fdiv (qv 3) (qv 0)))
      (qss_one (qs_set (i := 2) sc_how_often.nd rfl (Or.inl rfl) (qe_op op_add (qv 2) qe_int)))))
      (qss_one (qs_ret (qv 2)))))), ?_⟩
    refine ⟨_, rfl, ?_⟩
    refine while_own (fun σ H3 => ∃ o r : Nat, σ = [some (.int (p : Int)), some (.int m), some (.int (o : Int)), some (.int (r : Int))] ∧ 1 ≤ r ∧ o + cnt p r = cnt p m.toNat ∧ H3 = H) (fun σ _ => natAt σ 3) ⟨0, m.toNat, by rw [Int.toNat_of_nonneg (by omega)]; rfl, by omega, Nat.zero_add _, rfl⟩ ?_
    rintro σ H3 ⟨o, r, rfl, hr1, hro, rfl⟩
    refine ⟨_, rfl, _, rfl, _, _, rfl, rfl, (by show (0 : Int) < p; omega), rfl, _, rfl, ite2 (fun h => ?_) (fun h => ?_)⟩
    · have h0 : (r : Int) % (p : Int) = 0 := int_eq0 h
      have h0' : r % p = 0 := by omega
      refine whN ⟨_, rfl, _, rfl, _, _, rfl, rfl, ⟨by omega, by omega⟩, _, rfl, _, _, rfl, rfl, ?_⟩
      refine ⟨⟨o + 1, r / p, ?_, div_pos_of hr1 h0', by rw [cnt_div hp2 hr1 h0'] at hro; omega, rfl⟩, ?_⟩
      · rw [Int.natCast_ediv, Int.natCast_add]; rfl
      · show ((r : Int) / (p : Int)).toNat < ((r : Int)).toNat
        rw [← Int.natCast_ediv, Int.toNat_natCast, Int.toNat_natCast]
        exact Nat.div_lt_self hr1 hp2
    · have h0 : ¬ (r : Int) % (p : Int) = 0 := int_ne0 h
      have h0' : r % p ≠ 0 := by omega
      rw [cnt_not h0', Nat.add_zero] at hro
      subst hro
      exact ⟨_, rfl, q⟩

/-! ### _law_whole -/
theorem ok_l_whole (T : Tx K mg) : FnOk P w K mg base CX0 1 T.f_l_whole T.fd_l_whole ["found"] sp_whole := by
  refine T.D_l_whole.fn.okQ sc_l_whole (fun vs H Q E h => ?_) (fun cdv A outer s H vs Q E hr h => ?_)
  · obtain ⟨v, rfl, _⟩ := h
    rfl
  · obtain ⟨v, rfl, k, q⟩ := h
    refine ⟨_, (qss_one (qs_ret (qe_and (qe_callB call_isi (by rfl) T.m_isinstance b_isinstance (qa_c (qv 0) (qa_c (qe_ty (by rfl) T.m_int b_int) qa_nil))) (qe_one (qe_not (qe_callB call_isi (by rfl) T.m_isinstance b_isinstance (qa_c (qv 0) (qa_c (qe_ty (by rfl) T.m_bool b_bool) qa_nil)))))))), ?_⟩
    obtain ⟨t, ty, e⟩ := isi_I (K := K) k
    obtain ⟨t', ty', e'⟩ := isi_B (K := K) k
    rw [← isW_eq] at q
    refine ⟨v, rfl, v, "int", t, _, rfl, ty, e, _, rfl, ?_⟩
    cases hi : isI v with
    | false =>
      rw [hi] at q
      exact iteF q
    | true =>
      rw [hi] at q
      exact iteT ⟨v, rfl, v, "bool", t', _, rfl, ty', e', _, rfl, q⟩

end
end W2

set_option Elab.async false
set_option linter.all false
set_option maxRecDepth 100000
set_option maxHeartbeats 4000000
namespace W2
open PySem L2 Mth Xn
section
variable {P : Program} {w : World} {K : PySem.W.Frag} {mg : Str → Option Value} {base : Heap}
/-! ### powers_of -/
def sp_powers_of : Sp := fun vs H Q _ => ∃ i : Int, vs = [.int i] ∧ 1 ≤ i ∧ stripAll i.toNat = 1 ∧ ∀ p H', Same H H' → H' p = some (tupI (natI (powsOf i.toNat))) → Q (.ref p) H'
theorem ok_powers_of (T : Tx K mg) : FnOk P w K mg base CX0 2 T.f_powers_of T.fd_powers_of ["number"] sp_powers_of := by
  refine T.D_powers_of.fn.okQ sc_powers_of (fun vs H Q E h => ?_) (fun cdv A outer s H vs Q E hr h => ?_)
  · obtain ⟨i, rfl, _⟩ := h
    rfl
  · obtain ⟨i, rfl, h1, hz, q⟩ := h
    refine ⟨_, (qss_cons (qs_if (QW.pt (qw_or (qt_not (qt_val (qe_call (ok_is_whole T) (hr.mono (by decide)) rfl T.D_is_whole.at_ T.D_is_whole.fn.kp T.D_is_whole.bd .nil pass0 (qa_c (qv 0) qa_nil)))) (qw_or (qt_cmpR op_lt (qv 0) qe_int (nomark _)) (qw_or1 (qt_cmpR op_ne (qe_call (ok_without_primes T) (hr.mono (by decide)) rfl T.D_without_primes.at_ T.D_without_primes.fn.kp T.D_without_primes.bd .nil pass0 (qa_c (qv 0) qa_nil)) qe_int (nomark _))))))
        (qss_one qs_never)
        qss_nil)
      (qss_one (qs_ret (qe_callTy call_tuple_ofA (by rfl) T.m_tuple b_tuple (qa_c (qe_comp (compOk_of (osc := defScope s_powers_of) (XN := ["number"]) (N := ["prime", "number"]) (js := [none, some 0]) rfl rfl rfl (List.forall_mem_cons.mpr ⟨rfl, (List.forall_mem_nil _)⟩) (by decide +kernel) rfl) rfl (qi_tup (qe_glob (v := .ref T.a_PRIMES) (by rfl) T.g_PRIMES rfl)) (fun _ _ _ _ => (qg_name (i := 0) (show List.Nodup (["prime", "number"] : List Str) from by decide +kernel) rfl (Or.inl rfl) (Or.inr rfl))) (fun _ _ _ _ => qts_nil)
          (fun _ _ _ _ => (qe_call (ok_how_often T) (hr.mono (by decide)) rfl T.D_how_often.at_ T.D_how_often.fn.kp T.D_how_often.bd .nil pass0 (qa_c (qv 0) (qa_c (qv 1) qa_nil))))) qa_nil))))), ?_⟩
    refine ⟨_, rfl, _, rfl, trivial, _, rfl, iteF ?_⟩
    refine ⟨_, rfl, _, _, rfl, rfl, _, rfl, ?_⟩
    rw [decide_eq_false (show ¬ i < 1 by omega)]
    refine iteF ⟨_, rfl, i, rfl, h1, rfl, _, rfl, ?_⟩
    rw [hz]
    refine iteF ?_
    refine ⟨T.a_PRIMES, rfl, ⟨primesV, T.t_PRIMES H⟩, fun D hD => comp_map_tup (xs := primesV) (f := fun v => match v with | .int p => V.int (cnt p.toNat i.toNat : Nat) | v => v) rfl (by decide) hD (T.t_PRIMES H) ?_ ?_⟩
    · intro x H' R hx r
      obtain ⟨z, hz⟩ := List.getElem?_of_mem hx
      obtain ⟨p, rfl, hp, hp30⟩ := primesV_get hz
      have hp2 : 2 ≤ p := two_le p (List.mem_of_getElem? hp)
      refine ⟨_, rfl, _, rfl, p, i, rfl, hp2, hp30, by omega, ?_⟩
      have r2 : R (V.int (cnt ((p : Int).toNat) i.toNat : Nat)) H' := r
      rw [Int.toNat_natCast] at r2
      exact r2
    · refine ⟨D, _, rfl, SqL.of upd_same, fun p H' fp sp hp => q p H' ((Same.new hD).trans sp) ?_⟩
      rw [hp]
      rfl

/-! ### fraction_changes -/
theorem zip_chg (n d : Nat) : List.zipWith (fun x y : Int => x - y) (natI (powsOf n)) (natI (powsOf d)) = chg n d := by
  unfold natI chg
  rw [List.zipWith_map]
def sp_fraction_changes : Sp := fun vs H Q _ => ∃ (b : Addr) (i j : Int), vs = [.ref b] ∧ H b = some (.tup [.int i, .int j]) ∧ fracB i j = true ∧ ∀ p H', Same H H' → H' p = some (tupI (chg i.toNat j.toNat)) → Q (.ref p) H'
theorem ok_fraction_changes (T : Tx K mg) : FnOk P w K mg base CX0 3 T.f_fraction_changes T.fd_fraction_changes ["fraction"] sp_fraction_changes := by
  refine T.D_fraction_changes.fn.okQ sc_fraction_changes (fun vs H Q E h => ?_) (fun cdv A outer s H vs Q E hr h => ?_)
  · obtain ⟨b, i, j, rfl, _⟩ := h
    rfl
  · obtain ⟨b, i, j, rfl, hb, hf, q⟩ := h
    refine ⟨_, (qss_cons (qs_set (i := 1) sc_fraction_changes.nd rfl (Or.inl rfl) (qe_call (ok_powers_of T) (hr.mono (by decide)) rfl T.D_powers_of.at_ T.D_powers_of.fn.kp T.D_powers_of.bd .nil pass0 (qa_c (qe_ix ix_tup (qv 0) qe_int (fun _ _ => rfl)) qa_nil)))
      (qss_cons (qs_set (i := 2) sc_fraction_changes.nd rfl (Or.inl rfl) (qe_call (ok_powers_of T) (hr.mono (by decide)) rfl T.D_powers_of.at_ T.D_powers_of.fn.kp T.D_powers_of.bd .nil pass0 (qa_c (qe_ix ix_tup (qv 0) qe_int (fun _ _ => rfl)) qa_nil)))
      (qss_one (qs_ret (qe_callTy call_tuple_ofA (by rfl) T.m_tuple b_tuple (qa_c (qe_comp (compOk_of (osc := defScope s_fraction_changes) (XN := ["fraction", "tops", "bottoms"]) (N := ["top", "bottom"]) (js := [none, none]) rfl rfl rfl (List.forall_mem_nil _) (by decide +kernel) rfl) rfl (qi_zip rfl rfl T.m_zip (qa_c (qv 1) (qa_c (qv 2) qa_nil))) (fun _ _ _ _ => (qg_tupN (K := K) (n := 2) rfl rfl (qgs_cons (qg_name (i := 0) (show List.Nodup (["top", "bottom"] : List Str) from by decide +kernel) rfl (Or.inl rfl) (Or.inr rfl)) (qgs_cons (qg_name (i := 1) (show List.Nodup (["top", "bottom"] : List Str) from by decide +kernel) rfl (Or.inl rfl) (Or.inr rfl)) qgs_nil)))) (fun _ _ _ _ => qts_nil)
          (fun _ _ _ _ => (qe_op op_sub (qv 0) (qv 1)))) qa_nil)))))), ?_⟩
    obtain ⟨⟨i1, i2⟩, ⟨j1, j2⟩⟩ := fracB_parts hf
    refine ⟨_, rfl, b, _, _, _, rfl, rfl, SqT.of hb, rfl, i, rfl, i1, i2, fun p1 H1 s1 hp1 => ?_⟩
    refine ⟨_, rfl, b, _, _, _, rfl, rfl, SqT.of (s1 _ _ hb), rfl, j, rfl, j1, j2, fun p2 H2 s2 hp2 => ?_⟩
    refine ⟨_, rfl, _, rfl, p1, p2, rfl, ⟨_, SqT.of (s2 _ _ hp1)⟩, ⟨_, SqT.of hp2⟩, fun D hD => ?_⟩
    refine comp_zip_ints (f := fun x y => x - y) (σ0 := []) (xs := natI (powsOf i.toNat)) (ys := natI (powsOf j.toNat)) (by simp [natI, powsOf, primes]; decide) ⟨_, _, rfl⟩ hD (s2 _ _ hp1) hp2 (fun x y H' R _ _ r => ⟨_, rfl, _, rfl, _, _, rfl, rfl, r⟩) fun H3 s3 h3 => ?_
    refine ⟨D, _, rfl, SqL.of h3, fun p H4 fp s4 hp => q p H4 (((s1.trans s2).trans s3).trans s4) ?_⟩
    rw [hp, zip_chg]

/-! ### changes_of -/
def sp_changes_of : Sp := fun vs H Q _ => ∃ (b : Addr) (xs : List V) (fs : List (Int × Int)), vs = [.ref b] ∧ H b = some (.tup xs) ∧ FrcsV H xs fs ∧ xs.length ≤ 1000 ∧
  ∀ l H' ys, H l = none → Same H H' → H' l = some (.lst ys) → RowsV H' ys (rowsOf fs) → Q (.ref l) H'
theorem ok_changes_of (T : Tx K mg) : FnOk P w K mg base CX0 4 T.f_changes_of T.fd_changes_of ["program"] sp_changes_of := by
  refine T.D_changes_of.fn.okQ sc_changes_of (fun vs H Q E h => ?_) (fun cdv A outer s H vs Q E hr h => ?_)
  · obtain ⟨b, xs, fs, rfl, _⟩ := h
    rfl
  · obtain ⟨b, xs, fs, rfl, hb, hf, hl, q⟩ := h
    refine ⟨_, (qss_one (qs_ret (qe_comp (compOk_of (osc := defScope s_changes_of) (XN := ["program"]) (N := ["fraction"]) (js := [none]) rfl rfl rfl (List.forall_mem_nil _) (by decide +kernel) rfl) rfl (qi_tup (qv 0)) (fun _ _ _ _ => (qg_name (i := 0) (show List.Nodup (["fraction"] : List Str) from by decide +kernel) rfl (Or.inl rfl) (Or.inr rfl))) (fun _ _ _ _ => qts_nil)
          (fun _ _ _ _ => (qe_call (ok_fraction_changes T) (hr.mono (by decide)) rfl T.D_fraction_changes.at_ T.D_fraction_changes.fn.kp T.D_fraction_changes.bd .nil pass0 (qa_c (qv 0) qa_nil)))))), ?_⟩
    refine ⟨_, rfl, b, rfl, ⟨_, SqT.of hb⟩, fun D hD => ?_⟩
    refine comp_tup (xs := xs) (by rw [sizeLine_eq]; omega) (fun i σ' H' ys => (∃ u : Option V, σ' = [u]) ∧ Same H H' ∧ RowsV H' ys ((rowsOf fs).take i)) ⟨⟨_, rfl⟩, Same.new hD, RowsV.nil⟩ (fun i σ' H' ys _ _ ⟨_, s', _⟩ => SqT.of (s' _ _ hb)) ?_ ?_
    · rintro i x σ' H' ys R hx hD' hyl ⟨⟨u, rfl⟩, s', hr'⟩ kk
      obtain ⟨a, d, c, f1, rfl, hc, f4⟩ := hf.2 i x hx
      refine ⟨_, rfl, c, a, d, rfl, s' _ _ hc, f4, fun p H2 s2 hp => ?_⟩
      refine kk _ _ _ (s2 _ _ hD') ⟨⟨_, rfl⟩, ?_, ?_⟩
      · intro e o eo
        rw [upd_ne (ne_of_none eo hD)]
        exact s2 _ _ (s' _ _ eo)
      · have e1 : (rowsOf fs)[i]? = some (chg a.toNat d.toNat) := by unfold rowsOf; rw [List.getElem?_map, f1]; rfl
        rw [List.take_add_one, e1]
        exact RowsV.but ((hr'.same s2).app (RowsV.one ⟨p, rfl, hp⟩)) (s2 _ _ hD') But.upd
    · rintro σ' H' ys hD' hyl ⟨_, s', hr'⟩
      rw [List.take_of_length_le (by rw [rowsOf_len, ← hf.1]; exact Nat.le_refl _)] at hr'
      exact q D H' ys hD s' hD' hr'

/-! ### fits -/
def sp_fits : Sp := fun vs H Q _ => ∃ (a b : Addr) (cs ps : List Int), vs = [.ref a, .ref b] ∧ H a = some (tupI cs) ∧ H b = some (tupI ps) ∧ ∀ H', Same H H' → Q (.bl (fitsB cs ps)) H'
theorem fits_no {cs ps : List Int} {i : Nat} {a b : Int} (h1 : cs[i]? = some a) (h2 : ps[i]? = some b) (h : b + a < 0) : fitsB cs ps = false := by
  rw [Bool.eq_false_iff]
  intro z
  have := fitsB_iff.mp z i a b h1 h2
  omega
theorem ok_fits (T : Tx K mg) : FnOk P w K mg base CX0 1 T.f_fits T.fd_fits ["changes", "powers"] sp_fits := by
  refine T.D_fits.fn.okQ sc_fits (fun vs H Q E h => ?_) (fun cdv A outer s H vs Q E hr h => ?_)
  · obtain ⟨a, b, cs, ps, rfl, _⟩ := h
    rfl
  · obtain ⟨a, b, cs, ps, rfl, ha, hb, q⟩ := h
    refine ⟨_, (qss_cons (qs_for PassesOwn.never rfl (qi_zip rfl rfl T.m_zip (qa_c (qv 0) (qa_c (qv 1) qa_nil))) (qg_tup rfl (qgs_cons (qg_name (i := 2) sc_fits.nd rfl (Or.inl rfl)) (qgs_cons (qg_name (i := 3) sc_fits.nd rfl (Or.inl rfl)) qgs_nil)))
        (qss_one (qs_if (qt_cmpR op_lt (qe_op op_add (qv 3) (qv 2)) qe_int (nomark _))
        (qss_one (qs_ret qe_bl))
        qss_nil)))
      (qss_one (qs_ret qe_bl))), ?_⟩
    refine ⟨_, rfl, _, rfl, a, b, rfl, ⟨_, SqT.of ha⟩, ⟨_, SqT.of hb⟩, ?_⟩
    refine for_zip (xs := cs.map V.int) (ys := ps.map V.int) (fun i σ H2 => (∃ u v : Option V, σ = [some (.ref a), some (.ref b), u, v]) ∧ Same H H2 ∧ ∀ j, j < i → ∀ x y, cs[j]? = some x → ps[j]? = some y → 0 ≤ y + x) ⟨⟨none, none, rfl⟩, Same.refl H, fun j hj => by omega⟩ (fun i σ H2 _ ⟨_, s2, _⟩ => ⟨SqT.of (s2 _ _ ha), SqT.of (s2 _ _ hb)⟩) ?_ ?_
    · rintro i x y p σ H2 hx hy hp ⟨⟨u, v, rfl⟩, s2, hall⟩
      obtain ⟨x, rfl, hx'⟩ := map_int_get hx
      obtain ⟨y, rfl, hy'⟩ := map_int_get hy
      refine ⟨p, _, rfl, SqT.of upd_same, rfl, _, _, rfl, _, _, rfl, rfl, ?_⟩
      refine ⟨_, rfl, _, rfl, _, _, rfl, rfl, _, _, rfl, rfl, _, rfl, ite2 (fun h => ?_) (fun h => ?_)⟩
      · have h0 : y + x < 0 := of_decide_eq_true h
        have q' := q _ (Same.more (o := .tup [.int x, .int y]) s2 hp)
        rw [fits_no hx' hy' h0] at q'
        exact q'
      · have h0 : ¬ y + x < 0 := fun z => h (decide_eq_true z)
        refine ⟨⟨_, _, rfl⟩, Same.more s2 hp, fun j hj x' y' e1 e2 => ?_⟩
        by_cases hji : j = i
        · subst hji
          rw [hx'] at e1; rw [hy'] at e2
          cases e1; cases e2
          omega
        · exact hall j (by omega) x' y' e1 e2
    · rintro σ H2 ⟨⟨u, v, rfl⟩, s2, hall⟩
      have q' := q H2 s2
      rw [fitsB_iff.mpr fun j x y e1 e2 => hall j ?_ x y e1 e2] at q'
      · exact q'
      · have h1 := (List.getElem?_eq_some_iff.mp e1).1
        have h2 := (List.getElem?_eq_some_iff.mp e2).1
        rw [List.length_map, List.length_map]
        omega

/-! ### first_of -/
def sp_first_of : Sp := fun vs H Q _ => ∃ (l b : Addr) (ys : List V) (rows : List (List Int)) (ps : List Int), vs = [.ref l, .ref b] ∧ H l = some (.lst ys) ∧ RowsV H ys rows ∧ H b = some (tupI ps) ∧ ∀ H', Same H H' → Q (optV (fstI rows ps)) H'
theorem ok_first_of (T : Tx K mg) : FnOk P w K mg base CX0 2 T.f_first_of T.fd_first_of ["rows", "powers"] sp_first_of := by
  refine T.D_first_of.fn.okQ sc_first_of (fun vs H Q E h => ?_) (fun cdv A outer s H vs Q E hr h => ?_)
  · obtain ⟨l, b, ys, rows, ps, rfl, _⟩ := h
    rfl
  · obtain ⟨l, b, ys, rows, ps, rfl, hl, hrs, hb, q⟩ := h
    refine ⟨_, (qss_cons (qs_for PassesOwn.never rfl (qi_enum rfl rfl T.m_enumerate (qa_c (qv 0) qa_nil)) (qg_tup rfl (qgs_cons (qg_name (i := 2) sc_first_of.nd rfl (Or.inl rfl)) (qgs_cons (qg_name (i := 3) sc_first_of.nd rfl (Or.inl rfl)) qgs_nil)))
        (qss_one (qs_if (qt_val (qe_call (ok_fits T) (hr.mono (by decide)) rfl T.D_fits.at_ T.D_fits.fn.kp T.D_fits.bd .nil pass0 (qa_c (qv 3) (qa_c (qv 1) qa_nil))))
        (qss_one (qs_ret (qv 2)))
        qss_nil)))
      (qss_one (qs_ret qe_non))), ?_⟩
    refine ⟨_, rfl, l, ys, rfl, hl, ?_⟩
    refine for_enum (xs := ys) (fun i σ H2 => (∃ u v : Option V, σ = [some (.ref l), some (.ref b), u, v]) ∧ Same H H2 ∧ ∀ j, j < i → ∀ c, rows[j]? = some c → fitsB c ps = false) ⟨⟨none, none, rfl⟩, Same.refl H, fun j hj => by omega⟩ (fun i σ H2 _ ⟨_, s2, _⟩ => s2 _ _ hl) ?_ ?_
    · rintro i x p σ H2 hx hp ⟨⟨u, v, rfl⟩, s2, hall⟩
      obtain ⟨c, a, hc, rfl, ha⟩ := hrs.at hx
      have s3 := Same.more (o := .tup [.int (i : Int), .ref a]) s2 hp
      refine ⟨p, _, rfl, SqT.of upd_same, rfl, _, _, rfl, _, _, rfl, rfl, ?_⟩
      refine ⟨_, rfl, _, rfl, a, b, c, ps, rfl, s3 _ _ ha, s3 _ _ hb, fun H4 s4 => ⟨_, rfl, ite2 (fun h => ?_) (fun h => ?_)⟩⟩
      · have q' := q H4 (s3.trans s4)
        rw [fstI_at rows ps i hall (fun c' e => by rw [hc] at e; cases e; exact h) (List.getElem?_eq_some_iff.mp hc).1] at q'
        exact ⟨_, rfl, q'⟩
      · refine ⟨⟨_, _, rfl⟩, s3.trans s4, fun j hj c' e => ?_⟩
        by_cases hji : j = i
        · subst hji
          rw [hc] at e
          cases e
          cases z : fitsB c ps with
          | true => exact absurd z h
          | false => rfl
        · exact hall j (by omega) c' e
    · rintro σ H2 ⟨⟨u, v, rfl⟩, s2, hall⟩
      have q' := q H2 s2
      rw [fstI_none rows ps fun j c e => hall j (by rw [hrs.1]; exact (List.getElem?_eq_some_iff.mp e).1) c e] at q'
      exact q'

/-! ### moved -/
def sp_moved : Sp := fun vs H Q _ => ∃ (a b : Addr) (ps cs : List Int) (m : Int), vs = [.ref a, .ref b, .int m] ∧ H a = some (tupI ps) ∧ H b = some (tupI cs) ∧ (-(2 ^ 64) < m ∧ m < 2 ^ 64) ∧ ps.length ≤ 1000 ∧ ∀ p H', Same H H' → H' p = some (tupI (mvd ps cs m)) → Q (.ref p) H'
theorem ok_moved (T : Tx K mg) : FnOk P w K mg base CX0 1 T.f_moved T.fd_moved ["powers", "changes", "many"] sp_moved := by
  refine T.D_moved.fn.okQ sc_moved (fun vs H Q E h => ?_) (fun cdv A outer s H vs Q E hr h => ?_)
  · obtain ⟨a, b, ps, cs, m, rfl, _⟩ := h
    rfl
  · obtain ⟨a, b, ps, cs, m, rfl, ha, hb, hm, hl, q⟩ := h
    refine ⟨_, (qss_one (qs_ret (qe_callTy call_tuple_ofA (by rfl) T.m_tuple b_tuple (qa_c (qe_comp (compOk_of (osc := defScope s_moved) (XN := ["powers", "changes", "many"]) (N := ["power", "change", "many"]) (js := [none, none, some 2]) rfl rfl rfl (List.forall_mem_cons.mpr ⟨rfl, (List.forall_mem_nil _)⟩) (by decide +kernel) rfl) rfl (qi_zip rfl rfl T.m_zip (qa_c (qv 0) (qa_c (qv 1) qa_nil))) (fun _ _ _ _ => (qg_tupN (K := K) (n := 2) rfl rfl (qgs_cons (qg_name (i := 0) (show List.Nodup (["power", "change", "many"] : List Str) from by decide +kernel) rfl (Or.inl rfl) (Or.inr rfl)) (qgs_cons (qg_name (i := 1) (show List.Nodup (["power", "change", "many"] : List Str) from by decide +kernel) rfl (Or.inl rfl) (Or.inr rfl)) qgs_nil)))) (fun _ _ _ _ => qts_nil)
          (fun _ _ _ _ => (qe_op op_add (qv 0) (qe_op op_mul (qv 2) (qv 1))))) qa_nil)))), ?_⟩
    refine ⟨_, rfl, _, rfl, a, b, rfl, ⟨_, SqT.of ha⟩, ⟨_, SqT.of hb⟩, fun D hD => ?_⟩
    refine comp_zip_ints (f := fun x y => x + m * y) (σ0 := [some (.int m)]) (xs := ps) (ys := cs) (by rw [sizeLine_eq]; omega) ⟨_, _, rfl⟩ hD ha hb (fun x y H' R _ _ r => ⟨_, rfl, _, rfl, _, rfl, _, _, rfl, rfl, .inl hm, _, _, rfl, rfl, r⟩) fun H3 s3 h3 => ?_
    exact ⟨D, _, rfl, SqL.of h3, fun p H4 fp s4 hp => q p H4 (s3.trans s4) hp⟩

end
end W2

set_option Elab.async false
set_option linter.all false
set_option maxRecDepth 100000
set_option maxHeartbeats 4000000
namespace W2
open PySem L2 Mth Xn
section
variable {P : Program} {w : World} {K : PySem.W.Frag} {mg : Str → Option Value} {base : Heap}
/-! ### steps_to_lack -/
def sp_steps_to_lack : Sp := fun vs H Q _ => ∃ (a b : Addr) (ps cs : List Int), vs = [.ref a, .ref b] ∧ H a = some (tupI ps) ∧ H b = some (tupI cs) ∧ ps.length = 10 ∧ cs.length = 10 ∧ nn ps = true ∧ (∀ x ∈ cs, -40 < x ∧ x < 40) ∧ ∀ H' o, Same H H' → LackR ps cs o → Q (optV o) H'
theorem ok_steps_to_lack (T : Tx K mg) : FnOk P w K mg base CX0 1 T.f_steps_to_lack T.fd_steps_to_lack ["powers", "used"] sp_steps_to_lack := by
  refine T.D_steps_to_lack.fn.okQ sc_steps_to_lack (fun vs H Q E h => ?_) (fun cdv A outer s H vs Q E hr h => ?_)
  · obtain ⟨a, b, ps, cs, rfl, _⟩ := h
    rfl
  · obtain ⟨a, b, ps, cs, rfl, ha, hb, hp10, hc10, hnn, hcb, q⟩ := h
    refine ⟨_, (qss_one (qs_ret (qe_minD rfl (by rfl) T.m_min b_min (qa_c (qe_comp (compOk_of (osc := defScope s_steps_to_lack) (XN := ["powers", "used"]) (N := ["power", "change"]) (js := [none, none]) rfl rfl rfl (List.forall_mem_nil _) (by decide +kernel) rfl) rfl (qi_zip rfl rfl T.m_zip (qa_c (qv 0) (qa_c (qv 1) qa_nil))) (fun _ _ _ _ => (qg_tupN (K := K) (n := 2) rfl rfl (qgs_cons (qg_name (i := 0) (show List.Nodup (["power", "change"] : List Str) from by decide +kernel) rfl (Or.inl rfl) (Or.inr rfl)) (qgs_cons (qg_name (i := 1) (show List.Nodup (["power", "change"] : List Str) from by decide +kernel) rfl (Or.inl rfl) (Or.inr rfl)) qgs_nil)))) (fun _ _ _ _ => (qts_one (qt_cmpR op_lt (qv 1) qe_int (nomark _))))
          (fun _ _ _ _ => (qe_op op_fdiv (qv 0) (qe_un un_neg (qv 1))))) qa_nil)))), ?_⟩
    refine ⟨_, rfl, _, rfl, a, b, rfl, ⟨_, SqT.of ha⟩, ⟨_, SqT.of hb⟩, fun D hD => ?_⟩
    refine comp_zip_if (K := K) (t := fun _ y => decide (y < 0)) (f := fun x y => x / (-y)) (σ0 := []) (xs := ps) (ys := cs) (by rw [hp10, hc10, sizeLine_eq]; decide) ⟨_, _, rfl⟩ hD ha hb (fun x y H' R _ _ r => ⟨_, rfl, _, _, rfl, rfl, _, rfl, r⟩) (fun x y H' R _ hy ht r => ?_) fun H1 s1 h1 => ?_
    · have h1 : y < 0 := of_decide_eq_true ht
      have h2 := hcb y hy
      exact ⟨_, rfl, _, rfl, _, rfl, _, _, rfl, rfl, ⟨by omega, by omega⟩, r⟩
    · refine ⟨D, lackL ps cs, rfl, SqL.of h1, fun e => q H1 none s1 (lack_none hnn e), fun M m1 m2 => ?_⟩
      obtain ⟨M0, L⟩ := lack_some hnn m1 m2
      have := q H1 _ s1 L
      rw [show optV (some M.toNat) = V.int M by show V.int (M.toNat : Int) = _; rw [Int.toNat_of_nonneg M0]] at this
      exact this

/-! ### steps_to_fit -/
def sp_steps_to_fit : Sp := fun vs H Q _ => ∃ (a b c : Addr) (ps cs ds : List Int), vs = [.ref a, .ref b, .ref c] ∧ H a = some (tupI ps) ∧ H b = some (tupI cs) ∧ H c = some (tupI ds) ∧ ps.length = 10 ∧ cs.length = 10 ∧ ds.length = 10 ∧ nn ps = true ∧ (∀ x ∈ cs, -40 < x ∧ x < 40) ∧ (∀ x ∈ ds, -40 < x ∧ x < 40) ∧ ∀ H' o, Same H H' → FitR ps cs ds o → Q (optV o) H'
theorem ok_steps_to_fit (T : Tx K mg) : FnOk P w K mg base CX0 2 T.f_steps_to_fit T.fd_steps_to_fit ["powers", "used", "ahead"] sp_steps_to_fit := by
  refine T.D_steps_to_fit.fn.okQ sc_steps_to_fit (fun vs H Q E h => ?_) (fun cdv A outer s H vs Q E hr h => ?_)
  · obtain ⟨a, b, c, ps, cs, ds, rfl, _⟩ := h
    rfl
  · obtain ⟨a, b, c, ps, cs, ds, rfl, ha, hb, hc, hp10, hc10, hd10, hnn, hcb, hdb, q⟩ := h
    refine ⟨_, (qss_cons (qs_set (i := 3) sc_steps_to_fit.nd rfl (Or.inl rfl) qe_int)
      (qss_cons (qs_for PassesOwn.never rfl (qi_zip3 rfl rfl T.m_zip (qa_c (qv 0) (qa_c (qv 1) (qa_c (qv 2) qa_nil)))) (qg_tup rfl (qgs_cons (qg_name (i := 4) sc_steps_to_fit.nd rfl (Or.inl rfl)) (qgs_cons (qg_name (i := 5) sc_steps_to_fit.nd rfl (Or.inl rfl)) (qgs_cons (qg_name (i := 6) sc_steps_to_fit.nd rfl (Or.inl rfl)) qgs_nil))))
        (qss_cons (qs_set (i := 7) sc_steps_to_fit.nd rfl (Or.inl rfl) (qe_op op_sub (qe_un un_neg (qv 6)) (qv 4)))
      (qss_one (qs_if (qt_cmpR op_gt (qv 7) qe_int (nomark _))
        (qss_cons (qs_if (qt_cmpR op_le (qv 5) qe_int (nomark _))
        (qss_one (qs_ret qe_non))
        qss_nil)
      (qss_one (qs_set (i := 3) sc_steps_to_fit.nd rfl (Or.inl rfl) (qe_callB (call_max2 rfl) (by rfl) T.m_max b_max (qa_c (qv 3) (qa_c (qe_op op_fdiv (qe_op op_sub (qe_op op_add (qv 7) (qv 5)) qe_int) (qv 5)) qa_nil))))))
        qss_nil))))
      (qss_cons (qs_if (qt_val (qe_call (ok_fits T) (hr.mono (by decide)) rfl T.D_fits.at_ T.D_fits.fn.kp T.D_fits.bd .nil pass0 (qa_c (qv 2) (qa_c (qe_call (ok_moved T) (hr.mono (by decide)) rfl T.D_moved.at_ T.D_moved.fn.kp T.D_moved.bd .nil pass0 (qa_c (qv 0) (qa_c (qv 1) (qa_c (qv 3) qa_nil)))) qa_nil))))
        (qss_one (qs_ret (qv 3)))
        qss_nil)
      (qss_one (qs_ret qe_non))))), ?_⟩
    refine ⟨_, rfl, _, rfl, _, rfl, a, b, c, rfl, ⟨_, SqT.of ha⟩, ⟨_, SqT.of hb⟩, ⟨_, SqT.of hc⟩, ?_⟩
    refine for_zip3 (K := K) (xs := ps.map V.int) (ys := cs.map V.int) (zs := ds.map V.int) (by rw [List.length_map, List.length_map, hp10, hc10]) (by rw [List.length_map, List.length_map, hp10, hd10]) (fun i σ H2 => ∃ (m : Int) (u1 u2 u3 u4 : Option V), σ = [some (.ref a), some (.ref b), some (.ref c), some (.int m), u1, u2, u3, u4] ∧ Same H H2 ∧ FitI ps cs ds i m) ⟨0, none, none, none, none, rfl, Same.refl H, FitI.start⟩ (fun i σ H2 _ ⟨_, _, _, _, _, _, s2, _⟩ => ⟨SqT.of (s2 _ _ ha), SqT.of (s2 _ _ hb), SqT.of (s2 _ _ hc)⟩) ?_ ?_
    · rintro i x y z p σ H2 hx hy hz hp ⟨m, u1, u2, u3, u4, rfl, s2, hI⟩
      obtain ⟨x, rfl, hx'⟩ := map_int_get hx
      obtain ⟨y, rfl, hy'⟩ := map_int_get hy
      obtain ⟨z, rfl, hz'⟩ := map_int_get hz
      have s3 : Same H (upd H2 p (.tup [.int x, .int y, .int z])) := Same.more s2 hp
      have zb := hdb z (List.mem_of_getElem? hz')
      have yb := hcb y (List.mem_of_getElem? hy')
      have x0 := nn_iff.mp hnn x (List.mem_of_getElem? hx')
      refine ⟨p, _, rfl, SqT.of upd_same, rfl, _, _, rfl, _, _, rfl, _, _, rfl, rfl, ?_⟩
      refine ⟨_, rfl, _, rfl, _, rfl, _, _, rfl, rfl, ?_⟩
      refine ⟨_, rfl, _, _, rfl, rfl, _, rfl, ite2 (fun h => ?_) (fun h => ?_)⟩
      · have hl : 0 < -z - x := of_decide_eq_true h
        refine ⟨_, rfl, _, _, rfl, rfl, _, rfl, ite2 (fun h' => ?_) (fun h' => ?_)⟩
        · exact q _ none s3 (FitI.never hx' hy' hz' hl (of_decide_eq_true h'))
        · have hy0 : 0 < y := by
            have : ¬ y ≤ 0 := fun w => h' (decide_eq_true w)
            omega
          exact ⟨_, rfl, _, rfl, _, rfl, _, _, rfl, rfl, _, _, rfl, rfl, _, rfl, _, _, rfl, rfl, ⟨hy0, by omega⟩, _, _, rfl, _, _, _, _, _, rfl, s3, hI.more hx' hy' hz' hl (by omega) hy0⟩
      · exact ⟨m, _, _, _, _, rfl, s3, hI.skip (y := y) hx' hz' fun w => h (decide_eq_true w)⟩
    · rintro σ H2 ⟨m, u1, u2, u3, u4, rfl, s2, hI⟩
      rw [List.length_map, hp10] at hI
      have h0 := hI.1
      have h1 := hI.2.1
      refine ⟨_, rfl, _, rfl, _, rfl, _, rfl, a, b, ps, cs, m, rfl, s2 _ _ ha, s2 _ _ hb, ⟨by omega, by omega⟩, by omega, fun r H3 s3 h3 => ?_⟩
      refine ⟨c, r, ds, mvd ps cs m, rfl, s3 _ _ (s2 _ _ hc), h3, fun H4 s4 => ?_⟩
      have s24 := (s2.trans s3).trans s4
      refine ⟨_, rfl, ite2 (fun h => ?_) (fun h => ?_)⟩
      · have := q H4 _ s24 (hI.yes h)
        rw [show optV (some m.toNat) = V.int m by show V.int (m.toNat : Int) = _; rw [Int.toNat_of_nonneg h0]] at this
        exact ⟨_, rfl, this⟩
      · exact q H4 none s24 (hI.no hp10 (Bool.eq_false_iff.mpr h))

/-! ### stretch_steps -/
theorem opt_filter : ∀ (os : List (Option Nat)), (os.map optV).filter (fun v => !decide (v = V.non)) = ((os.filterMap id).map fun n : Nat => (n : Int)).map V.int
  | [] => rfl
  | none :: os => by
    show (os.map optV).filter _ = _
    rw [opt_filter os]
    rfl
  | some n :: os => by
    show V.int (n : Int) :: (os.map optV).filter _ = _
    rw [opt_filter os]
    rfl
def sp_stretch_steps : Sp := fun vs H Q _ => ∃ (l a : Addr) (ys : List V) (rows : List (List Int)) (ps c : List Int) (k : Nat), vs = [.ref l, .ref a, .int (k : Int)] ∧ H l = some (.lst ys) ∧ RowsV H ys rows ∧ ys.length ≤ 1000 ∧ H a = some (tupI ps) ∧ ps.length = 10 ∧ nn ps = true ∧ R10 rows ∧ RB rows ∧ rows[k]? = some c ∧
  ∀ H' o, Same H H' → StR rows ps c k o → (∀ T, o = some T → (∃ x ∈ ps, (T : Int) ≤ x) ∨ T ≤ 1000) → Q (optV o) H'
theorem ok_stretch_steps (T : Tx K mg) : FnOk P w K mg base CX0 3 T.f_stretch_steps T.fd_stretch_steps ["rows", "powers", "number"] sp_stretch_steps := by
  refine T.D_stretch_steps.fn.okQ sc_stretch_steps (fun vs H Q E h => ?_) (fun cdv A outer s H vs Q E hr h => ?_)
  · obtain ⟨l, a, ys, rows, ps, c, k, rfl, _⟩ := h
    rfl
  · obtain ⟨l, a, ys, rows, ps, c, k, rfl, hl, hR, hyl, ha, hp10, hnn, R, B, hk, q⟩ := h
    refine ⟨_, (qss_cons (qs_set (i := 3) sc_stretch_steps.nd rfl (Or.inr rfl) (qe_ix ix_list (qv 0) (qv 2) (fun _ _ => rfl)))
      (qss_cons (qs_set (i := 4) sc_stretch_steps.nd rfl (Or.inl rfl) (qe_op op_catLA (qe_lstA (qa_c (qe_call (ok_steps_to_lack T) (hr.mono (by decide)) rfl T.D_steps_to_lack.at_ T.D_steps_to_lack.fn.kp T.D_steps_to_lack.bd .nil pass0 (qa_c (qv 1) (qa_c (qv 3) qa_nil))) qa_nil)) (qe_comp (compOk_of (osc := defScope s_stretch_steps) (XN := ["rows", "powers", "number", "used", "ends"]) (N := ["ahead", "powers", "used"]) (js := [none, some 1, some 3]) rfl rfl rfl (List.forall_mem_cons.mpr ⟨rfl, (List.forall_mem_cons.mpr ⟨rfl, (List.forall_mem_nil _)⟩)⟩) (by decide +kernel) rfl) rfl (qi_list (qe_slice sl_list (qv 0) qo_none (qo_some (qv 2)))) (fun _ _ _ _ => (qg_name (i := 0) (show List.Nodup (["ahead", "powers", "used"] : List Str) from by decide +kernel) rfl (Or.inl rfl) (Or.inr rfl))) (fun _ _ _ _ => qts_nil)
          (fun _ _ _ _ => (qe_call (ok_steps_to_fit T) (hr.mono (by decide)) rfl T.D_steps_to_fit.at_ T.D_steps_to_fit.fn.kp T.D_steps_to_fit.bd .nil pass0 (qa_c (qv 1) (qa_c (qv 2) (qa_c (qv 0) qa_nil))))))))
      (qss_one (qs_ret (qe_minD rfl (by rfl) T.m_min b_min (qa_c (qe_comp (compOk_of (osc := defScope s_stretch_steps) (XN := ["rows", "powers", "number", "used", "ends"]) (N := ["end"]) (js := [none]) rfl rfl rfl (List.forall_mem_nil _) (by decide +kernel) rfl) rfl (qi_list (qv 4)) (fun _ _ _ _ => (qg_name (i := 0) (show List.Nodup (["end"] : List Str) from by decide +kernel) rfl (Or.inl rfl) (Or.inr rfl))) (fun _ _ _ _ => (qts_one (qt_cmpR op_notN (qv 0) qe_non (nomark _))))
          (fun _ _ _ _ => (qv 0))) qa_nil)))))), ?_⟩
    obtain ⟨x, e, hx, rfl, he⟩ := hR.of hk
    have hcm := List.mem_of_getElem? hk
    have hkl := (List.getElem?_eq_some_iff.mp hk).1
    refine ⟨_, rfl, _, rfl, l, _, _, _, rfl, rfl, SqL.of hl, atI_of (Int.natCast_nonneg k) (by rw [Int.toNat_natCast]; exact hx), ?_⟩
    refine ⟨_, rfl, _, rfl, a, e, ps, c, rfl, ha, he, hp10, R c hcm, hnn, B c hcm, fun H1 o s1 hL => ?_⟩
    refine ⟨(by show 1 ≤ sizeLine; decide), fun l1 H2 f2 s2 hl1 => ?_⟩
    have s12 := s1.trans s2
    refine ⟨_, rfl, _, rfl, _, rfl, l, ys, rfl, SqL.of (s12 _ _ hl), fun d hd => ?_⟩
    rw [cutV_pre (Int.natCast_nonneg k), Int.toNat_natCast]
    have s3 : Same H2 (upd H2 d (.lst (ys.take k))) := Same.new hd
    have htk : (ys.take k).length = k := by rw [List.length_take, hR.1]; omega
    refine ⟨d, rfl, ⟨_, SqL.of upd_same⟩, fun D hD => ?_⟩
    refine comp_list (K := K) (xs := ys.take k) (by rw [htk, sizeLine_eq, ← hR.1] at *; omega) (fun i σ' H' zs => (∃ u : Option V, σ' = [u, some (.ref a), some (.ref e)]) ∧ Same (upd H2 d (.lst (ys.take k))) H' ∧ ∃ os : List (Option Nat), zs = os.map optV ∧ os.length = i ∧ ∀ j, j < i → ∀ r, rows[j]? = some r → ∃ z, os[j]? = some z ∧ FitR ps c r z) ⟨⟨_, rfl⟩, Same.new hD, [], rfl, rfl, fun j hj => absurd hj (by omega)⟩ (fun i σ' H' zs _ _ ⟨_, s', _⟩ => SqL.of (s' _ _ upd_same)) ?_ ?_
    · rintro j x σ' H' zs RR hx' hD' hzl ⟨⟨u, rfl⟩, s', os, rfl, hol, hF⟩ kk
      have hjk : j < k := by
        have := (List.getElem?_eq_some_iff.mp hx').1
        omega
      have hxy : ys[j]? = some x := by rw [List.getElem?_take_of_lt hjk] at hx'; exact hx'
      obtain ⟨r, ra, hr1, rfl, hra⟩ := hR.at hxy
      have hrm := List.mem_of_getElem? hr1
      have sH : Same H H' := (s12.trans s3).trans s'
      refine ⟨_, rfl, _, rfl, _, rfl, a, e, ra, ps, c, r, rfl, sH _ _ ha, sH _ _ he, sH _ _ hra, hp10, R c hcm, R r hrm, hnn, B c hcm, B r hrm, fun H4 z s4 hz => ?_⟩
      refine kk _ _ _ (s4 _ _ hD') ⟨⟨_, rfl⟩, ?_, os ++ [z], ?_, ?_, ?_⟩
      · intro c2 o2 e2
        rw [upd_ne (ne_of_none e2 hD)]
        exact s4 _ _ (s' c2 o2 e2)
      · rw [List.map_append]; rfl
      · rw [List.length_append, hol]; rfl
      · intro i hi r' hr'
        by_cases hij : i < j
        · obtain ⟨z', h1, h2⟩ := hF i hij r' hr'
          exact ⟨z', by rw [List.getElem?_append_left (by omega)]; exact h1, h2⟩
        · have : i = j := by omega
          subst this
          rw [hr1] at hr'
          cases hr'
          exact ⟨z, by rw [← hol, List.getElem?_concat_length], hz⟩
    · rintro σ' H4 zs hD4 hzl ⟨_, s4, os, rfl, hol, hF⟩
      rw [htk] at hol hF
      have s24 := s3.trans s4
      refine ⟨l1, D, _, _, rfl, rfl, s24 _ _ hl1, hD4, ?_, fun en H5 f5 s5 h5 => ?_⟩
      · rw [List.length_map, hol, sizeLine_eq]
        show 1 + k ≤ _
        have := hR.1
        omega
      have s05 : Same H H5 := (s12.trans s24).trans s5
      refine ⟨_, rfl, en, rfl, ⟨_, SqL.of h5⟩, fun D2 hD2 => ?_⟩
      refine comp_list_if (K := K) (t := fun v => !decide (v = V.non)) (σ0 := []) (xs := (o :: os).map optV) ?_ ⟨_, rfl⟩ hD2 h5 (fun x H' RR _ _ r => ⟨_, rfl, rfl, _, rfl, r⟩) (fun x H' RR _ _ _ r => ⟨_, rfl, r⟩) fun H6 s6 h6 => ?_
      · rw [List.length_map, List.length_cons, hol, sizeLine_eq]
        have := hR.1
        omega
      rw [opt_filter] at h6
      refine ⟨D2, _, rfl, SqL.of h6, fun ee => ?_, fun M m1 m2 => ?_⟩
      · exact q H6 none (s05.trans s6) (st_none hk hL hF (List.map_eq_nil_iff.mp ee)) (fun T z => by cases z)
      · obtain ⟨n, hn, rfl⟩ := List.mem_map.mp m1
        obtain ⟨h1, h2⟩ := st_some hk hol hL hF hn fun b hb => by
          have := m2 (b : Int) (List.mem_map_of_mem hb)
          omega
        exact q H6 (some n) (s05.trans s6) h1 (fun T z => by cases z; exact h2)

/-! ### leap, one step a stretch -/
theorem term_le {i : Int} (h : termB i = true) : i ≤ 1000000000000 := by
  unfold termB at h
  simp only [Bool.and_eq_true, decide_eq_true_eq] at h
  exact h.1.2
theorem fracB_le {i j : Int} (h : fracB i j = true) : i ≤ 1000000000000 ∧ j ≤ 1000000000000 := by
  unfold fracB at h
  simp only [Bool.and_eq_true] at h
  exact ⟨term_le h.1.1, term_le h.1.2⟩
theorem rows_RB {H : Hp} {xs : List V} {fs : List (Int × Int)} (hf : FrcsV H xs fs) : RB (rowsOf fs) := fun c hc x hx => by
  obtain ⟨⟨i, j⟩, hm, rfl⟩ := List.mem_map.mp hc
  obtain ⟨k, hk⟩ := List.getElem?_of_mem hm
  have hkl : k < xs.length := by rw [hf.1]; exact (List.getElem?_eq_some_iff.mp hk).1
  obtain ⟨i', j', a, h1, _, _, f⟩ := hf.2 k _ (List.getElem?_eq_getElem hkl)
  rw [hk] at h1
  cases h1
  obtain ⟨⟨i1, _⟩, ⟨j1, _⟩⟩ := fracB_parts f
  obtain ⟨ib, jb⟩ := fracB_le f
  exact chg_40 (by omega) (by omega) (by omega) (by omega) hx
def intOf : Option (Option V) → Nat
  | some (some (V.int i)) => i.toNat
  | _ => 0
def cnt5 (σ : St) : Nat := intOf σ[5]?
/-- the powers go on by stretches of one step -/
structure Unit1 (rows : List (List Int)) (ps : List Int) (S : Nat → List Int) (kf : Nat → Nat) : Prop where
  beg : S 0 = ps
  ok : ∀ j, (S j).length = 10 ∧ nn (S j) = true
  fst : ∀ j, fstI rows (S j) = some (kf j)
  ne : ∀ j, kf (j + 1) ≠ kf j
  nxt : ∀ j c, rows[kf j]? = some c → S (j + 1) = mvd (S j) c 1
def sp_leapU (CT : Addr) : Sp := fun vs H Q E => ∃ (b a : Addr) (xs : List V) (fs : List (Int × Int)) (ps : List Int) (S : Nat → List Int) (kf : Nat → Nat) (m : Int), vs = [.ref b, .ref a, .int m] ∧ H b = some (.tup xs) ∧ FrcsV H xs fs ∧ xs.length ≤ 1000 ∧ H a = some (tupI ps) ∧ Unit1 (rowsOf fs) ps S kf ∧ 0 ≤ m ∧
  (m ≤ 2000 → ∀ q' H', Same H H' → H' q' = some (tupI (S m.toNat)) → Q (.ref q') H') ∧ (2000 < m → ∀ H', Same H H' → E (.ref CT) none H')
theorem ok_leapU (T : Tx K mg) : FnOk P w K mg base (CXE P w) 5 T.f_leap T.fd_leap ["program", "powers", "many"] (sp_leapU T.c_TooMany) := by
  refine T.D_leap.fn.okX sc_leap (fun vs H Q E h => ?_) (fun cdv A outer s H vs Q E hr h => ?_)
  · obtain ⟨b, a, xs, fs, ps, S, kf, m, rfl, _⟩ := h
    rfl
  · obtain ⟨b, a, xs, fs, ps, S, kf, m, rfl, hb, hf, hl, ha, U, m0, q1, q2⟩ := h
    refine ⟨_, (qss_cons (qs_set (i := 3) sc_leap.nd rfl (Or.inl rfl) (qe_call (ok_changes_of T) (hr.mono (by decide)) rfl T.D_changes_of.at_ T.D_changes_of.fn.kp T.D_changes_of.bd .nil pass0 (qa_c (qv 0) qa_nil)))
      (qss_cons (qs_set (i := 4) sc_leap.nd rfl (Or.inl rfl) (qv 1))
      (qss_cons (qs_set (i := 5) sc_leap.nd rfl (Or.inl rfl) qe_int)
      (qss_cons (qs_set (i := 6) sc_leap.nd rfl (Or.inl rfl) qe_int)
      (qss_cons (qs_while PassesOwn.leaving (qt_cmpR op_lt (qv 5) (qv 2) (nomark _))
        (qss_cons (qs_set (i := 7) sc_leap.nd rfl (Or.inl rfl) (qe_call (ok_first_of T) (hr.mono (by decide)) rfl T.D_first_of.at_ T.D_first_of.fn.kp T.D_first_of.bd .nil pass0 (qa_c (qv 3) (qa_c (qv 4) qa_nil))))
      (qss_cons (qs_if (qt_cmpR op_isN (qv 7) qe_non (nomark _))
        (qss_one qs_never)
        qss_nil)
      (qss_cons (qs_if (qt_cmpR op_eq (qv 6) (qe_globC (by rfl) T.g_MOST_STRETCHES) (nomark _))
        (qss_one (qs_raise xok_cx rfl rfl T.E_TooMany (by rfl) (qa_c qe_str qa_nil)))
        qss_nil)
      (qss_cons (qs_set (i := 8) sc_leap.nd rfl (Or.inl rfl) (qe_call (ok_stretch_steps T) (hr.mono (by decide)) rfl T.D_stretch_steps.at_ T.D_stretch_steps.fn.kp T.D_stretch_steps.bd .nil pass0 (qa_c (qv 3) (qa_c (qv 4) (qa_c (qv 7) qa_nil)))))
      (qss_cons (qs_ifJ (QW.pt (qw_or (qt_cmpR op_isN (qv 8) qe_non (nomark _)) (qw_or1 (qt_cmpR op_gt (qv 8) (qe_op op_sub (qv 2) (qv 5)) (nomark _)))))
        (qss_one (qs_set (i := 8) sc_leap.nd rfl (Or.inl rfl) (qe_op op_sub (qv 2) (qv 5))))
        qss_nil)
      (qss_cons (qs_set (i := 4) sc_leap.nd rfl (Or.inl rfl) (qe_call (ok_moved T) (hr.mono (by decide)) rfl T.D_moved.at_ T.D_moved.fn.kp T.D_moved.bd .nil pass0 (qa_c (qv 4) (qa_c (qe_ix ix_list (qv 3) (qv 7) (fun _ _ => rfl)) (qa_c (qv 8) qa_nil)))))
      (qss_cons (qs_set (i := 5) sc_leap.nd rfl (Or.inl rfl) (qe_op op_add (qv 5) (qv 8)))
      (qss_one (qs_set (i := 6) sc_leap.nd rfl (Or.inl rfl) (qe_op op_add (qv 6) qe_int)))))))))))
      (qss_one (qs_ret (qv 4)))))))), ?_⟩
    refine ⟨_, rfl, b, xs, fs, rfl, hb, hf, hl, fun l H1 ys fl s1 hl1 hr1 => ?_⟩
    have R := rowsOf_10 fs
    have B := rows_RB hf
    have hyl : ys.length ≤ 1000 := by rw [hr1.1, rowsOf_len, ← hf.1]; exact hl
    refine ⟨_, rfl, ?_⟩
    refine while_own (fun σ H3 => ∃ (cu : Addr) (d : Nat) (u v : Option V), σ = [some (.ref b), some (.ref a), some (.int m), some (.ref l), some (.ref cu), some (.int (d : Int)), some (.int (d : Int)), u, v] ∧ Same H1 H3 ∧ H3 cu = some (tupI (S d)) ∧ (d : Int) ≤ m ∧ d ≤ 2000)
      (fun σ _ => m.toNat - cnt5 σ) ⟨a, 0, none, none, rfl, Same.refl H1, by rw [U.beg]; exact s1 _ _ ha, m0, by decide⟩ ?_
    rintro σ H3 ⟨cu, d, u, v, rfl, s3, hcu, hdm, hd2⟩
    have hc10 := U.ok d
    refine ⟨_, rfl, _, rfl, _, _, rfl, rfl, _, rfl, ite2 (fun h => ?_) (fun h => ?_)⟩
    · have h0 : (d : Int) < m := of_decide_eq_true h
      refine whN ⟨_, rfl, _, rfl, l, cu, ys, rowsOf fs, S d, rfl, s3 _ _ hl1, hr1.same s3, hcu, fun H4 s4 => ?_⟩
      have hfst := U.fst d
      rw [hfst]
      obtain ⟨c, hc, _, hk⟩ := fstI_lt hfst
      obtain ⟨x, e, hx, rfl, he⟩ := (hr1.same s3).of hc
      have hcc := R c (List.mem_of_getElem? hc)
      refine ⟨_, rfl, rfl, _, rfl, iteF ⟨_, rfl, rfl, _, rfl, ?_⟩⟩
      by_cases h2 : d = 2000
      · rw [decide_eq_true (show V.int (d : Int) = V.int 2000 by rw [h2]; rfl)]
        exact iteT ⟨(by show 1 ≤ sizeLine; decide), q2 (by omega) H4 ((s1.trans s3).trans s4)⟩
      rw [decide_eq_false (show ¬ V.int (d : Int) = V.int 2000 from fun z => by injection z with z; omega)]
      refine iteF ?_
      refine ⟨_, rfl, _, rfl, _, rfl, l, cu, ys, rowsOf fs, S d, c, kf d, rfl, s4 _ _ (s3 _ _ hl1), (hr1.same s3).same s4, hyl, s4 _ _ hcu, hc10.1, hc10.2, R, B, hc, fun H5 o s5 hS hT => ?_⟩
      have s35 := s4.trans s5
      have hS1 : StR (rowsOf fs) (S d) c (kf d) (some 1) := by
        refine ⟨fun t ht => ?_, ?_⟩
        · have : t = 0 := by omega
          subst this
          rw [show ((0 : Nat) : Int) = 0 from rfl, mvd_zero hc10.1 hcc]
          exact hfst
        · rw [show ((1 : Nat) : Int) = 1 from rfl, ← U.nxt d c hc, U.fst (d + 1)]
          intro z
          exact U.ne d (Option.some.inj z)
      have eo := st_uniq hS1 hS
      subst eo
      refine ⟨fun σ' H' => σ' = [some (.ref b), some (.ref a), some (.int m), some (.ref l), some (.ref cu), some (.int (d : Int)), some (.int (d : Int)), some (.int ((kf d : Nat) : Int)), some (.int 1)] ∧ H5 = H', ?_, ?_⟩
      · refine ⟨_, rfl, rfl, _, rfl, iteF ⟨_, rfl, _, rfl, _, rfl, _, _, rfl, rfl, _, _, rfl, rfl, _, rfl, ite2 (fun h' => ?_) (fun h' => ?_)⟩⟩
        · have hgt : ((1 : Nat) : Int) > m - d := of_decide_eq_true h'
          omega
        · exact ⟨rfl, rfl⟩
      rintro σ' H' ⟨rfl, rfl⟩
      refine ⟨_, rfl, _, rfl, _, rfl, l, _, _, _, rfl, rfl, SqL.of (s35 _ _ (s3 _ _ hl1)), atI_of (Int.natCast_nonneg _) (by rw [Int.toNat_natCast]; exact hx), _, rfl, cu, e, S d, c, 1, rfl, s35 _ _ hcu, s35 _ _ he, ⟨by omega, by omega⟩, by omega, fun p H6 s6 hp6 => ?_⟩
      refine ⟨_, rfl, _, rfl, _, _, rfl, rfl, _, rfl, _, _, rfl, rfl, ⟨p, d + 1, _, _, rfl, (s3.trans s35).trans s6, by rw [U.nxt d c hc]; exact hp6, by omega, by omega⟩, ?_⟩
      show m.toNat - ((d : Int) + 1).toNat < m.toNat - ((d : Int)).toNat
      omega
    · have h0 : ¬ (d : Int) < m := fun z => h (decide_eq_true z)
      have e : d = m.toNat := by omega
      subst e
      exact ⟨_, rfl, q1 (by omega) cu H3 (s1.trans s3) hcu⟩
/-! ### leap, a stretch without an end -/
def sp_leapE : Sp := fun vs H Q _ => ∃ (b a : Addr) (xs : List V) (fs : List (Int × Int)) (ps c : List Int) (k : Nat) (m : Int), vs = [.ref b, .ref a, .int m] ∧ H b = some (.tup xs) ∧ FrcsV H xs fs ∧ xs.length ≤ 1000 ∧ H a = some (tupI ps) ∧ ps.length = 10 ∧ nn ps = true ∧ (rowsOf fs)[k]? = some c ∧ StR (rowsOf fs) ps c k none ∧ 0 ≤ m ∧ m < 2 ^ 62 ∧
  ∀ q' H', Same H H' → H' q' = some (tupI (mvd ps c m)) → Q (.ref q') H'
theorem ok_leapE (T : Tx K mg) : FnOk P w K mg base (CXE P w) 5 T.f_leap T.fd_leap ["program", "powers", "many"] sp_leapE := by
  refine T.D_leap.fn.okX sc_leap (fun vs H Q E h => ?_) (fun cdv A outer s H vs Q E hr h => ?_)
  · obtain ⟨b, a, xs, fs, ps, c, k, m, rfl, _⟩ := h
    rfl
  · obtain ⟨b, a, xs, fs, ps, c, k, m, rfl, hb, hf, hl, ha, hp10, hnn, hc, hSt, m0, TB, q⟩ := h
    refine ⟨_, (qss_cons (qs_set (i := 3) sc_leap.nd rfl (Or.inl rfl) (qe_call (ok_changes_of T) (hr.mono (by decide)) rfl T.D_changes_of.at_ T.D_changes_of.fn.kp T.D_changes_of.bd .nil pass0 (qa_c (qv 0) qa_nil)))
      (qss_cons (qs_set (i := 4) sc_leap.nd rfl (Or.inl rfl) (qv 1))
      (qss_cons (qs_set (i := 5) sc_leap.nd rfl (Or.inl rfl) qe_int)
      (qss_cons (qs_set (i := 6) sc_leap.nd rfl (Or.inl rfl) qe_int)
      (qss_cons (qs_while PassesOwn.leaving (qt_cmpR op_lt (qv 5) (qv 2) (nomark _))
        (qss_cons (qs_set (i := 7) sc_leap.nd rfl (Or.inl rfl) (qe_call (ok_first_of T) (hr.mono (by decide)) rfl T.D_first_of.at_ T.D_first_of.fn.kp T.D_first_of.bd .nil pass0 (qa_c (qv 3) (qa_c (qv 4) qa_nil))))
      (qss_cons (qs_if (qt_cmpR op_isN (qv 7) qe_non (nomark _))
        (qss_one qs_never)
        qss_nil)
      (qss_cons (qs_if (qt_cmpR op_eq (qv 6) (qe_globC (by rfl) T.g_MOST_STRETCHES) (nomark _))
        (qss_one (qs_raise xok_cx rfl rfl T.E_TooMany (by rfl) (qa_c qe_str qa_nil)))
        qss_nil)
      (qss_cons (qs_set (i := 8) sc_leap.nd rfl (Or.inl rfl) (qe_call (ok_stretch_steps T) (hr.mono (by decide)) rfl T.D_stretch_steps.at_ T.D_stretch_steps.fn.kp T.D_stretch_steps.bd .nil pass0 (qa_c (qv 3) (qa_c (qv 4) (qa_c (qv 7) qa_nil)))))
      (qss_cons (qs_ifJ (QW.pt (qw_or (qt_cmpR op_isN (qv 8) qe_non (nomark _)) (qw_or1 (qt_cmpR op_gt (qv 8) (qe_op op_sub (qv 2) (qv 5)) (nomark _)))))
        (qss_one (qs_set (i := 8) sc_leap.nd rfl (Or.inl rfl) (qe_op op_sub (qv 2) (qv 5))))
        qss_nil)
      (qss_cons (qs_set (i := 4) sc_leap.nd rfl (Or.inl rfl) (qe_call (ok_moved T) (hr.mono (by decide)) rfl T.D_moved.at_ T.D_moved.fn.kp T.D_moved.bd .nil pass0 (qa_c (qv 4) (qa_c (qe_ix ix_list (qv 3) (qv 7) (fun _ _ => rfl)) (qa_c (qv 8) qa_nil)))))
      (qss_cons (qs_set (i := 5) sc_leap.nd rfl (Or.inl rfl) (qe_op op_add (qv 5) (qv 8)))
      (qss_one (qs_set (i := 6) sc_leap.nd rfl (Or.inl rfl) (qe_op op_add (qv 6) qe_int)))))))))))
      (qss_one (qs_ret (qv 4)))))))), ?_⟩
    refine ⟨_, rfl, b, xs, fs, rfl, hb, hf, hl, fun l H1 ys fl s1 hl1 hr1 => ?_⟩
    have R := rowsOf_10 fs
    have B := rows_RB hf
    have hcc := R c (List.mem_of_getElem? hc)
    have hyl : ys.length ≤ 1000 := by rw [hr1.1, rowsOf_len, ← hf.1]; exact hl
    refine ⟨_, rfl, ?_⟩
    refine while_own (fun σ H3 => ∃ (cu : Addr) (d st : Int) (u v : Option V), σ = [some (.ref b), some (.ref a), some (.int m), some (.ref l), some (.ref cu), some (.int d), some (.int st), u, v] ∧ Same H1 H3 ∧ ((d = 0 ∧ st = 0 ∧ H3 cu = some (tupI ps)) ∨ (d = m ∧ H3 cu = some (tupI (mvd ps c m)))))
      (fun σ _ => m.toNat - cnt5 σ) ⟨a, 0, 0, none, none, rfl, Same.refl H1, .inl ⟨rfl, rfl, s1 _ _ ha⟩⟩ ?_
    rintro σ H3 ⟨cu, d, st, u, v, rfl, s3, hI⟩
    refine ⟨_, rfl, _, rfl, _, _, rfl, rfl, _, rfl, ite2 (fun h => ?_) (fun h => ?_)⟩
    · have h0 : d < m := of_decide_eq_true h
      rcases hI with ⟨rfl, rfl, hcu⟩ | ⟨z, _⟩
      · refine whN ⟨_, rfl, _, rfl, l, cu, ys, rowsOf fs, ps, rfl, s3 _ _ hl1, hr1.same s3, hcu, fun H4 s4 => ?_⟩
        have hfst : fstI (rowsOf fs) ps = some k := by
          have := hSt 0
          rwa [show ((0 : Nat) : Int) = 0 from rfl, mvd_zero hp10 hcc] at this
        rw [hfst]
        obtain ⟨x, e, hx, rfl, he⟩ := (hr1.same s3).of hc
        refine ⟨_, rfl, rfl, _, rfl, iteF ⟨_, rfl, rfl, _, rfl, ?_⟩⟩
        rw [decide_eq_false (show ¬ V.int (0 : Int) = V.int 2000 from fun z => by injection z with z; omega)]
        refine iteF ?_
        refine ⟨_, rfl, _, rfl, _, rfl, l, cu, ys, rowsOf fs, ps, c, k, rfl, s4 _ _ (s3 _ _ hl1), (hr1.same s3).same s4, hyl, s4 _ _ hcu, hp10, hnn, R, B, hc, fun H5 o s5 hS hT => ?_⟩
        obtain rfl : o = none := by
          cases o with
          | none => rfl
          | some t => exact absurd (hSt t) hS.2
        have s35 := s4.trans s5
        refine ⟨fun σ' H' => σ' = [some (.ref b), some (.ref a), some (.int m), some (.ref l), some (.ref cu), some (.int 0), some (.int 0), some (.int (k : Int)), some (.int m)] ∧ H5 = H', ?_, ?_⟩
        · refine ⟨_, rfl, rfl, _, rfl, iteT (iteT ⟨_, rfl, _, rfl, _, _, rfl, rfl, ?_, rfl⟩)⟩
          show [some (V.ref b), some (V.ref a), some (V.int m), some (V.ref l), some (V.ref cu), some (V.int 0), some (V.int 0), some (V.int (k : Int)), some (V.int (m - 0))] = [some (V.ref b), some (V.ref a), some (V.int m), some (V.ref l), some (V.ref cu), some (V.int 0), some (V.int 0), some (V.int (k : Int)), some (V.int m)]
          rw [Int.sub_zero]
        rintro σ' H' ⟨rfl, rfl⟩
        refine ⟨_, rfl, _, rfl, _, rfl, l, _, _, _, rfl, rfl, SqL.of (s35 _ _ (s3 _ _ hl1)), atI_of (Int.natCast_nonneg k) (by rw [Int.toNat_natCast]; exact hx), _, rfl, cu, e, ps, c, m, rfl, s35 _ _ hcu, s35 _ _ he, ⟨by omega, by omega⟩, by omega, fun p H6 s6 hp6 => ?_⟩
        refine ⟨_, rfl, _, rfl, _, _, rfl, rfl, _, rfl, _, _, rfl, rfl, ⟨p, 0 + m, 0 + 1, _, _, rfl, (s3.trans s35).trans s6, .inr ⟨by omega, hp6⟩⟩, ?_⟩
        show m.toNat - ((0 : Int) + m).toNat < m.toNat - (0 : Int).toNat
        omega
      · omega
    · have h0 : ¬ d < m := fun z => h (decide_eq_true z)
      rcases hI with ⟨rfl, _, hcu⟩ | ⟨rfl, hcu⟩
      · have e : m = 0 := by omega
        subst e
        exact ⟨_, rfl, q cu H3 (s1.trans s3) (by rw [mvd_zero hp10 hcc]; exact hcu)⟩
      · exact ⟨_, rfl, q cu H3 (s1.trans s3) hcu⟩
end
end W2

set_option Elab.async false
set_option linter.all false
set_option maxRecDepth 100000
set_option maxHeartbeats 4000000
namespace W2
open PySem L2 Mth Xn
theorem b_ValueError : bootBuiltins "ValueError" = some (.type "ValueError") := by decide +kernel
theorem call_isXN {X : Cx} {K : PySem.W.Frag} (hK : X.K = K) : CallR X (.builtin "isinstance") (rIsX K) := by
  subst hK
  exact call_isX
section
variable {P : Program} {w : World} {K : PySem.W.Frag} {mg : Str → Option Value} {base : Heap}
/-! ### _law_same -/
def scalV : V → Bool
  | .non => true
  | .bl _ => true
  | .int _ => true
  | .str _ => true
  | _ => false
theorem kind_scal {H : Hp} {v : V} (h : scalV v = true) : kindV H v := by
  cases v <;> first | trivial | cases h
def sp_same0 : Sp := fun vs H Q _ => ∃ found due, vs = [found, due] ∧ kindV H found ∧ scalV due = true ∧ Q (.bl (decide (found = due))) H
theorem ok_sameF (T : Tx K mg) : FnOk P w K mg base CX0 2 T.f_l_same T.fd_l_same ["found", "due"] (fun _ _ _ _ => False) := ok_never
theorem ok_l_same0 (T : Tx K mg) : FnOk P w K mg base CX0 3 T.f_l_same T.fd_l_same ["found", "due"] sp_same0 := by
  refine T.D_l_same.fn.okQ sc_l_same (fun vs H Q E h => ?_) (fun cdv A outer s H vs Q E hr h => ?_)
  · obtain ⟨found, due, rfl, _⟩ := h
    rfl
  · obtain ⟨found, due, rfl, kf, sd, q⟩ := h
    refine ⟨_, (qss_cons (qs_if (qt_cmpR op_isN (qv 1) qe_non (nomark _))
        (qss_one (qs_ret (qe_cmpR op_isN (qv 0) qe_non (nomark _))))
        qss_nil)
      (qss_cons (qs_if (qt_val (qe_callB call_isi (by rfl) T.m_isinstance b_isinstance (qa_c (qv 1) (qa_c (qe_ty (by rfl) T.m_bool b_bool) qa_nil))))
        (qss_one (qs_ret (qe_and (qe_callB call_isi (by rfl) T.m_isinstance b_isinstance (qa_c (qv 0) (qa_c (qe_ty (by rfl) T.m_bool b_bool) qa_nil))) (qe_one (qe_cmpR op_eq (qv 0) (qv 1) (nomark _))))))
        qss_nil)
      (qss_cons (qs_if (qt_val (qe_callB call_isi (by rfl) T.m_isinstance b_isinstance (qa_c (qv 1) (qa_c (qe_ty (by rfl) T.m_int b_int) qa_nil))))
        (qss_one (qs_ret (qe_and (qe_call (ok_l_whole T) (hr.mono (by decide)) rfl T.D_l_whole.at_ T.D_l_whole.fn.kp T.D_l_whole.bd .nil pass0 (qa_c (qv 0) qa_nil)) (qe_one (qe_cmpR op_eq (qv 0) (qv 1) (nomark _))))))
        qss_nil)
      (qss_cons (qs_if (qt_val (qe_callB call_isi (by rfl) T.m_isinstance b_isinstance (qa_c (qv 1) (qa_c (qe_ty (by rfl) T.m_str b_str) qa_nil))))
        (qss_one (qs_ret (qe_and (qe_callB call_isi (by rfl) T.m_isinstance b_isinstance (qa_c (qv 0) (qa_c (qe_ty (by rfl) T.m_str b_str) qa_nil))) (qe_one (qe_cmpR op_eq (qv 0) (qv 1) (nomark _))))))
        qss_nil)
      (qss_cons (qs_if (QW.pt (qw_or (qt_cmpR op_ne (qe_callB call_isi (by rfl) T.m_isinstance b_isinstance (qa_c (qv 1) (qa_c (qe_ty (by rfl) T.m_tuple b_tuple) qa_nil))) (qe_callB call_isi (by rfl) T.m_isinstance b_isinstance (qa_c (qv 0) (qa_c (qe_ty (by rfl) T.m_tuple b_tuple) qa_nil))) (nomark _)) (qw_or1 (qt_cmpR op_ne (qe_callB call_isi (by rfl) T.m_isinstance b_isinstance (qa_c (qv 1) (qa_c (qe_ty (by rfl) T.m_list b_list) qa_nil))) (qe_callB call_isi (by rfl) T.m_isinstance b_isinstance (qa_c (qv 0) (qa_c (qe_ty (by rfl) T.m_list b_list) qa_nil))) (nomark _)))))
        (qss_one (qs_ret qe_bl))
        qss_nil)
      (qss_one (qs_ret (qe_and (qe_cmpR op_eq (qe_callB call_len_seq (by rfl) T.m_len b_len (qa_c (qv 0) qa_nil)) (qe_callB call_len_seq (by rfl) T.m_len b_len (qa_c (qv 1) qa_nil)) (nomark _)) (qe_one (qe_callB (call_all rfl) (by rfl) T.m_all b_all (qa_c (qe_comp (compOk_of (osc := defScope s_l_same) (XN := ["found", "due"]) (N := ["one", "other"]) (js := [none, none]) rfl rfl rfl (List.forall_mem_nil _) (by decide +kernel) rfl) rfl (qi_zip rfl rfl T.m_zip (qa_c (qv 0) (qa_c (qv 1) qa_nil))) (fun _ _ _ _ => (qg_tupN (K := K) (n := 2) rfl rfl (qgs_cons (qg_name (i := 0) (show List.Nodup (["one", "other"] : List Str) from by decide +kernel) rfl (Or.inl rfl) (Or.inr rfl)) (qgs_cons (qg_name (i := 1) (show List.Nodup (["one", "other"] : List Str) from by decide +kernel) rfl (Or.inl rfl) (Or.inr rfl)) qgs_nil)))) (fun _ _ _ _ => qts_nil)
          (fun _ _ _ _ => (qe_call (ok_sameF T) (hr.mono (by decide)) rfl T.D_l_same.at_ T.D_l_same.fn.kp T.D_l_same.bd .nil pass0 (qa_c (qv 0) (qa_c (qv 1) qa_nil))))) qa_nil))))))))))), ?_⟩
    refine ⟨_, rfl, rfl, _, rfl, ?_⟩
    obtain ⟨tb, tyb, eb⟩ := isi_B (K := K) (H := H) (kind_scal (H := H) sd)
    obtain ⟨ti, tyi, ei⟩ := isi_I (K := K) (H := H) (kind_scal (H := H) sd)
    obtain ⟨ts, tys, es⟩ := isi_S (K := K) (H := H) (kind_scal (H := H) sd)
    obtain ⟨fb, fyb, feb⟩ := isi_B (K := K) kf
    obtain ⟨fs, fys, fes⟩ := isi_S (K := K) kf
    cases due with
    | non => exact iteT ⟨_, rfl, rfl, q⟩
    | bl b =>
      refine iteF ⟨_, rfl, _, "bool", tb, _, rfl, tyb, eb, _, rfl, iteT ?_⟩
      refine ⟨_, rfl, _, "bool", fb, _, rfl, fyb, feb, _, rfl, ?_⟩
      cases found with
      | bl c => exact iteT ⟨_, rfl, _, rfl, rfl, q⟩
      | non => exact iteF q
      | int i => exact iteF q
      | str x => exact iteF q
      | ref a => exact iteF q
      | byt _ => exact False.elim kf
      | flt _ => exact False.elim kf
      | ty _ => exact False.elim kf
    | int i =>
      refine iteF ⟨_, rfl, _, "bool", tb, _, rfl, tyb, eb, _, rfl, iteF ?_⟩
      refine ⟨_, rfl, _, "int", ti, _, rfl, tyi, ei, _, rfl, iteT ?_⟩
      refine ⟨_, rfl, found, rfl, kf, _, rfl, ?_⟩
      cases found with
      | int j => exact iteT ⟨_, rfl, _, rfl, rfl, q⟩
      | non => exact iteF q
      | bl i => exact iteF q
      | str x => exact iteF q
      | ref a => exact iteF q
      | byt _ => exact False.elim kf
      | flt _ => exact False.elim kf
      | ty _ => exact False.elim kf
    | str x =>
      refine iteF ⟨_, rfl, _, "bool", tb, _, rfl, tyb, eb, _, rfl, iteF ?_⟩
      refine ⟨_, rfl, _, "int", ti, _, rfl, tyi, ei, _, rfl, iteF ?_⟩
      refine ⟨_, rfl, _, "str", ts, _, rfl, tys, es, _, rfl, iteT ?_⟩
      refine ⟨_, rfl, _, "str", fs, _, rfl, fys, fes, _, rfl, ?_⟩
      cases found with
      | str y => exact iteT ⟨_, rfl, _, rfl, rfl, q⟩
      | non => exact iteF q
      | bl i => exact iteF q
      | int x => exact iteF q
      | ref a => exact iteF q
      | byt _ => exact False.elim kf
      | flt _ => exact False.elim kf
      | ty _ => exact False.elim kf
    | _ => cases sd
/-- two lists of things, item by item -/
def sameL : List V → List V → Bool
  | [], [] => true
  | x :: xs, y :: ys => decide (x = y) && sameL xs ys
  | _, _ => false
theorem sameL_eq : ∀ xs ys : List V, sameL xs ys = decide (xs = ys)
  | [], [] => rfl
  | [], _ :: _ => rfl
  | _ :: _, [] => rfl
  | x :: xs, y :: ys => by
    show (decide (x = y) && sameL xs ys) = _
    rw [sameL_eq xs ys]
    by_cases h1 : x = y
    · by_cases h2 : xs = ys
      · rw [h1, h2]; simp
      · rw [decide_eq_false h2, Bool.and_false, decide_eq_false]
        intro z; injection z with _ z; exact h2 z
    · rw [decide_eq_false h1, Bool.false_and, decide_eq_false]
      intro z; injection z with z _; exact h1 z
theorem all_zip : ∀ (xs ys : List V), xs.length = ys.length → ((xs.zip ys).map fun p => decide (p.1 = p.2)).all id = decide (xs = ys)
  | [], [], _ => rfl
  | [], _ :: _, h => by cases h
  | _ :: _, [], h => by cases h
  | x :: xs, y :: ys, h => by
    rw [← sameL_eq]
    show (decide (x = y) && ((xs.zip ys).map fun p => decide (p.1 = p.2)).all id) = (decide (x = y) && sameL xs ys)
    rw [all_zip xs ys (by simpa using h), sameL_eq]
def sp_same1 : Sp := fun vs H Q _ => ∃ (found : V) (b : Addr) (ys : List V), vs = [found, .ref b] ∧ wf1 H found ∧ H b = some (.tup ys) ∧ ys.length ≤ 1000 ∧ (∀ y ∈ ys, scalV y = true) ∧ ∀ H', Same H H' → Q (.bl (decide (isT H found = some ys))) H'
theorem ok_l_same1 (T : Tx K mg) : FnOk P w K mg base CX0 4 T.f_l_same T.fd_l_same ["found", "due"] sp_same1 := by
  refine T.D_l_same.fn.okQ sc_l_same (fun vs H Q E h => ?_) (fun cdv A outer s H vs Q E hr h => ?_)
  · obtain ⟨found, b, ys, rfl, _⟩ := h
    rfl
  · obtain ⟨found, b, ys, rfl, ⟨kf, kfp⟩, hb, hyl, hys, q⟩ := h
    refine ⟨_, (qss_cons (qs_if (qt_cmpR op_isN (qv 1) qe_non (nomark _))
        (qss_one (qs_ret (qe_cmpR op_isN (qv 0) qe_non (nomark _))))
        qss_nil)
      (qss_cons (qs_if (qt_val (qe_callB call_isi (by rfl) T.m_isinstance b_isinstance (qa_c (qv 1) (qa_c (qe_ty (by rfl) T.m_bool b_bool) qa_nil))))
        (qss_one (qs_ret (qe_and (qe_callB call_isi (by rfl) T.m_isinstance b_isinstance (qa_c (qv 0) (qa_c (qe_ty (by rfl) T.m_bool b_bool) qa_nil))) (qe_one (qe_cmpR op_eq (qv 0) (qv 1) (nomark _))))))
        qss_nil)
      (qss_cons (qs_if (qt_val (qe_callB call_isi (by rfl) T.m_isinstance b_isinstance (qa_c (qv 1) (qa_c (qe_ty (by rfl) T.m_int b_int) qa_nil))))
        (qss_one (qs_ret (qe_and (qe_call (ok_l_whole T) (hr.mono (by decide)) rfl T.D_l_whole.at_ T.D_l_whole.fn.kp T.D_l_whole.bd .nil pass0 (qa_c (qv 0) qa_nil)) (qe_one (qe_cmpR op_eq (qv 0) (qv 1) (nomark _))))))
        qss_nil)
      (qss_cons (qs_if (qt_val (qe_callB call_isi (by rfl) T.m_isinstance b_isinstance (qa_c (qv 1) (qa_c (qe_ty (by rfl) T.m_str b_str) qa_nil))))
        (qss_one (qs_ret (qe_and (qe_callB call_isi (by rfl) T.m_isinstance b_isinstance (qa_c (qv 0) (qa_c (qe_ty (by rfl) T.m_str b_str) qa_nil))) (qe_one (qe_cmpR op_eq (qv 0) (qv 1) (nomark _))))))
        qss_nil)
      (qss_cons (qs_if (QW.pt (qw_or (qt_cmpR op_ne (qe_callB call_isi (by rfl) T.m_isinstance b_isinstance (qa_c (qv 1) (qa_c (qe_ty (by rfl) T.m_tuple b_tuple) qa_nil))) (qe_callB call_isi (by rfl) T.m_isinstance b_isinstance (qa_c (qv 0) (qa_c (qe_ty (by rfl) T.m_tuple b_tuple) qa_nil))) (nomark _)) (qw_or1 (qt_cmpR op_ne (qe_callB call_isi (by rfl) T.m_isinstance b_isinstance (qa_c (qv 1) (qa_c (qe_ty (by rfl) T.m_list b_list) qa_nil))) (qe_callB call_isi (by rfl) T.m_isinstance b_isinstance (qa_c (qv 0) (qa_c (qe_ty (by rfl) T.m_list b_list) qa_nil))) (nomark _)))))
        (qss_one (qs_ret qe_bl))
        qss_nil)
      (qss_one (qs_ret (qe_and (qe_cmpR op_eq (qe_callB call_len_seq (by rfl) T.m_len b_len (qa_c (qv 0) qa_nil)) (qe_callB call_len_seq (by rfl) T.m_len b_len (qa_c (qv 1) qa_nil)) (nomark _)) (qe_one (qe_callB (call_all rfl) (by rfl) T.m_all b_all (qa_c (qe_comp (compOk_of (osc := defScope s_l_same) (XN := ["found", "due"]) (N := ["one", "other"]) (js := [none, none]) rfl rfl rfl (List.forall_mem_nil _) (by decide +kernel) rfl) rfl (qi_zip rfl rfl T.m_zip (qa_c (qv 0) (qa_c (qv 1) qa_nil))) (fun _ _ _ _ => (qg_tupN (K := K) (n := 2) rfl rfl (qgs_cons (qg_name (i := 0) (show List.Nodup (["one", "other"] : List Str) from by decide +kernel) rfl (Or.inl rfl) (Or.inr rfl)) (qgs_cons (qg_name (i := 1) (show List.Nodup (["one", "other"] : List Str) from by decide +kernel) rfl (Or.inl rfl) (Or.inr rfl)) qgs_nil)))) (fun _ _ _ _ => qts_nil)
          (fun _ _ _ _ => (qe_call (ok_l_same0 T) (hr.mono (by decide)) rfl T.D_l_same.at_ T.D_l_same.fn.kp T.D_l_same.bd .nil pass0 (qa_c (qv 0) (qa_c (qv 1) qa_nil))))) qa_nil))))))))))), ?_⟩
    have kd : kindV H (.ref b) := kind_tup hb
    obtain ⟨tb, tyb, eb⟩ := isi_B (K := K) kd
    obtain ⟨ti, tyi, ei⟩ := isi_I (K := K) kd
    obtain ⟨ts, tys, es⟩ := isi_S (K := K) kd
    obtain ⟨tt, tyt, et⟩ := isi_T (K := K) kd
    obtain ⟨tl, tyl, el⟩ := isi_L (K := K) kd
    obtain ⟨ft, fyt, fet⟩ := isi_T (K := K) kf
    obtain ⟨fl, fyl, fel⟩ := isi_L (K := K) kf
    have eT : isT H (.ref b) = some ys := isT_ref hb
    have eL : isL H (.ref b) = false := by show lstO (H b) = false; rw [hb]; rfl
    refine ⟨_, rfl, rfl, _, rfl, iteF ?_⟩
    refine ⟨_, rfl, _, "bool", tb, _, rfl, tyb, eb, _, rfl, iteF ?_⟩
    refine ⟨_, rfl, _, "int", ti, _, rfl, tyi, ei, _, rfl, iteF ?_⟩
    refine ⟨_, rfl, _, "str", ts, _, rfl, tys, es, _, rfl, iteF ?_⟩
    refine ⟨_, rfl, _, "tuple", tt, _, rfl, tyt, et, _, rfl, _, "tuple", ft, _, rfl, fyt, fet, rfl, _, rfl, ?_⟩
    rw [eT]
    cases hT : isT H found with
    | none =>
      refine iteT (iteT ?_)
      have q' := q H (Same.refl H)
      rw [hT] at q'
      exact q'
    | some xs =>
      obtain ⟨a, rfl, ha⟩ := isT_some hT
      obtain ⟨hxl, hxk⟩ := kfp xs hT
      have fL : isL H (.ref a) = false := by show lstO (H a) = false; rw [ha]; rfl
      refine iteF ⟨_, rfl, _, "list", tl, _, rfl, tyl, el, _, rfl, _, "list", fl, _, rfl, fyl, fel, rfl, _, rfl, ?_⟩
      rw [eL, fL]
      refine iteF ?_
      refine ⟨_, rfl, a, xs, rfl, .inr (SqT.of ha), _, rfl, b, ys, rfl, .inr (SqT.of hb), rfl, _, rfl, ?_⟩
      by_cases hle : xs.length = ys.length
      · rw [show decide (V.int ((xs.length : Nat) : Int) = V.int ((ys.length : Nat) : Int)) = true by rw [hle]; simp]
        refine iteT ?_
        refine ⟨_, rfl, _, rfl, a, b, rfl, ⟨_, SqT.of ha⟩, ⟨_, SqT.of hb⟩, fun D hD => ?_⟩
        refine comp_zip (K := K) (a := a) (b := b) (xs := xs) (ys := ys) (by rw [sizeLine_eq]; omega) (fun i σ' H' zs => (∃ u v : Option V, σ' = [u, v]) ∧ Same H H' ∧ zs = (((xs.zip ys).take i).map fun p => decide (p.1 = p.2)).map V.bl) ⟨⟨_, _, rfl⟩, Same.new hD, rfl⟩ (fun i σ' H' zs _ ⟨_, s', _⟩ => ⟨SqT.of (s' _ _ ha), SqT.of (s' _ _ hb)⟩) ?_ ?_
        · rintro i x y p σ' H' zs R hx hy hp hD' hzl ⟨⟨u, v, rfl⟩, s', rfl⟩ kk
          refine ⟨p, _, rfl, SqT.of upd_same, rfl, _, _, rfl, _, _, rfl, rfl, ?_⟩
          have sp : Same H (upd H' p (.tup [x, y])) := Same.more s' hp
          refine ⟨_, rfl, _, rfl, x, y, rfl, Same.kind sp (hxk x (List.mem_of_getElem? hx)), hys y (List.mem_of_getElem? hy), ?_⟩
          refine kk _ _ _ ?_ ⟨⟨_, _, rfl⟩, ?_, ?_⟩
          · rw [upd_ne (ne_of_none hD' hp)]; exact hD'
          · intro c o e
            rw [upd_ne (ne_of_none e hD)]
            exact sp c o e
          · have hz : (xs.zip ys)[i]? = some (x, y) := by
              rw [List.getElem?_zip_eq_some]
              exact ⟨hx, hy⟩
            rw [take_map_succ hz, List.map_append]
            rfl
        · rintro σ' H' zs hD' hzl ⟨_, s', rfl⟩
          refine ⟨D, _, rfl, SqL.of hD', ?_⟩
          have e1 : (xs.zip ys).take (min xs.length ys.length) = xs.zip ys := List.take_of_length_le (by rw [List.length_zip]; exact Nat.le_refl _)
          rw [e1, all_zip xs ys hle]
          have q' := q H' s'
          rw [hT] at q'
          have e2 : decide (some xs = some ys) = decide (xs = ys) := by
            by_cases z : xs = ys
            · rw [z]; simp
            · rw [decide_eq_false z, decide_eq_false]
              intro y; injection y with y; exact z y
          rw [e2] at q'
          exact q'
      · rw [show decide (V.int ((xs.length : Nat) : Int) = V.int ((ys.length : Nat) : Int)) = false from decide_eq_false (fun z => hle (by injection z with z; omega))]
        refine iteF ?_
        have q' := q H (Same.refl H)
        rw [hT, decide_eq_false (fun z => hle (by injection z with z; rw [z]))] at q'
        exact q'
def sp_l_same : Sp := fun vs H Q E => sp_same0 vs H Q E ∨ sp_same1 vs H Q E
theorem ok_l_same (T : Tx K mg) : FnOk P w K mg base CX0 4 T.f_l_same T.fd_l_same ["found", "due"] sp_l_same := FnOk.or ((ok_l_same0 T).mono (by decide)) (ok_l_same1 T)
/-! ### _law_same, two tuples of scalars and rows -/
theorem wf1_row {H : Hp} {p : Addr} {es : List Int} (hp : H p = some (tupI es)) (hl : es.length ≤ 1000) : wf1 H (.ref p) := wf1_tup hp (by rw [List.length_map]; exact hl) fun x hx => by
  obtain ⟨i, _, rfl⟩ := List.mem_map.mp hx
  trivial
theorem scal_row {es : List Int} : ∀ y ∈ es.map V.int, scalV y = true := fun x hx => by
  obtain ⟨i, _, rfl⟩ := List.mem_map.mp hx
  rfl
def PairOk (H : Hp) (x y : V) : Prop := (x = y ∧ scalV x = true) ∨ ∃ a b c, x = .ref a ∧ y = .ref b ∧ H a = some (tupI c) ∧ H b = some (tupI c) ∧ c.length ≤ 1000
def sp_sameN : Sp := fun vs H Q _ => ∃ (l d : Addr) (xs ys : List V), vs = [.ref l, .ref d] ∧ H l = some (.tup xs) ∧ H d = some (.tup ys) ∧ xs.length = ys.length ∧ xs.length ≤ 1000 ∧ (∀ (i : Nat) x y, xs[i]? = some x → ys[i]? = some y → PairOk H x y) ∧ ∀ H', Same H H' → Q (.bl true) H'
theorem ok_l_sameN (T : Tx K mg) : FnOk P w K mg base CX0 5 T.f_l_same T.fd_l_same ["found", "due"] sp_sameN := by
  refine T.D_l_same.fn.okQ sc_l_same (fun vs H Q E h => ?_) (fun cdv A outer s H vs Q E hr h => ?_)
  · obtain ⟨l, d, xs, ys, rfl, _⟩ := h
    rfl
  · obtain ⟨l, d, xs, ys, rfl, hl, hd, hle, hxl, hP, q⟩ := h
    refine ⟨_, (qss_cons (qs_if (qt_cmpR op_isN (qv 1) qe_non (nomark _))
        (qss_one (qs_ret (qe_cmpR op_isN (qv 0) qe_non (nomark _))))
        qss_nil)
      (qss_cons (qs_if (qt_val (qe_callB call_isi (by rfl) T.m_isinstance b_isinstance (qa_c (qv 1) (qa_c (qe_ty (by rfl) T.m_bool b_bool) qa_nil))))
        (qss_one (qs_ret (qe_and (qe_callB call_isi (by rfl) T.m_isinstance b_isinstance (qa_c (qv 0) (qa_c (qe_ty (by rfl) T.m_bool b_bool) qa_nil))) (qe_one (qe_cmpR op_eq (qv 0) (qv 1) (nomark _))))))
        qss_nil)
      (qss_cons (qs_if (qt_val (qe_callB call_isi (by rfl) T.m_isinstance b_isinstance (qa_c (qv 1) (qa_c (qe_ty (by rfl) T.m_int b_int) qa_nil))))
        (qss_one (qs_ret (qe_and (qe_call (ok_l_whole T) (hr.mono (by decide)) rfl T.D_l_whole.at_ T.D_l_whole.fn.kp T.D_l_whole.bd .nil pass0 (qa_c (qv 0) qa_nil)) (qe_one (qe_cmpR op_eq (qv 0) (qv 1) (nomark _))))))
        qss_nil)
      (qss_cons (qs_if (qt_val (qe_callB call_isi (by rfl) T.m_isinstance b_isinstance (qa_c (qv 1) (qa_c (qe_ty (by rfl) T.m_str b_str) qa_nil))))
        (qss_one (qs_ret (qe_and (qe_callB call_isi (by rfl) T.m_isinstance b_isinstance (qa_c (qv 0) (qa_c (qe_ty (by rfl) T.m_str b_str) qa_nil))) (qe_one (qe_cmpR op_eq (qv 0) (qv 1) (nomark _))))))
        qss_nil)
      (qss_cons (qs_if (QW.pt (qw_or (qt_cmpR op_ne (qe_callB call_isi (by rfl) T.m_isinstance b_isinstance (qa_c (qv 1) (qa_c (qe_ty (by rfl) T.m_tuple b_tuple) qa_nil))) (qe_callB call_isi (by rfl) T.m_isinstance b_isinstance (qa_c (qv 0) (qa_c (qe_ty (by rfl) T.m_tuple b_tuple) qa_nil))) (nomark _)) (qw_or1 (qt_cmpR op_ne (qe_callB call_isi (by rfl) T.m_isinstance b_isinstance (qa_c (qv 1) (qa_c (qe_ty (by rfl) T.m_list b_list) qa_nil))) (qe_callB call_isi (by rfl) T.m_isinstance b_isinstance (qa_c (qv 0) (qa_c (qe_ty (by rfl) T.m_list b_list) qa_nil))) (nomark _)))))
        (qss_one (qs_ret qe_bl))
        qss_nil)
      (qss_one (qs_ret (qe_and (qe_cmpR op_eq (qe_callB call_len_seq (by rfl) T.m_len b_len (qa_c (qv 0) qa_nil)) (qe_callB call_len_seq (by rfl) T.m_len b_len (qa_c (qv 1) qa_nil)) (nomark _)) (qe_one (qe_callB (call_all rfl) (by rfl) T.m_all b_all (qa_c (qe_comp (compOk_of (osc := defScope s_l_same) (XN := ["found", "due"]) (N := ["one", "other"]) (js := [none, none]) rfl rfl rfl (List.forall_mem_nil _) (by decide +kernel) rfl) rfl (qi_zip rfl rfl T.m_zip (qa_c (qv 0) (qa_c (qv 1) qa_nil))) (fun _ _ _ _ => (qg_tupN (K := K) (n := 2) rfl rfl (qgs_cons (qg_name (i := 0) (show List.Nodup (["one", "other"] : List Str) from by decide +kernel) rfl (Or.inl rfl) (Or.inr rfl)) (qgs_cons (qg_name (i := 1) (show List.Nodup (["one", "other"] : List Str) from by decide +kernel) rfl (Or.inl rfl) (Or.inr rfl)) qgs_nil)))) (fun _ _ _ _ => qts_nil)
          (fun _ _ _ _ => (qe_call (ok_l_same T) (hr.mono (by decide)) rfl T.D_l_same.at_ T.D_l_same.fn.kp T.D_l_same.bd .nil pass0 (qa_c (qv 0) (qa_c (qv 1) qa_nil))))) qa_nil))))))))))), ?_⟩
    have kd : kindV H (.ref d) := kind_tup hd
    have kf : kindV H (.ref l) := kind_tup hl
    obtain ⟨tb, tyb, eb⟩ := isi_B (K := K) kd
    obtain ⟨ti, tyi, ei⟩ := isi_I (K := K) kd
    obtain ⟨ts, tys, es⟩ := isi_S (K := K) kd
    obtain ⟨tt, tyt, et⟩ := isi_T (K := K) kd
    obtain ⟨tl, tyl, el⟩ := isi_L (K := K) kd
    obtain ⟨ft, fyt, fet⟩ := isi_T (K := K) kf
    obtain ⟨fl, fyl, fel⟩ := isi_L (K := K) kf
    have eL : isL H (.ref d) = false := by show lstO (H d) = false; rw [hd]; rfl
    have fL : isL H (.ref l) = false := by show lstO (H l) = false; rw [hl]; rfl
    refine ⟨_, rfl, rfl, _, rfl, iteF ?_⟩
    refine ⟨_, rfl, _, "bool", tb, _, rfl, tyb, eb, _, rfl, iteF ?_⟩
    refine ⟨_, rfl, _, "int", ti, _, rfl, tyi, ei, _, rfl, iteF ?_⟩
    refine ⟨_, rfl, _, "str", ts, _, rfl, tys, es, _, rfl, iteF ?_⟩
    refine ⟨_, rfl, _, "tuple", tt, _, rfl, tyt, et, _, rfl, _, "tuple", ft, _, rfl, fyt, fet, rfl, _, rfl, ?_⟩
    rw [isT_ref hd, isT_ref hl]
    refine iteF ⟨_, rfl, _, "list", tl, _, rfl, tyl, el, _, rfl, _, "list", fl, _, rfl, fyl, fel, rfl, _, rfl, ?_⟩
    rw [eL, fL]
    refine iteF ?_
    refine ⟨_, rfl, l, xs, rfl, .inr (SqT.of hl), _, rfl, d, ys, rfl, .inr (SqT.of hd), rfl, _, rfl, ?_⟩
    rw [show decide (V.int ((xs.length : Nat) : Int) = V.int ((ys.length : Nat) : Int)) = true by rw [hle]; simp]
    refine iteT ?_
    refine ⟨_, rfl, _, rfl, l, d, rfl, ⟨_, SqT.of hl⟩, ⟨_, SqT.of hd⟩, fun D hD => ?_⟩
    refine comp_zip (K := K) (a := l) (b := d) (xs := xs) (ys := ys) (by rw [sizeLine_eq]; omega) (fun i σ' H' zs => (∃ u v : Option V, σ' = [u, v]) ∧ Same H H' ∧ zs = (List.replicate i true).map V.bl) ⟨⟨_, _, rfl⟩, Same.new hD, rfl⟩ (fun i σ' H' zs _ ⟨_, s', _⟩ => ⟨SqT.of (s' _ _ hl), SqT.of (s' _ _ hd)⟩) ?_ ?_
    · rintro i x y p σ' H' zs R' hx' hy' hp hD' hzl ⟨⟨u, v, rfl⟩, s', rfl⟩ kk
      refine ⟨p, _, rfl, SqT.of upd_same, rfl, _, _, rfl, _, _, rfl, rfl, ?_⟩
      have sp : Same H (upd H' p (.tup [x, y])) := Same.more s' hp
      refine ⟨_, rfl, _, rfl, ?_⟩
      have fin : ∀ H5, Same (upd H' p (.tup [x, y])) H5 → R' [some x, some y] (.bl true) H5 := fun H5 s5 => by
        refine kk _ _ _ ?_ ⟨⟨_, _, rfl⟩, ?_, ?_⟩
        · refine s5 _ _ ?_
          rw [upd_ne (ne_of_none hD' hp)]; exact hD'
        · intro c2 o e
          rw [upd_ne (ne_of_none e hD)]
          exact s5 _ _ (sp c2 o e)
        · rw [List.replicate_succ', List.map_append]
          rfl
      rcases hP i x y hx' hy' with ⟨rfl, hs⟩ | ⟨a, b, c, rfl, rfl, ha, hb, hc⟩
      · refine .inl ⟨x, x, rfl, kind_scal hs, hs, ?_⟩
        rw [decide_eq_true rfl]
        exact fin _ (Same.refl _)
      · refine .inr ⟨_, b, c.map V.int, rfl, wf1_row (sp _ _ ha) hc, sp _ _ hb, by rw [List.length_map]; exact hc, scal_row, fun H5 s5 => ?_⟩
        rw [isT_ref (sp _ _ ha), decide_eq_true rfl]
        exact fin H5 s5
    · rintro σ' H' zs hD' hzl ⟨_, s', rfl⟩
      refine ⟨D, _, rfl, SqL.of hD', ?_⟩
      rw [show (List.replicate (min xs.length ys.length) true).all id = true by simp]
      exact q H' s'
def sp_sameX : Sp := fun vs H Q E => sp_same0 vs H Q E ∨ sp_sameN vs H Q E
theorem ok_l_sameX (T : Tx K mg) : FnOk P w K mg base CX0 5 T.f_l_same T.fd_l_same ["found", "due"] sp_sameX := FnOk.or ((ok_l_same0 T).mono (by decide)) (ok_l_sameN T)
/-! ### _law_kind_of -/
def kindWords : List Str := ["rest", "deed", "name", "number", "order", "powers", "program", "row", "text", "trail", "shared", "many"]
structure KindAt (T : Tx K mg) (C : Addr) (i : Nat) : Prop where
  xc : PySem.W.XcIs K C
  ve : PySem.W.kitOne K (.ref C) (.type "ValueError") = some true
  k0 : PySem.W.kitOne K (.ref C) (.ref T.c_AtRest) = some (i == 0)
  k1 : PySem.W.kitOne K (.ref C) (.ref T.c_NoDeed) = some (i == 1)
  k2 : PySem.W.kitOne K (.ref C) (.ref T.c_NoName) = some (i == 2)
  k3 : PySem.W.kitOne K (.ref C) (.ref T.c_NoNumber) = some (i == 3)
  k4 : PySem.W.kitOne K (.ref C) (.ref T.c_NoOrder) = some (i == 4)
  k5 : PySem.W.kitOne K (.ref C) (.ref T.c_NoPowers) = some (i == 5)
  k6 : PySem.W.kitOne K (.ref C) (.ref T.c_NoProgram) = some (i == 6)
  k7 : PySem.W.kitOne K (.ref C) (.ref T.c_NoRow) = some (i == 7)
  k8 : PySem.W.kitOne K (.ref C) (.ref T.c_NoText) = some (i == 8)
  k9 : PySem.W.kitOne K (.ref C) (.ref T.c_NoTrail) = some (i == 9)
  k10 : PySem.W.kitOne K (.ref C) (.ref T.c_Shared) = some (i == 10)
  k11 : PySem.W.kitOne K (.ref C) (.ref T.c_TooMany) = some (i == 11)
abbrev twelve (i : Nat) : List Bool := [i == 0, i == 1, i == 2, i == 3, i == 4, i == 5, i == 6, i == 7, i == 8, i == 9, i == 10, i == 11]
theorem twelve_count : ∀ i, i < 12 → (twelve i).count true = 1 := by decide
theorem twelve_at : ∀ i, i < 12 → (twelve i)[i]? = some true := by decide
theorem twelve_ahead : ∀ i, i < 12 → ∀ m, m < i → (twelve i)[m]? = some (!true) := by decide
def sp_l_kind_of (T : Tx K mg) : Sp := fun vs H Q _ => ∃ (e C : Addr) (i : Nat) (x : Str), vs = [.ref e] ∧ H e = some (excO e C none) ∧ KindAt T C i ∧ i < 12 ∧ kindWords[i]? = some x ∧ ∀ H', Same H H' → Q (.str x) H'
theorem okU_l_kind_of (T : Tx K mg) : FnOkU P w K mg base 1 T.f_l_kind_of T.fd_l_kind_of ["e"] (sp_l_kind_of T) := by
  refine T.D_l_kind_of.fn.okU sc_l_kind_of (fun vs H Q E h => ?_) (fun cdv A outer s H vs Q E hr h => ?_)
  · obtain ⟨e, C, i, x, rfl, _⟩ := h
    rfl
  · obtain ⟨e, C, i, x, rfl, he, k, hi, hx, q⟩ := h
    refine ⟨_, (qss_cons (qs_set (i := 1) sc_l_kind_of.nd rfl (Or.inl rfl) (qe_lstA (qa_c (qe_callB call_isX (by rfl) T.m_isinstance b_isinstance (qa_c (qv 0) (qa_c (qe_glob (v := .ref T.c_AtRest) (by rfl) T.k_AtRest rfl) qa_nil))) (qa_c (qe_callB call_isX (by rfl) T.m_isinstance b_isinstance (qa_c (qv 0) (qa_c (qe_glob (v := .ref T.c_NoDeed) (by rfl) T.k_NoDeed rfl) qa_nil))) (qa_c (qe_callB call_isX (by rfl) T.m_isinstance b_isinstance (qa_c (qv 0) (qa_c (qe_glob (v := .ref T.c_NoName) (by rfl) T.k_NoName rfl) qa_nil))) (qa_c (qe_callB call_isX (by rfl) T.m_isinstance b_isinstance (qa_c (qv 0) (qa_c (qe_glob (v := .ref T.c_NoNumber) (by rfl) T.k_NoNumber rfl) qa_nil))) qa_nil))))))
      (qss_cons (qs_set (i := 1) sc_l_kind_of.nd rfl (Or.inl rfl) (qe_op op_catLA (qv 1) (qe_lstA (qa_c (qe_callB call_isX (by rfl) T.m_isinstance b_isinstance (qa_c (qv 0) (qa_c (qe_glob (v := .ref T.c_NoOrder) (by rfl) T.k_NoOrder rfl) qa_nil))) (qa_c (qe_callB call_isX (by rfl) T.m_isinstance b_isinstance (qa_c (qv 0) (qa_c (qe_glob (v := .ref T.c_NoPowers) (by rfl) T.k_NoPowers rfl) qa_nil))) (qa_c (qe_callB call_isX (by rfl) T.m_isinstance b_isinstance (qa_c (qv 0) (qa_c (qe_glob (v := .ref T.c_NoProgram) (by rfl) T.k_NoProgram rfl) qa_nil))) (qa_c (qe_callB call_isX (by rfl) T.m_isinstance b_isinstance (qa_c (qv 0) (qa_c (qe_glob (v := .ref T.c_NoRow) (by rfl) T.k_NoRow rfl) qa_nil))) qa_nil)))))))
      (qss_cons (qs_set (i := 1) sc_l_kind_of.nd rfl (Or.inl rfl) (qe_op op_catLA (qv 1) (qe_lstA (qa_c (qe_callB call_isX (by rfl) T.m_isinstance b_isinstance (qa_c (qv 0) (qa_c (qe_glob (v := .ref T.c_NoText) (by rfl) T.k_NoText rfl) qa_nil))) (qa_c (qe_callB call_isX (by rfl) T.m_isinstance b_isinstance (qa_c (qv 0) (qa_c (qe_glob (v := .ref T.c_NoTrail) (by rfl) T.k_NoTrail rfl) qa_nil))) (qa_c (qe_callB call_isX (by rfl) T.m_isinstance b_isinstance (qa_c (qv 0) (qa_c (qe_glob (v := .ref T.c_Shared) (by rfl) T.k_Shared rfl) qa_nil))) (qa_c (qe_callB call_isX (by rfl) T.m_isinstance b_isinstance (qa_c (qv 0) (qa_c (qe_glob (v := .ref T.c_TooMany) (by rfl) T.k_TooMany rfl) qa_nil))) qa_nil)))))))
      (qss_cons (qs_if (QW.pt (qw_or (qt_cmpR op_ne (qe_bm PySem.F.plainAttrs_list PySem.F.slot_list_count PySem.F.type_list_count mt_countB (qv 1) (qa_c qe_bl qa_nil)) qe_int (nomark _)) (qw_or1 (qt_not (qt_val (qe_callB call_isX (by rfl) T.m_isinstance b_isinstance (qa_c (qv 0) (qa_c (qe_ty (by rfl) T.m_ValueError b_ValueError) qa_nil))))))))
        (qss_one (qs_ret qe_str))
        qss_nil)
      (qss_cons (qs_set (i := 2) sc_l_kind_of.nd rfl (Or.inl rfl) (qe_lstA (qa_c qe_str (qa_c qe_str (qa_c qe_str (qa_c qe_str (qa_c qe_str (qa_c qe_str (qa_c qe_str (qa_c qe_str qa_nil))))))))))
      (qss_cons (qs_set (i := 2) sc_l_kind_of.nd rfl (Or.inl rfl) (qe_op op_catLA (qv 2) (qe_lstA (qa_c qe_str (qa_c qe_str (qa_c qe_str (qa_c qe_str qa_nil)))))))
      (qss_one (qs_ret (qe_ix ix_list (qv 2) (qe_bm PySem.F.plainAttrs_list PySem.F.slot_list_index PySem.F.type_list_index mt_indexB (qv 1) (qa_c qe_bl qa_nil)) (fun _ _ => rfl)))))))))), ?_⟩
    have xc := k.xc
    refine ⟨_, rfl, e, C, _, _, _, rfl, he, rfl, xc, k.k0, _, rfl, e, C, _, _, _, rfl, he, rfl, xc, k.k1, _, rfl, e, C, _, _, _, rfl, he, rfl, xc, k.k2, _, rfl, e, C, _, _, _, rfl, he, rfl, xc, k.k3, (by show 4 ≤ sizeLine; decide), fun l1 H1 f1 s1 hl1 => ?_⟩
    have he1 := s1 _ _ he
    refine ⟨_, rfl, _, rfl, e, C, _, _, _, rfl, he1, rfl, xc, k.k4, _, rfl, e, C, _, _, _, rfl, he1, rfl, xc, k.k5, _, rfl, e, C, _, _, _, rfl, he1, rfl, xc, k.k6, _, rfl, e, C, _, _, _, rfl, he1, rfl, xc, k.k7, (by show 4 ≤ sizeLine; decide), fun l2 H2 f2 s2 hl2 => ⟨l1, l2, _, _, rfl, rfl, s2 _ _ hl1, hl2, (by show 8 ≤ sizeLine; decide), fun l3 H3 f3 s3 hl3 => ?_⟩⟩
    have he3 := s3 _ _ (s2 _ _ he1)
    refine ⟨_, rfl, _, rfl, e, C, _, _, _, rfl, he3, rfl, xc, k.k8, _, rfl, e, C, _, _, _, rfl, he3, rfl, xc, k.k9, _, rfl, e, C, _, _, _, rfl, he3, rfl, xc, k.k10, _, rfl, e, C, _, _, _, rfl, he3, rfl, xc, k.k11, (by show 4 ≤ sizeLine; decide), fun l4 H4 f4 s4 hl4 => ⟨l3, l4, _, _, rfl, rfl, s4 _ _ hl3, hl4, (by show 12 ≤ sizeLine; decide), fun l5 H5 f5 s5 hl5 => ?_⟩⟩
    have he5 := s5 _ _ (s4 _ _ he3)
    have hl : H5 l5 = some (.lst ((twelve i).map V.bl)) := hl5
    refine ⟨_, rfl, .inl ⟨rfl, _, SqL.of hl⟩, l5, twelve i, true, rfl, rfl, hl, rfl, _, rfl, iteNS (by rw [twelve_count i hi]; rfl) ?_⟩
    refine ⟨_, rfl, e, C, _, _, _, rfl, he5, rfl, xc, k.ve, _, rfl, iteF ?_⟩
    refine ⟨(by show 8 ≤ sizeLine; decide), fun w1 H6 f6 s6 hw1 => ?_⟩
    refine ⟨_, rfl, (by show 4 ≤ sizeLine; decide), fun w2 H7 f7 s7 hw2 => ⟨w1, w2, _, _, rfl, rfl, s7 _ _ hw1, hw2, (by show 12 ≤ sizeLine; decide), fun w3 H8 f8 s8 hw3 => ?_⟩⟩
    have hl8 : H8 l5 = some (.lst ((twelve i).map V.bl)) := s8 _ _ (s7 _ _ (s6 _ _ hl))
    have hw : H8 w3 = some (.lst (kindWords.map V.str)) := hw3
    have hat : (kindWords.map V.str)[i]? = some (.str x) := by rw [List.getElem?_map, hx]; rfl
    exact ⟨_, rfl, _, rfl, .inl ⟨rfl, _, SqL.of hl8⟩, l5, twelve i, true, i, rfl, rfl, hl8, twelve_at i hi, twelve_ahead i hi, (by show 12 ≤ 1000; decide), w3, _, _, _, rfl, rfl, SqL.of hw, atI_nat hat, q H8 (((((((s1.trans s2).trans s3).trans s4).trans s5).trans s6).trans s7).trans s8)⟩
theorem kind_many (T : Tx K mg) : KindAt T T.c_TooMany 11 := ⟨T.X_TooMany, T.V_TooMany, T.q_TooMany_AtRest, T.q_TooMany_NoDeed, T.q_TooMany_NoName, T.q_TooMany_NoNumber, T.q_TooMany_NoOrder, T.q_TooMany_NoPowers, T.q_TooMany_NoProgram, T.q_TooMany_NoRow, T.q_TooMany_NoText, T.q_TooMany_NoTrail, T.q_TooMany_Shared, T.q_TooMany_TooMany⟩

/-! ### _law_told_by, many -/
def wTold (T : Tx K mg) (Q : VK) : XK := fun Cv d H1 => d = none ∧ Cv = .ref T.c_TooMany ∧ ∀ H', Same H1 H' → Q (.str "many") H'
def sp_leap16 (CT : Addr) : Sp := fun vs H Q E => sp_leapU CT vs H Q E ∨ sp_leapE vs H Q E
theorem ok_leap16 (T : Tx K mg) : FnOk P w K mg base (CXE P w) 5 T.f_leap T.fd_leap ["program", "powers", "many"] (sp_leap16 T.c_TooMany) := FnOk.or (ok_leapU T) (ok_leapE T)
def sp_told16 (f : Addr) : Sp := fun vs H Q _ => (∃ (b a : Addr) (xs : List V) (fs : List (Int × Int)) (ps : List Int) (S : Nat → List Int) (kf : Nat → Nat) (m : Int), vs = [.ref f, .ref b, .ref a, .int m] ∧ H b = some (.tup xs) ∧ FrcsV H xs fs ∧ xs.length ≤ 1000 ∧ H a = some (tupI ps) ∧ Unit1 (rowsOf fs) ps S kf ∧ 0 ≤ m ∧
  (m ≤ 2000 → ∀ q' H', Same H H' → H' q' = some (tupI (S m.toNat)) → Q (.ref q') H') ∧ (2000 < m → ∀ H', Same H H' → Q (.str "many") H')) ∨
  (∃ (b a : Addr) (xs : List V) (fs : List (Int × Int)) (ps c : List Int) (k : Nat) (m : Int), vs = [.ref f, .ref b, .ref a, .int m] ∧ H b = some (.tup xs) ∧ FrcsV H xs fs ∧ xs.length ≤ 1000 ∧ H a = some (tupI ps) ∧ ps.length = 10 ∧ nn ps = true ∧ (rowsOf fs)[k]? = some c ∧ StR (rowsOf fs) ps c k none ∧ 0 ≤ m ∧ m < 2 ^ 62 ∧
  ∀ q' H', Same H H' → H' q' = some (tupI (mvd ps c m)) → Q (.ref q') H')
theorem ok_told_by (T : Tx K mg) {f : Addr} {fd : FuncData} (F : FnOk P w K mg base (CXE P w) 5 f fd ["program", "powers", "many"] (sp_leap16 T.c_TooMany)) (hk : PySem.W.keepIn K (.ref f) = true) (hbd : Binds K fd ["program", "powers", "many"] []) : FnOk P w K mg base CX0 7 T.f_l_told_by T.fd_l_told_by ["call", "program", "line", "many"] (sp_told16 f) := by
  refine T.D_l_told_by.fn.okQ sc_l_told_by (fun vs H Q E h => ?_) (fun cdv A outer s H vs Q E hr h => ?_)
  · rcases h with ⟨b, a, xs, fs, ps, S, kf, m, rfl, _⟩ | ⟨b, a, xs, fs, ps, c, k, m, rfl, _⟩ <;> rfl
  · refine ⟨_, (qss_one (qs_try (E := (wTold T Q)) (i := 4) rfl rfl rfl T.E_FractError (by rfl) sc_l_told_by.nd rfl rfl (fun _ _ xk => (qss_one (qs_ret (qe_callV (i := 0) F (hr.mono (by decide)) rfl (by first | exact Or.inl rfl | exact Or.inr (Or.inl rfl) | exact Or.inr (Or.inr rfl)) hk hbd (passX rfl xk) (qa_c (qv 1) (qa_c (qv 2) (qa_c (qv 3) qa_nil)))))))
        (fun _ => (qss_cons (qs_if (qt_val (qe_callB (call_isXN (K := K) rfl) (by rfl) T.m_isinstance b_isinstance (qa_c (qv 4) (qa_c (qe_glob (v := .ref T.c_AtRest) (by rfl) T.k_AtRest rfl) qa_nil))))
        (qss_one qs_never)
        qss_nil)
      (qss_one (qs_ret (qe_callU (okU_l_kind_of T) ((hr.mark _).mono (by decide)) rfl T.D_l_kind_of.at_ T.D_l_kind_of.fn.kp T.D_l_kind_of.bd (qa_c (qv 4) qa_nil)))))))), ?_⟩
    rcases h with ⟨b, a, xs, fs, ps, S, kf, m, rfl, hb, hf, hl, ha, U, m0, q1, q2⟩ | ⟨b, a, xs, fs, ps, c, k, m, rfl, hb, hf, hl, ha, hp10, hnn, hc, hSt, m0, TB, q0⟩
    · refine ⟨⟨rfl, _, rfl, _, rfl, _, rfl, .inl ⟨b, a, xs, fs, ps, S, kf, m, rfl, hb, hf, hl, ha, U, m0, q1, fun hm H' s' => ⟨rfl, rfl, fun H2 s2 => q2 hm H2 (s'.trans s2)⟩⟩⟩, ?_⟩
      rintro C d H1 ⟨rfl, hC, q⟩
      cases hC
      refine ⟨T.U_TooMany, fun e σ1 he hσ => ?_⟩
      have hv : (σ1.set 4 (some (V.ref e)))[4]? = some (some (.ref e)) := List.getElem?_set_self hσ
      refine ⟨_, hv, e, T.c_TooMany, _, _, _, rfl, upd_same, rfl, T.X_TooMany, T.q_TooMany_AtRest, _, rfl, iteF ?_⟩
      exact ⟨_, hv, e, T.c_TooMany, 11, "many", rfl, upd_same, kind_many T, by decide, rfl, fun H' s' => q H' ((Same.new he).trans s')⟩
    · refine ⟨⟨rfl, _, rfl, _, rfl, _, rfl, .inr ⟨b, a, xs, fs, ps, c, k, m, rfl, hb, hf, hl, ha, hp10, hnn, hc, hSt, m0, TB, q0⟩⟩, ?_⟩
      rintro C d H1 ⟨rfl, hC, q⟩
      cases hC
      refine ⟨T.U_TooMany, fun e σ1 he hσ => ?_⟩
      have hv : (σ1.set 4 (some (V.ref e)))[4]? = some (some (.ref e)) := List.getElem?_set_self hσ
      refine ⟨_, hv, e, T.c_TooMany, _, _, _, rfl, upd_same, rfl, T.X_TooMany, T.q_TooMany_AtRest, _, rfl, iteF ?_⟩
      exact ⟨_, hv, e, T.c_TooMany, 11, "many", rfl, upd_same, kind_many T, by decide, rfl, fun H' s' => q H' ((Same.new he).trans s')⟩
theorem ok_by_leap (T : Tx K mg) : FnOk P w K mg base CX0 7 T.f_l_told_by T.fd_l_told_by ["call", "program", "line", "many"] (sp_told16 T.f_leap) := ok_told_by T (ok_leap16 T) T.D_leap.fn.kp T.D_leap.bd
end
end W2

set_option Elab.async false
set_option linter.all false
set_option maxRecDepth 100000
set_option maxHeartbeats 4000000
namespace W2
open PySem L2 Mth Xn
theorem But.sq {K : PySem.W.Frag} {H H' : Hp} {p a : Addr} {xs : List V} {o : HO} (hS : SqL K H a xs) (hp : H p = none) (bt : But p (L2.upd H p o) H') : SqL K H' a xs := by
  rcases hS with (h | ⟨u, h⟩) | h
  · exact .inl (.inl (bt _ _ (ne_of_none h hp) (by rw [upd_ne (ne_of_none h hp)]; exact h)))
  · exact .inl (.inr ⟨u, bt _ _ (ne_of_none h hp) (by rw [upd_ne (ne_of_none h hp)]; exact h)⟩)
  · exact .inr h
theorem row_pair {H : Hp} {c : List Int} : ∀ (i : Nat) (x y : V), (c.map V.int)[i]? = some x → (c.map V.int)[i]? = some y → PairOk H x y := by
  intro i x y hx hy
  rw [hx] at hy
  obtain ⟨e, rfl, _⟩ := map_int_get hx
  exact .inl ⟨Option.some.inj hy, rfl⟩
section
variable {P : Program} {w : World} {K : PySem.W.Frag} {mg : Str → Option Value} {base : Heap}
/-! ### _law_order, distinct -/
def sp_l_orderD : Sp := fun vs H Q _ => ∃ (a : Addr) (n wd : Int), vs = [.ref a, .int wd] ∧ H a = some (.lst [.int n]) ∧ 0 ≤ wd ∧ wd ≤ 100 ∧
  ∀ (p : Addr) (H' : Hp) (n' : Int) (ns : List Int), H p = none → But a H H' → H' a = some (.lst [.int n']) → H' p = some (.tup (ns.map V.int)) → ns.length = wd.toNat → (∀ m ∈ ns, 0 ≤ m ∧ m < wd) → ns.Nodup → Q (.ref p) H'
theorem ok_l_orderD (T : Tx K mg) : FnOk P w K mg base CX0 2 T.f_l_order T.fd_l_order ["pot", "wide"] sp_l_orderD := by
  refine T.D_l_order.fn.okQ sc_l_order (fun vs H Q E h => ?_) (fun cdv A outer s H vs Q E hr h => ?_)
  · obtain ⟨a, n, wd, rfl, _⟩ := h
    rfl
  · obtain ⟨a, n, wd, rfl, ha, h0, h1, q⟩ := h
    refine ⟨_, (qss_cons (qs_set (i := 2) sc_l_order.nd rfl (Or.inl rfl) (qe_lst qa_nil))
      (qss_cons (qs_for PassesOwn.never rfl (qi_range1 rfl T.m_range (qa_c (qv 1) qa_nil)) (qg_name (i := 3) sc_l_order.nd rfl (Or.inl rfl))
        (qss_one (qs_expr (qe_bm PySem.F.plainAttrs_list PySem.F.slot_list_insert PySem.F.type_list_insert mt_insert (qv 2) (qa_c (qe_call (ok_l_take T) (hr.mono (by decide)) rfl T.D_l_take.at_ T.D_l_take.fn.kp T.D_l_take.bd .nil pass0 (qa_c (qv 0) (qa_c (qe_op op_add (qv 3) qe_int) qa_nil))) (qa_c (qv 3) qa_nil))))))
      (qss_one (qs_ret (qe_callTy call_tuple_of (by rfl) T.m_tuple b_tuple (qa_c (qv 2) qa_nil)))))), ?_⟩
    refine ⟨(by show 0 ≤ sizeLine; decide), fun l hl => ?_⟩
    have nal : a ≠ l := ne_of_none ha hl
    refine ⟨_, rfl, wd, rfl, by omega, by omega, for_range (n := wd.toNat) (fun i σ H2 => ∃ (n' : Int) (ns : List Int) (u : Option V), σ = [some (.ref a), some (.int wd), some (.ref l), u] ∧ But a H H2 ∧ H2 a = some (.lst [.int n']) ∧ H2 l = some (.lst (ns.map V.int)) ∧ ns.length = i ∧ (∀ m ∈ ns, 0 ≤ m ∧ m < (i : Int)) ∧ ns.Nodup)
      ⟨n, [], none, rfl, fun b o _ e => by rw [upd_ne (ne_of_none e hl)]; exact e, by rw [upd_ne nal]; exact ha, upd_same, rfl, fun m hm => absurd hm (by simp), List.nodup_nil⟩ ?_ ?_⟩
    · rintro i σ H2 hi ⟨n', ns, u, rfl, bt, ha2, hl2, hn, hm, hnd⟩
      refine ⟨_, rfl, .inl ⟨rfl, _, SqL.of hl2⟩, _, rfl, _, rfl, _, _, rfl, rfl, a, n', _, rfl, ha2, by omega, by omega, _, rfl, l, _, _, _, rfl, rfl, by rw [upd_ne nal.symm]; exact hl2, ?_, ?_, ?_, ?_⟩
      · exact Int.emod_nonneg _ (by omega)
      · have := Int.emod_lt_of_pos n' (show (0 : Int) < 0 + (i : Int) + 1 by omega)
        omega
      · rw [List.length_map, hn, sizeLine_eq]; omega
      · refine ⟨n' / (0 + (i : Int) + 1), ns.take (min (n' % (0 + (i : Int) + 1)).toNat (ns.map V.int).length) ++ (0 + (i : Int)) :: ns.drop (min (n' % (0 + (i : Int) + 1)).toNat (ns.map V.int).length), _, rfl, ?_, ?_, ?_, ?_, ?_, ?_⟩
        · intro b o nb e
          rw [upd_ne (ne_of_none e hl), upd_ne nb]
          exact bt b o nb e
        · rw [upd_ne nal, upd_same]
        · rw [upd_same, List.map_append, List.map_cons, List.map_take, List.map_drop]
        · rw [List.length_append, List.length_cons, List.length_take, List.length_drop, List.length_map, hn]
          omega
        · intro m hm'
          rcases List.mem_append.mp hm' with z | z
          · have := hm m (List.mem_of_mem_take z); omega
          · rcases List.mem_cons.mp z with z | z
            · rw [z]; omega
            · have := hm m (List.mem_of_mem_drop z); omega
        · exact nodup_put _ hnd fun z => by have := hm _ z; omega
    · rintro σ H2 ⟨n', ns, u, rfl, bt, ha2, hl2, hn, hm, hnd⟩
      refine ⟨_, rfl, l, _, rfl, .inl ⟨SqL.of hl2, fun p hp => ?_⟩⟩
      have npa : p ≠ a := fun z => by rw [z, ha2] at hp; cases hp
      refine q p _ n' ns (bt.free hp npa) (bt.new hp) ?_ upd_same hn (fun m z => by have := hm m z; omega) hnd
      rw [upd_ne npa.symm]
      exact ha2
/-! ### _law_of -/
def addV (f : Nat → Int) (q : Nat × Int) : Nat → Int := fun i => if i = q.1 then f q.1 + q.2 else f i
def ofV (l : List (Nat × Int)) : Nat → Int := l.foldl addV fun _ => 0
def sp_l_of : Sp := fun vs H Q _ => ∃ (x y : Addr) (l : List (Nat × Int)), vs = [.ref x, .ref y] ∧ H x = some (.lst ((l.map fun q => ((q.1 : Nat) : Int)).map V.int)) ∧ H y = some (.lst ((l.map (·.2)).map V.int)) ∧ l.length ≤ 10 ∧ (∀ q ∈ l, q.1 < 10) ∧ ∀ p H', Same H H' → H' p = some (tupI (vec (ofV l))) → Q (.ref p) H'
theorem ok_l_of (T : Tx K mg) : FnOk P w K mg base CX0 1 T.f_l_of T.fd_l_of ["places", "often"] sp_l_of := by
  refine T.D_l_of.fn.okQ sc_l_of (fun vs H Q E h => ?_) (fun cdv A outer s H vs Q E hr h => ?_)
  · obtain ⟨x, y, l, rfl, _⟩ := h
    rfl
  · obtain ⟨x, y, l, rfl, hx, hy, hl, hq, q⟩ := h
    refine ⟨_, (qss_cons (qs_set (i := 2) sc_l_of.nd rfl (Or.inl rfl) (qe_op op_repLA (qe_lstA (qa_c qe_int qa_nil)) qe_int))
      (qss_cons (qs_for PassesOwn.never rfl (qi_zipL rfl rfl T.m_zip (qa_c (qv 0) (qa_c (qv 1) qa_nil))) (qg_tup rfl (qgs_cons (qg_name (i := 3) sc_l_of.nd rfl (Or.inl rfl)) (qgs_cons (qg_name (i := 4) sc_l_of.nd rfl (Or.inl rfl)) qgs_nil)))
        (qss_one (qs_asg (qe_op op_add (qe_ix ix_list (qv 2) (qv 3) (fun _ _ => rfl)) (qv 4)) (qg_sub (qv 2) (qv 3) set_list))))
      (qss_one (qs_ret (qe_callTy call_tuple_ofA (by rfl) T.m_tuple b_tuple (qa_c (qv 2) qa_nil)))))), ?_⟩
    refine ⟨(by show 1 ≤ sizeLine; decide), fun l0 H1 f1 s1 e1 => ⟨l0, 10, _, rfl, rfl, e1, by decide, by decide, by decide, fun fd' H2 f2 s2 e2 => ?_⟩⟩
    have e2' : H2 fd' = some (.lst ((vec fun _ => 0).map V.int)) := by
      rw [e2, ← rep_vec]
      rfl
    have s02 := s1.trans s2
    have ffd : H fd' = none := s1.free f2
    refine ⟨_, rfl, _, rfl, x, y, _, _, rfl, s02 _ _ hx, s02 _ _ hy, ?_⟩
    have nxf : x ≠ fd' := fun z => by rw [z, ffd] at hx; cases hx
    have nyf : y ≠ fd' := fun z => by rw [z, ffd] at hy; cases hy
    refine for_zipL (xs := (l.map fun q => ((q.1 : Nat) : Int)).map V.int) (ys := (l.map (·.2)).map V.int) (fun i σ HC => (∃ u v : Option V, σ = [some (.ref x), some (.ref y), some (.ref fd'), u, v]) ∧ But fd' H2 HC ∧ HC fd' = some (.lst ((vec (ofV (l.take i))).map V.int))) ⟨⟨none, none, rfl⟩, But.of (Same.refl _), e2'⟩ (fun i σ HC _ ⟨_, bC, _⟩ => ⟨bC _ _ nxf (s02 _ _ hx), bC _ _ nyf (s02 _ _ hy)⟩) ?_ ?_
    · rintro i a b p σ HC ha hb hp ⟨⟨u, v, rfl⟩, bC, hC⟩
      obtain ⟨a', rfl, ha'⟩ := map_int_get ha
      obtain ⟨b', rfl, hb'⟩ := map_int_get hb
      rw [List.getElem?_map] at ha' hb'
      cases hli : l[i]? with
      | none => rw [hli] at ha'; cases ha'
      | some qq =>
        rw [hli] at ha' hb'
        cases ha'
        cases hb'
        have hq10 := hq qq (List.mem_of_getElem? hli)
        refine ⟨p, _, rfl, SqT.of upd_same, rfl, _, _, rfl, _, _, rfl, rfl, ?_⟩
        have npf : fd' ≠ p := fun z => by rw [z, hp] at hC; cases hC
        have hC' : (upd HC p (.tup [.int ((qq.1 : Nat) : Int), .int qq.2])) fd' = some (.lst ((vec (ofV (l.take i))).map V.int)) := by rw [upd_ne npf]; exact hC
        have hat : atI ((vec (ofV (l.take i))).map V.int) ((qq.1 : Nat) : Int) = some (.int (ofV (l.take i) qq.1)) := atI_of (by omega) (by rw [Int.toNat_natCast, List.getElem?_map, vec_get hq10]; rfl)
        refine ⟨_, rfl, _, rfl, fd', _, _, _, rfl, rfl, SqL.of hC', hat, _, rfl, _, _, rfl, rfl, _, rfl, _, rfl, fd', _, _, qq.1, rfl, rfl, hC', ixN_of (show (0 : Int) ≤ ((qq.1 : Nat) : Int) by omega) (show ((qq.1 : Nat) : Int) < _ by rw [List.length_map, vec_len]; omega), ⟨⟨_, _, rfl⟩, ?_, ?_⟩⟩
        · intro c o nc eo
          rw [upd_ne nc]
          exact Same.new hp _ _ (bC _ _ nc eo)
        · rw [upd_same]
          have e3 : l.take (i + 1) = l.take i ++ [qq] := by rw [List.take_add_one, hli]; rfl
          unfold ofV
          rw [e3, List.foldl_append]
          show some (HO.lst (((vec ((l.take i).foldl addV fun _ => 0)).map V.int).set qq.1 (V.int (((l.take i).foldl addV fun _ => 0) qq.1 + qq.2)))) = _
          rw [← List.map_set, vec_set]
          rfl
    · rintro σ HC ⟨⟨u, v, rfl⟩, bC, hC⟩
      have e4 : l.take (min ((l.map fun q => ((q.1 : Nat) : Int)).map V.int).length ((l.map (·.2)).map V.int).length) = l := List.take_of_length_le (by simp)
      rw [e4] at hC
      have s0C : Same H HC := fun c o e => bC _ _ (ne_of_none e ffd) (s02 _ _ e)
      exact ⟨_, rfl, fd', _, rfl, SqL.of hC, fun p H5 f5 s5 e5 => q p H5 (s0C.trans s5) e5⟩
/-! ### law -/
theorem ofV_one {k : Nat} {v : Int} : vec (ofV [(k, v)]) = vec (fU k v) := vec_ext fun i _ => by
  show (if i = k then 0 + v else 0) = if i = k then v else 0
  split <;> omega
theorem ofV_two {k j : Nat} {v u : Int} : vec (ofV [(k, v), (j, u)]) = vec (fV k v j u) := vec_ext fun i _ => by
  show (if i = j then (if j = k then 0 + v else 0) + u else if i = k then 0 + v else 0) = if i = j then (if j = k then v else 0) + u else if i = k then v else 0
  (repeat' split) <;> omega
theorem sum_fU {k : Nat} {v : Int} (hv : 0 ≤ v ∧ v ≤ 2) : ((vec (fU k v)).map Int.toNat).sum ≤ 7 := by
  have : ∀ n : Nat, ((List.range n).map fun i => (fU k v i).toNat).sum ≤ if k < n then v.toNat else 0 := by
    intro n
    induction n with
    | zero => simp
    | succ n ih =>
      rw [List.range_succ, List.map_append, List.sum_append]
      show _ + ((if n = k then v else 0 : Int).toNat + 0) ≤ _
      by_cases e : n = k
      · subst e
        rw [if_neg (Nat.lt_irrefl _)] at ih
        rw [if_pos rfl, if_pos (Nat.lt_succ_self _)]
        omega
      · rw [if_neg e]
        by_cases g : k < n
        · rw [if_pos g] at ih
          rw [if_pos (by omega)]
          show _ + (Int.toNat 0 + 0) ≤ _
          have : Int.toNat 0 = 0 := rfl
          omega
        · rw [if_neg g] at ih
          rw [if_neg (by omega)]
          have : Int.toNat 0 = 0 := rfl
          omega
  have h := this 10
  unfold vec
  rw [List.map_map]
  refine Nat.le_trans h ?_
  split <;> omega
theorem sum_fV {k j : Nat} {v u : Int} (hk : k < 10) (hj : j < 10) (hv : 0 ≤ v ∧ v ≤ 1) (hu : 0 ≤ u ∧ u ≤ 1) (ne : k ≠ j) : ((vec (fV k v j u)).map Int.toNat).sum ≤ 7 := by
  have e : (vec (fV k v j u)).map Int.toNat = (((vec fun _ => 0).map Int.toNat).set k v.toNat).set j u.toNat := by
    rw [← List.map_set, vec_set, ← List.map_set, vec_set]
    congr 1
    apply vec_ext
    intro i _
    show (if i = j then (if j = k then v else 0) + u else if i = k then v else 0) = if i = j then u else if i = k then v else 0
    rw [if_neg (Ne.symm ne)]
    (repeat' split) <;> omega
  rw [e]
  have h1 := sum_set (((vec fun _ => 0).map Int.toNat).set k v.toNat) j u.toNat
  have h2 := sum_set ((vec fun _ => 0).map Int.toNat) k v.toNat
  have h3 : ((vec fun _ => 0).map Int.toNat).sum = 0 := by decide
  omega
theorem get_fU {f : Nat → Int} {i : Nat} (hi : i < 10) : ((vec f).map Int.toNat).getD i 0 = (f i).toNat := by
  rw [List.getD_eq_getElem?_getD, List.getElem?_map, vec_get hi]
  rfl
theorem get_out {f : Nat → Int} {i : Nat} (hi : 10 ≤ i) : ((vec f).map Int.toNat).getD i 0 = 0 := by
  rw [List.getD_eq_getElem?_getD, List.getElem?_eq_none (by rw [List.length_map, vec_len]; exact hi)]
  rfl
theorem bnd_vec {f : Nat → Int} (h : ∀ i, i < 10 → 0 ≤ f i ∧ f i ≤ 6) : ∀ e ∈ vec f, 0 ≤ e ∧ e < 2 ^ 62 := fun e he => by
  obtain ⟨i, hi, rfl⟩ := vec_mem he
  have := h i hi
  omega
theorem frcs_lit {H : Hp} {cs : List Addr} {fs : List (Int × Int)} (h : cs.length = fs.length) (hc : ∀ (k : Nat) c f, cs[k]? = some c → fs[k]? = some f → H c = some (.tup [.int f.1, .int f.2])) (hf : ∀ f ∈ fs, fracB f.1 f.2 = true) : FrcsV H (cs.map V.ref) fs := by
  refine ⟨by rw [List.length_map]; exact h, fun k x hx => ?_⟩
  rw [List.getElem?_map] at hx
  cases hck : cs[k]? with
  | none => rw [hck] at hx; cases hx
  | some c =>
    rw [hck] at hx
    cases hx
    have hk : k < fs.length := by rw [← h]; exact (List.getElem?_eq_some_iff.mp hck).1
    refine ⟨fs[k].1, fs[k].2, c, List.getElem?_eq_getElem hk, rfl, hc k c _ hck (List.getElem?_eq_getElem hk), hf _ (List.getElem_mem hk)⟩
theorem zero_or {f g : Nat → Int} (h : ∀ i, i < 10 → f i = 0 ∨ g i = 0) : ∀ k, ((vec f).map Int.toNat).getD k 0 = 0 ∨ ((vec g).map Int.toNat).getD k 0 = 0 := fun k => by
  by_cases hk : k < 10
  · rw [get_fU hk, get_fU hk]
    rcases h k hk with e | e
    · exact .inl (by rw [e]; rfl)
    · exact .inr (by rw [e]; rfl)
  · exact .inl (get_out (by omega))
abbrev fsHB (o h z : Nat) (mr : Int) : List (Int × Int) := [(((prod ((vec (fV h 1 z mr)).map Int.toNat) : Nat) : Int), ((prod ((vec (fU o 1)).map Int.toNat) : Nat) : Int)), (((prod ((vec (fU o 1)).map Int.toNat) : Nat) : Int), ((prod ((vec (fU h 1)).map Int.toNat) : Nat) : Int))]
abbrev fsE (h : Nat) : List (Int × Int) := [(((prod ((vec (fU h 2)).map Int.toNat) : Nat) : Int), 1)]
theorem fr_hb {o h z : Nat} {mr : Int} (n12 : o ≠ h) (n13 : o ≠ z) (n23 : h ≠ z) (h10 : h < 10) (z10 : z < 10) (m0 : 0 ≤ mr) (m1 : mr < 2) : ∀ f ∈ fsHB o h z mr, fracB f.1 f.2 = true := by
  intro f hf
  simp only [List.mem_cons, List.not_mem_nil, or_false] at hf
  rcases hf with rfl | rfl
  · refine fracB_prod7 (sum_fV h10 z10 ⟨by omega, by omega⟩ ⟨m0, by omega⟩ n23) (sum_fU ⟨by omega, by omega⟩) (zero_or fun i _ => ?_)
    unfold fV fU
    (repeat' split) <;> omega
  · refine fracB_prod7 (sum_fU ⟨by omega, by omega⟩) (sum_fU ⟨by omega, by omega⟩) (zero_or fun i _ => ?_)
    unfold fU
    (repeat' split) <;> omega
theorem fr_e {h : Nat} : ∀ f ∈ fsE h, fracB f.1 f.2 = true := by
  intro f hf
  rw [List.mem_singleton.mp hf]
  have e : (1 : Int) = ((prod ((vec fun _ => 0).map Int.toNat) : Nat) : Int) := by rw [prod_none]; rfl
  show fracB _ (1 : Int) = true
  rw [e]
  exact fracB_prod7 (sum_fU ⟨by omega, by omega⟩) (by decide) (zero_or fun i _ => .inr rfl)
theorem rows_hb {o h z : Nat} {mr : Int} (m0 : 0 ≤ mr) : rowsOf (fsHB o h z mr) = rHB o h z mr := by
  show [chg _ _, chg _ _] = _
  rw [Int.toNat_natCast, Int.toNat_natCast, Int.toNat_natCast, chg_prod, chg_prod]
  · rfl
  · intro i _; unfold fU; split <;> omega
  · intro i _; unfold fU; split <;> omega
  · intro i _; unfold fV; (repeat' split) <;> omega
  · intro i _; unfold fU; split <;> omega
theorem rows_e {h : Nat} : rowsOf (fsE h) = [vec (fU h 2)] := by
  show [chg (Int.toNat ((prod ((vec (fU h 2)).map Int.toNat) : Nat) : Int)) 1] = _
  have e : 1 = prod ((vec fun _ => 0).map Int.toNat) := prod_none.symm
  rw [Int.toNat_natCast, e, chg_prod]
  · congr 1
    apply vec_ext
    intro i _
    omega
  · intro i _; unfold fU; split <;> omega
  · intro i _; exact Int.le_refl _
theorem unit_hb {o h z : Nat} {mr : Int} (n12 : o ≠ h) (n13 : o ≠ z) (n23 : h ≠ z) (o10 : o < 10) (h10 : h < 10) (z10 : z < 10) (m0 : 0 ≤ mr) : Unit1 (rowsOf (fsHB o h z mr)) (vec (fU o 1)) (fun j => vec (sHB o h z mr j)) (fun j => j % 2) := by
  rw [rows_hb m0]
  exact ⟨hb_begin n12 n13 n23, fun j => ⟨vec_len _, hb_nn m0 j⟩, fun j => hb_fst n12 n13 n23 o10 h10 z10 m0 j, fun j => by show (j + 1) % 2 ≠ j % 2; omega, fun j c hc => hb_next n12 n13 n23 j c hc⟩
theorem two_at {o h : Nat} (n : Nat) : atI [V.int (o : Int), V.int (h : Int)] ((n : Int) % 2) = some (.int (((if n % 2 = 0 then o else h : Nat) : Nat) : Int)) := by
  have e : (n : Int) % 2 = ((n % 2 : Nat) : Int) := by omega
  rw [e]
  rcases Nat.mod_two_eq_zero_or_one n with g | g
  · rw [g]; rfl
  · rw [g]; rfl
abbrev kLaw : Nat := 9
def sp_law (K : PySem.W.Frag) : Sp := fun vs H Q _ => ∃ (a : Addr) (ns : List Int), vs = [.ref a] ∧ SqL K H a (ns.map V.int) ∧ ns.length ≤ 63 ∧ ∀ H', Q (.bl true) H'
/-- what is due -/
def DueM (o h z : Nat) (mr m : Int) (H : Hp) (d : V) : Prop := (m ≤ 2000 ∧ ∃ p, d = .ref p ∧ H p = some (tupI (vec (sHB o h z mr m.toNat)))) ∨ (2000 < m ∧ d = .str "many")
theorem ok_law (T : Tx K mg) {f : Addr} {fd : FuncData} (F : Fun K "law" "law" s_law f fd) : FnOk P w K mg base CX0 kLaw f fd ["script"] (sp_law K) := by
  refine F.okQ sc_law (fun vs H Q E h => ?_) (fun cdv A outer s H vs Q E hr h => ?_)
  · obtain ⟨a, ns, rfl, _⟩ := h
    rfl
  · obtain ⟨a, ns, rfl, hS, hlen, q⟩ := h
    refine ⟨_, (qss_cons (qs_for PassesOwn.never rfl (qi_range1 rfl T.m_range (qa_c (qe_callB (call_max2 rfl) (by rfl) T.m_max b_max (qa_c qe_int (qa_c (qe_callB (call_min2 rfl) (by rfl) T.m_min b_min (qa_c (qe_callB call_len_seq (by rfl) T.m_len b_len (qa_c (qv 0) qa_nil)) (qa_c qe_int qa_nil))) qa_nil))) qa_nil)) (qg_name (i := 1) sc_law.nd rfl (Or.inl rfl))
        (qss_cons (qs_set (i := 2) sc_law.nd rfl (Or.inl rfl) (qe_call (ok_l_pot T) (hr.mono (by decide)) rfl T.D_l_pot.at_ T.D_l_pot.fn.kp T.D_l_pot.bd .nil pass0 (qa_c (qe_call (ok_l_cell_at T) (hr.mono (by decide)) rfl T.D_l_cell_at.at_ T.D_l_cell_at.fn.kp T.D_l_cell_at.bd .nil pass0 (qa_c (qv 0) (qa_c (qv 1) qa_nil))) qa_nil)))
      (qss_cons (qs_asg (qe_slice sl_A (qe_call (ok_l_orderD T) (hr.mono (by decide)) rfl T.D_l_order.at_ T.D_l_order.fn.kp T.D_l_order.bd .nil pass0 (qa_c (qv 2) (qa_c qe_int qa_nil))) qo_none (qo_some qe_int)) (qg_tup rfl (qgs_cons (qg_name (i := 3) sc_law.nd rfl (Or.inl rfl)) (qgs_cons (qg_name (i := 4) sc_law.nd rfl (Or.inl rfl)) (qgs_cons (qg_name (i := 5) sc_law.nd rfl (Or.inl rfl)) qgs_nil)))))
      (qss_cons (qs_set (i := 6) sc_law.nd rfl (Or.inl rfl) (qe_call (ok_l_takeA T) (hr.mono (by decide)) rfl T.D_l_take.at_ T.D_l_take.fn.kp T.D_l_take.bd .nil pass0 (qa_c (qv 2) (qa_c qe_int qa_nil))))
      (qss_cons (qs_set (i := 7) sc_law.nd rfl (Or.inl rfl) (qe_tupA (qa_c (qe_call (ok_l_product T) (hr.mono (by decide)) rfl T.D_l_product.at_ T.D_l_product.fn.kp T.D_l_product.bd .nil pass0 (qa_c (qe_call (ok_l_of T) (hr.mono (by decide)) rfl T.D_l_of.at_ T.D_l_of.fn.kp T.D_l_of.bd .nil pass0 (qa_c (qe_lstA (qa_c (qv 4) (qa_c (qv 5) qa_nil))) (qa_c (qe_lstA (qa_c qe_int (qa_c (qv 6) qa_nil))) qa_nil))) qa_nil)) (qa_c (qe_call (ok_l_product T) (hr.mono (by decide)) rfl T.D_l_product.at_ T.D_l_product.fn.kp T.D_l_product.bd .nil pass0 (qa_c (qe_call (ok_l_of T) (hr.mono (by decide)) rfl T.D_l_of.at_ T.D_l_of.fn.kp T.D_l_of.bd .nil pass0 (qa_c (qe_lstA (qa_c (qv 3) qa_nil)) (qa_c (qe_lstA (qa_c qe_int qa_nil)) qa_nil))) qa_nil)) qa_nil))))
      (qss_cons (qs_set (i := 8) sc_law.nd rfl (Or.inl rfl) (qe_tupA (qa_c (qe_call (ok_l_product T) (hr.mono (by decide)) rfl T.D_l_product.at_ T.D_l_product.fn.kp T.D_l_product.bd .nil pass0 (qa_c (qe_call (ok_l_of T) (hr.mono (by decide)) rfl T.D_l_of.at_ T.D_l_of.fn.kp T.D_l_of.bd .nil pass0 (qa_c (qe_lstA (qa_c (qv 3) qa_nil)) (qa_c (qe_lstA (qa_c qe_int qa_nil)) qa_nil))) qa_nil)) (qa_c (qe_call (ok_l_product T) (hr.mono (by decide)) rfl T.D_l_product.at_ T.D_l_product.fn.kp T.D_l_product.bd .nil pass0 (qa_c (qe_call (ok_l_of T) (hr.mono (by decide)) rfl T.D_l_of.at_ T.D_l_of.fn.kp T.D_l_of.bd .nil pass0 (qa_c (qe_lstA (qa_c (qv 4) qa_nil)) (qa_c (qe_lstA (qa_c qe_int qa_nil)) qa_nil))) qa_nil)) qa_nil))))
      (qss_cons (qs_set (i := 9) sc_law.nd rfl (Or.inl rfl) (qe_call (ok_l_of T) (hr.mono (by decide)) rfl T.D_l_of.at_ T.D_l_of.fn.kp T.D_l_of.bd .nil pass0 (qa_c (qe_lstA (qa_c (qv 3) qa_nil)) (qa_c (qe_lstA (qa_c qe_int qa_nil)) qa_nil))))
      (qss_cons (qs_for PassesOwn.never rfl (qi_list (qe_lstA (qa_c (qe_op op_add qe_int (qe_call (ok_l_takeA T) (hr.mono (by decide)) rfl T.D_l_take.at_ T.D_l_take.fn.kp T.D_l_take.bd .nil pass0 (qa_c (qv 2) (qa_c qe_int qa_nil)))) (qa_c qe_int (qa_c qe_int (qa_c (qe_op op_sub (qe_op op_pow qe_int qe_int) (qe_call (ok_l_takeA T) (hr.mono (by decide)) rfl T.D_l_take.at_ T.D_l_take.fn.kp T.D_l_take.bd .nil pass0 (qa_c (qv 2) (qa_c (qe_op op_pow qe_int qe_int) qa_nil)))) qa_nil)))))) (qg_name (i := 10) sc_law.nd rfl (Or.inl rfl))
        (qss_cons (qs_set (i := 11) sc_law.nd rfl (Or.inl rfl) qe_str)
      (qss_cons (qs_ifJ (qt_cmpR op_le (qv 10) qe_int (nomark _))
        (qss_one (qs_set (i := 11) sc_law.nd rfl (Or.inl rfl) (qe_call (ok_l_of T) (hr.mono (by decide)) rfl T.D_l_of.at_ T.D_l_of.fn.kp T.D_l_of.bd .nil pass0 (qa_c (qe_lstA (qa_c (qe_ix ix_list (qe_lstA (qa_c (qv 3) (qa_c (qv 4) qa_nil))) (qe_op op_mod (qv 10) qe_int) (fun _ _ => rfl)) (qa_c (qv 5) qa_nil))) (qa_c (qe_lstA (qa_c qe_int (qa_c (qe_op op_mul (qv 6) (qe_op op_fdiv (qe_op op_add (qv 10) qe_int) qe_int)) qa_nil))) qa_nil)))))
        qss_nil)
      (qss_one (qs_if (qt_not (qt_val (qe_call (ok_l_sameX T) (hr.mono (by decide)) rfl T.D_l_same.at_ T.D_l_same.fn.kp T.D_l_same.bd .nil pass0 (qa_c (qe_call (ok_by_leap T) (hr.mono (by decide)) rfl T.D_l_told_by.at_ T.D_l_told_by.fn.kp T.D_l_told_by.bd .nil pass0 (qa_c (qe_glob (v := .ref T.f_leap) (by rfl) T.D_leap.at_ rfl) (qa_c (qe_tupA (qa_c (qv 7) (qa_c (qv 8) qa_nil))) (qa_c (qv 9) (qa_c (qv 10) qa_nil))))) (qa_c (qv 11) qa_nil)))))
        (qss_one (qs_ret qe_bl))
        qss_nil)))))
      (qss_cons (qs_set (i := 10) sc_law.nd rfl (Or.inl rfl) (qe_op op_sub (qe_op op_pow qe_int qe_int) (qe_call (ok_l_takeA T) (hr.mono (by decide)) rfl T.D_l_take.at_ T.D_l_take.fn.kp T.D_l_take.bd .nil pass0 (qa_c (qv 2) (qa_c (qe_op op_pow qe_int qe_int) qa_nil)))))
      (qss_cons (qs_set (i := 11) sc_law.nd rfl (Or.inl rfl) (qe_call (ok_l_of T) (hr.mono (by decide)) rfl T.D_l_of.at_ T.D_l_of.fn.kp T.D_l_of.bd .nil pass0 (qa_c (qe_lstA (qa_c (qv 4) qa_nil)) (qa_c (qe_lstA (qa_c (qe_op op_mul qe_int (qv 10)) qa_nil)) qa_nil))))
      (qss_cons (qs_set (i := 12) sc_law.nd rfl (Or.inl rfl) (qe_tupA (qa_c (qe_tupA (qa_c (qe_call (ok_l_product T) (hr.mono (by decide)) rfl T.D_l_product.at_ T.D_l_product.fn.kp T.D_l_product.bd .nil pass0 (qa_c (qe_call (ok_l_of T) (hr.mono (by decide)) rfl T.D_l_of.at_ T.D_l_of.fn.kp T.D_l_of.bd .nil pass0 (qa_c (qe_lstA (qa_c (qv 4) qa_nil)) (qa_c (qe_lstA (qa_c qe_int qa_nil)) qa_nil))) qa_nil)) (qa_c qe_int qa_nil))) qa_nil)))
      (qss_one (qs_if (qt_not (qt_val (qe_call (ok_l_sameX T) (hr.mono (by decide)) rfl T.D_l_same.at_ T.D_l_same.fn.kp T.D_l_same.bd .nil pass0 (qa_c (qe_call (ok_by_leap T) (hr.mono (by decide)) rfl T.D_l_told_by.at_ T.D_l_told_by.fn.kp T.D_l_told_by.bd .nil pass0 (qa_c (qe_glob (v := .ref T.f_leap) (by rfl) T.D_leap.at_ rfl) (qa_c (qv 12) (qa_c (qe_op op_repTA (qe_tupA (qa_c qe_int qa_nil)) qe_int) (qa_c (qv 10) qa_nil))))) (qa_c (qv 11) qa_nil)))))
        (qss_one (qs_ret qe_bl))
        qss_nil)))))))))))))
      (qss_one (qs_ret qe_bl))), ?_⟩
    refine ⟨_, rfl, a, _, rfl, .inl hS, _, _, rfl, _, _, rfl, ?_⟩
    generalize hm : (if (if (3 : Int) < ((ns.map V.int).length : Int) then (3 : Int) else ((ns.map V.int).length : Int)) > 1 then (if (3 : Int) < ((ns.map V.int).length : Int) then (3 : Int) else ((ns.map V.int).length : Int)) else 1) = m
    have hm1 : 0 ≤ m ∧ m ≤ 3 := by
      rw [← hm]
      split <;> split <;> omega
    refine ⟨m, rfl, by omega, by omega, for_range (n := m.toNat) (fun i σ H2 => (∃ u1 u2 u3 u4 u5 u6 u7 u8 u9 u10 u11 u12 : Option V, σ = [some (.ref a), u1, u2, u3, u4, u5, u6, u7, u8, u9, u10, u11, u12]) ∧ SqL K H2 a (ns.map V.int)) ⟨⟨none, none, none, none, none, none, none, none, none, none, none, none, rfl⟩, hS⟩ ?_ ?_⟩
    · rintro i σ H2 hi ⟨⟨u1, u2, u3, u4, u5, u6, u7, u8, u9, u10, u11, u12, rfl⟩, hS2⟩
      refine ⟨_, rfl, _, rfl, a, ns, _, rfl, hS2, by omega, fun c => ⟨c, rfl, fun n pt hpt => ?_⟩⟩
      refine ⟨_, rfl, pt, n, 10, rfl, upd_same, by decide, by decide, fun p H3 n3 ns' fp b3 ha3 hp3 hlen' hmm hnd => ?_⟩
      obtain ⟨o, h, z, rest, rfl⟩ : ∃ o h z rest, ns' = o :: h :: z :: rest := by
        match ns', hlen' with
        | (x :: y :: w :: r), _ => exact ⟨x, y, w, r, rfl⟩
      have ho := hmm o (by simp)
      have hh := hmm h (by simp)
      have hz := hmm z (by simp)
      simp only [List.nodup_cons, List.mem_cons, not_or] at hnd
      obtain ⟨⟨n1', n2', _⟩, ⟨n3', _⟩, _⟩ := hnd
      obtain ⟨o, rfl⟩ : ∃ x : Nat, o = x := ⟨o.toNat, by omega⟩
      obtain ⟨h, rfl⟩ : ∃ x : Nat, h = x := ⟨h.toNat, by omega⟩
      obtain ⟨z, rfl⟩ : ∃ x : Nat, z = x := ⟨z.toNat, by omega⟩
      have n12 : o ≠ h := fun e => n1' (by rw [e])
      have n13 : o ≠ z := fun e => n2' (by rw [e])
      have n23 : h ≠ z := fun e => n3' (by rw [e])
      have o10 : o < 10 := by omega
      have h10 : h < 10 := by omega
      have z10 : z < 10 := by omega
      refine ⟨_, rfl, p, _, rfl, hp3, fun t3 H4 s4 ht3 => ?_⟩
      rw [cutV_pre (by decide)] at ht3
      refine ⟨t3, _, rfl, SqT.of ht3, rfl, _, _, rfl, _, _, rfl, _, _, rfl, rfl, ?_⟩
      refine ⟨_, rfl, pt, n3, 2, rfl, s4 _ _ ha3, by decide, by decide, fun mr n5 H5 mr0 mr1 b5 ha5 => ?_⟩
      -- go
      refine ⟨_, rfl, _, rfl, (by show 2 ≤ sizeLine; decide), fun x1 H6 f6 s6 e6 => ⟨_, rfl, (by show 2 ≤ sizeLine; decide), fun y1 H7 f7 s7 e7 => ?_⟩⟩
      refine ⟨x1, y1, [(h, 1), (z, mr)], rfl, s7 _ _ e6, e7, by show 2 ≤ 10; decide, (fun q hq => by simp only [List.mem_cons, List.not_mem_nil, or_false] at hq; rcases hq with rfl | rfl <;> assumption), fun v1 H8 s8 h8 => ?_⟩
      rw [ofV_two] at h8
      have bV : ∀ i, i < 10 → 0 ≤ fV h 1 z mr i ∧ fV h 1 z mr i ≤ 6 := fun i _ => by unfold fV; (repeat' split) <;> omega
      have bO : ∀ i, i < 10 → 0 ≤ fU o 1 i ∧ fU o 1 i ≤ 6 := fun i _ => by unfold fU; split <;> omega
      have bH : ∀ i, i < 10 → 0 ≤ fU h 1 i ∧ fU h 1 i ≤ 6 := fun i _ => by unfold fU; split <;> omega
      have bH2 : ∀ i, i < 10 → 0 ≤ fU h 2 i ∧ fU h 2 i ≤ 6 := fun i _ => by unfold fU; split <;> omega
      refine ⟨v1, vec (fV h 1 z mr), rfl, SqT.of h8, vec_len _, bnd_vec bV, fun H9 s9 => ?_⟩
      refine ⟨_, rfl, (by show 1 ≤ sizeLine; decide), fun x2 HA fA sA eA => ⟨(by show 1 ≤ sizeLine; decide), fun y2 HB fB sB eB => ?_⟩⟩
      refine ⟨x2, y2, [(o, 1)], rfl, sB _ _ eA, eB, by show 1 ≤ 10; decide, (fun q hq => by rw [List.mem_singleton.mp hq]; exact o10), fun v2 HC sC hC => ?_⟩
      rw [ofV_one] at hC
      refine ⟨v2, vec (fU o 1), rfl, SqT.of hC, vec_len _, bnd_vec bO, fun HD sD => ?_⟩
      refine ⟨(by show 2 ≤ sizeLine; decide), fun go HE fE sE eE => ?_⟩
      have s5E : Same H5 HE := (((((((s6.trans s7).trans s8).trans s9).trans sA).trans sB).trans sC).trans sD).trans sE
      -- back
      refine ⟨_, rfl, (by show 1 ≤ sizeLine; decide), fun x3 HF fF sF eF => ⟨(by show 1 ≤ sizeLine; decide), fun y3 HG fG sG eG => ?_⟩⟩
      refine ⟨x3, y3, [(o, 1)], rfl, sG _ _ eF, eG, by show 1 ≤ 10; decide, (fun q hq => by rw [List.mem_singleton.mp hq]; exact o10), fun v3 HI sI hI => ?_⟩
      rw [ofV_one] at hI
      refine ⟨v3, vec (fU o 1), rfl, SqT.of hI, vec_len _, bnd_vec bO, fun HJ sJ => ?_⟩
      refine ⟨_, rfl, (by show 1 ≤ sizeLine; decide), fun x4 HK fK sK eK => ⟨(by show 1 ≤ sizeLine; decide), fun y4 HL fL sL eL => ?_⟩⟩
      refine ⟨x4, y4, [(h, 1)], rfl, sL _ _ eK, eL, by show 1 ≤ 10; decide, (fun q hq => by rw [List.mem_singleton.mp hq]; exact h10), fun v4 HM sM hM => ?_⟩
      rw [ofV_one] at hM
      refine ⟨v4, vec (fU h 1), rfl, SqT.of hM, vec_len _, bnd_vec bH, fun HN sN => ?_⟩
      refine ⟨(by show 2 ≤ sizeLine; decide), fun bk HO' fO sO eO => ?_⟩
      have sEO : Same HE HO' := (((((((sF.trans sG).trans sI).trans sJ).trans sK).trans sL).trans sM).trans sN).trans sO
      -- begin
      refine ⟨_, rfl, (by show 1 ≤ sizeLine; decide), fun x5 HP fP sP eP => ⟨(by show 1 ≤ sizeLine; decide), fun y5 HR fR sR eR => ?_⟩⟩
      refine ⟨x5, y5, [(o, 1)], rfl, sR _ _ eP, eR, by show 1 ≤ 10; decide, (fun q hq => by rw [List.mem_singleton.mp hq]; exact o10), fun bg HS sS hbg => ?_⟩
      rw [ofV_one] at hbg
      have s5S : Same H5 HS := ((s5E.trans sEO).trans (sP.trans sR)).trans sS
      have haS := s5S _ _ ha5
      have hgo : HS go = some (.tup [.int (prod ((vec (fV h 1 z mr)).map Int.toNat) : Nat), .int (prod ((vec (fU o 1)).map Int.toNat) : Nat)]) := ((sEO.trans (sP.trans sR)).trans sS) _ _ eE
      have hbk : HS bk = some (.tup [.int (prod ((vec (fU o 1)).map Int.toNat) : Nat), .int (prod ((vec (fU h 1)).map Int.toNat) : Nat)]) := ((sP.trans sR).trans sS) _ _ eO
      have ngo : go ≠ pt := fun z => by rw [z, haS] at hgo; cases hgo
      have nbk : bk ≠ pt := fun z => by rw [z, haS] at hbk; cases hbk
      have nbg : bg ≠ pt := fun z => by rw [z, haS] at hbg; cases hbg
      have e9 : (10 : Int) ^ (9 : Int).toNat = 1000000000 := by decide
      have e18 : (10 : Int) ^ (18 : Int).toNat = 1000000000000000000 := by decide
      have cp : ∀ j : Int, 0 ≤ j → j ≤ 1000000 → CPow 10 j := fun j h0 h1 => ⟨h0, h1, by decide⟩
      refine ⟨_, rfl, pt, n5, 20, rfl, haS, by decide, by decide, fun r1 n6 I1 r10 r11 c1 ha6 => ⟨_, _, rfl, rfl, ?_⟩⟩
      refine ⟨_, _, rfl, rfl, cp _ (by decide) (by decide), _, rfl, _, _, rfl, rfl, cp _ (by decide) (by decide), pt, n6, _, rfl, ha6, by rw [e9]; decide, by rw [e9]; decide, fun r2 n7 I2 r20 r21 c2 ha7 => ⟨_, _, rfl, rfl, (by show 4 ≤ sizeLine; decide), fun ml I3 k3 t3' d3 => ?_⟩⟩
      rw [e9] at r21
      rw [e18] at d3
      have hgo3 := t3' _ _ (c2 _ _ ngo (c1 _ _ ngo hgo))
      have hbk3 := t3' _ _ (c2 _ _ nbk (c1 _ _ nbk hbk))
      have hbg3 := t3' _ _ (c2 _ _ nbg (c1 _ _ nbg hbg))
      have d3' : I3 ml = some (.lst ([1990 + r1, 2000, 2001, 1000000000000000000 - r2].map V.int)) := d3
      have U := unit_hb (mr := mr) n12 n13 n23 o10 h10 z10 mr0
      have FR := fr_hb (mr := mr) n12 n13 n23 h10 z10 mr0 mr1
      refine ⟨ml, rfl, ⟨_, SqL.of d3'⟩, for_list (K := K) (a := ml) (xs := [1990 + r1, 2000, 2001, 1000000000000000000 - r2].map V.int) (fun i σ HC => (∃ v1 v2 v3 v4 : Option V, σ = [some (.ref a), v1, some (.ref pt), some (.int (o : Int)), some (.int (h : Int)), some (.int (z : Int)), some (.int mr), some (.ref go), some (.ref bk), some (.ref bg), v2, v3, v4]) ∧ Same I3 HC) ⟨⟨_, _, _, _, rfl⟩, Same.refl _⟩ (fun i σ HC _ ⟨_, sC⟩ => SqL.of (sC _ _ d3')) ?_ ?_⟩
      · rintro j x σ HC hx ⟨⟨v1, v2, v3, v4, rfl⟩, sC⟩
        obtain ⟨mm, rfl, hmj⟩ := map_int_get hx
        have hmm0 : 0 ≤ mm := by
          have := List.mem_of_getElem? hmj
          simp only [List.mem_cons, List.not_mem_nil, or_false] at this
          omega
        obtain ⟨mn, rfl⟩ := Int.eq_ofNat_of_zero_le hmm0
        refine ⟨fun σ' H' => ∃ d : V, σ' = [some (.ref a), v1, some (.ref pt), some (.int (o : Int)), some (.int (h : Int)), some (.int (z : Int)), some (.int mr), some (.ref go), some (.ref bk), some (.ref bg), some (.int (mn : Int)), some d, v4] ∧ Same HC H' ∧ DueM o h z mr (mn : Int) H' d, ?_, ?_⟩
        · refine ⟨_, rfl, _, _, rfl, rfl, _, rfl, ite2 (fun hle => ?_) (fun hle => ?_)⟩
          · have hle' : (mn : Int) ≤ 2000 := of_decide_eq_true hle
            refine ⟨_, rfl, _, rfl, (by show 2 ≤ sizeLine; decide), fun l1 J1 g1 w1 x1' => ⟨_, rfl, _, _, rfl, rfl, (by show (0 : Int) < 2; decide), l1, _, _, _, rfl, rfl, SqL.of x1', two_at mn, _, rfl, (by show 2 ≤ sizeLine; decide), fun l2 J2 g2 w2 x2' => ?_⟩⟩
            refine ⟨_, rfl, _, rfl, _, _, rfl, rfl, _, _, rfl, rfl, ⟨by decide, by decide⟩, _, _, rfl, rfl, .inl ⟨by omega, by omega⟩, (by show 2 ≤ sizeLine; decide), fun l3 J3 g3 w3 x3' => ?_⟩
            refine ⟨l2, l3, [((if mn % 2 = 0 then o else h), 1), (z, mr * (((mn : Int) + 1) / 2))], rfl, w3 _ _ x2', x3', by show 2 ≤ 10; decide, (fun q hq => by
              simp only [List.mem_cons, List.not_mem_nil, or_false] at hq
              rcases hq with rfl | rfl
              · show (if mn % 2 = 0 then o else h) < 10
                split <;> assumption
              · exact z10), fun p4 J4 w4 x4' => ?_⟩
            refine ⟨_, rfl, ((w1.trans w2).trans w3).trans w4, .inl ⟨hle', p4, rfl, ?_⟩⟩
            have e5 : ((mn : Int) + 1) / 2 = (((mn + 1) / 2 : Nat) : Int) := by omega
            rw [x4', ofV_two, e5, Int.toNat_natCast, hb_due n12 n13 n23]
          · have hgt : ¬ (mn : Int) ≤ 2000 := fun z => hle (decide_eq_true z)
            exact ⟨_, rfl, Same.refl _, .inr ⟨by omega, rfl⟩⟩
        · rintro σ' H' ⟨d, rfl, sD, hd⟩
          have s3D := sC.trans sD
          refine ⟨_, rfl, _, rfl, (by show 2 ≤ sizeLine; decide), fun tp J5 g5 w5 x5' => ⟨_, rfl, _, rfl, ?_⟩⟩
          have s35 := s3D.trans w5
          have hF : FrcsV J5 ([go, bk].map V.ref) (fsHB o h z mr) := frcs_lit rfl (fun k c f hc hf => by
            match k, hc, hf with
            | 0, hc, hf => cases hc; cases hf; exact s35 _ _ hgo3
            | 1, hc, hf => cases hc; cases hf; exact s35 _ _ hbk3
            | (k + 2), hc, hf => cases hc) FR
          refine .inl ⟨tp, bg, [go, bk].map V.ref, fsHB o h z mr, vec (fU o 1), _, _, (mn : Int), rfl, x5', hF, (by show 2 ≤ 1000; decide), s35 _ _ hbg3, U, hmm0, fun hle q' J6 w6 x6' => ?_, fun hgt J6 w6 => ?_⟩
          · rcases hd with ⟨_, pd, rfl, hpd⟩ | ⟨h1, _⟩
            · refine ⟨_, rfl, .inr ⟨q', pd, _, _, rfl, x6', w6 _ _ (w5 _ _ hpd), rfl, by rw [List.length_map, vec_len]; decide, row_pair, fun J7 w7 => ⟨_, rfl, iteF ?_⟩⟩⟩
              exact ⟨⟨_, _, _, _, rfl⟩, (s35.trans w6).trans w7⟩
            · omega
          · rcases hd with ⟨h1, _⟩ | ⟨_, rfl⟩
            · omega
            · refine ⟨_, rfl, .inl ⟨_, _, rfl, ?_, rfl, _, rfl, ?_⟩⟩
              · exact True.intro
              rw [decide_eq_true rfl]
              exact iteF ⟨⟨_, _, _, _, rfl⟩, s35.trans w6⟩
      · rintro σ HC ⟨⟨v1, v2, v3, v4, rfl⟩, sC⟩
        refine ⟨_, _, rfl, rfl, cp _ (by decide) (by decide), _, rfl, _, _, rfl, rfl, cp _ (by decide) (by decide), pt, n7, _, rfl, sC _ _ (t3' _ _ ha7), by rw [e9]; decide, by rw [e9]; decide, fun r3 n8 J1 r30 r31 c3 ha8 => ⟨_, _, rfl, rfl, ?_⟩⟩
        rw [e9] at r31
        rw [e18]
        -- due
        refine ⟨_, rfl, (by show 1 ≤ sizeLine; decide), fun l1 J2 g2 w2 x2' => ⟨_, rfl, _, _, rfl, rfl, .inl ⟨by omega, by omega⟩, (by show 1 ≤ sizeLine; decide), fun l2 J3 g3 w3 x3' => ?_⟩⟩
        refine ⟨l1, l2, [(h, 2 * (1000000000000000000 - r3))], rfl, w3 _ _ x2', x3', by show 1 ≤ 10; decide, (fun q hq => by rw [List.mem_singleton.mp hq]; exact h10), fun du J4 w4 x4' => ?_⟩
        rw [ofV_one] at x4'
        -- program
        refine ⟨_, rfl, (by show 1 ≤ sizeLine; decide), fun l3 J5 g5 w5 x5' => ⟨(by show 1 ≤ sizeLine; decide), fun l4 J6 g6 w6 x6' => ?_⟩⟩
        refine ⟨l3, l4, [(h, 2)], rfl, w6 _ _ x5', x6', by show 1 ≤ 10; decide, (fun q hq => by rw [List.mem_singleton.mp hq]; exact h10), fun v5 J7 w7 x7' => ?_⟩
        rw [ofV_one] at x7'
        refine ⟨v5, vec (fU h 2), rfl, SqT.of x7', vec_len _, bnd_vec bH2, fun J8 w8 => ?_⟩
        refine ⟨(by show 2 ≤ sizeLine; decide), fun fr J9 g9 w9 x9' => ⟨(by show 1 ≤ sizeLine; decide), fun pg K1 y1 z1 a1 => ?_⟩⟩
        -- told
        refine ⟨_, rfl, (by show 1 ≤ sizeLine; decide), fun tz K2 y2 z2 a2 => ⟨tz, 10, _, rfl, rfl, a2, by simp, by decide, by decide, by decide, fun t0 K3 y3 z3 a3 => ⟨_, rfl, ?_⟩⟩⟩
        have a3' : K3 t0 = some (tupI (vec fun _ => 0)) := a3
        have z13 := z2.trans z3
        have hF : FrcsV K3 ([fr].map V.ref) (fsE h) := frcs_lit rfl (fun k c f hc hf => by
          match k, hc, hf with
          | 0, hc, hf => cases hc; cases hf; exact z13 _ _ (z1 _ _ x9')
          | (k + 1), hc, hf => cases hc) fr_e
        refine .inr ⟨pg, t0, [fr].map V.ref, fsE h, vec fun _ => 0, vec (fU h 2), 0, 1000000000000000000 - r3, rfl, z13 _ _ a1, hF, (by show 1 ≤ 1000; decide), a3', vec_len _, by decide, by rw [rows_e]; rfl, by rw [rows_e]; exact fun t => end_fst t, by omega, by omega, fun q' K4 z4 a4 => ?_⟩
        rw [end_row] at a4
        have z94 := (w9.trans z1).trans (z13.trans z4)
        have w48 := ((w5.trans w6).trans w7).trans w8
        refine ⟨_, rfl, .inr ⟨q', du, _, _, rfl, a4, z94 _ _ (w48 _ _ x4'), rfl, by rw [List.length_map, vec_len]; decide, row_pair, fun K5 z5 => ⟨_, rfl, iteF ?_⟩⟩⟩
        refine ⟨⟨_, _, _, _, _, _, _, _, _, _, _, _, rfl⟩, But.sq (o := .lst [.int n]) hS2 hpt ?_⟩
        have bA : But pt (L2.upd H2 pt (.lst [.int n])) H5 := (b3.trans (But.of s4)).trans b5
        have bB : But pt HS I3 := (c1.trans c2).trans (But.of t3')
        have bC' : But pt I3 J1 := (But.of sC).trans c3
        have bD : Same J1 K5 := ((((w2.trans w3).trans w4).trans w48).trans z94).trans z5
        exact (((bA.trans (But.of s5S)).trans bB).trans bC').trans (But.of bD)
    · rintro σ H2 ⟨⟨u1, u2, u3, u4, u5, u6, u7, u8, u9, u10, u11, u12, rfl⟩, hS2⟩
      exact q H2
end
theorem all_mk {l : PySem.W.OpenLaw} {w : World} {K : PySem.W.Frag} {h : Heap} {mg : Str → Option Value} {fa f0 f1 f2 f3 f4 f5 f6 f7 f8 f9 f10 f11 f12 f13 f14 f15 f16 f17 f18 f19 f20 f21 f22 f23 f24 h_FractError h_AtRest h_NoText h_NoNumber h_TooMany h_NoOrder h_NoProgram h_Shared h_NoPowers h_NoTrail h_NoName h_NoDeed h_NoRow : Addr} (X : K.In h) (G : h.Ns mainGlobals mg) (hfa : mg "law" = some (.ref fa))
    {od0 an0 od1 an1 od2 an2 od3 an3 od4 an4 od5 an5 od6 an6 od7 an7 od8 an8 od9 an9 od10 an10 od11 an11 od12 an12 od13 an13 od14 an14 od15 an15 od16 an16 od17 an17 od18 an18 od19 an19 od20 an20 od21 an21 od22 an22 od23 an23 od24 an24 : Option Addr} {sl0 sl1 sl2 sl3 sl4 sl5 sl6 sl7 sl8 sl9 sl10 sl11 sl12 sl13 sl14 sl15 sl16 sl17 sl18 sl19 sl20 sl21 sl22 sl23 sl24 : Array (Option Value)} {oc0 kV0 dc0 pm0 cd0 ct0 oc1 kV1 dc1 pm1 cd1 ct1 oc2 kV2 dc2 pm2 cd2 ct2 oc3 kV3 dc3 pm3 cd3 ct3 oc4 kV4 dc4 pm4 cd4 ct4 oc5 kV5 dc5 pm5 cd5 ct5 oc6 kV6 dc6 pm6 cd6 ct6 oc7 kV7 dc7 pm7 cd7 ct7 oc8 kV8 dc8 pm8 cd8 ct8 oc9 kV9 dc9 pm9 cd9 ct9 oc10 kV10 dc10 pm10 cd10 ct10 oc11 kV11 dc11 pm11 cd11 ct11 oc12 kV12 dc12 pm12 cd12 ct12 oc13 kV13 dc13 pm13 cd13 ct13 oc14 kV14 dc14 pm14 cd14 ct14 oc15 kV15 dc15 pm15 cd15 ct15 oc16 kV16 dc16 pm16 cd16 ct16 oc17 kV17 dc17 pm17 cd17 ct17 oc18 kV18 dc18 pm18 cd18 ct18 oc19 kV19 dc19 pm19 cd19 ct19 oc20 kV20 dc20 pm20 cd20 ct20 oc21 kV21 dc21 pm21 cd21 ct21 oc22 kV22 dc22 pm22 cd22 ct22 oc23 kV23 dc23 pm23 cd23 ct23 oc24 kV24 dc24 pm24 cd24 ct24 : Value}
    {t_MOST_STRETCHES : Tok}
    {x_PRIMES : Addr} {t0_PRIMES t1_PRIMES t2_PRIMES t3_PRIMES t4_PRIMES t5_PRIMES t6_PRIMES t7_PRIMES t8_PRIMES t9_PRIMES : Tok} {n_PRIMES : Nat} {d_PRIMES : Option Addr} {sl_PRIMES : Array (Option Value)}
    (a0 : PySem.W.nsIn K mainGlobals "is_whole" = some (some (.ref f0)))
    (l0 : K.lookup f0 = some ⟨oc0, od0, .func (PySem.W.fnOf "is_whole" "is_whole" (defArgs s_is_whole) (defBody s_is_whole) (defScope s_is_whole) .none kV0 dc0 pm0 an0 cd0 ct0), sl0⟩)
    (c0 : PySem.W.codeIn K cd0 "is_whole" = true) (k0 : PySem.W.keepIn K (.ref f0) = true)
    (a1 : PySem.W.nsIn K mainGlobals "powers_of" = some (some (.ref f1)))
    (l1 : K.lookup f1 = some ⟨oc1, od1, .func (PySem.W.fnOf "powers_of" "powers_of" (defArgs s_powers_of) (defBody s_powers_of) (defScope s_powers_of) .none kV1 dc1 pm1 an1 cd1 ct1), sl1⟩)
    (c1 : PySem.W.codeIn K cd1 "powers_of" = true) (k1 : PySem.W.keepIn K (.ref f1) = true)
    (a2 : PySem.W.nsIn K mainGlobals "how_often" = some (some (.ref f2)))
    (l2 : K.lookup f2 = some ⟨oc2, od2, .func (PySem.W.fnOf "how_often" "how_often" (defArgs s_how_often) (defBody s_how_often) (defScope s_how_often) .none kV2 dc2 pm2 an2 cd2 ct2), sl2⟩)
    (c2 : PySem.W.codeIn K cd2 "how_often" = true) (k2 : PySem.W.keepIn K (.ref f2) = true)
    (a3 : PySem.W.nsIn K mainGlobals "without_primes" = some (some (.ref f3)))
    (l3 : K.lookup f3 = some ⟨oc3, od3, .func (PySem.W.fnOf "without_primes" "without_primes" (defArgs s_without_primes) (defBody s_without_primes) (defScope s_without_primes) .none kV3 dc3 pm3 an3 cd3 ct3), sl3⟩)
    (c3 : PySem.W.codeIn K cd3 "without_primes" = true) (k3 : PySem.W.keepIn K (.ref f3) = true)
    (a4 : PySem.W.nsIn K mainGlobals "changes_of" = some (some (.ref f4)))
    (l4 : K.lookup f4 = some ⟨oc4, od4, .func (PySem.W.fnOf "changes_of" "changes_of" (defArgs s_changes_of) (defBody s_changes_of) (defScope s_changes_of) .none kV4 dc4 pm4 an4 cd4 ct4), sl4⟩)
    (c4 : PySem.W.codeIn K cd4 "changes_of" = true) (k4 : PySem.W.keepIn K (.ref f4) = true)
    (a5 : PySem.W.nsIn K mainGlobals "fraction_changes" = some (some (.ref f5)))
    (l5 : K.lookup f5 = some ⟨oc5, od5, .func (PySem.W.fnOf "fraction_changes" "fraction_changes" (defArgs s_fraction_changes) (defBody s_fraction_changes) (defScope s_fraction_changes) .none kV5 dc5 pm5 an5 cd5 ct5), sl5⟩)
    (c5 : PySem.W.codeIn K cd5 "fraction_changes" = true) (k5 : PySem.W.keepIn K (.ref f5) = true)
    (a6 : PySem.W.nsIn K mainGlobals "fits" = some (some (.ref f6)))
    (l6 : K.lookup f6 = some ⟨oc6, od6, .func (PySem.W.fnOf "fits" "fits" (defArgs s_fits) (defBody s_fits) (defScope s_fits) .none kV6 dc6 pm6 an6 cd6 ct6), sl6⟩)
    (c6 : PySem.W.codeIn K cd6 "fits" = true) (k6 : PySem.W.keepIn K (.ref f6) = true)
    (a7 : PySem.W.nsIn K mainGlobals "first_of" = some (some (.ref f7)))
    (l7 : K.lookup f7 = some ⟨oc7, od7, .func (PySem.W.fnOf "first_of" "first_of" (defArgs s_first_of) (defBody s_first_of) (defScope s_first_of) .none kV7 dc7 pm7 an7 cd7 ct7), sl7⟩)
    (c7 : PySem.W.codeIn K cd7 "first_of" = true) (k7 : PySem.W.keepIn K (.ref f7) = true)
    (a8 : PySem.W.nsIn K mainGlobals "moved" = some (some (.ref f8)))
    (l8 : K.lookup f8 = some ⟨oc8, od8, .func (PySem.W.fnOf "moved" "moved" (defArgs s_moved) (defBody s_moved) (defScope s_moved) .none kV8 dc8 pm8 an8 cd8 ct8), sl8⟩)
    (c8 : PySem.W.codeIn K cd8 "moved" = true) (k8 : PySem.W.keepIn K (.ref f8) = true)
    (a9 : PySem.W.nsIn K mainGlobals "stretch_steps" = some (some (.ref f9)))
    (l9 : K.lookup f9 = some ⟨oc9, od9, .func (PySem.W.fnOf "stretch_steps" "stretch_steps" (defArgs s_stretch_steps) (defBody s_stretch_steps) (defScope s_stretch_steps) .none kV9 dc9 pm9 an9 cd9 ct9), sl9⟩)
    (c9 : PySem.W.codeIn K cd9 "stretch_steps" = true) (k9 : PySem.W.keepIn K (.ref f9) = true)
    (a10 : PySem.W.nsIn K mainGlobals "steps_to_lack" = some (some (.ref f10)))
    (l10 : K.lookup f10 = some ⟨oc10, od10, .func (PySem.W.fnOf "steps_to_lack" "steps_to_lack" (defArgs s_steps_to_lack) (defBody s_steps_to_lack) (defScope s_steps_to_lack) .none kV10 dc10 pm10 an10 cd10 ct10), sl10⟩)
    (c10 : PySem.W.codeIn K cd10 "steps_to_lack" = true) (k10 : PySem.W.keepIn K (.ref f10) = true)
    (a11 : PySem.W.nsIn K mainGlobals "steps_to_fit" = some (some (.ref f11)))
    (l11 : K.lookup f11 = some ⟨oc11, od11, .func (PySem.W.fnOf "steps_to_fit" "steps_to_fit" (defArgs s_steps_to_fit) (defBody s_steps_to_fit) (defScope s_steps_to_fit) .none kV11 dc11 pm11 an11 cd11 ct11), sl11⟩)
    (c11 : PySem.W.codeIn K cd11 "steps_to_fit" = true) (k11 : PySem.W.keepIn K (.ref f11) = true)
    (a12 : PySem.W.nsIn K mainGlobals "leap" = some (some (.ref f12)))
    (l12 : K.lookup f12 = some ⟨oc12, od12, .func (PySem.W.fnOf "leap" "leap" (defArgs s_leap) (defBody s_leap) (defScope s_leap) .none kV12 dc12 pm12 an12 cd12 ct12), sl12⟩)
    (c12 : PySem.W.codeIn K cd12 "leap" = true) (k12 : PySem.W.keepIn K (.ref f12) = true)
    (a13 : PySem.W.nsIn K mainGlobals "_law_cell_at" = some (some (.ref f13)))
    (l13 : K.lookup f13 = some ⟨oc13, od13, .func (PySem.W.fnOf "_law_cell_at" "_law_cell_at" (defArgs s_l_cell_at) (defBody s_l_cell_at) (defScope s_l_cell_at) .none kV13 dc13 pm13 an13 cd13 ct13), sl13⟩)
    (c13 : PySem.W.codeIn K cd13 "_law_cell_at" = true) (k13 : PySem.W.keepIn K (.ref f13) = true)
    (a14 : PySem.W.nsIn K mainGlobals "_law_pot" = some (some (.ref f14)))
    (l14 : K.lookup f14 = some ⟨oc14, od14, .func (PySem.W.fnOf "_law_pot" "_law_pot" (defArgs s_l_pot) (defBody s_l_pot) (defScope s_l_pot) .none kV14 dc14 pm14 an14 cd14 ct14), sl14⟩)
    (c14 : PySem.W.codeIn K cd14 "_law_pot" = true) (k14 : PySem.W.keepIn K (.ref f14) = true)
    (a15 : PySem.W.nsIn K mainGlobals "_law_take" = some (some (.ref f15)))
    (l15 : K.lookup f15 = some ⟨oc15, od15, .func (PySem.W.fnOf "_law_take" "_law_take" (defArgs s_l_take) (defBody s_l_take) (defScope s_l_take) .none kV15 dc15 pm15 an15 cd15 ct15), sl15⟩)
    (c15 : PySem.W.codeIn K cd15 "_law_take" = true) (k15 : PySem.W.keepIn K (.ref f15) = true)
    (a16 : PySem.W.nsIn K mainGlobals "_law_order" = some (some (.ref f16)))
    (l16 : K.lookup f16 = some ⟨oc16, od16, .func (PySem.W.fnOf "_law_order" "_law_order" (defArgs s_l_order) (defBody s_l_order) (defScope s_l_order) .none kV16 dc16 pm16 an16 cd16 ct16), sl16⟩)
    (c16 : PySem.W.codeIn K cd16 "_law_order" = true) (k16 : PySem.W.keepIn K (.ref f16) = true)
    (a17 : PySem.W.nsIn K mainGlobals "_law_primes" = some (some (.ref f17)))
    (l17 : K.lookup f17 = some ⟨oc17, od17, .func (PySem.W.fnOf "_law_primes" "_law_primes" (defArgs s_l_primes) (defBody s_l_primes) (defScope s_l_primes) .none kV17 dc17 pm17 an17 cd17 ct17), sl17⟩)
    (c17 : PySem.W.codeIn K cd17 "_law_primes" = true) (k17 : PySem.W.keepIn K (.ref f17) = true)
    (a18 : PySem.W.nsIn K mainGlobals "_law_product" = some (some (.ref f18)))
    (l18 : K.lookup f18 = some ⟨oc18, od18, .func (PySem.W.fnOf "_law_product" "_law_product" (defArgs s_l_product) (defBody s_l_product) (defScope s_l_product) .none kV18 dc18 pm18 an18 cd18 ct18), sl18⟩)
    (c18 : PySem.W.codeIn K cd18 "_law_product" = true) (k18 : PySem.W.keepIn K (.ref f18) = true)
    (a19 : PySem.W.nsIn K mainGlobals "_law_whole" = some (some (.ref f19)))
    (l19 : K.lookup f19 = some ⟨oc19, od19, .func (PySem.W.fnOf "_law_whole" "_law_whole" (defArgs s_l_whole) (defBody s_l_whole) (defScope s_l_whole) .none kV19 dc19 pm19 an19 cd19 ct19), sl19⟩)
    (c19 : PySem.W.codeIn K cd19 "_law_whole" = true) (k19 : PySem.W.keepIn K (.ref f19) = true)
    (a20 : PySem.W.nsIn K mainGlobals "_law_same" = some (some (.ref f20)))
    (l20 : K.lookup f20 = some ⟨oc20, od20, .func (PySem.W.fnOf "_law_same" "_law_same" (defArgs s_l_same) (defBody s_l_same) (defScope s_l_same) .none kV20 dc20 pm20 an20 cd20 ct20), sl20⟩)
    (c20 : PySem.W.codeIn K cd20 "_law_same" = true) (k20 : PySem.W.keepIn K (.ref f20) = true)
    (a21 : PySem.W.nsIn K mainGlobals "_law_kind_of" = some (some (.ref f21)))
    (l21 : K.lookup f21 = some ⟨oc21, od21, .func (PySem.W.fnOf "_law_kind_of" "_law_kind_of" (defArgs s_l_kind_of) (defBody s_l_kind_of) (defScope s_l_kind_of) .none kV21 dc21 pm21 an21 cd21 ct21), sl21⟩)
    (c21 : PySem.W.codeIn K cd21 "_law_kind_of" = true) (k21 : PySem.W.keepIn K (.ref f21) = true)
    (a22 : PySem.W.nsIn K mainGlobals "_law_told_by" = some (some (.ref f22)))
    (l22 : K.lookup f22 = some ⟨oc22, od22, .func (PySem.W.fnOf "_law_told_by" "_law_told_by" (defArgs s_l_told_by) (defBody s_l_told_by) (defScope s_l_told_by) .none kV22 dc22 pm22 an22 cd22 ct22), sl22⟩)
    (c22 : PySem.W.codeIn K cd22 "_law_told_by" = true) (k22 : PySem.W.keepIn K (.ref f22) = true)
    (a23 : PySem.W.nsIn K mainGlobals "_law_of" = some (some (.ref f23)))
    (l23 : K.lookup f23 = some ⟨oc23, od23, .func (PySem.W.fnOf "_law_of" "_law_of" (defArgs s_l_of) (defBody s_l_of) (defScope s_l_of) .none kV23 dc23 pm23 an23 cd23 ct23), sl23⟩)
    (c23 : PySem.W.codeIn K cd23 "_law_of" = true) (k23 : PySem.W.keepIn K (.ref f23) = true)
    (a24 : PySem.W.nsIn K mainGlobals "law" = some (some (.ref f24)))
    (l24 : K.lookup f24 = some ⟨oc24, od24, .func (PySem.W.fnOf "law" "law" (defArgs s_law) (defBody s_law) (defScope s_law) .none kV24 dc24 pm24 an24 cd24 ct24), sl24⟩)
    (c24 : PySem.W.codeIn K cd24 "law" = true) (k24 : PySem.W.keepIn K (.ref f24) = true)
    (a_FractError : PySem.W.nsIn K mainGlobals "FractError" = some (some (.ref h_FractError)))
    (a_AtRest : PySem.W.nsIn K mainGlobals "AtRest" = some (some (.ref h_AtRest)))
    (a_NoText : PySem.W.nsIn K mainGlobals "NoText" = some (some (.ref h_NoText)))
    (a_NoNumber : PySem.W.nsIn K mainGlobals "NoNumber" = some (some (.ref h_NoNumber)))
    (a_TooMany : PySem.W.nsIn K mainGlobals "TooMany" = some (some (.ref h_TooMany)))
    (a_NoOrder : PySem.W.nsIn K mainGlobals "NoOrder" = some (some (.ref h_NoOrder)))
    (a_NoProgram : PySem.W.nsIn K mainGlobals "NoProgram" = some (some (.ref h_NoProgram)))
    (a_Shared : PySem.W.nsIn K mainGlobals "Shared" = some (some (.ref h_Shared)))
    (a_NoPowers : PySem.W.nsIn K mainGlobals "NoPowers" = some (some (.ref h_NoPowers)))
    (a_NoTrail : PySem.W.nsIn K mainGlobals "NoTrail" = some (some (.ref h_NoTrail)))
    (a_NoName : PySem.W.nsIn K mainGlobals "NoName" = some (some (.ref h_NoName)))
    (a_NoDeed : PySem.W.nsIn K mainGlobals "NoDeed" = some (some (.ref h_NoDeed)))
    (a_NoRow : PySem.W.nsIn K mainGlobals "NoRow" = some (some (.ref h_NoRow)))
    (e_FractError : PySem.W.excIn K h_FractError bmV "ValueError.__new__" = true)
    (e_TooMany : PySem.W.excIn K h_TooMany bmV "ValueError.__new__" = true)
    (u_TooMany : PySem.W.mroIn K h_TooMany (.ref h_FractError) = some true)
    (ne_TooMany : h_TooMany ≠ h_FractError)
    (x2_TooMany : PySem.W.findIn K (.ref h_TooMany) "__getattribute__" = some (some (.builtin "BaseException.__getattribute__")))
    (x3_TooMany : PySem.W.findIn K (.ref h_TooMany) "__getattr__" = some none)
    (x4_TooMany : PySem.W.findIn K (.ref h_TooMany) "__class__" = some (some (.builtin "object.__class__")))
    (x5_TooMany : PySem.W.mroIn K h_TooMany (.type "object") = some true)
    (x6_TooMany : PySem.W.mroIn K h_TooMany (.type "BaseException") = some true)
    (v_TooMany : PySem.W.mroIn K h_TooMany (.type "ValueError") = some true)
    (q_TooMany_AtRest : PySem.W.mroIn K h_TooMany (.ref h_AtRest) = some false) (ne_TooMany_AtRest : h_TooMany ≠ h_AtRest)
    (q_TooMany_NoText : PySem.W.mroIn K h_TooMany (.ref h_NoText) = some false) (ne_TooMany_NoText : h_TooMany ≠ h_NoText)
    (q_TooMany_NoNumber : PySem.W.mroIn K h_TooMany (.ref h_NoNumber) = some false) (ne_TooMany_NoNumber : h_TooMany ≠ h_NoNumber)
    (q_TooMany_NoOrder : PySem.W.mroIn K h_TooMany (.ref h_NoOrder) = some false) (ne_TooMany_NoOrder : h_TooMany ≠ h_NoOrder)
    (q_TooMany_NoProgram : PySem.W.mroIn K h_TooMany (.ref h_NoProgram) = some false) (ne_TooMany_NoProgram : h_TooMany ≠ h_NoProgram)
    (q_TooMany_Shared : PySem.W.mroIn K h_TooMany (.ref h_Shared) = some false) (ne_TooMany_Shared : h_TooMany ≠ h_Shared)
    (q_TooMany_NoPowers : PySem.W.mroIn K h_TooMany (.ref h_NoPowers) = some false) (ne_TooMany_NoPowers : h_TooMany ≠ h_NoPowers)
    (q_TooMany_NoTrail : PySem.W.mroIn K h_TooMany (.ref h_NoTrail) = some false) (ne_TooMany_NoTrail : h_TooMany ≠ h_NoTrail)
    (q_TooMany_NoName : PySem.W.mroIn K h_TooMany (.ref h_NoName) = some false) (ne_TooMany_NoName : h_TooMany ≠ h_NoName)
    (q_TooMany_NoDeed : PySem.W.mroIn K h_TooMany (.ref h_NoDeed) = some false) (ne_TooMany_NoDeed : h_TooMany ≠ h_NoDeed)
    (q_TooMany_NoRow : PySem.W.mroIn K h_TooMany (.ref h_NoRow) = some false) (ne_TooMany_NoRow : h_TooMany ≠ h_NoRow)
    (ty_AtRest : PySem.W.typeIn K (.ref h_AtRest) = some (.type "type")) (mo_AtRest : PySem.W.mroIn K h_AtRest (.type "object") = some true)
    (ty_NoText : PySem.W.typeIn K (.ref h_NoText) = some (.type "type")) (mo_NoText : PySem.W.mroIn K h_NoText (.type "object") = some true)
    (ty_NoNumber : PySem.W.typeIn K (.ref h_NoNumber) = some (.type "type")) (mo_NoNumber : PySem.W.mroIn K h_NoNumber (.type "object") = some true)
    (ty_TooMany : PySem.W.typeIn K (.ref h_TooMany) = some (.type "type")) (mo_TooMany : PySem.W.mroIn K h_TooMany (.type "object") = some true)
    (ty_NoOrder : PySem.W.typeIn K (.ref h_NoOrder) = some (.type "type")) (mo_NoOrder : PySem.W.mroIn K h_NoOrder (.type "object") = some true)
    (ty_NoProgram : PySem.W.typeIn K (.ref h_NoProgram) = some (.type "type")) (mo_NoProgram : PySem.W.mroIn K h_NoProgram (.type "object") = some true)
    (ty_Shared : PySem.W.typeIn K (.ref h_Shared) = some (.type "type")) (mo_Shared : PySem.W.mroIn K h_Shared (.type "object") = some true)
    (ty_NoPowers : PySem.W.typeIn K (.ref h_NoPowers) = some (.type "type")) (mo_NoPowers : PySem.W.mroIn K h_NoPowers (.type "object") = some true)
    (ty_NoTrail : PySem.W.typeIn K (.ref h_NoTrail) = some (.type "type")) (mo_NoTrail : PySem.W.mroIn K h_NoTrail (.type "object") = some true)
    (ty_NoName : PySem.W.typeIn K (.ref h_NoName) = some (.type "type")) (mo_NoName : PySem.W.mroIn K h_NoName (.type "object") = some true)
    (ty_NoDeed : PySem.W.typeIn K (.ref h_NoDeed) = some (.type "type")) (mo_NoDeed : PySem.W.mroIn K h_NoDeed (.type "object") = some true)
    (ty_NoRow : PySem.W.typeIn K (.ref h_NoRow) = some (.type "type")) (mo_NoRow : PySem.W.mroIn K h_NoRow (.type "object") = some true)
    (y1 : PySem.W.specialIn K (.builtin "object.__class__") "__get__" = some (some (.builtin "getset_descriptor.__get__"))) (y2 : PySem.W.takesIn K (.builtin "object.__class__") = some true)
    (z_len : PySem.W.nsIn K mainGlobals "len" = some none)
    (z_isinstance : PySem.W.nsIn K mainGlobals "isinstance" = some none)
    (z_int : PySem.W.nsIn K mainGlobals "int" = some none)
    (z_bool : PySem.W.nsIn K mainGlobals "bool" = some none)
    (z_tuple : PySem.W.nsIn K mainGlobals "tuple" = some none)
    (z_list : PySem.W.nsIn K mainGlobals "list" = some none)
    (z_range : PySem.W.nsIn K mainGlobals "range" = some none)
    (z_max : PySem.W.nsIn K mainGlobals "max" = some none)
    (z_min : PySem.W.nsIn K mainGlobals "min" = some none)
    (z_all : PySem.W.nsIn K mainGlobals "all" = some none)
    (z_zip : PySem.W.nsIn K mainGlobals "zip" = some none)
    (z_str : PySem.W.nsIn K mainGlobals "str" = some none)
    (z_enumerate : PySem.W.nsIn K mainGlobals "enumerate" = some none)
    (z_ValueError : PySem.W.nsIn K mainGlobals "ValueError" = some none)
    (g_MOST_STRETCHES : PySem.W.nsIn K mainGlobals "MOST_STRETCHES" = some (some (.int 2000 t_MOST_STRETCHES)))
    (g_PRIMES : PySem.W.nsIn K mainGlobals "PRIMES" = some (some (.ref x_PRIMES)))
    (y_PRIMES : K.lookup x_PRIMES = some ⟨.type "tuple", d_PRIMES, .seq #[.int 2 t0_PRIMES, .int 3 t1_PRIMES, .int 5 t2_PRIMES, .int 7 t3_PRIMES, .int 11 t4_PRIMES, .int 13 t5_PRIMES, .int 17 t6_PRIMES, .int 19 t7_PRIMES, .int 23 t8_PRIMES, .int 29 t9_PRIMES] n_PRIMES, sl_PRIMES⟩) :
    ∃ fd : FuncData, (∀ (s : Shared) (v : Value), BindsTo s fd ⟨[v], []⟩ [("script", v)]) ∧ ∀ base : Heap, K.In base → base.Ns mainGlobals mg → FnOk l.prog w K mg base CX0 kLaw fa fd ["script"] (sp_law K) := by
  have e := hfa.symm.trans (PySem.W.mg_of X G a24)
  cases e
  have F0 := fun_mk (st := s_is_whole) l0 c0 k0
  have b0 := F0.binds (ps := ["thing"]) fun _ _ _ _ _ _ us hl => match us, hl with | [_], _ => rfl
  have F1 := fun_mk (st := s_powers_of) l1 c1 k1
  have b1 := F1.binds (ps := ["number"]) fun _ _ _ _ _ _ us hl => match us, hl with | [_], _ => rfl
  have F2 := fun_mk (st := s_how_often) l2 c2 k2
  have b2 := F2.binds (ps := ["prime", "number"]) fun _ _ _ _ _ _ us hl => match us, hl with | [_, _], _ => rfl
  have F3 := fun_mk (st := s_without_primes) l3 c3 k3
  have b3 := F3.binds (ps := ["number"]) fun _ _ _ _ _ _ us hl => match us, hl with | [_], _ => rfl
  have F4 := fun_mk (st := s_changes_of) l4 c4 k4
  have b4 := F4.binds (ps := ["program"]) fun _ _ _ _ _ _ us hl => match us, hl with | [_], _ => rfl
  have F5 := fun_mk (st := s_fraction_changes) l5 c5 k5
  have b5 := F5.binds (ps := ["fraction"]) fun _ _ _ _ _ _ us hl => match us, hl with | [_], _ => rfl
  have F6 := fun_mk (st := s_fits) l6 c6 k6
  have b6 := F6.binds (ps := ["changes", "powers"]) fun _ _ _ _ _ _ us hl => match us, hl with | [_, _], _ => rfl
  have F7 := fun_mk (st := s_first_of) l7 c7 k7
  have b7 := F7.binds (ps := ["rows", "powers"]) fun _ _ _ _ _ _ us hl => match us, hl with | [_, _], _ => rfl
  have F8 := fun_mk (st := s_moved) l8 c8 k8
  have b8 := F8.binds (ps := ["powers", "changes", "many"]) fun _ _ _ _ _ _ us hl => match us, hl with | [_, _, _], _ => rfl
  have F9 := fun_mk (st := s_stretch_steps) l9 c9 k9
  have b9 := F9.binds (ps := ["rows", "powers", "number"]) fun _ _ _ _ _ _ us hl => match us, hl with | [_, _, _], _ => rfl
  have F10 := fun_mk (st := s_steps_to_lack) l10 c10 k10
  have b10 := F10.binds (ps := ["powers", "used"]) fun _ _ _ _ _ _ us hl => match us, hl with | [_, _], _ => rfl
  have F11 := fun_mk (st := s_steps_to_fit) l11 c11 k11
  have b11 := F11.binds (ps := ["powers", "used", "ahead"]) fun _ _ _ _ _ _ us hl => match us, hl with | [_, _, _], _ => rfl
  have F12 := fun_mk (st := s_leap) l12 c12 k12
  have b12 := F12.binds (ps := ["program", "powers", "many"]) fun _ _ _ _ _ _ us hl => match us, hl with | [_, _, _], _ => rfl
  have F13 := fun_mk (st := s_l_cell_at) l13 c13 k13
  have b13 := F13.binds (ps := ["script", "k"]) fun _ _ _ _ _ _ us hl => match us, hl with | [_, _], _ => rfl
  have F14 := fun_mk (st := s_l_pot) l14 c14 k14
  have b14 := F14.binds (ps := ["cell"]) fun _ _ _ _ _ _ us hl => match us, hl with | [_], _ => rfl
  have F15 := fun_mk (st := s_l_take) l15 c15 k15
  have b15 := F15.binds (ps := ["pot", "far"]) fun _ _ _ _ _ _ us hl => match us, hl with | [_, _], _ => rfl
  have F16 := fun_mk (st := s_l_order) l16 c16 k16
  have b16 := F16.binds (ps := ["pot", "wide"]) fun _ _ _ _ _ _ us hl => match us, hl with | [_, _], _ => rfl
  have F17 := fun_mk (st := s_l_primes) l17 c17 k17
  have b17 := F17.binds (ps := []) fun _ _ _ _ _ _ us hl => match us, hl with | [], _ => rfl
  have F18 := fun_mk (st := s_l_product) l18 c18 k18
  have b18 := F18.binds (ps := ["line"]) fun _ _ _ _ _ _ us hl => match us, hl with | [_], _ => rfl
  have F19 := fun_mk (st := s_l_whole) l19 c19 k19
  have b19 := F19.binds (ps := ["found"]) fun _ _ _ _ _ _ us hl => match us, hl with | [_], _ => rfl
  have F20 := fun_mk (st := s_l_same) l20 c20 k20
  have b20 := F20.binds (ps := ["found", "due"]) fun _ _ _ _ _ _ us hl => match us, hl with | [_, _], _ => rfl
  have F21 := fun_mk (st := s_l_kind_of) l21 c21 k21
  have b21 := F21.binds (ps := ["e"]) fun _ _ _ _ _ _ us hl => match us, hl with | [_], _ => rfl
  have F22 := fun_mk (st := s_l_told_by) l22 c22 k22
  have b22 := F22.binds (ps := ["call", "program", "line", "many"]) fun _ _ _ _ _ _ us hl => match us, hl with | [_, _, _, _], _ => rfl
  have F23 := fun_mk (st := s_l_of) l23 c23 k23
  have b23 := F23.binds (ps := ["places", "often"]) fun _ _ _ _ _ _ us hl => match us, hl with | [_, _], _ => rfl
  have F24 := fun_mk (st := s_law) l24 c24 k24
  have T : Tx K mg := ⟨f0, _, ⟨F0, PySem.W.mg_of X G a0, b0⟩, f1, _, ⟨F1, PySem.W.mg_of X G a1, b1⟩, f2, _, ⟨F2, PySem.W.mg_of X G a2, b2⟩, f3, _, ⟨F3, PySem.W.mg_of X G a3, b3⟩, f4, _, ⟨F4, PySem.W.mg_of X G a4, b4⟩, f5, _, ⟨F5, PySem.W.mg_of X G a5, b5⟩, f6, _, ⟨F6, PySem.W.mg_of X G a6, b6⟩, f7, _, ⟨F7, PySem.W.mg_of X G a7, b7⟩, f8, _, ⟨F8, PySem.W.mg_of X G a8, b8⟩, f9, _, ⟨F9, PySem.W.mg_of X G a9, b9⟩, f10, _, ⟨F10, PySem.W.mg_of X G a10, b10⟩, f11, _, ⟨F11, PySem.W.mg_of X G a11, b11⟩, f12, _, ⟨F12, PySem.W.mg_of X G a12, b12⟩, f13, _, ⟨F13, PySem.W.mg_of X G a13, b13⟩, f14, _, ⟨F14, PySem.W.mg_of X G a14, b14⟩, f15, _, ⟨F15, PySem.W.mg_of X G a15, b15⟩, f16, _, ⟨F16, PySem.W.mg_of X G a16, b16⟩, f17, _, ⟨F17, PySem.W.mg_of X G a17, b17⟩, f18, _, ⟨F18, PySem.W.mg_of X G a18, b18⟩, f19, _, ⟨F19, PySem.W.mg_of X G a19, b19⟩, f20, _, ⟨F20, PySem.W.mg_of X G a20, b20⟩, f21, _, ⟨F21, PySem.W.mg_of X G a21, b21⟩, f22, _, ⟨F22, PySem.W.mg_of X G a22, b22⟩, f23, _, ⟨F23, PySem.W.mg_of X G a23, b23⟩, h_FractError, PySem.W.mg_of X G a_FractError, h_AtRest, PySem.W.mg_of X G a_AtRest, h_NoText, PySem.W.mg_of X G a_NoText, h_NoNumber, PySem.W.mg_of X G a_NoNumber, h_TooMany, PySem.W.mg_of X G a_TooMany, h_NoOrder, PySem.W.mg_of X G a_NoOrder, h_NoProgram, PySem.W.mg_of X G a_NoProgram, h_Shared, PySem.W.mg_of X G a_Shared, h_NoPowers, PySem.W.mg_of X G a_NoPowers, h_NoTrail, PySem.W.mg_of X G a_NoTrail, h_NoName, PySem.W.mg_of X G a_NoName, h_NoDeed, PySem.W.mg_of X G a_NoDeed, h_NoRow, PySem.W.mg_of X G a_NoRow, ⟨PySem.W.mg_of X G a_FractError, e_FractError⟩, ⟨PySem.W.mg_of X G a_TooMany, e_TooMany⟩, ⟨e_TooMany, u_TooMany, ne_TooMany⟩, ⟨PySem.W.cls_of_mro x5_TooMany, x2_TooMany, x3_TooMany, x4_TooMany, y1, y2, x5_TooMany, x6_TooMany⟩, PySem.W.kit_val v_TooMany, PySem.W.kit_false ty_AtRest mo_AtRest q_TooMany_AtRest ne_TooMany_AtRest, PySem.W.kit_false ty_NoText mo_NoText q_TooMany_NoText ne_TooMany_NoText, PySem.W.kit_false ty_NoNumber mo_NoNumber q_TooMany_NoNumber ne_TooMany_NoNumber, PySem.W.kit_self, PySem.W.kit_false ty_NoOrder mo_NoOrder q_TooMany_NoOrder ne_TooMany_NoOrder, PySem.W.kit_false ty_NoProgram mo_NoProgram q_TooMany_NoProgram ne_TooMany_NoProgram, PySem.W.kit_false ty_Shared mo_Shared q_TooMany_Shared ne_TooMany_Shared, PySem.W.kit_false ty_NoPowers mo_NoPowers q_TooMany_NoPowers ne_TooMany_NoPowers, PySem.W.kit_false ty_NoTrail mo_NoTrail q_TooMany_NoTrail ne_TooMany_NoTrail, PySem.W.kit_false ty_NoName mo_NoName q_TooMany_NoName ne_TooMany_NoName, PySem.W.kit_false ty_NoDeed mo_NoDeed q_TooMany_NoDeed ne_TooMany_NoDeed, PySem.W.kit_false ty_NoRow mo_NoRow q_TooMany_NoRow ne_TooMany_NoRow, PySem.W.mg_none_of X G z_len, PySem.W.mg_none_of X G z_isinstance, PySem.W.mg_none_of X G z_int, PySem.W.mg_none_of X G z_bool, PySem.W.mg_none_of X G z_tuple, PySem.W.mg_none_of X G z_list, PySem.W.mg_none_of X G z_range, PySem.W.mg_none_of X G z_max, PySem.W.mg_none_of X G z_min, PySem.W.mg_none_of X G z_all, PySem.W.mg_none_of X G z_zip, PySem.W.mg_none_of X G z_str, PySem.W.mg_none_of X G z_enumerate, PySem.W.mg_none_of X G z_ValueError, x_PRIMES, PySem.W.mg_of X G g_PRIMES, fun H => .inr ⟨_, _, _, y_PRIMES, rfl, rfl, (by show 10 ≤ sizeLine; decide), (.cons ⟨_, rfl⟩ (.cons ⟨_, rfl⟩ (.cons ⟨_, rfl⟩ (.cons ⟨_, rfl⟩ (.cons ⟨_, rfl⟩ (.cons ⟨_, rfl⟩ (.cons ⟨_, rfl⟩ (.cons ⟨_, rfl⟩ (.cons ⟨_, rfl⟩ (.cons ⟨_, rfl⟩ .nil))))))))))⟩, ⟨_, PySem.W.mg_of X G g_MOST_STRETCHES⟩⟩
  exact ⟨PySem.W.fnOf "law" "law" (defArgs s_law) (defBody s_law) (defScope s_law) .none kV24 dc24 pm24 an24 cd24 ct24, fun s v => .of_eq rfl, fun base _ _ => ok_law T F24⟩
theorem walk {l : PySem.W.OpenLaw} {q : Program} {loose : List Str} {XP : (Str → Option Value) → Heap → Prop} {YP : World → Heap → Prop} {d : DefRec} {K : Params → PySem.W.Frag} (hn : l.most = some 63) (hdf : d.params.defaults = [])
    (hY : ∀ (w : World) (h : Heap), YP w h → (K w.params).In h)
    (F : ∀ (w : World) (mg : Str → Option Value) (fa : Addr) (h : Heap), (K w.params).In h → h.Ns mainGlobals mg → mg d.name = some (.ref fa) →
      ∃ fd : FuncData, (∀ (s : Shared) (u : Value), BindsTo s fd ⟨[u], []⟩ [("script", u)]) ∧ ∀ base : Heap, (K w.params).In base → base.Ns mainGlobals mg → FnOk l.prog w (K w.params) mg base CX0 kLaw fa fd ["script"] (sp_law (K w.params))) :
    PySem.W.WalkO q loose XP YP l.row.toRowW d [] (fun f vs => PySem.call f vs) :=
  L2.walk_of (n := 63) (k := kLaw) (x := "script") (CX := fun _ => CX0) (sp := fun w => sp_law (K w.params)) hn (by decide) hdf ⟨rfl, by decide, by decide⟩ hY F (fun _ _ a ns hl _ hS => ⟨a, ns, rfl, hS, hl, fun _ => rfl⟩) fun _ _ _ _ _ z => z
end W2
open PySem PySem.W PyProof.Rows
theorem _root_.PySem.W.Fast.tw13799955539786874861 : True := trivial
theorem _root_.PySem.W.Fast.tw12072401199190643591 : True := trivial
theorem _root_.PySem.W.Fast.tw188815169408031953 : True := trivial
theorem _root_.PySem.W.Fast.tw6757661843947555948 : True := trivial
set_option maxRecDepth 100000 in
set_option maxHeartbeats 0 in
theorem PySem.Challenge.cw_wholefract_k16_leaps_too_far_holds : PySem.Challenge.rw_wholefract_k16_leaps_too_far.Holds := by
  w_on; o_law; k_head; (case hw => w_witness2)
  k_fill
  refine W2.walk (l := PySem.Challenge.rw_wholefract_k16_leaps_too_far) rfl rfl (fun w h Y => PySem.W.kIn_of Y) ?F
  case F =>
    intro w mg fa h KX G hmg
    refine' W2.all_mk KX G hmg ?a0 ?l0 ?c0 ?k0 ?a1 ?l1 ?c1 ?k1 ?a2 ?l2 ?c2 ?k2 ?a3 ?l3 ?c3 ?k3 ?a4 ?l4 ?c4 ?k4 ?a5 ?l5 ?c5 ?k5 ?a6 ?l6 ?c6 ?k6 ?a7 ?l7 ?c7 ?k7 ?a8 ?l8 ?c8 ?k8 ?a9 ?l9 ?c9 ?k9 ?a10 ?l10 ?c10 ?k10 ?a11 ?l11 ?c11 ?k11 ?a12 ?l12 ?c12 ?k12 ?a13 ?l13 ?c13 ?k13 ?a14 ?l14 ?c14 ?k14 ?a15 ?l15 ?c15 ?k15 ?a16 ?l16 ?c16 ?k16 ?a17 ?l17 ?c17 ?k17 ?a18 ?l18 ?c18 ?k18 ?a19 ?l19 ?c19 ?k19 ?a20 ?l20 ?c20 ?k20 ?a21 ?l21 ?c21 ?k21 ?a22 ?l22 ?c22 ?k22 ?a23 ?l23 ?c23 ?k23 ?a24 ?l24 ?c24 ?k24 ?a_FractError ?a_AtRest ?a_NoText ?a_NoNumber ?a_TooMany ?a_NoOrder ?a_NoProgram ?a_Shared ?a_NoPowers ?a_NoTrail ?a_NoName ?a_NoDeed ?a_NoRow ?e_FractError ?e_TooMany ?u_TooMany ?ne_TooMany ?x2_TooMany ?x3_TooMany ?x4_TooMany ?x5_TooMany ?x6_TooMany ?v_TooMany ?q_TooMany_AtRest ?ne_TooMany_AtRest ?q_TooMany_NoText ?ne_TooMany_NoText ?q_TooMany_NoNumber ?ne_TooMany_NoNumber ?q_TooMany_NoOrder ?ne_TooMany_NoOrder ?q_TooMany_NoProgram ?ne_TooMany_NoProgram ?q_TooMany_Shared ?ne_TooMany_Shared ?q_TooMany_NoPowers ?ne_TooMany_NoPowers ?q_TooMany_NoTrail ?ne_TooMany_NoTrail ?q_TooMany_NoName ?ne_TooMany_NoName ?q_TooMany_NoDeed ?ne_TooMany_NoDeed ?q_TooMany_NoRow ?ne_TooMany_NoRow ?ty_AtRest ?mo_AtRest ?ty_NoText ?mo_NoText ?ty_NoNumber ?mo_NoNumber ?ty_TooMany ?mo_TooMany ?ty_NoOrder ?mo_NoOrder ?ty_NoProgram ?mo_NoProgram ?ty_Shared ?mo_Shared ?ty_NoPowers ?mo_NoPowers ?ty_NoTrail ?mo_NoTrail ?ty_NoName ?mo_NoName ?ty_NoDeed ?mo_NoDeed ?ty_NoRow ?mo_NoRow ?y1 ?y2 ?z_len ?z_isinstance ?z_int ?z_bool ?z_tuple ?z_list ?z_range ?z_max ?z_min ?z_all ?z_zip ?z_str ?z_enumerate ?z_ValueError ?g_MOST_STRETCHES ?g_PRIMES ?y_PRIMES
    (case a0 => k_is)
    (case l0 => k_is)
    (case c0 => k_is)
    (case k0 => k_is)
    (case a1 => k_is)
    (case l1 => k_is)
    (case c1 => k_is)
    (case k1 => k_is)
    (case a2 => k_is)
    (case l2 => k_is)
    (case c2 => k_is)
    (case k2 => k_is)
    (case a3 => k_is)
    (case l3 => k_is)
    (case c3 => k_is)
    (case k3 => k_is)
    (case a4 => k_is)
    (case l4 => k_is)
    (case c4 => k_is)
    (case k4 => k_is)
    (case a5 => k_is)
    (case l5 => k_is)
    (case c5 => k_is)
    (case k5 => k_is)
    (case a6 => k_is)
    (case l6 => k_is)
    (case c6 => k_is)
    (case k6 => k_is)
    (case a7 => k_is)
    (case l7 => k_is)
    (case c7 => k_is)
    (case k7 => k_is)
    (case a8 => k_is)
    (case l8 => k_is)
    (case c8 => k_is)
    (case k8 => k_is)
    (case a9 => k_is)
    (case l9 => k_is)
    (case c9 => k_is)
    (case k9 => k_is)
    (case a10 => k_is)
    (case l10 => k_is)
    (case c10 => k_is)
    (case k10 => k_is)
    (case a11 => k_is)
    (case l11 => k_is)
    (case c11 => k_is)
    (case k11 => k_is)
    (case a12 => k_is)
    (case l12 => k_is)
    (case c12 => k_is)
    (case k12 => k_is)
    (case a13 => k_is)
    (case l13 => k_is)
    (case c13 => k_is)
    (case k13 => k_is)
    (case a14 => k_is)
    (case l14 => k_is)
    (case c14 => k_is)
    (case k14 => k_is)
    (case a15 => k_is)
    (case l15 => k_is)
    (case c15 => k_is)
    (case k15 => k_is)
    (case a16 => k_is)
    (case l16 => k_is)
    (case c16 => k_is)
    (case k16 => k_is)
    (case a17 => k_is)
    (case l17 => k_is)
    (case c17 => k_is)
    (case k17 => k_is)
    (case a18 => k_is)
    (case l18 => k_is)
    (case c18 => k_is)
    (case k18 => k_is)
    (case a19 => k_is)
    (case l19 => k_is)
    (case c19 => k_is)
    (case k19 => k_is)
    (case a20 => k_is)
    (case l20 => k_is)
    (case c20 => k_is)
    (case k20 => k_is)
    (case a21 => k_is)
    (case l21 => k_is)
    (case c21 => k_is)
    (case k21 => k_is)
    (case a22 => k_is)
    (case l22 => k_is)
    (case c22 => k_is)
    (case k22 => k_is)
    (case a23 => k_is)
    (case l23 => k_is)
    (case c23 => k_is)
    (case k23 => k_is)
    (case a24 => k_is)
    (case l24 => k_is)
    (case c24 => k_is)
    (case k24 => k_is)
    (case a_FractError => k_is)
    (case a_AtRest => k_is)
    (case a_NoText => k_is)
    (case a_NoNumber => k_is)
    (case a_TooMany => k_is)
    (case a_NoOrder => k_is)
    (case a_NoProgram => k_is)
    (case a_Shared => k_is)
    (case a_NoPowers => k_is)
    (case a_NoTrail => k_is)
    (case a_NoName => k_is)
    (case a_NoDeed => k_is)
    (case a_NoRow => k_is)
    (case e_FractError => k_exc)
    (case e_TooMany => k_exc)
    (case u_TooMany => k_is)
    (case ne_TooMany => decide)
    (case x2_TooMany => k_is)
    (case x3_TooMany => k_is)
    (case x4_TooMany => k_is)
    (case x5_TooMany => k_is)
    (case x6_TooMany => k_is)
    (case v_TooMany => k_is)
    (case q_TooMany_AtRest => k_is)
    (case ne_TooMany_AtRest => decide)
    (case q_TooMany_NoText => k_is)
    (case ne_TooMany_NoText => decide)
    (case q_TooMany_NoNumber => k_is)
    (case ne_TooMany_NoNumber => decide)
    (case q_TooMany_NoOrder => k_is)
    (case ne_TooMany_NoOrder => decide)
    (case q_TooMany_NoProgram => k_is)
    (case ne_TooMany_NoProgram => decide)
    (case q_TooMany_Shared => k_is)
    (case ne_TooMany_Shared => decide)
    (case q_TooMany_NoPowers => k_is)
    (case ne_TooMany_NoPowers => decide)
    (case q_TooMany_NoTrail => k_is)
    (case ne_TooMany_NoTrail => decide)
    (case q_TooMany_NoName => k_is)
    (case ne_TooMany_NoName => decide)
    (case q_TooMany_NoDeed => k_is)
    (case ne_TooMany_NoDeed => decide)
    (case q_TooMany_NoRow => k_is)
    (case ne_TooMany_NoRow => decide)
    (case ty_AtRest => k_is)
    (case mo_AtRest => k_is)
    (case ty_NoText => k_is)
    (case mo_NoText => k_is)
    (case ty_NoNumber => k_is)
    (case mo_NoNumber => k_is)
    (case ty_TooMany => k_is)
    (case mo_TooMany => k_is)
    (case ty_NoOrder => k_is)
    (case mo_NoOrder => k_is)
    (case ty_NoProgram => k_is)
    (case mo_NoProgram => k_is)
    (case ty_Shared => k_is)
    (case mo_Shared => k_is)
    (case ty_NoPowers => k_is)
    (case mo_NoPowers => k_is)
    (case ty_NoTrail => k_is)
    (case mo_NoTrail => k_is)
    (case ty_NoName => k_is)
    (case mo_NoName => k_is)
    (case ty_NoDeed => k_is)
    (case mo_NoDeed => k_is)
    (case ty_NoRow => k_is)
    (case mo_NoRow => k_is)
    (case y1 => k_is)
    (case y2 => k_is)
    (case z_len => k_is)
    (case z_isinstance => k_is)
    (case z_int => k_is)
    (case z_bool => k_is)
    (case z_tuple => k_is)
    (case z_list => k_is)
    (case z_range => k_is)
    (case z_max => k_is)
    (case z_min => k_is)
    (case z_all => k_is)
    (case z_zip => k_is)
    (case z_str => k_is)
    (case z_enumerate => k_is)
    (case z_ValueError => k_is)
    (case g_MOST_STRETCHES => k_is)
    (case g_PRIMES => k_is)
    (case y_PRIMES => k_is)


