import PyProof.Rows.All
import Wide.All
import OpenK.AllK
import Wide.FinOn
import Lean
import PyProof.EqAt
import PyProof.EqKinds
import PyProof.TupleCall
import PyProof.EnumMake
import PyProof.Draws
import PyProof.Rows.MatchSeqLen
import PyProof.StrLawsTight
import PyProof.StrLawsChain
import KE.IntTextText
import PyProof.JoinWalk
import PyProof.Rows.StrWeight2
import PyProof.StrBlock2
import PyProof.FString
import PyProof.StrLawsOcc
import KE.KIntText
import PyProof.SliceStr2
import PyProof.FString5
import PySem.Challenge.RW_wholefract_k66_whole_loops_never_stop
set_option Elab.async false
set_option linter.all false
set_option maxRecDepth 100000
namespace L2
open PySem PySem.Spec PyProof.Rows
abbrev Key := Sum Int Str
def keyIs : Key -> Value -> Bool
  | .inl k, v => Value.isInt k v
  | .inr x, v => Value.isStrOf x v
def keyH (w : World) : Key -> Int
  | .inl k => hashInt k
  | .inr x => hashStr w x
theorem keyIs_shape : ∀ {k : Key} {v : Value}, keyIs k v = true -> (∃ i t, k = Sum.inl i /\ v = Value.int i t) ∨ (∃ x t, k = Sum.inr x /\ v = Value.str x t)
  | .inl i, v, h => by
    obtain ⟨t, e⟩ := Value.isInt_shape (k := i) (v := v) h
    exact .inl ⟨i, t, rfl, e⟩
  | .inr x, v, h => by
    obtain ⟨t, e⟩ := Value.isStrOf_shape (x := x) (v := v) h
    exact .inr ⟨x, t, rfl, e⟩
theorem keyIs_int (i : Int) (t : Tok) : keyIs (.inl i) (.int i t) = true := by simp [keyIs, Value.isInt]
theorem keyIs_str (x : Str) (t : Tok) : keyIs (.inr x) (.str x t) = true := by simp [keyIs, Value.isStrOf]
theorem key_ll (a b : Int) : decide ((Sum.inl a : Key) = Sum.inl b) = (a == b) := by
  by_cases e : a = b
  · subst e; simp
  · have h : ¬ (Sum.inl a : Key) = Sum.inl b := fun q => e (Sum.inl.inj q)
    rw [decide_eq_false h]
    exact (beq_eq_false_iff_ne.mpr e).symm
theorem key_rr (a b : Str) : decide ((Sum.inr a : Key) = Sum.inr b) = decide (a = b) := by
  by_cases e : a = b
  · subst e; simp
  · have h : ¬ (Sum.inr a : Key) = Sum.inr b := fun q => e (Sum.inr.inj q)
    rw [decide_eq_false h, decide_eq_false e]
theorem key_lr (a : Int) (b : Str) : decide ((Sum.inl a : Key) = Sum.inr b) = false := decide_eq_false (fun q => nomatch q)
theorem key_rl (a : Str) (b : Int) : decide ((Sum.inr a : Key) = Sum.inl b) = false := decide_eq_false (fun q => nomatch q)
def mixKind (prog : Program) (w : World) : PySem.KeyKind prog w Key where
  is := keyIs
  hash := keyH w
  inj := fun v a b ha hb => by
    rcases keyIs_shape ha with ⟨i, t, rfl, rfl⟩ | ⟨x, t, rfl, rfl⟩
    · rcases keyIs_shape hb with ⟨j, u, rfl, e⟩ | ⟨y, u, rfl, e⟩
      · injection e with e1 _; rw [e1]
      · exact nomatch e
    · rcases keyIs_shape hb with ⟨j, u, rfl, e⟩ | ⟨y, u, rfl, e⟩
      · exact nomatch e
      · injection e with e1 _; rw [e1]
  byValue := fun k v h => by
    rcases keyIs_shape h with ⟨i, t, rfl, rfl⟩ | ⟨x, t, rfl, rfl⟩ <;> rfl
  pyHash := fun hv h => by
    rcases keyIs_shape hv with ⟨i, t, rfl, rfl⟩ | ⟨x, t, rfl, rfl⟩
    · exact wpAny_pyHash_int h
    · exact wpAny_pyHash_str h
  eqBool := fun hu hv h => by
    rcases keyIs_shape hu with ⟨i, t, rfl, rfl⟩ | ⟨x, t, rfl, rfl⟩
    · rcases keyIs_shape hv with ⟨j, u, rfl, rfl⟩ | ⟨y, u, rfl, rfl⟩
      · rw [key_ll] at h; exact wpAny_eqBool_int h
      · rw [key_lr] at h; exact SeqAt.EqAt.int_str i t y u _ _ _ _ h
    · rcases keyIs_shape hv with ⟨j, u, rfl, rfl⟩ | ⟨y, u, rfl, rfl⟩
      · rw [key_rl] at h; exact SeqAt.EqAt.str_int x t j u _ _ _ _ h
      · rw [key_rr] at h; exact wpAny_eqBool_str h
  «strs» := fun k x t v h => by
    rcases keyIs_shape h with ⟨i, u, rfl, e⟩ | ⟨y, u, rfl, e⟩
    · exact nomatch e
    · injection e with e1 _
      subst e1
      cases v <;> rfl
theorem mixKind_int (prog : Program) (w : World) (i : Int) (t : Tok) : (mixKind prog w).is (.inl i) (.int i t) = true := keyIs_int i t
theorem mixKind_str (prog : Program) (w : World) (x : Str) (t : Tok) : (mixKind prog w).is (.inr x) (.str x t) = true := keyIs_str x t
end L2
namespace L2
open PySem PySem.Spec PyProof.Rows
inductive V where
  | non | bl (b : Bool) | int (i : Int) | str (x : Str) | byt (b : Array UInt8) | flt (b : UInt64) | ref (a : Addr) | ty (n : String)
  deriving DecidableEq
def RelV : V -> Value -> Prop
  | .non, u => u = Value.none
  | .bl b, u => u = Value.bool b
  | .int i, u => ∃ t, u = Value.int i t
  | .str x, u => ∃ t, u = Value.str x t
  | .byt b, u => ∃ t, u = Value.bytes b t
  | .flt b, u => ∃ t, u = Value.float b t
  | .ref a, u => u = Value.ref a
  | .ty n, u => u = Value.type n
abbrev Vals : List V -> List Value -> Prop := Paired RelV
theorem Vals.length {xs : List V} {us : List Value} (r : Vals xs us) : xs.length = us.length := Paired.length r
theorem Vals.get : ∀ {xs : List V} {us : List Value} {i : Nat} {x : V}, Vals xs us -> xs[i]? = some x -> ∃ u, us[i]? = some u /\ RelV x u
  | _, _, _, _, .nil, e => by simp at e
  | _, _, 0, _, .cons r _, e => by simp at e; subst e; exact ⟨_, rfl, r⟩
  | _, _, i + 1, x, .cons _ t, e => by
    obtain ⟨u, h1, h2⟩ := Vals.get (i := i) (x := x) t (by simpa using e)
    exact ⟨u, by simpa using h1, h2⟩
theorem Vals.set {x : V} {u : Value} (r : RelV x u) : ∀ {xs : List V} {us : List Value} (i : Nat), Vals xs us -> Vals (xs.set i x) (us.set i u)
  | _, _, _, .nil => .nil
  | _, _, 0, .cons _ t => .cons r t
  | _, _, i + 1, .cons q t => .cons q (Vals.set r i t)
theorem Vals.append : ∀ {xs ys : List V} {us ws : List Value}, Vals xs us -> Vals ys ws -> Vals (xs ++ ys) (us ++ ws)
  | _, _, _, _, .nil, s => s
  | _, _, _, _, .cons r t, s => .cons r (Vals.append t s)
theorem Vals.take : ∀ {xs : List V} {us : List Value} (n : Nat), Vals xs us -> Vals (xs.take n) (us.take n)
  | _, _, 0, _ => .nil
  | _, _, _ + 1, .nil => .nil
  | _, _, n + 1, .cons r t => .cons r (Vals.take n t)
theorem Vals.drop : ∀ {xs : List V} {us : List Value} (n : Nat), Vals xs us -> Vals (xs.drop n) (us.drop n)
  | _, _, 0, r => r
  | _, _, _ + 1, .nil => .nil
  | _, _, n + 1, .cons _ t => Vals.drop n t
def RelO : Option V -> Option Value -> Prop
  | some v, some u => RelV v u
  | none, none => True
  | _, _ => False
def KV {κ : Type} : List (κ × V) -> List (κ × Value) -> Prop := Paired fun (p : κ × V) (q : κ × Value) => p.1 = q.1 /\ RelV p.2 q.2
def kV : Key -> V
  | .inl i => .int i
  | .inr x => .str x
inductive HO where
  | lst (xs : List V)
  | tup (xs : List V)
  | dK (kvs : List (Key × V)) | dT (kvs : List (List Key × V))
  | set (S : Int -> Bool) (n : Nat)
  | ins (C dx : Addr) (fs : List (Str × V))
  | own (x : Addr)
  | xd (fs : List (Str × V))
  | met (f x : Addr)
  | rng (lo hi : Int)
  | frz (o : Obj) (u : HO)
  | tbl (ps : Array Value)
  | ext (φ : Heap -> Prop)
abbrev Hp := Addr -> Option HO
def upd (H : Hp) (a : Addr) (o : HO) : Hp := fun b => if b = a then some o else H b
theorem upd_same {H : Hp} {a : Addr} {o : HO} : upd H a o a = some o := by unfold upd; rw [if_pos rfl]
theorem upd_ne {H : Hp} {a b : Addr} {o : HO} (h : b ≠ a) : upd H a o b = H b := by unfold upd; rw [if_neg h]
theorem upd_upd {H : Hp} {a : Addr} {o u : HO} : upd (upd H a o) a u = upd H a u := by
  funext b; unfold upd; split <;> rfl
theorem ne_of {H : Hp} {a b : Addr} {o u : HO} (h : H a = some o) (h' : H b = some u) (d : o ≠ u) : a ≠ b := by
  intro e; subst e; rw [h] at h'; exact d (Option.some.inj h')
theorem ne_of_none {H : Hp} {a b : Addr} {o : HO} (h : H a = some o) (h' : H b = none) : a ≠ b := by
  intro e; subst e; rw [h] at h'; cases h'
section
variable (P : Program) (w : World)
def IsTupD (h : Heap) (a : Addr) (items : Array Value) : Prop := ∃ o, h.get? a = some o /\ o.cls = .type "tuple" /\ (∃ n, o.data = .seq items n) /\ o.dict = none
theorem IsTupD.up {h : Heap} {a : Addr} {items : Array Value} : IsTupD h a items -> IsTup h a items := fun ⟨o, e, c, d, _⟩ => ⟨o, e, c, d⟩
theorem IsTupD.lt {h : Heap} {a : Addr} {items : Array Value} : IsTupD h a items -> a < h.objs.size := fun ⟨_, e, _⟩ => Heap.lt_size e
theorem IsTupD.new (h : Heap) (items : Array Value) : IsTupD (h.push { cls := .type "tuple", data := .seq items }) h.objs.size items := ⟨_, Heap.get?_push_size _ rfl, rfl, ⟨_, rfl⟩, rfl⟩
def ObjOk (H : Hp) (h : Heap) (a : Addr) : HO -> Prop
  | .lst xs => xs.length <= sizeLine /\ ∃ (its : List Value) (n : Nat), Vals xs its /\ h.get? a = some { cls := .type "list", data := .seq its.toArray n }
  | .tup xs => xs.length <= sizeLine /\ ∃ its : List Value, Vals xs its /\ IsTupD h a its.toArray
  | .dK kvs => kvs.length <= sizeLine /\ (a == sysModules) = false /\ ∃ vs, KV kvs vs /\ h.DictOf (mixKind P w) a vs
  | .dT kvs => kvs.length <= sizeLine /\ (a == sysModules) = false /\ ∃ xs : List (List Key × Addr × Value),
      Paired (fun (p : List Key × V) (q : List Key × Addr × Value) => p.1 = q.1 /\ H q.2.1 = some (.tup (p.1.map kV)) /\ RelV p.2 q.2.2) kvs xs /\
      ∃ o es ep, h.get? a = some o /\ o.ExactDict /\ o.data = .dict es ep /\ es.toList = xs.map (entryOfKey (tupleKind (mixKind P w))) /\ (xs.map (·.1)).Nodup
  | .set S n => h.SetOf (intKind P w) a S n
  | .ins C dx fs => H dx = some (.own a) /\ fs.length <= 1000 /\ dx ≠ a /\ h.get? a = some (PySem.W.instObj C dx) /\
      ∃ mA, h.Ns1 dx mA /\ (∀ f, RelO (fs.lookup f) (mA f)) /\ PySem.Within mA (fs.map (·.1))
  | .own _ => ∃ o, h.get? a = some o
  | .xd fs => ∃ mA, h.Ns1 a mA /\ ∀ f, RelO (fs.lookup f) (mA f)
  | .rng lo hi => ∃ t u v, h.get? a = some { cls := .type "range", data := .fields #[.int lo t, .int hi u, .int 1 v] }
  | .frz o u => h.get? a = some o /\ ObjOk H h a u
  | .tbl ps => h.get? a = some { cls := .none, data := .fields ps }
  | .met f x => h.get? a = some (PySem.W.methodObj (.ref f) (.ref x))
  | .ext φ => φ h /\ (∃ o, h.get? a = some o) /\ ∀ h1 h2 : Heap, φ h1 -> (∀ o, h1.get? a = some o -> h2.get? a = some o) -> φ h2
def HOk (H : Hp) (h : Heap) : Prop := ∀ a o, H a = some o -> ObjOk P w H h a o
end
section
variable {P : Program} {w : World} {H H' : Hp} {h h' : Heap} {a : Addr} {o : HO}
theorem ObjOk.lt (x : ObjOk P w H h a o) : a < h.objs.size := by
  cases o with
  | lst xs => obtain ⟨_, _, _, _, e⟩ := x; exact Heap.lt_size e
  | tup xs => obtain ⟨_, _, _, p⟩ := x; exact p.lt
  | dK kvs => obtain ⟨_, _, _, _, o, _, _, e, _⟩ := x; exact Heap.lt_size e
  | dT kvs => obtain ⟨_, _, _, _, o, _, _, e, _⟩ := x; exact Heap.lt_size e
  | set S n => obtain ⟨o, _, _, _, e, _⟩ := x; exact Heap.lt_size e
  | ins C dx fs => obtain ⟨_, _, _, e, _⟩ := x; exact Heap.lt_size e
  | own y => obtain ⟨_, e⟩ := x; exact Heap.lt_size e
  | xd fs => obtain ⟨_, ⟨_, _, _, e, _⟩, _⟩ := x; exact Heap.lt_size e
  | rng lo hi => obtain ⟨_, _, _, e⟩ := x; exact Heap.lt_size e
  | frz ob u => obtain ⟨e, _⟩ := x; exact Heap.lt_size e
  | tbl ps => exact Heap.lt_size (show h.get? a = some _ from x)
  | met f y => exact Heap.lt_size (show h.get? a = some _ from x)
  | ext φ => obtain ⟨_, ⟨_, e⟩, _⟩ := x; exact Heap.lt_size e
theorem Paired.mapP {α β : Type} {F G : α -> β -> Prop} : ∀ {l₁ : List α} {l₂ : List β}, Paired F l₁ l₂ -> (∀ a b, F a b -> G a b) -> Paired G l₁ l₂
  | _, _, .nil, _ => .nil
  | _, _, .cons r t, f => .cons (f _ _ r) (Paired.mapP t f)
theorem ObjOk.stay (x : ObjOk P w H h a o) (k : ∀ b u, (b = a ∨ H b = some (.own a)) -> h.get? b = some u -> h'.get? b = some u)
    (ho : ∀ b, H b = some (.own a) -> H' b = some (.own a)) (ht : ∀ b xs, H b = some (.tup xs) -> H' b = some (.tup xs)) : ObjOk P w H' h' a o := by
  induction o with
  | lst xs => obtain ⟨z, its, n, r, e⟩ := x; exact ⟨z, its, n, r, k _ _ (.inl rfl) e⟩
  | tup xs => obtain ⟨z, its, r, ob, e, c⟩ := x; exact ⟨z, its, r, ob, k _ _ (.inl rfl) e, c⟩
  | dK kvs => obtain ⟨z, y, vs, r, ob, es, ep, e, c⟩ := x; exact ⟨z, y, vs, r, ob, es, ep, k _ _ (.inl rfl) e, c⟩
  | dT kvs =>
    obtain ⟨z, y, xs, r, ob, es, ep, e, c⟩ := x
    exact ⟨z, y, xs, Paired.mapP r fun p q z => ⟨z.1, ht _ _ z.2.1, z.2.2⟩, ob, es, ep, k _ _ (.inl rfl) e, c⟩
  | set S n => obtain ⟨ob, es, ep, t, e, c⟩ := x; exact ⟨ob, es, ep, t, k _ _ (.inl rfl) e, c⟩
  | ins C dx fs =>
    obtain ⟨d, z, ne, e, mA, ⟨od, es, ep, e2, c⟩, r⟩ := x
    exact ⟨ho _ d, z, ne, k _ _ (.inl rfl) e, mA, ⟨od, es, ep, k _ _ (.inr d) e2, c⟩, r⟩
  | own y => obtain ⟨ob, e⟩ := x; exact ⟨ob, k _ _ (.inl rfl) e⟩
  | xd fs => obtain ⟨mA, ⟨od, es, ep, e, c⟩, r⟩ := x; exact ⟨mA, ⟨od, es, ep, k _ _ (.inl rfl) e, c⟩, r⟩
  | rng lo hi => obtain ⟨t, u, v, e⟩ := x; exact ⟨t, u, v, k _ _ (.inl rfl) e⟩
  | frz ob u ih => obtain ⟨e, q⟩ := x; exact ⟨k _ _ (.inl rfl) e, ih q⟩
  | tbl ps =>
    have e : h.get? a = some { cls := .none, data := .fields ps } := x
    show h'.get? a = some { cls := .none, data := .fields ps }
    exact k a _ (.inl rfl) e
  | met f y =>
    have e : h.get? a = some (PySem.W.methodObj (.ref f) (.ref y)) := x
    show h'.get? a = some (PySem.W.methodObj (.ref f) (.ref y))
    exact k a _ (.inl rfl) e
  | ext φ => obtain ⟨p, ⟨o, e⟩, st⟩ := x; exact ⟨st _ _ p fun o q => k _ _ (.inl rfl) q, ⟨o, k _ _ (.inl rfl) e⟩, st⟩
theorem HOk.lt (x : HOk P w H h) (e : H a = some o) : a < h.objs.size := (x a o e).lt
theorem HOk.fresh (x : HOk P w H h) (e : h.objs.size <= a) : H a = none := by
  cases q : H a with
  | none => rfl
  | some u => exact absurd (Nat.lt_of_lt_of_le (x.lt q) e) (Nat.lt_irrefl _)
theorem HOk.kept (x : HOk P w H h) (k : ∀ b u, h.get? b = some u -> h'.get? b = some u) : HOk P w H h' := fun a o e =>
  (x a o e).stay (fun b u _ q => k b u q) (fun _ q => q) fun _ _ q => q
theorem HOk.laid (x : HOk P w H h) (k : ∀ b u, h.get? b = some u -> h'.get? b = some u) (hp : h.objs.size <= a) (new : ObjOk P w (upd H a o) h' a o) : HOk P w (upd H a o) h' := fun b u e => by
  have hn := x.fresh hp
  by_cases hb : b = a
  · subst hb; rw [upd_same] at e; cases e; exact new
  · rw [upd_ne hb] at e
    exact (x b u e).stay (fun c v _ q => k c v q) (fun c q => by rw [upd_ne (ne_of_none q hn)]; exact q) fun c xs q => by rw [upd_ne (ne_of_none q hn)]; exact q
end
def Rd (H : Hp) (a : Addr) (u : HO) : Prop := H a = some u ∨ ∃ o, H a = some (.frz o u)
theorem Rd.ok {P : Program} {w : World} {H : Hp} {h : Heap} {a : Addr} {u : HO} (r : Rd H a u) (x : HOk P w H h) : ObjOk P w H h a u := by
  rcases r with r | ⟨o, r⟩
  · exact x a u r
  · obtain ⟨_, q⟩ := x a _ r
    exact q
def Mut : Option HO -> Prop
  | some (.lst _) => True
  | some (.dK _) => True
  | some (.dT _) => True
  | some (.set _ _) => True
  | some (.ins _ _ _) => True
  | some (.ext _) => True
  | _ => False
section
variable {P : Program} {w : World} {H : Hp} {h h' : Heap} {x e : Addr} {o' : HO}
theorem HOk.write (ok : HOk P w H h) (mu : Mut (H x)) (he : e = x ∨ H e = some (.own x)) (k : ∀ b u, b ≠ e -> h.get? b = some u -> h'.get? b = some u) (heo : ∃ u, h'.get? e = some u)
    (new : ObjOk P w (upd H x o') h' x o') : HOk P w (upd H x o') h' := fun b u q => by
  have nown : ∀ c y, H c = some (.own y) -> c ≠ x := fun c y r z => by subst z; rw [r] at mu; exact mu
  have ntup : ∀ c xs, H c = some (.tup xs) -> c ≠ x := fun c xs r z => by subst z; rw [r] at mu; exact mu
  by_cases hb : b = x
  · subst hb; rw [upd_same] at q; cases q; exact new
  · rw [upd_ne hb] at q
    by_cases hbe : b = e
    · have q' : H b = some (.own x) := by
        rcases he with z | z
        · exact absurd (hbe.trans z) hb
        · rw [hbe]; exact z
      rw [q] at q'; cases q'
      obtain ⟨v, hv⟩ := heo
      exact ⟨v, by rw [hbe]; exact hv⟩
    · refine (ok b u q).stay (fun c v hc r => k c v ?_ r) (fun c r => by rw [upd_ne (nown c b r)]; exact r) fun c xs r => by rw [upd_ne (ntup c xs r)]; exact r
      rcases hc with rfl | hc
      · exact hbe
      · rintro rfl
        rcases he with z | z
        · exact nown c b hc z
        · rw [hc] at z; cases z; exact hb rfl
end
structure Un (fs ex : List Addr) (H H' : Hp) (h h' : Heap) : Prop where
  keep : ∀ b o, h.get? b = some o -> H b = none -> b ∉ fs -> b ∉ ex -> h'.get? b = some o
  slot : ∀ b o, h.get? b = some o -> H b = none -> b ∈ fs -> b ∉ ex -> ∃ sl, h'.get? b = some { o with slots := sl }
  free : ∀ b o, h.get? b = some o -> H b = none -> b ∉ ex -> H' b = none
  there : ∀ b o, h.get? b = some o -> b ∉ ex -> ∃ o', h'.get? b = some o'
  tups : ∀ b xs, H b = some (.tup xs) -> H' b = some (.tup xs)
  frzs : ∀ b o u, H b = some (.frz o u) -> H' b = some (.frz o u)
  tbls : ∀ b ps, H b = some (.tbl ps) -> ∃ more, H' b = some (.tbl (ps ++ more))
section
variable {fs fs' ex ex' : List Addr} {H H1 H2 : Hp} {h h1 h2 h' : Heap} {a x e : Addr} {o : HO}
theorem Un.any (u : Un fs ex H H1 h h1) {b : Addr} {ob : Obj} (q : h.get? b = some ob) (n : H b = none) (hx : b ∉ ex) : ∃ sl, h1.get? b = some { ob with slots := sl } := by
  by_cases hb : b ∈ fs
  · exact u.slot b ob q n hb hx
  · exact ⟨ob.slots, u.keep b ob q n hb hx⟩
theorem Un.kept (k : ∀ b u, h.get? b = some u -> h'.get? b = some u) : Un fs ex H H h h' :=
  ⟨fun b ob q _ _ _ => k b ob q, fun b ob q _ _ _ => ⟨ob.slots, k b ob q⟩, fun _ _ _ n _ => n, fun b ob q _ => ⟨ob, k b ob q⟩, fun _ _ q => q, fun _ _ _ q => q, fun _ ps q => ⟨#[], by rw [q]; simp⟩⟩
theorem Un.refl : Un fs ex H H h h := Un.kept fun _ _ q => q
theorem Un.laid (k : ∀ b u, h.get? b = some u -> h'.get? b = some u) (hp : h.objs.size <= a) (hn : H a = none) : Un fs ex H (upd H a o) h h' where
  keep := fun b u q _ _ _ => k b u q
  slot := fun b u q _ _ _ => ⟨u.slots, k b u q⟩
  free := fun b u q n _ => by rw [upd_ne (Nat.ne_of_lt (Nat.lt_of_lt_of_le (Heap.lt_size q) hp))]; exact n
  there := fun b u q _ => ⟨u, k b u q⟩
  tups := fun b xs q => by rw [upd_ne (ne_of_none q hn)]; exact q
  frzs := fun b u xs q => by rw [upd_ne (ne_of_none q hn)]; exact q
  tbls := fun b ps q => ⟨#[], by rw [upd_ne (ne_of_none q hn), q]; simp⟩
theorem Un.write (mu : Mut (H x)) (he : e = x ∨ H e = some (.own x)) (k : ∀ b u, b ≠ e -> h.get? b = some u -> h'.get? b = some u) (heo : ∃ u, h'.get? e = some u) : Un fs ex H (upd H x o) h h' := by
  have hx : ∀ b, H b = none -> b ≠ x := fun b n z => by subst z; rw [n] at mu; exact mu
  have hb : ∀ b, H b = none -> b ≠ e := fun b n z => by
    subst z
    rcases he with r | r
    · exact hx b n r
    · rw [n] at r; cases r
  have hm : ∀ b u, H b = some u -> ¬ Mut (some u) -> b ≠ x := fun b u q nm z => by subst z; rw [q] at mu; exact nm mu
  refine ⟨fun b u q n _ _ => k b u (hb b n) q, fun b u q n _ _ => ⟨u.slots, k b u (hb b n) q⟩, fun b u q n _ => by rw [upd_ne (hx b n)]; exact n, fun b u q _ => ?_,
    fun b xs q => by rw [upd_ne (hm b _ q fun z => z)]; exact q, fun b u xs q => by rw [upd_ne (hm b _ q fun z => z)]; exact q, fun b ps q => ⟨#[], by rw [upd_ne (hm b _ q fun z => z), q]; simp⟩⟩
  by_cases hbe : b = e
  · subst hbe; exact heo
  · exact ⟨u, k b u hbe q⟩
end
def trk (h : Heap) (H : Hp) : List Addr := (List.range h.objs.size).filter fun a => (H a).isSome
def hidT (h : Heap) (H : Hp) : Heap := PySem.W.hideAll h (trk h H)
theorem hidT_size (h : Heap) (H : Hp) : (hidT h H).objs.size = h.objs.size := PySem.W.hideAll_size _ _
theorem hidT_get {h : Heap} {H : Hp} {b : Addr} {o : Obj} (e : h.get? b = some o) (n : H b = none) : (hidT h H).get? b = some o :=
  PySem.W.hideAll_get _ e fun hm => by
    have q : (H b).isSome = true := (List.mem_filter.mp hm).2
    rw [n] at q; simp at q
theorem of_hidT {h : Heap} {H : Hp} {b : Addr} {o : Obj} (e : (hidT h H).get? b = some o) : h.get? b = some o /\ H b = none := by
  have e' : h.get? b = some o := PySem.W.of_hideAll (trk h H) e
  refine ⟨e', ?_⟩
  cases q : H b with
  | none => rfl
  | some x =>
    have hm : b ∈ trk h H := List.mem_filter.mpr ⟨List.mem_range.mpr (Heap.lt_size e'), by simp [q]⟩
    have z : (hidT h H).get? b = none := PySem.W.hideAll_none (trk h H) hm
    rw [z] at e; cases e
end L2
namespace L2
open PySem PySem.Spec PyProof.Rows
structure Mod (K : PySem.W.Frag) (mg : Str -> Option Value) (base : Heap) : Prop where
  kin : K.In base
  glob : base.Ns mainGlobals mg
  blt : ∃ mb, base.Ns builtinsNs mb /\ ∀ x : Str, x ≠ "__name__" -> mb x = bootBuiltins x
  nolimit : base.NoLimit
structure Cx where
  prog : Program
  w : World
  K : PySem.W.Frag
  mg : Str -> Option Value
  base : Heap
  A : Around
  N : List Str
  s₀ : Shared
  H₀ : Hp
  env : Env
  outer : List Env
  stack : List Env
  ex : List Addr
  fn : Str -> Bool
  calm : Bool
  pn : List (Addr × Obj)
  xe : Value -> Shared -> Prop
def frs (l : List Env) : List Addr := l.filterMap (·.frame)
abbrev Cx.fs (X : Cx) : List Addr := frs X.outer
def Vis (sc : Scope) (x : Str) : Prop := sc.names.lookup x = some .local ∨ sc.names.lookup x = some .cell ∨ sc.names.lookup x = some .free
def Loc (sc : Scope) (x : Str) : Prop := sc.names.lookup x = some .local ∨ sc.names.lookup x = some .cell
def Look (env : Env) (h : Heap) (m : Str -> Option Value) (x : Str) (u : Value) : Prop :=
  (env.kindOf x = some .local /\ m x = some u) ∨ ((env.kindOf x = some .cell ∨ env.kindOf x = some .free) /\ ∃ c, env.cells.lookup x = some c /\ h.IsCell c (some u))
structure Cx.Ok (X : Cx) : Prop where
  mod : Mod X.K X.mg X.base
  kind : X.env.scope.kind = .function
  glob : X.env.globals = mainGlobals
  blt : X.env.builtins = builtinsNs
  above : X.s₀.heap.objs.size <= X.env.locals
  inj : ∀ x y c, X.env.cells.lookup x = some c -> X.env.cells.lookup y = some c -> x = y
  has : ∀ x, (X.env.kindOf x = some .cell ∨ X.env.kindOf x = some .free) -> ∃ c, X.env.cells.lookup x = some c
  cab : ∀ x c, X.fn x = true -> X.env.cells.lookup x = some c -> X.s₀.heap.objs.size <= c
  hd : X.calm = true -> X.A.handled = none
  frames : X.A.frames = some X.stack
  stk : X.stack = X.outer ∨ (X.stack = X.env :: X.outer /\ X.env.frame = some X.env.locals)
  exf : ∀ b ∈ X.ex, b ≠ X.env.locals /\ ∀ x c, X.env.cells.lookup x = some c -> c ≠ b
  bs : ∀ b o, X.base.get? b = some o -> X.s₀.heap.get? b = some o /\ X.H₀ b = none
  bsz : X.base.objs.size <= X.s₀.heap.objs.size
  noex : ∀ b o, X.base.get? b = some o -> b ∉ X.ex
  exfs : ∀ b ∈ X.ex, b ∉ X.fs
  funs : X.s₀.heap.FunFrames X.base X.outer
  frf : ∀ b ∈ X.fs, X.H₀ b = none
structure Inv (X : Cx) (pins : List (Addr × Obj)) (σ : List (Option V)) (H : Hp) (s : Shared) : Prop where
  ok : X.Ok
  os : s.os = X.s₀.os
  bare : AllBare s.gens
  base : Un X.fs X.ex X.H₀ H X.s₀.heap s.heap
  loc : ∃ m, s.heap.Ns X.env.locals m /\ ∀ (i : Nat) (x : Str) (v : V), X.N[i]? = some x -> σ[i]? = some (some v) -> Vis X.env.scope x -> ∃ u, RelV v u /\ Look X.env s.heap m x u
  cell : ∀ x c, X.env.cells.lookup x = some c -> ∃ v, s.heap.IsCell c v
  free : H X.env.locals = none
  freeC : ∀ x c, X.env.cells.lookup x = some c -> H c = none
  pin : ∀ p ∈ X.pn ++ pins, s.heap.get? p.1 = some p.2 /\ H p.1 = none /\ p.1 ≠ X.env.locals /\ p.1 ∉ X.fs /\ ∀ v, p.2.data ≠ .cell v
  hok : HOk X.prog X.w H s.heap
  len : σ.length = X.N.length
section
variable {X : Cx} {pins : List (Addr × Obj)} {σ : List (Option V)} {H H' : Hp} {s : Shared} {h' : Heap}
theorem Cx.Ok.nofr (ok : X.Ok) {b : Addr} {o : Obj} (e : X.base.get? b = some o) : b ∉ X.fs := fun hb => by
  have := (ok.funs.mem hb).1
  rw [e] at this; cases this
theorem Inv.bs (I : Inv X pins σ H s) : ∀ b o, X.base.get? b = some o -> s.heap.get? b = some o /\ H b = none := fun b o e =>
  ⟨I.base.keep b o (I.ok.bs b o e).1 (I.ok.bs b o e).2 (I.ok.nofr e) (I.ok.noex b o e), I.base.free b o (I.ok.bs b o e).1 (I.ok.bs b o e).2 (I.ok.noex b o e)⟩
theorem Inv.bk (I : Inv X pins σ H s) : ∀ b o, X.base.get? b = some o -> s.heap.get? b = some o := fun b o e => (I.bs b o e).1
theorem Inv.mod (I : Inv X pins σ H s) : Mod X.K X.mg X.base := I.ok.mod
theorem Inv.kIn (I : Inv X pins σ H s) : X.K.In s.heap := I.ok.mod.kin.keeps I.bk
theorem Inv.lt (I : Inv X pins σ H s) : X.env.locals < s.heap.objs.size := let ⟨_, hn, _⟩ := I.loc; hn.lt
theorem Inv.sz (I : Inv X pins σ H s) : X.s₀.heap.objs.size <= s.heap.objs.size := Nat.le_trans I.ok.above (Nat.le_of_lt I.lt)
theorem Inv.nofs (I : Inv X pins σ H s) {a : Addr} (h : s.heap.objs.size <= a) : a ∉ X.fs := fun hb => by
  obtain ⟨_, o, ho, _⟩ := I.ok.funs.mem hb
  exact absurd (Nat.lt_of_lt_of_le (Heap.lt_size ho) (Nat.le_trans I.sz h)) (Nat.lt_irrefl _)
theorem Inv.cne (I : Inv X pins σ H s) : ∀ x c, X.env.cells.lookup x = some c -> c ≠ X.env.locals := fun x c e z => by
  obtain ⟨v, o, ho, hd⟩ := I.cell x c e
  obtain ⟨m, ⟨o', es, ep, ho', hd', _⟩, _⟩ := I.loc
  rw [z, ho'] at ho; cases ho; rw [hd'] at hd; cases hd
theorem Inv.funs (I : Inv X pins σ H s) : s.heap.FunFrames X.base X.outer := by
  have all : ∀ (l : List Env), (∀ b ∈ frs l, b ∈ X.fs) -> X.s₀.heap.FunFrames X.base l -> s.heap.FunFrames X.base l := by
    intro l
    induction l with
    | nil => intro _ _; trivial
    | cons env r ih =>
      intro hs hl
      obtain ⟨hk, ⟨L, o, hf, hn, ho, hd⟩, hr⟩ := hl
      have hL : L ∈ X.fs := hs L (by unfold frs; rw [List.filterMap_cons, hf]; exact List.mem_cons_self)
      obtain ⟨sl, e⟩ := I.base.slot L o ho (I.ok.frf L hL) hL fun z => I.ok.exfs L z hL
      exact ⟨hk, ⟨L, _, hf, hn, e, hd⟩, ih (fun b hb => hs b (by unfold frs; rw [List.filterMap_cons, hf]; exact List.mem_cons_of_mem _ hb)) hr⟩
  exact all X.outer (fun _ hb => hb) I.ok.funs
theorem Inv.stack (I : Inv X pins σ H s) : s.heap.FunFrames X.base X.stack := by
  rcases I.ok.stk with e | ⟨e, hf⟩
  · rw [e]; exact I.funs
  · rw [e]
    obtain ⟨m, hn, _⟩ := I.loc
    refine .cons (by rw [I.ok.kind]; decide) hf hn ?_ I.funs
    exact Heap.get?_none_of_le (Nat.le_trans I.ok.bsz I.ok.above)
theorem Inv.stkSub (I : Inv X pins σ H s) : ∀ b ∈ frs X.stack, b ∈ X.env.locals :: X.fs := fun b hb => by
  rcases I.ok.stk with e | ⟨e, hf⟩
  · rw [e] at hb; exact List.mem_cons_of_mem _ hb
  · rw [e] at hb
    unfold frs at hb
    rw [List.filterMap_cons, hf] at hb
    exact hb
theorem Inv.stkFree (I : Inv X pins σ H s) : ∀ b ∈ frs X.stack, H b = none := fun b hb => by
  rcases List.mem_cons.mp (I.stkSub b hb) with e | hb
  · rw [e]; exact I.free
  · obtain ⟨_, o, ho, _⟩ := I.ok.funs.mem hb
    exact I.base.free b o ho (I.ok.frf b hb) fun z => I.ok.exfs b z hb
theorem Inv.step {g' : Array GenState} {t' : Nat} {d' : Drawn} {ch : List Addr} (I : Inv X pins σ H s)
    (hch : ∀ b ∈ ch, (b ∈ X.ex ∨ X.s₀.heap.objs.size <= b) /\ b ≠ X.env.locals /\ (∀ x c, X.env.cells.lookup x = some c -> c ≠ b) /\ ∀ p ∈ X.pn ++ pins, p.1 ≠ b)
    (keep : ∀ b o, b ≠ X.env.locals -> b ∉ X.fs -> b ∉ ch -> s.heap.get? b = some o -> H b = none -> h'.get? b = some o)
    (slot : ∀ b o, b ≠ X.env.locals -> b ∈ X.fs -> b ∉ ch -> s.heap.get? b = some o -> H b = none -> ∃ sl, h'.get? b = some { o with slots := sl }) (free : ∀ b o, b ∉ ch -> s.heap.get? b = some o -> H b = none -> H' b = none)
    (there : ∀ b o, b ∉ ch -> s.heap.get? b = some o -> ∃ o', h'.get? b = some o')
    (tups : ∀ b xs, H b = some (.tup xs) -> H' b = some (.tup xs)) (frzs : ∀ b o u, H b = some (.frz o u) -> H' b = some (.frz o u)) (tbls : ∀ b ps, H b = some (.tbl ps) -> ∃ more, H' b = some (.tbl (ps ++ more)))
    (ns : ∀ m, s.heap.Ns X.env.locals m -> h'.Ns X.env.locals m) (hok : HOk X.prog X.w H' h') (hg : AllBare g') :
    Inv X pins σ H' { s with heap := h', gens := g', drawn := d', toks := t' } := by
  have neL : ∀ b o, X.s₀.heap.get? b = some o -> b ≠ X.env.locals := fun b o e => Nat.ne_of_lt (Nat.lt_of_lt_of_le (Heap.lt_size e) I.ok.above)
  have neC : ∀ b o, X.s₀.heap.get? b = some o -> b ∉ X.ex -> b ∉ ch := fun b o e hx hb => by
    rcases (hch b hb).1 with z | z
    · exact hx z
    · exact absurd (Nat.lt_of_lt_of_le (Heap.lt_size e) z) (Nat.lt_irrefl _)
  have cellK : ∀ x c, X.env.cells.lookup x = some c -> ∀ v, s.heap.IsCell c v -> h'.IsCell c v := fun x c e v ⟨o, ho, hd⟩ => by
    have nch : c ∉ ch := fun z => (hch c z).2.2.1 x c e rfl
    by_cases hc : c ∈ X.fs
    · obtain ⟨sl, q⟩ := slot c o (I.cne x c e) hc nch ho (I.freeC x c e)
      exact ⟨_, q, hd⟩
    · exact ⟨o, keep c o (I.cne x c e) hc nch ho (I.freeC x c e), hd⟩
  refine ⟨I.ok, I.os, hg, ⟨fun b o e n hb hx => ?_, fun b o e n hb hx => ?_, fun b o e n hx => ?_, fun b o e hx => ?_, fun b xs e => tups b xs (I.base.tups b xs e), fun b o xs e => frzs b o xs (I.base.frzs b o xs e), fun b ps e => ?_⟩, ?_, fun x c e => ?_, ?_, fun x c e => ?_, fun p hp => ?_, hok, I.len⟩
  · exact keep b o (neL b o e) hb (neC b o e hx) (I.base.keep b o e n hb hx) (I.base.free b o e n hx)
  · obtain ⟨sl, e1⟩ := I.base.slot b o e n hb hx
    obtain ⟨sl', e2⟩ := slot b _ (neL b o e) hb (neC b o e hx) e1 (I.base.free b o e n hx)
    exact ⟨sl', e2⟩
  · obtain ⟨o', e1⟩ := I.base.there b o e hx
    exact free b o' (neC b o e hx) e1 (I.base.free b o e n hx)
  · obtain ⟨o', e1⟩ := I.base.there b o e hx
    exact there b o' (neC b o e hx) e1
  · obtain ⟨m1, e1⟩ := I.base.tbls b ps e
    obtain ⟨m2, e2⟩ := tbls b _ e1
    exact ⟨m1 ++ m2, by rw [e2, Array.append_assoc]⟩
  · obtain ⟨m, hn, hl⟩ := I.loc
    refine ⟨m, ns m hn, fun i x v e1 e2 e3 => ?_⟩
    obtain ⟨u, r, l⟩ := hl i x v e1 e2 e3
    refine ⟨u, r, ?_⟩
    rcases l with l | ⟨k, c, e, z⟩
    · exact .inl l
    · exact .inr ⟨k, c, e, cellK x c e _ z⟩
  · obtain ⟨v, z⟩ := I.cell x c e
    exact ⟨v, cellK x c e v z⟩
  · obtain ⟨m, ⟨o, _, _, ho, _⟩, _⟩ := I.loc
    exact free _ o (fun z => (hch _ z).2.1 rfl) ho I.free
  · obtain ⟨v, o, ho, hd⟩ := I.cell x c e
    exact free c o (fun z => (hch c z).2.2.1 x c e rfl) ho (I.freeC x c e)
  · obtain ⟨e, n, ne, nf, d⟩ := I.pin p hp
    have nch : p.1 ∉ ch := fun z => (hch p.1 z).2.2.2 p hp rfl
    exact ⟨keep p.1 p.2 ne nf nch e n, free p.1 p.2 nch e n, ne, nf, d⟩
theorem Inv.un {t' : Nat} (I : Inv X pins σ H s) (u : Un X.fs [] H H' s.heap h') (hok : HOk X.prog X.w H' h') : Inv X pins σ H' { s with heap := h', toks := t' } := by
  obtain ⟨m, ⟨o, es, ep, ho, r⟩, _⟩ := id I.loc
  obtain ⟨sl, hL⟩ := u.any ho I.free (by simp)
  exact I.step (g' := s.gens) (d' := s.drawn) (ch := []) (fun _ z => nomatch z) (fun b o _ hb _ e n => u.keep b o e n hb (by simp)) (fun b o _ hb _ e n => u.slot b o e n hb (by simp)) (fun b o _ e n => u.free b o e n (by simp)) (fun b o _ e => u.there b o e (by simp)) u.tups u.frzs u.tbls (fun m' hm => by
    obtain ⟨o', es', ep', ho', r'⟩ := hm
    rw [ho] at ho'; cases ho'
    exact ⟨_, es', ep', hL, r'⟩) hok I.bare
theorem Inv.call {g' : Array GenState} {t' : Nat} {d' : Drawn} {ch : List Addr} (I : Inv X pins σ H s) (u : Un (frs X.stack) ch H H' s.heap h') (hok : HOk X.prog X.w H' h') (hg : AllBare g')
    (hch : ∀ b ∈ ch, (b ∈ X.ex ∨ X.s₀.heap.objs.size <= b) /\ b ≠ X.env.locals /\ (∀ x c, X.env.cells.lookup x = some c -> c ≠ b) /\ ∀ p ∈ X.pn ++ pins, p.1 ≠ b) :
    Inv X pins σ H' { s with heap := h', gens := g', drawn := d', toks := t' } := by
  obtain ⟨m, ⟨o, es, ep, ho, r⟩, _⟩ := id I.loc
  obtain ⟨sl, hL⟩ := u.any ho I.free fun z => (hch _ z).2.1 rfl
  exact I.step (ch := ch) hch (fun b o hL hb hc e n => u.keep b o e n (fun z => (List.mem_cons.mp (I.stkSub b z)).elim hL hb) hc) (fun b o _ _ hc e n => u.any e n hc) (fun b o hc e n => u.free b o e n hc) (fun b o hc e => u.there b o e hc) u.tups u.frzs u.tbls (fun m' hm => by
    obtain ⟨o', es', ep', ho', r'⟩ := hm
    rw [ho] at ho'; cases ho'
    exact ⟨_, es', ep', hL, r'⟩) hok hg
theorem Inv.turned {t' : Nat} {it : Addr} (I : Inv X pins σ H s) (k : ∀ b o, b ≠ it -> s.heap.get? b = some o -> h'.get? b = some o) (hn : H it = none) (hL : it ≠ X.env.locals)
    (h1 : it ∈ X.ex ∨ X.s₀.heap.objs.size <= it) (h2 : ∀ x c, X.env.cells.lookup x = some c -> c ≠ it) (h3 : ∀ p ∈ X.pn ++ pins, p.1 ≠ it) : Inv X pins σ H { s with heap := h', toks := t' } := by
  have nit : ∀ b u, H b = some u -> b ≠ it := fun b u e z => by rw [z, hn] at e; cases e
  refine I.step (g' := s.gens) (d' := s.drawn) (ch := [it]) (fun b hb => ?_) (fun b o _ _ hc e _ => k b o (fun z => hc (by simp [z])) e) (fun b o _ _ hc e _ => ⟨o.slots, k b o (fun z => hc (by simp [z])) e⟩) (fun _ _ _ _ n => n)
    (fun b o hc e => ⟨o, k b o (fun z => hc (by simp [z])) e⟩) (fun _ _ e => e) (fun _ _ _ e => e) (fun b ps e => ⟨#[], by rw [e]; simp⟩) (fun m hm => ?_) (fun b u e => ?_) I.bare
  · have e : b = it := by simpa using hb
    subst e
    exact ⟨h1, hL, h2, h3⟩
  · obtain ⟨o, es, ep, ho, r⟩ := hm
    exact ⟨o, es, ep, k _ o (Ne.symm hL) ho, r⟩
  · refine (I.hok b u e).stay (fun c v hc q => k c v ?_ q) (fun _ q => q) fun _ _ q => q
    rcases hc with z | z
    · rw [z]; exact nit b u e
    · exact nit c _ z
theorem Inv.tok (I : Inv X pins σ H s) (t : Nat) : Inv X pins σ H { s with toks := t } := I.un (h' := s.heap) (t' := t) Un.refl I.hok
theorem Inv.kept {t' : Nat} (I : Inv X pins σ H s) (k : ∀ b u, s.heap.get? b = some u -> h'.get? b = some u) : Inv X pins σ H { s with heap := h', toks := t' } := I.un (Un.kept k) (I.hok.kept k)
theorem Inv.laid {a : Addr} {o : HO} {t' : Nat} (I : Inv X pins σ H s) (k : ∀ b u, s.heap.get? b = some u -> h'.get? b = some u) (hp : s.heap.objs.size <= a) (new : ObjOk X.prog X.w (upd H a o) h' a o) :
    Inv X pins σ (upd H a o) { s with heap := h', toks := t' } := I.un (Un.laid k hp (I.hok.fresh hp)) (I.hok.laid k hp new)
theorem Inv.write {x e : Addr} {o : HO} {t' : Nat} (I : Inv X pins σ H s) (mu : Mut (H x)) (he : e = x ∨ H e = some (.own x)) (k : ∀ b u, b ≠ e -> s.heap.get? b = some u -> h'.get? b = some u) (heo : ∃ u, h'.get? e = some u)
    (new : ObjOk X.prog X.w (upd H x o) h' x o) : Inv X pins σ (upd H x o) { s with heap := h', toks := t' } := I.un (Un.write mu he k heo) (I.hok.write mu he k heo new)
theorem Inv.pins_of {pins' : List (Addr × Obj)} (I : Inv X pins σ H s) (h : ∀ p ∈ pins', s.heap.get? p.1 = some p.2 /\ H p.1 = none /\ p.1 ≠ X.env.locals /\ p.1 ∉ X.fs /\ ∀ v, p.2.data ≠ .cell v) : Inv X pins' σ H s :=
  ⟨I.ok, I.os, I.bare, I.base, I.loc, I.cell, I.free, I.freeC, fun p hp => (List.mem_append.mp hp).elim (fun z => I.pin p (List.mem_append_left _ z)) (h p), I.hok, I.len⟩
theorem nodup_ix {N : List Str} (hN : N.Nodup) {i j : Nat} {x : Str} (a : N[i]? = some x) (b : N[j]? = some x) : i = j := by
  obtain ⟨h1, e1⟩ := List.getElem?_eq_some_iff.mp a
  obtain ⟨h2, e2⟩ := List.getElem?_eq_some_iff.mp b
  exact (List.getElem_inj hN).mp (e1.trans e2.symm)
theorem store_ok2 {M : Model} {A : Around} {E : Value -> Shared -> Prop} {i : Nat} {x : Str} {v : V} {u : Value} {Q : Unit -> Shared -> Prop} (I : Inv X pins σ H s) (hN : X.N.Nodup) (hi : X.N[i]? = some x) (hx : Loc X.env.scope x) (r : RelV v u)
    (h : ∀ s', Inv X pins (σ.set i (some v)) H s' -> (∃ a, Heap.SameBut a s.heap s'.heap /\ (a = X.env.locals ∨ X.env.cells.lookup x = some a)) -> Q () s') (hf : X.fn x = true ∨ X.env.scope.names.lookup x = some .local := by first | exact .inl rfl | exact .inr rfl | assumption) : wpAny M A (storeName X.env x u) Q E s := by
  obtain ⟨m, hn, hl⟩ := id I.loc
  have hcls : (X.env.scope.kind == .class || (X.env.scope.kind == .module && X.env.locals != X.env.globals)) = false := by rw [I.ok.kind]; rfl
  have hiσ : i < σ.length := by rw [I.len]; exact (List.getElem?_eq_some_iff.mp hi).1
  have cne := I.cne
  have tracked : ∀ {a : Addr} {h' : Heap}, (∃ o, s.heap.get? a = some o /\ H a = none) -> Heap.SameBut a s.heap h' -> HOk X.prog X.w H h' := fun {a h'} ha hs b ob e => by
    obtain ⟨_, _, hfree⟩ := ha
    refine (I.hok b ob e).stay (fun c w' hc q => (hs.2 c ?_).trans q) (fun _ q => q) fun _ _ q => q
    rintro rfl
    rcases hc with rfl | hc
    · rw [hfree] at e; cases e
    · rw [hfree] at hc; cases hc
  rcases hx with hk | hk
  · refine wpAny_storeName_local hk hn (fun h' hn' hs => ?_) hcls
    obtain ⟨oL, _, _, hoL, _⟩ := id hn
    refine h _ ⟨I.ok, I.os, I.bare, ⟨fun b o e n hb hx => ?_, fun b o e n hb hx => ?_, I.base.free, fun b o e hx => ?_, I.base.tups, I.base.frzs, I.base.tbls⟩, ⟨_, hn', fun j y v' e1 e2 e3 => ?_⟩, fun y c e => ?_, I.free, I.freeC, fun p hp => ?_, tracked ⟨oL, hoL, I.free⟩ hs, by simpa using I.len⟩ ⟨_, hs, .inl rfl⟩
    · exact (hs.2 b (Nat.ne_of_lt (Nat.lt_of_lt_of_le (Heap.lt_size e) I.ok.above))).trans (I.base.keep b o e n hb hx)
    · obtain ⟨sl, e1⟩ := I.base.slot b o e n hb hx
      exact ⟨sl, (hs.2 b (Nat.ne_of_lt (Nat.lt_of_lt_of_le (Heap.lt_size e) I.ok.above))).trans e1⟩
    · obtain ⟨o', e1⟩ := I.base.there b o e hx
      exact ⟨o', (hs.2 b (Nat.ne_of_lt (Nat.lt_of_lt_of_le (Heap.lt_size e) I.ok.above))).trans e1⟩
    · by_cases hj : j = i
      · subst hj
        rw [hi] at e1; cases e1
        rw [List.getElem?_set_self hiσ] at e2
        cases e2
        exact ⟨u, r, .inl ⟨hk, by simp⟩⟩
      · rw [List.getElem?_set_ne (Ne.symm hj)] at e2
        obtain ⟨u', r', q⟩ := hl j y v' e1 e2 e3
        refine ⟨u', r', ?_⟩
        rcases q with ⟨k, e⟩ | ⟨k, c, e, z⟩
        · refine .inl ⟨k, ?_⟩
          have : y ≠ x := fun e => hj (nodup_ix hN e1 (e ▸ hi))
          simp [this, e]
        · exact .inr ⟨k, c, e, z.sameBut hs (cne y c e)⟩
    · obtain ⟨w', z⟩ := I.cell y c e
      exact ⟨w', z.sameBut hs (cne y c e)⟩
    · obtain ⟨e, n, ne, nf, d⟩ := I.pin p hp
      exact ⟨(hs.2 p.1 ne).trans e, n, ne, nf, d⟩
  · have hfn : X.fn x = true := by
      rcases hf with z | z
      · exact z
      · rw [z] at hk; cases hk
    obtain ⟨c, hc⟩ := I.ok.has x (.inl hk)
    obtain ⟨w', z⟩ := I.cell x c hc
    refine wpAny_storeName_cell I.ok.kind hk hc z (fun h' hc' hs => ?_)
    obtain ⟨oc, hoc, hocd⟩ := id z
    refine h { s with heap := h' } ⟨I.ok, I.os, I.bare, ⟨fun b o e n hb hx => ?_, fun b o e n hb hx => ?_, I.base.free, fun b o e hx => ?_, I.base.tups, I.base.frzs, I.base.tbls⟩, ⟨m, hn.sameBut hs (Ne.symm (cne x c hc)), fun j y v' e1 e2 e3 => ?_⟩, fun y c' e => ?_, I.free, I.freeC, fun p hp => ?_, tracked ⟨oc, hoc, I.freeC x c hc⟩ hs, by simpa using I.len⟩ ⟨c, hs, .inr hc⟩
    · exact (hs.2 b (Nat.ne_of_lt (Nat.lt_of_lt_of_le (Heap.lt_size e) (I.ok.cab x c hfn hc)))).trans (I.base.keep b o e n hb hx)
    · obtain ⟨sl, e1⟩ := I.base.slot b o e n hb hx
      exact ⟨sl, (hs.2 b (Nat.ne_of_lt (Nat.lt_of_lt_of_le (Heap.lt_size e) (I.ok.cab x c hfn hc)))).trans e1⟩
    · obtain ⟨o', e1⟩ := I.base.there b o e hx
      exact ⟨o', (hs.2 b (Nat.ne_of_lt (Nat.lt_of_lt_of_le (Heap.lt_size e) (I.ok.cab x c hfn hc)))).trans e1⟩
    · by_cases hj : j = i
      · subst hj
        rw [hi] at e1; cases e1
        rw [List.getElem?_set_self hiσ] at e2
        cases e2
        exact ⟨u, r, .inr ⟨.inl hk, c, hc, hc'⟩⟩
      · rw [List.getElem?_set_ne (Ne.symm hj)] at e2
        obtain ⟨u', r', q⟩ := hl j y v' e1 e2 e3
        refine ⟨u', r', ?_⟩
        rcases q with q | ⟨k, c', e, z'⟩
        · exact .inl q
        · refine .inr ⟨k, c', e, z'.sameBut hs ?_⟩
          rintro rfl
          exact hj (nodup_ix hN e1 (I.ok.inj _ _ _ e hc ▸ hi))
    · by_cases hcc : c' = c
      · subst hcc; exact ⟨_, hc'⟩
      · obtain ⟨w2, z2⟩ := I.cell y c' e
        exact ⟨w2, z2.sameBut hs hcc⟩
    · obtain ⟨e, n, ne, nf, d⟩ := I.pin p hp
      refine ⟨(hs.2 p.1 ?_).trans e, n, ne, nf, d⟩
      intro q
      rw [q, hoc] at e
      have q' : oc = p.2 := Option.some.inj e
      exact d w' (by rw [← q']; exact hocd)
theorem store_ok {M : Model} {A : Around} {E : Value -> Shared -> Prop} {i : Nat} {x : Str} {v : V} {u : Value} {Q : Unit -> Shared -> Prop} (I : Inv X pins σ H s) (hN : X.N.Nodup) (hi : X.N[i]? = some x) (hx : Loc X.env.scope x) (r : RelV v u)
    (h : ∀ s', Inv X pins (σ.set i (some v)) H s' -> Q () s') (hf : X.fn x = true ∨ X.env.scope.names.lookup x = some .local := by first | exact .inl rfl | exact .inr rfl | assumption) : wpAny M A (storeName X.env x u) Q E s :=
  store_ok2 I hN hi hx r (fun s' I' _ => h s' I') hf
theorem Inv.call' {s' : Shared} {ch : List Addr} (I : Inv X pins σ H s) (ho : s'.os = s.os) (u : Un (frs X.stack) ch H H' s.heap s'.heap) (hok : HOk X.prog X.w H' s'.heap) (hg : AllBare s'.gens)
    (hch : ∀ b ∈ ch, (b ∈ X.ex ∨ X.s₀.heap.objs.size <= b) /\ b ≠ X.env.locals /\ (∀ x c, X.env.cells.lookup x = some c -> c ≠ b) /\ ∀ p ∈ X.pn ++ pins, p.1 ≠ b) : Inv X pins σ H' s' := by
  obtain ⟨h', g', d', t', o'⟩ := s'
  have e : o' = s.os := ho
  subst e
  exact I.call (g' := g') (t' := t') (d' := d') u hok hg hch
end
abbrev XK := Value -> Option Addr -> Hp -> Prop
abbrev St := List (Option V)
abbrev VK := V -> Hp -> Prop
abbrev TE := St -> Hp -> VK -> Prop
abbrev TT := St -> Hp -> (Bool -> Hp -> Prop) -> Prop
abbrev TA := St -> Hp -> (List V -> Hp -> Prop) -> Prop
structure Ends where
  nx : St -> Hp -> Prop
  rt : VK
  bk : St -> Hp -> Prop := fun _ _ => False
  ct : St -> Hp -> Prop := fun _ _ => False
abbrev TS := Ends -> St -> Hp -> Prop
def EP (X : Cx) (pins : List (Addr × Obj)) (σ : St) (Q : VK) (u : Value) (s' : Shared) : Prop := ∃ v H', Inv X pins σ H' s' /\ RelV v u /\ Q v H'
def TP (X : Cx) (pins : List (Addr × Obj)) (σ : St) (Q : Bool -> Hp -> Prop) (b : Bool) (s' : Shared) : Prop := ∃ H', Inv X pins σ H' s' /\ Q b H'
def AP (X : Cx) (pins : List (Addr × Obj)) (σ : St) (Q : List V -> Hp -> Prop) (us : List Value) (s' : Shared) : Prop := ∃ vs H', Inv X pins σ H' s' /\ Vals vs us /\ Q vs H'
def SP (X : Cx) (pins : List (Addr × Obj)) (D : Ends) (f : Flow) (s' : Shared) : Prop :=
  match f with
  | .next => ∃ σ' H', Inv X pins σ' H' s' /\ D.nx σ' H'
  | .brk => ∃ σ' H', Inv X pins σ' H' s' /\ D.bk σ' H'
  | .cont => ∃ σ' H', Inv X pins σ' H' s' /\ D.ct σ' H'
  | .ret u => ∃ v σ' H', Inv X pins σ' H' s' /\ RelV v u /\ D.rt v H'
def PE (X : Cx) (e : Expr) (t : TE) : Prop :=
  ∀ (pins : List (Addr × Obj)) (s : Shared) (σ : St) (H : Hp) (Q : VK), Inv X pins σ H s -> t σ H Q -> wpAny (model X.prog X.w) X.A (eval e X.env) (EP X pins σ Q) X.xe s
def PT (X : Cx) (e : Expr) (t : TT) : Prop :=
  ∀ (pins : List (Addr × Obj)) (s : Shared) (σ : St) (H : Hp) (Q : Bool -> Hp -> Prop), Inv X pins σ H s -> t σ H Q -> wpAny (model X.prog X.w) X.A (isTrue e X.env (eval e X.env)) (TP X pins σ Q) X.xe s
def PW (X : Cx) (e : Expr) (t : TT) : Prop :=
  ∀ (whole : Sem Value) (pins : List (Addr × Obj)) (s : Shared) (σ : St) (H : Hp) (Q : Bool -> Hp -> Prop), Inv X pins σ H s -> t σ H Q -> wpAny (model X.prog X.w) X.A (isTrue e X.env whole) (TP X pins σ Q) X.xe s
theorem PW.pt {X : Cx} {e : Expr} {t : TT} (h : PW X e t) : PT X e t := h _
def PA (X : Cx) (es : List Expr) (t : TA) : Prop :=
  ∀ (pos : Pos) (pins : List (Addr × Obj)) (s : Shared) (σ : St) (H : Hp) (Q : List V -> Hp -> Prop), Inv X pins σ H s -> t σ H Q -> wpAny (model X.prog X.w) X.A (spliced (backTo pos (starEach es X.env))) (AP X pins σ Q) X.xe s
def PS (X : Cx) (st : Stmt) (t : TS) : Prop :=
  ∀ (pins : List (Addr × Obj)) (s : Shared) (σ : St) (H : Hp) (D : Ends), Inv X pins σ H s -> t D σ H -> wpAny (model X.prog X.w) X.A (exec st X.env) (SP X pins D) X.xe s
def PSs (X : Cx) (st : List Stmt) (t : TS) : Prop :=
  ∀ (pins : List (Addr × Obj)) (s : Shared) (σ : St) (H : Hp) (D : Ends), Inv X pins σ H s -> t D σ H -> wpAny (model X.prog X.w) X.A (execs st X.env) (SP X pins D) X.xe s
theorem thn {α : Type} {t : Sem α} {Q Q' : α -> Shared -> Prop} {M : Model} {A : Around} {E : Value -> Shared -> Prop} {s : Shared} (h : wpAny M A t Q E s) (hQ : ∀ a s, Q a s -> Q' a s) : wpAny M A t Q' E s := wpAny_mono h hQ fun _ _ x => x
end L2
namespace L2
open PySem PySem.Spec PyProof.Rows
section
variable {X : Cx}
def tVar (i : Nat) : TE := fun σ H Q => ∃ v, σ[i]? = some (some v) /\ Q v H
def tC (v : V) : TE := fun _ H Q => Q v H
theorem pe_var {i : Nat} {x : Str} {pos : Pos} (hN : X.N[i]? = some x) (hv : Vis X.env.scope x) (hd : (x == ("__debug__" : Str)) = false := by decide) (hcd : (x == ("__classdict__" : Str)) = false := by decide) : PE X (.Name x pos) (tVar i) := by
  intro pins s σ H Q I h
  obtain ⟨v, e, h⟩ := h
  obtain ⟨m, hn, hl⟩ := I.loc
  obtain ⟨u, r, l⟩ := hl i x v hN e hv
  have fin : EP X pins σ Q u s := ⟨v, H, I, r, h⟩
  rcases l with ⟨hk, hm⟩ | ⟨hk, c, hc, hcell⟩
  · exact wpAny_Name (wpAny_loadName_local I.ok.kind hk hn hm fin) hd
  · rcases hk with hk | hk
    · exact wpAny_Name (wpAny_loadName_cell I.ok.kind hk hc hcell fin) hd
    · exact wpAny_Name (wpAny_loadName_free I.ok.kind hk hc hcell fin hcd) hd
theorem pe_int {i j pos} : PE X (.Constant (.int i) j pos) (tC (.int i)) := fun _ _ _ H _ I h => wpAny_Constant_int ⟨.int i, H, I.tok _, ⟨_, rfl⟩, h⟩
theorem pe_bl {b j pos} : PE X (.Constant (.bool b) j pos) (tC (.bl b)) := fun _ _ _ H _ I h => Constant_bool ⟨.bl b, H, I, rfl, h⟩
theorem pe_non {j pos} : PE X (.Constant .none j pos) (tC .non) := fun _ _ _ H _ I h => Constant_none ⟨.non, H, I, rfl, h⟩
theorem pe_str {x j pos} : PE X (.Constant (.str x) j pos) (tC (.str x)) := fun _ _ _ H _ I h => Calls.Constant_str ⟨.str x, H, I.tok _, ⟨_, rfl⟩, h⟩
def Gl (X : Cx) (x : Str) : Prop := X.env.kindOf x = some .globalImplicit
theorem ld_glob {E : Value -> Shared -> Prop} {pins : List (Addr × Obj)} {s : Shared} {σ : St} {H : Hp} {x : Str} {u : Value} {pos : Pos} {Q : Value -> Shared -> Prop} (I : Inv X pins σ H s) (hg : Gl X x) (hm : X.mg x = some u) (h : Q u s)
    (hd : (x == ("__debug__" : Str)) = false := by decide) : wpAny (model X.prog X.w) X.A (eval (.Name x pos) X.env) Q E s :=
  Calls.Name_function_global I.ok.kind hg (Calls.loadGlobal_global (by rw [I.ok.glob]; exact I.mod.glob.keeps I.bk) hm h) hd
theorem ld_blt {E : Value -> Shared -> Prop} {pins : List (Addr × Obj)} {s : Shared} {σ : St} {H : Hp} {x : Str} {u : Value} {pos : Pos} {Q : Value -> Shared -> Prop} (I : Inv X pins σ H s) (hg : Gl X x) (hm : X.mg x = none) (hv : bootBuiltins x = some u) (h : Q u s)
    (hn : x ≠ "__name__" := by decide) (hd : (x == ("__debug__" : Str)) = false := by decide) : wpAny (model X.prog X.w) X.A (eval (.Name x pos) X.env) Q E s := by
  obtain ⟨mb, h1, h2⟩ := I.mod.blt
  exact Calls.Name_function_global I.ok.kind hg (Calls.loadGlobal_builtin (by rw [I.ok.glob]; exact I.mod.glob.keeps I.bk) hm (by rw [I.ok.blt]; exact h1.keeps I.bk) ((h2 x hn).trans hv) h) hd
theorem pe_glob {x : Str} {v : V} {u : Value} {pos : Pos} (hg : Gl X x) (hm : X.mg x = some u) (r : RelV v u) (hd : (x == ("__debug__" : Str)) = false := by decide) : PE X (.Name x pos) (tC v) :=
  fun _ _ _ H _ I h => ld_glob I hg hm ⟨v, H, I, r, h⟩ hd
theorem pe_bltn {x : Str} {v : V} {u : Value} {pos : Pos} (hg : Gl X x) (hm : X.mg x = none) (hv : bootBuiltins x = some u) (r : RelV v u) (hn : x ≠ "__name__" := by decide) (hd : (x == ("__debug__" : Str)) = false := by decide) : PE X (.Name x pos) (tC v) :=
  fun _ _ _ H _ I h => ld_blt I hg hm hv ⟨v, H, I, r, h⟩ hn hd
variable {a b : Expr} {ta tb : TE} {pos : Pos}
def tB (t : TE) : TT := fun σ H Q => t σ H fun x H1 => ∃ c, x = .bl c /\ Q c H1
theorem pt_val {e : Expr} {t : TE} (h : PE X e t) (he : ∀ whole, isTrue e X.env whole = (do let v ← whole; standAt e.pos; holding [v] (truthy v)) := by intro _; rfl) : PT X e (tB t) := by
  intro pins s σ H Q I hw
  refine isTrue_plain (thn (h pins s σ H _ I hw) fun v s1 ⟨x, H1, I1, r1, q1⟩ => ?_) (he _)
  obtain ⟨d, rfl, q⟩ := q1
  cases r1
  exact wpAny_truthy_bool ⟨H1, I1, q⟩
variable {tA tB' : TT} {rest : List Expr}
def tAnd (t u : TT) : TT := fun σ H Q => t σ H fun c H1 => if c = true then u σ H1 Q else Q false H1
def tOr (t u : TT) : TT := fun σ H Q => t σ H fun c H1 => if c = true then Q true H1 else u σ H1 Q
def tNot (t : TT) : TT := fun σ H Q => t σ H fun c H1 => Q (!c) H1
theorem pw_and1 (ha : PT X a tA) : PW X (.BoolOp .And [a] pos) tA := by
  intro wh pins s σ H Q I h
  refine isTrue_and (thn (ha pins s σ H Q I h) fun c s1 e => ?_)
  cases c with
  | true => exact isTrue_and_nil e
  | false => exact e
theorem pw_or1 (ha : PT X a tA) : PW X (.BoolOp .Or [a] pos) tA := by
  intro wh pins s σ H Q I h
  refine isTrue_or (thn (ha pins s σ H Q I h) fun c s1 e => ?_)
  cases c with
  | false => exact isTrue_or_nil e
  | true => exact e
theorem pw_and (ha : PT X a tA) (hb : PW X (.BoolOp .And (b :: rest) pos) tB') : PW X (.BoolOp .And (a :: b :: rest) pos) (tAnd tA tB') := by
  intro wh pins s σ H Q I h
  refine isTrue_and (thn (ha pins s σ H _ I h) fun c s1 ⟨H1, I1, q1⟩ => ?_)
  cases c with
  | true => exact hb wh pins s1 σ H1 Q I1 q1
  | false => exact ⟨H1, I1, q1⟩
theorem pw_or (ha : PT X a tA) (hb : PW X (.BoolOp .Or (b :: rest) pos) tB') : PW X (.BoolOp .Or (a :: b :: rest) pos) (tOr tA tB') := by
  intro wh pins s σ H Q I h
  refine isTrue_or (thn (ha pins s σ H _ I h) fun c s1 ⟨H1, I1, q1⟩ => ?_)
  cases c with
  | true => exact ⟨H1, I1, q1⟩
  | false => exact hb wh pins s1 σ H1 Q I1 q1
theorem pt_not (ha : PT X a tA) : PT X (.UnaryOp .Not a pos) (tNot tA) := by
  intro pins s σ H Q I h
  exact isTrue_not (ha pins s σ H (fun c H1 => Q (!c) H1) I h)
def tAndV (ta tb : TE) : TE := fun σ H Q => ta σ H fun x H1 => ∃ c, x = .bl c /\ if c = true then tb σ H1 Q else Q (.bl false) H1
def tNotV (ta : TE) : TE := fun σ H Q => ta σ H fun x H1 => ∃ c, x = .bl c /\ Q (.bl (!c)) H1
theorem pe_one {op} {t : TE} (h : PE X a t) : PE X (.BoolOp op [a] pos) t := fun pins s σ H Q I hw => BoolOp_one (h pins s σ H Q I hw)
theorem pe_and (ha : PE X a ta) (hb : PE X (.BoolOp .And (b :: rest) pos) tb) : PE X (.BoolOp .And (a :: b :: rest) pos) (tAndV ta tb) := by
  intro pins s σ H Q I h
  refine BoolOp_and (thn (ha pins s σ H _ I h) fun v s1 ⟨x, H1, I1, r1, q1⟩ => ?_)
  obtain ⟨c, rfl, q1⟩ := q1
  cases r1
  refine wpAny_truthy_bool ?_
  cases c with
  | true => exact hb pins s1 σ H1 Q I1 q1
  | false => exact ⟨.bl false, H1, I1, rfl, q1⟩
theorem pe_not (ha : PE X a ta) : PE X (.UnaryOp .Not a pos) (tNotV ta) := by
  intro pins s σ H Q I h
  refine UnaryOp_ (thn (ha pins s σ H _ I h) fun v s1 ⟨x, H1, I1, r1, q1⟩ => ?_)
  obtain ⟨c, rfl, q1⟩ := q1
  cases r1
  exact not_of (wpAny_truthy_bool ⟨.bl (!c), H1, I1, rfl, q1⟩)
def tIf (t : TT) (ta tb : TE) : TE := fun σ H Q => t σ H fun c H1 => if c = true then ta σ H1 Q else tb σ H1 Q
theorem pe_ifExp {c : Expr} (hc : PT X c tA) (ha : PE X a ta) (hb : PE X b tb) : PE X (.IfExp c a b pos) (tIf tA ta tb) := by
  intro pins s σ H Q I h
  refine wpAny_IfExp (thn (hc pins s σ H _ I h) fun d s1 ⟨H1, I1, q1⟩ => ?_)
  cases d with
  | true => exact ha pins s1 σ H1 Q I1 q1
  | false => exact hb pins s1 σ H1 Q I1 q1
end
end L2
namespace L2
open PySem PySem.Spec PyProof.Rows
def SqL (K : PySem.W.Frag) (H : Hp) (a : Addr) (xs : List V) : Prop :=
  Rd H a (.lst xs) ∨
    ∃ (o : Obj) (its : Array Value) (n : Nat), K.lookup a = some o /\ o.cls = .type "list" /\ o.dict = none /\ o.data = .seq its n /\ its.size <= sizeLine /\ Vals xs its.toList
def SqT (K : PySem.W.Frag) (H : Hp) (a : Addr) (xs : List V) : Prop :=
  Rd H a (.tup xs) ∨
    ∃ (o : Obj) (its : Array Value) (n : Nat), K.lookup a = some o /\ o.cls = .type "tuple" /\ o.data = .seq its n /\ its.size <= sizeLine /\ Vals xs its.toList
def absV : Value -> Option V
  | .none => some .non
  | .bool b => some (.bl b)
  | .int i _ => some (.int i)
  | .str x _ => some (.str x)
  | .bytes b _ => some (.byt b)
  | .float b _ => some (.flt b)
  | .ref a => some (.ref a)
  | .type n => some (.ty n)
  | _ => none
theorem RelV.abs {x : V} {u : Value} (r : RelV x u) : absV u = some x := by
  cases x with
  | non => cases r; rfl
  | bl _ => cases r; rfl
  | int _ => obtain ⟨t, rfl⟩ := r; rfl
  | str _ => obtain ⟨t, rfl⟩ := r; rfl
  | byt _ => obtain ⟨t, rfl⟩ := r; rfl
  | flt _ => obtain ⟨t, rfl⟩ := r; rfl
  | ref _ => cases r; rfl
  | ty _ => cases r; rfl
theorem RelV.inj {x y : V} {u : Value} (r : RelV x u) (q : RelV y u) : x = y := Option.some.inj (r.abs.symm.trans q.abs)
theorem Vals.inj : ∀ {xs ys : List V} {us : List Value}, Vals xs us -> Vals ys us -> xs = ys
  | _, _, _, .nil, .nil => rfl
  | _, _, _, .cons r t, .cons r' t' => by rw [r.inj r', Vals.inj t t']
section
variable {X : Cx} {pins : List (Addr × Obj)} {σ : St} {H : Hp} {s : Shared} {a : Addr} {xs ys : List V}
theorem SqL.of {K : PySem.W.Frag} (h : H a = some (.lst xs)) : SqL K H a xs := .inl (.inl h)
theorem SqT.of {K : PySem.W.Frag} (h : H a = some (.tup xs)) : SqT K H a xs := .inl (.inl h)
theorem Inv.list (I : Inv X pins σ H s) (h : SqL X.K H a xs) : ∃ its : List Value, Vals xs its /\ PlainL s.heap a its.toArray /\ xs.length <= sizeLine := by
  rcases h with h | ⟨o, its, n, hk, hc, hd, hs, hz, r⟩
  · obtain ⟨z, its, n, r, e⟩ := h.ok I.hok
    exact ⟨its, r, ⟨_, n, e, rfl, rfl, rfl⟩, z⟩
  · refine ⟨its.toList, r, ⟨o, n, I.kIn a o hk, hc, hd, by simpa using hs⟩, ?_⟩
    have e := r.length
    simp only [Array.length_toList] at e
    omega
theorem Inv.tuple (I : Inv X pins σ H s) (h : SqT X.K H a xs) : ∃ its : List Value, Vals xs its /\ IsTup s.heap a its.toArray /\ xs.length <= sizeLine := by
  rcases h with h | ⟨o, its, n, hk, hc, hs, hz, r⟩
  · obtain ⟨z, its, r, p⟩ := h.ok I.hok
    exact ⟨its, r, p.up, z⟩
  · refine ⟨its.toList, r, ⟨o, I.kIn a o hk, hc, n, by simpa using hs⟩, ?_⟩
    have e := r.length
    simp only [Array.length_toList] at e
    omega
theorem Inv.list_inj (I : Inv X pins σ H s) (h : SqL X.K H a xs) (h' : SqL X.K H a ys) : xs = ys := by
  obtain ⟨its, r, ⟨o, n, e, _, _, d⟩, _⟩ := I.list h
  obtain ⟨its', r', ⟨o', n', e', _, _, d'⟩, _⟩ := I.list h'
  rw [e] at e'; cases e'
  rw [d] at d'
  injection d' with d1 _
  have : its = its' := by simpa using congrArg Array.toList d1
  subst this
  exact r.inj r'
theorem Inv.tuple_inj (I : Inv X pins σ H s) (h : SqT X.K H a xs) (h' : SqT X.K H a ys) : xs = ys := by
  obtain ⟨its, r, ⟨o, e, _, n, d⟩, _⟩ := I.tuple h
  obtain ⟨its', r', ⟨o', e', _, n', d'⟩, _⟩ := I.tuple h'
  rw [e] at e'; cases e'
  rw [d] at d'
  injection d' with d1 _
  have : its = its' := by simpa using congrArg Array.toList d1
  subst this
  exact r.inj r'
end
abbrev Cx.wish (X : Cx) (E : Value -> Shared -> Prop) : Cx := { X with xe := E }
abbrev Cx.nox (X : Cx) : Cx := X.wish fun _ _ => False
theorem Cx.Ok.wish {X : Cx} (ok : X.Ok) (E : Value -> Shared -> Prop) : (X.wish E).Ok :=
  ⟨ok.mod, ok.kind, ok.glob, ok.blt, ok.above, ok.inj, ok.has, ok.cab, ok.hd, ok.frames, ok.stk, ok.exf, ok.bs, ok.bsz, ok.noex, ok.exfs, ok.funs, ok.frf⟩
theorem Cx.Ok.unwish {X : Cx} {E : Value -> Shared -> Prop} (ok : (X.wish E).Ok) : X.Ok :=
  ⟨ok.mod, ok.kind, ok.glob, ok.blt, ok.above, ok.inj, ok.has, ok.cab, ok.hd, ok.frames, ok.stk, ok.exf, ok.bs, ok.bsz, ok.noex, ok.exfs, ok.funs, ok.frf⟩
section
variable {X : Cx} {pins : List (Addr × Obj)} {σ : St} {H : Hp} {s : Shared} {E : Value -> Shared -> Prop}
theorem Inv.wish (I : Inv X pins σ H s) (E : Value -> Shared -> Prop) : Inv (X.wish E) pins σ H s := ⟨I.ok.wish E, I.os, I.bare, I.base, I.loc, I.cell, I.free, I.freeC, I.pin, I.hok, I.len⟩
theorem Inv.unwish (I : Inv (X.wish E) pins σ H s) : Inv X pins σ H s := ⟨I.ok.unwish, I.os, I.bare, I.base, I.loc, I.cell, I.free, I.freeC, I.pin, I.hok, I.len⟩
theorem SP.unwish {D : Ends} {f : Flow} {s' : Shared} (h : SP (X.wish E) pins D f s') : SP X pins D f s' := by
  cases f with
  | next => obtain ⟨σ', H', I, q⟩ := h; exact ⟨σ', H', I.unwish, q⟩
  | brk => obtain ⟨σ', H', I, q⟩ := h; exact ⟨σ', H', I.unwish, q⟩
  | cont => obtain ⟨σ', H', I, q⟩ := h; exact ⟨σ', H', I.unwish, q⟩
  | ret u => obtain ⟨v, σ', H', I, r, q⟩ := h; exact ⟨v, σ', H', I.unwish, r, q⟩
theorem PSs.nox {st : List Stmt} {t : TS} (h : PSs X.nox st t) : PSs X st t := fun pins s σ H D I hw =>
  wpAny_mono (h pins s σ H D (I.wish _) hw) (fun _ _ q => q.unwish) fun _ _ z => False.elim z
end
section
variable {X : Cx} {st : Stmt} {rest : List Stmt} {t u : TS} {e : Expr} {te : TE} {pos : Pos}
def tNext : TS := fun D σ H => D.nx σ H
def tSeq (t u : TS) : TS := fun D σ H => t { D with nx := u D } σ H
theorem pss_nil : PSs X [] tNext := fun _ _ σ H _ I h => wpAny_execs_nil ⟨σ, H, I, h⟩
theorem pss_cons (h1 : PS X st t) (h2 : PSs X rest u) : PSs X (st :: rest) (tSeq t u) := by
  intro pins s σ H D I h
  refine wpAny_execs_cons (thn (h1 pins s σ H { D with nx := u D } I h) fun f s1 q => ?_)
  cases f with
  | next =>
    obtain ⟨σ', H', I', q⟩ := q
    exact h2 pins s1 σ' H' D I' q
  | ret v => exact q
  | brk => exact q
  | cont => exact q
theorem pss_one (h1 : PS X st t) : PSs X [st] t := by
  intro pins s σ H D I h
  refine wpAny_execs_cons (thn (h1 pins s σ H D I h) fun f s1 q => ?_)
  cases f with
  | next => exact wpAny_execs_nil q
  | ret v => exact q
  | brk => exact q
  | cont => exact q
theorem Inv.quiet {pins : List (Addr × Obj)} {σ : St} {H : Hp} {s : Shared} (I : Inv X pins σ H s) : interactive X.env = false := by simp [interactive, I.ok.kind]
def tDrop (te : TE) : TS := fun D σ H => te σ H fun _ H1 => D.nx σ H1
theorem ps_expr (he : PE X e te) (hs : swapsWith e none pos.line X.env = pure false := by rfl) : PS X (.Expr e pos) (tDrop te) := by
  intro pins s σ H D I h
  exact wpAny_Expr_any (thn (he pins s σ H _ I h) fun v s1 ⟨x, H1, I1, r1, q1⟩ => ⟨σ, H1, I1, q1⟩) I.quiet hs
def tRet (te : TE) : TS := fun D σ H => te σ H D.rt
theorem ps_ret (he : PE X e te) : PS X (.Return (some e) pos) (tRet te) := by
  intro pins s σ H D I h
  exact wpAny_Return_some (thn (he pins s σ H _ I h) fun v s1 ⟨x, H1, I1, r1, q1⟩ => ⟨x, σ, H1, I1, r1, q1⟩)
def tIfS (c : TT) (t u : TS) : TS := fun D σ H => c σ H fun b H1 => if b = true then t D σ H1 else u D σ H1
theorem ps_if {c : Expr} {a b : List Stmt} {tc : TT} (hc : PT X c tc) (ha : PSs X a t) (hb : PSs X b u) : PS X (.If c a b pos) (tIfS tc t u) := by
  intro pins s σ H D I h
  refine wpAny_If (thn (hc pins s σ H _ I h) fun d s1 ⟨H1, I1, q1⟩ => ?_)
  cases d with
  | true => exact ha pins s1 σ H1 D I1 q1
  | false => exact hb pins s1 σ H1 D I1 q1
def tNever : TS := fun _ _ _ => False
theorem ps_never : PS X st tNever := fun _ _ _ _ _ _ h => h.elim
end
abbrev TG := V -> St -> Hp -> (St -> Hp -> Prop) -> Prop
abbrev TGs := List V -> St -> Hp -> (St -> Hp -> Prop) -> Prop
def PG (X : Cx) (target : Expr) (t : TG) : Prop :=
  ∀ (pins : List (Addr × Obj)) (s : Shared) (σ : St) (H : Hp) (v : V) (u : Value) (Q : St -> Hp -> Prop), Inv X pins σ H s -> RelV v u -> t v σ H Q ->
    wpAny (model X.prog X.w) X.A (assign target X.env u) (fun _ s' => ∃ σ' H', Inv X pins σ' H' s' /\ Q σ' H') X.xe s
def PGs (X : Cx) (ts : List Expr) (t : TGs) : Prop :=
  ∀ (pins : List (Addr × Obj)) (s : Shared) (σ : St) (H : Hp) (vs : List V) (us : List Value) (Q : St -> Hp -> Prop), Inv X pins σ H s -> Vals vs us -> t vs σ H Q ->
    wpAny (model X.prog X.w) X.A (assignInOrder ((assignEach ts X.env).map (·.2)) us) (fun _ s' => ∃ σ' H', Inv X pins σ' H' s' /\ Q σ' H') X.xe s
abbrev TSet := V -> V -> V -> Hp -> (Hp -> Prop) -> Prop
def PSet (X : Cx) (t : TSet) : Prop :=
  ∀ (pins : List (Addr × Obj)) (s : Shared) (σ : St) (H : Hp) (o i v : V) (ov iv u : Value) (Q : Hp -> Prop), Inv X pins σ H s -> RelV o ov -> RelV i iv -> RelV v u -> t o i v H Q ->
    wpAny (model X.prog X.w) X.A (setItem ov iv u) (fun _ s' => ∃ H', Inv X pins σ H' s' /\ Q H') X.xe s
section
variable {X : Cx} {pos : Pos}
def gName (i : Nat) : TG := fun v σ H Q => Q (σ.set i (some v)) H
theorem pg_name {i : Nat} {x : Str} (hN : X.N.Nodup) (hi : X.N[i]? = some x) (hx : Loc X.env.scope x) (hf : X.fn x = true ∨ X.env.scope.names.lookup x = some .local := by first | exact .inl rfl | exact .inr rfl | assumption) : PG X (.Name x pos) (gName i) := by
  intro pins s σ H v u Q I r h
  exact wpAny_assign_Name (store_ok I hN hi hx r (fun s' I' => ⟨_, H, I', h⟩) hf)
def gNil : TGs := fun vs σ H Q => vs = [] /\ Q σ H
def gCons (t : TG) (u : TGs) : TGs := fun vs σ H Q => ∃ v r, vs = v :: r /\ t v σ H fun σ' H' => u r σ' H' Q
theorem pgs_nil : PGs X [] gNil := by
  intro pins s σ H vs us Q I r h
  obtain ⟨e, h⟩ := h
  subst e
  cases r
  exact assignInOrder_nil ⟨σ, H, I, h⟩
theorem pgs_cons {e : Expr} {es : List Expr} {t : TG} {u : TGs} (h1 : PG X e t) (h2 : PGs X es u)
    (hs : (assignEach (e :: es) X.env).map (·.2) = assign e X.env :: (assignEach es X.env).map (·.2) := by rfl) : PGs X (e :: es) (gCons t u) := by
  intro pins s σ H vs us Q I r h
  obtain ⟨v, vr, e1, h⟩ := h
  subst e1
  cases r with
  | cons r rr =>
    rw [hs]
    refine assignInOrder_cons (thn (h1 pins s σ H _ _ _ I r h) fun _ s1 ⟨σ1, H1, I1, q1⟩ => ?_)
    exact h2 pins s1 σ1 H1 _ _ Q I1 rr q1
def gTup (K : PySem.W.Frag) (n : Nat) (t : TGs) : TG := fun v σ H Q => ∃ a xs, v = .ref a /\ SqT K H a xs /\ xs.length = n /\ t xs σ H Q
theorem pg_tup {es : List Expr} {k : Nat} {t : TGs} {n : Nat} (hc : X.calm = true) (h : PGs X es t)
    (hn : (assignEach es X.env).length = n := by rfl) (hst : (assignEach es X.env).findIdx? (·.1) = none := by rfl) : PG X (.Tuple es k pos) (gTup X.K n t) := by
  intro pins s σ H v u Q I r hw
  obtain ⟨a, xs, e1, hq, hl, hw⟩ := hw
  subst e1
  cases r
  obtain ⟨its, rv, ht, hz⟩ := I.tuple hq
  refine assign_Tuple_tuple (I.ok.hd hc) ht (by simp [hn, ← hl, rv.length]) hst fun h' hx => ?_
  have I1 : Inv X pins σ H { s with heap := h' } := I.kept (t' := s.toks) fun b o e => hx b o (Nat.ne_of_lt (Heap.lt_size e)) e
  exact h pins _ σ H xs _ Q I1 (by simpa using rv) hw
def gSub (to ti : TE) (t : TSet) : TG := fun v σ H Q => to σ H fun o H1 => ti σ H1 fun i H2 => t o i v H2 fun H3 => Q σ H3
theorem pg_sub {o i : Expr} {to ti : TE} {t : TSet} (ho : PE X o to) (hi : PE X i ti) (hs : PSet X t)
    (ha : ∀ v, assign (.Subscript o i pos) X.env v = (do
      let ov ← holding [v] (eval o X.env)
      let iv ← holding [v, ov] (eval i X.env)
      standAt pos
      holding [v, ov, iv] (setItem ov iv v)
      release [v, ov, iv] []) := by intro _; rfl) : PG X (.Subscript o i pos) (gSub to ti t) := by
  intro pins s σ H v u Q I r h
  rw [ha]
  refine wpAny_bind (wpAny_holding (thn (ho pins s σ H _ I h) fun ov s1 ⟨x, H1, I1, r1, q1⟩ => ?_))
  refine wpAny_bind (wpAny_holding (thn (hi pins s1 σ H1 _ I1 q1) fun iv s2 ⟨y, H2, I2, r2, q2⟩ => ?_))
  refine wpAny_bind (wpAny_standAt (wpAny_bind (wpAny_holding (thn (hs pins s2 σ H2 x y v ov iv u _ I2 r1 r2 r q2) fun _ s3 ⟨H3, I3, q3⟩ => ?_))))
  exact wpAny_release ⟨σ, H3, I3, q3⟩
def tAsg (te : TE) (g : TG) : TS := fun D σ H => te σ H fun x H1 => g x σ H1 D.nx
theorem ps_asg {tg e : Expr} {te : TE} {g : TG} (he : PE X e te) (hg : PG X tg g) (hs : swapsWithSole [tg] e pos.line X.env = pure false := by rfl) (hw : swappedStores [tg] e X.env = pure none := by rfl)
    (h1 : (assignEach [tg] X.env).map (·.2) = [assign tg X.env] := by rfl) : PS X (.Assign [tg] e pos) (tAsg te g) := by
  intro pins s σ H D I h
  refine wpAny_Assign_stores (thn (he pins s σ H _ I h) fun v s1 ⟨x, H1, I1, r1, q1⟩ => ?_) hs hw
  rw [h1]
  exact thn (hg pins s1 σ H1 x v _ I1 r1 q1) fun _ s2 q => q
theorem ps_set {i : Nat} {x : Str} {e : Expr} {te : TE} {pos' : Pos} (hN : X.N.Nodup) (hi : X.N[i]? = some x) (hx : Loc X.env.scope x) (he : PE X e te) (hs : swapsWith e (some (.Name x pos')) pos.line X.env = pure false := by rfl) (hf : X.fn x = true ∨ X.env.scope.names.lookup x = some .local := by first | exact .inl rfl | exact .inr rfl | assumption) :
    PS X (.Assign [.Name x pos'] e pos) (tAsg te (gName i)) := by
  intro pins s σ H D I h
  refine wpAny_Assign_Name (thn (he pins s σ H _ I h) fun v s1 ⟨y, H1, I1, r1, q1⟩ => ?_) hs
  exact store_ok I1 hN hi hx r1 (fun s2 I2 => ⟨_, H1, I2, q1⟩) hf
end
section
variable {X : Cx} {pos : Pos}
def tWhile (c : TT) (tb : TS) : TS := fun D σ H => ∃ W : Nat -> St -> Hp -> Prop, (∃ m, W m σ H) /\ ∀ m σ H, W m σ H ->
  c σ H fun b H1 => if b = true then ∃ N : St -> Hp -> Prop, (∀ σ' H', N σ' H' -> ∃ m', m' < m /\ W m' σ' H') /\ tb { D with nx := N, ct := N, bk := D.nx } σ H1 else D.nx σ H1
theorem ps_while {c : Expr} {body : List Stmt} {tc : TT} {tb : TS} (hp : PassesOwn (model X.prog X.w) X.A X.env X.xe) (hc : PT X c tc) (hb : PSs X body tb) : PS X (.While c body [] pos) (tWhile tc tb) := by
  intro pins s σ H D I h
  obtain ⟨W, ⟨m0, w0⟩, turn⟩ := h
  refine wpAny_While (codeAny_whileLoop (fun n s' => ∃ σ' H', Inv X pins σ' H' s' /\ W n σ' H') ?_ m0 ⟨σ, H, I, w0⟩)
  rintro n s1 ⟨σ1, H1, I1, w1⟩
  refine wpAny_passesOwn hp (thn (hc pins s1 σ1 H1 _ I1 (turn n σ1 H1 w1)) fun b s2 ⟨H2, I2, q2⟩ => ?_)
  cases b with
  | true =>
    obtain ⟨N, hN, q2⟩ := q2
    rw [if_pos rfl]
    refine wpAny_passesOwn hp (thn (hb pins s2 σ1 H2 _ I2 q2) fun f s3 q3 => ?_)
    cases f with
    | next =>
      obtain ⟨σ3, H3, I3, n3⟩ := q3
      obtain ⟨m', hm, w3⟩ := hN σ3 H3 n3
      exact ⟨m', hm, σ3, H3, I3, w3⟩
    | cont =>
      obtain ⟨σ3, H3, I3, n3⟩ := q3
      obtain ⟨m', hm, w3⟩ := hN σ3 H3 n3
      exact ⟨m', hm, σ3, H3, I3, w3⟩
    | brk => exact q3
    | ret v => exact q3
  | false =>
    rw [if_neg Bool.false_ne_true]
    exact wpAny_execs_nil ⟨σ1, H2, I2, q2⟩
end
structure It where
  go : Nat -> Hp -> Prop
  yld : Nat -> Hp -> V -> Hp -> Prop
  stop : Nat -> Hp -> Prop
def FpOk (X : Cx) (pins : List (Addr × Obj)) (H : Hp) (b : Addr) : Prop :=
  H b = none /\ b ≠ X.env.locals /\ b ∉ X.fs /\ (b ∈ X.ex ∨ X.s₀.heap.objs.size <= b) /\ (∀ x c, X.env.cells.lookup x = some c -> c ≠ b) /\ ∀ p ∈ X.pn ++ pins, p.1 ≠ b
theorem Inv.fpOk {X : Cx} {pins : List (Addr × Obj)} {σ : St} {H H' : Hp} {s : Shared} {b : Addr} (I : Inv X pins σ H s) (hb : s.heap.objs.size <= b) (hn : H' b = none) : FpOk X pins H' b := by
  refine ⟨hn, Nat.ne_of_gt (Nat.lt_of_lt_of_le I.lt hb), I.nofs hb, .inr (Nat.le_trans I.sz hb), fun x c e z => ?_, fun p hp z => ?_⟩
  · obtain ⟨v, q⟩ := I.cell x c e
    exact absurd (Nat.lt_of_lt_of_le q.lt (by rw [z]; exact hb)) (Nat.lt_irrefl _)
  · exact absurd (Nat.lt_of_lt_of_le (Heap.lt_size (I.pin p hp).1) (by rw [z]; exact hb)) (Nat.lt_irrefl _)
structure Turn (P : Program) (w : World) (K : PySem.W.Frag) (tg : Expr) (J : It) (fp : List Addr) (it : Addr) (tn : Nat -> Heap -> Prop) : Prop where
  mem : it ∈ fp
  obj : ∀ i h, tn i h -> ∀ b ∈ fp, ∃ o, h.get? b = some o /\ ∀ v, o.data ≠ .cell v
  keep : ∀ i h h', tn i h -> (∀ b ∈ fp, ∀ o, h.get? b = some o -> h'.get? b = some o) -> tn i h'
  item : ∀ (X : Cx), X.prog = P -> X.w = w -> X.K = K -> X.calm = true -> ∀ (i : Nat) (pins : List (Addr × Obj)) (s : Shared) (σ : St) (H : Hp) (E : Value -> Shared -> Prop), Inv X pins σ H s -> (∀ b ∈ fp, FpOk X pins H b) -> tn i s.heap -> J.go i H ->
    wpAny (model P w) X.A (pyNext (.ref it)) (fun r s1 => ∃ u, r = some u /\
      wpAny (model P w) X.A (letOwnedTupleGo tg (.ref it) u) (fun _ s2 => ∃ x H', Inv X pins σ H' s2 /\ RelV x u /\ J.yld i H x H' /\ tn (i + 1) s2.heap /\ ∀ b ∈ fp, H' b = none) E s1) E s
  done : ∀ (X : Cx), X.prog = P -> X.w = w -> X.K = K -> X.calm = true -> ∀ (i : Nat) (pins : List (Addr × Obj)) (s : Shared) (σ : St) (H : Hp) (E : Value -> Shared -> Prop), Inv X pins σ H s -> (∀ b ∈ fp, FpOk X pins H b) -> tn i s.heap -> J.stop i H ->
    wpAny (model P w) X.A (pyNext (.ref it)) (fun r s1 => r = none /\ Inv X pins σ H s1) E s
  self : ∀ (A : Around) (i : Nat) (s : Shared) (Q : Value -> Shared -> Prop) (E : Value -> Shared -> Prop), tn i s.heap -> Q (.ref it) s -> wpAny (model P w) A (pyIter (.ref it)) Q E s
abbrev TI := St -> Hp -> (It -> Hp -> Prop) -> Prop
def PIE (X : Cx) (pins : List (Addr × Obj)) (σ : St) (tg : Expr) (R : It -> Hp -> Prop) (itv : Value) (s2 : Shared) : Prop :=
  ∃ (it : Addr) (fp : List Addr) (tn : Nat -> Heap -> Prop) (J : It) (H' : Hp), itv = .ref it /\ Inv X pins σ H' s2 /\ Turn X.prog X.w X.K tg J fp it tn /\ tn 0 s2.heap /\ (∀ b ∈ fp, FpOk X pins H' b) /\ R J H'
def PI (X : Cx) (tg iter : Expr) (wi : TI) : Prop :=
  ∀ (pins : List (Addr × Obj)) (s : Shared) (σ : St) (H : Hp) (R : It -> Hp -> Prop), Inv X pins σ H s -> wi σ H R ->
    wpAny (model X.prog X.w) X.A (eval iter X.env) (fun v s1 => wpAny (model X.prog X.w) X.A (pyIter v) (PIE X pins σ tg R) X.xe s1) X.xe s
theorem go_of {M : Model} {A : Around} {E : Value -> Shared -> Prop} {s : Shared} {tg : Expr} {it : Addr} {u : Value} {o : Obj} {n : String} {vs : Array Value} {Q : Unit -> Shared -> Prop} (ho : s.heap.get? it = some o) (hc : o.cls = .type n) (hd : o.data = .fields vs)
    (hn : ["enumerate", "zip", "dict_itemiterator", "dict_reverseitemiterator", "odict_iterator", "itertools.zip_longest", "itertools.pairwise"].contains n = false) (hQ : Q () s) : wpAny M A (letOwnedTupleGo tg (.ref it) u) Q E s := by
  unfold letOwnedTupleGo
  cases tg <;> first
    | exact wpAny_pure hQ
    | (cases u <;> first
        | exact wpAny_pure hQ
        | (refine wpAny_bind (wpAny_load ho ?_)
           rw [hc, hd]
           show wpAny M A (if (["enumerate", "zip", "dict_itemiterator", "dict_reverseitemiterator", "odict_iterator", "itertools.zip_longest", "itertools.pairwise"].contains n && vs[0]? == some (rawInt _)) = true then _ else _) Q E s
           rw [if_neg (by intro h; rw [hn, Bool.false_and] at h; cases h)]
           exact wpAny_pure hQ))
def Itl (K : PySem.W.Frag) (a : Addr) : It :=
  ⟨fun i H => ∃ xs x, SqL K H a xs /\ xs[i]? = some x, fun i H x H' => H' = H /\ ∀ xs, SqL K H a xs -> xs[i]? = some x, fun i H => ∃ xs, SqL K H a xs /\ xs.length <= i⟩
def Itt (K : PySem.W.Frag) (a : Addr) : It :=
  ⟨fun i H => ∃ xs x, SqT K H a xs /\ xs[i]? = some x, fun i H x H' => H' = H /\ ∀ xs, SqT K H a xs -> xs[i]? = some x, fun i H => ∃ xs, SqT K H a xs /\ xs.length <= i⟩
def Itr (lo : Int) (n : Nat) : It := ⟨fun i _ => i < n, fun i H x H' => H' = H /\ x = .int (lo + i), fun i _ => n <= i⟩
theorem turn_list {P : Program} {w : World} {K : PySem.W.Frag} {tg : Expr} (a it : Addr) : Turn P w K tg (Itl K a) [it] it (fun i h => h.IsListIter it a i) where
  mem := by simp
  obj := fun i h st b hb => by
    have e : b = it := by simpa using hb
    subst e
    obtain ⟨o, e, c, d⟩ := st
    exact ⟨o, e, fun v z => by rw [d] at z; cases z⟩
  keep := fun i h h' st k => st.at fun o e => k it (by simp) o e
  item := by
    intro X hP hw hK hc i pins s σ H E I hf st hg
    subst hP hw hK
    obtain ⟨xs, x, hq, hx⟩ := hg
    obtain ⟨its, rv, p, hz⟩ := I.list hq
    obtain ⟨u, hu, ru⟩ := rv.get hx
    obtain ⟨f0, f1, f2, f3, f4, f5⟩ := hf it (by simp)
    refine wpAny_pyNext_list_item st p.isList (x := u) (by simpa using hu) fun h' st' sb => ?_
    have I1 : Inv X pins σ H { s with heap := h' } := I.turned (t' := s.toks) (fun b o hb e => (sb.2 b hb).trans e) f0 f1 f3 f4 f5
    obtain ⟨o, e, c, d⟩ := id st'
    exact ⟨u, rfl, go_of (s := { s with heap := h' }) e c d (by decide) ⟨x, H, I1, ru, ⟨rfl, fun ys hy => by rw [I.list_inj hy hq]; exact hx⟩, st', fun b hb => (hf b hb).1⟩⟩
  done := by
    intro X hP hw hK hc i pins s σ H E I hf st hg
    subst hP hw hK
    obtain ⟨xs, hq, hx⟩ := hg
    obtain ⟨its, rv, p, hz⟩ := I.list hq
    obtain ⟨f0, f1, f2, f3, f4, f5⟩ := hf it (by simp)
    have hl := rv.length
    exact wpAny_pyNext_list_end (I.ok.hd hc) st p.isList (by simp; omega) fun h' eb => ⟨rfl, I.turned (t' := s.toks) (fun b o hb e => eb b o hb e) f0 f1 f3 f4 f5⟩
  self := fun _ _ _ _ _ st h => wpAny_pyIter_listiter st h
theorem turn_tuple {P : Program} {w : World} {K : PySem.W.Frag} {tg : Expr} (a it : Addr) : Turn P w K tg (Itt K a) [it] it (fun i h => h.IsTupleIter it a i) where
  mem := by simp
  obj := fun i h st b hb => by
    have e : b = it := by simpa using hb
    subst e
    obtain ⟨o, e, c, d⟩ := st
    exact ⟨o, e, fun v z => by rw [d] at z; cases z⟩
  keep := fun i h h' st k => st.at fun o e => k it (by simp) o e
  item := by
    intro X hP hw hK hc i pins s σ H E I hf st hg
    subst hP hw hK
    obtain ⟨xs, x, hq, hx⟩ := hg
    obtain ⟨its, rv, p, hz⟩ := I.tuple hq
    obtain ⟨u, hu, ru⟩ := rv.get hx
    obtain ⟨f0, f1, f2, f3, f4, f5⟩ := hf it (by simp)
    refine wpAny_pyNext_tuple_item st (show s.heap.IsTuple a its.toArray from p) (x := u) (by simpa using hu) fun h' st' sb => ?_
    have I1 : Inv X pins σ H { s with heap := h' } := I.turned (t' := s.toks) (fun b o hb e => (sb.2 b hb).trans e) f0 f1 f3 f4 f5
    obtain ⟨o, e, c, d⟩ := id st'
    exact ⟨u, rfl, go_of (s := { s with heap := h' }) e c d (by decide) ⟨x, H, I1, ru, ⟨rfl, fun ys hy => by rw [I.tuple_inj hy hq]; exact hx⟩, st', fun b hb => (hf b hb).1⟩⟩
  done := by
    intro X hP hw hK hc i pins s σ H E I hf st hg
    subst hP hw hK
    obtain ⟨xs, hq, hx⟩ := hg
    obtain ⟨its, rv, p, hz⟩ := I.tuple hq
    obtain ⟨f0, f1, f2, f3, f4, f5⟩ := hf it (by simp)
    have hl := rv.length
    exact wpAny_pyNext_tuple_end (I.ok.hd hc) st (show s.heap.IsTuple a its.toArray from p) (by simp; omega) fun h' eb => ⟨rfl, I.turned (t' := s.toks) (fun b o hb e => eb b o hb e) f0 f1 f3 f4 f5⟩
  self := fun _ _ _ _ _ st h => wpAny_pyIter_tupleiter st h
theorem turn_range {P : Program} {w : World} {K : PySem.W.Frag} {tg : Expr} (it : Addr) (lo : Int) (n : Nat) : Turn P w K tg (Itr lo n) [it] it (fun i h => IsRangeIter h it (lo + (i : Nat) * 1) ((n : Int) - (i : Nat)) 1) where
  mem := by simp
  obj := fun i h st b hb => by
    have e : b = it := by simpa using hb
    subst e
    exact ⟨_, st, fun v z => by
      have z' : Data.fields _ = Data.cell v := z
      cases z'⟩
  keep := fun i h h' st k => k it (by simp) _ st
  item := by
    intro X hP hw hK hc i pins s σ H E I hf st hg
    subst hP hw hK
    obtain ⟨f0, f1, f2, f3, f4, f5⟩ := hf it (by simp)
    have W := Walks.range (prog := X.prog) (w := X.w) (I.ok.hd hc) it lo 1 n
    refine W.item i s _ _ hg st fun v h' tk hv st' kk => ?_
    obtain ⟨t, rfl⟩ := hv
    have I1 : Inv X pins σ H { s with heap := h', toks := tk } := I.turned (fun b o hb e => kk b o (by simpa using hb) e) f0 f1 f3 f4 f5
    refine ⟨_, rfl, go_of (s := { s with heap := h', toks := tk }) (n := "range_iterator") st' rfl rfl (by decide) ⟨.int (lo + i), H, I1, ⟨t, ?_⟩, ⟨rfl, rfl⟩, st', fun b hb => (hf b hb).1⟩⟩
    rw [Int.mul_one]
  done := by
    intro X hP hw hK hc i pins s σ H E I hf st hg
    subst hP hw hK
    obtain ⟨f0, f1, f2, f3, f4, f5⟩ := hf it (by simp)
    exact wpAny_pyNext_range_end (I.ok.hd hc) st (by have : n <= i := hg; omega) fun h' eb => ⟨rfl, I.turned (t' := s.toks) (fun b o hb e => eb b o hb e) f0 f1 f3 f4 f5⟩
  self := fun _ _ _ _ _ st h => wpAny_pyIter_rangeiter st h
end L2
namespace L2
open PySem PySem.Spec PyProof.Rows
section
variable {X : Cx} {tg : Expr}
def iList (K : PySem.W.Frag) (tl : TE) : TI := fun σ H R => tl σ H fun x H1 => ∃ a, x = .ref a /\ (∃ xs, SqL K H1 a xs) /\ R (Itl K a) H1
def iTup (K : PySem.W.Frag) (tl : TE) : TI := fun σ H R => tl σ H fun x H1 => ∃ a, x = .ref a /\ (∃ xs, SqT K H1 a xs) /\ R (Itt K a) H1
theorem pi_list {l : Expr} {tl : TE} (hl : PE X l tl) : PI X tg l (iList X.K tl) := by
  intro pins s σ H R I h
  refine thn (hl pins s σ H _ I h) fun v s1 ⟨x, H1, I1, r1, q1⟩ => ?_
  obtain ⟨a, e, ⟨xs, hq⟩, q⟩ := q1
  subst e
  cases r1
  obtain ⟨its, rv, p, hz⟩ := I1.list hq
  refine wpAny_pyIter_list p.isList ?_
  refine ⟨s1.heap.objs.size, [s1.heap.objs.size], _, _, H1, rfl, I1.kept (t' := s1.toks) fun b o e => Heap.get?_push_of_some _ e, turn_list a _, ⟨_, Heap.get?_push_size _ rfl, rfl, rfl⟩, fun b hb => ?_, q⟩
  have e : b = s1.heap.objs.size := by simpa using hb
  subst e
  exact I1.fpOk (Nat.le_refl _) (I1.hok.fresh (Nat.le_refl _))
theorem pi_tup {l : Expr} {tl : TE} (hl : PE X l tl) : PI X tg l (iTup X.K tl) := by
  intro pins s σ H R I h
  refine thn (hl pins s σ H _ I h) fun v s1 ⟨x, H1, I1, r1, q1⟩ => ?_
  obtain ⟨a, e, ⟨xs, hq⟩, q⟩ := q1
  subst e
  cases r1
  obtain ⟨its, rv, p, hz⟩ := I1.tuple hq
  refine wpAny_pyIter_tuple (show s1.heap.IsTuple a its.toArray from p) ?_
  refine ⟨s1.heap.objs.size, [s1.heap.objs.size], _, _, H1, rfl, I1.kept (t' := s1.toks) fun b o e => Heap.get?_push_of_some _ e, turn_tuple a _, ⟨_, Heap.get?_push_size _ rfl, rfl, rfl⟩, fun b hb => ?_, q⟩
  have e : b = s1.heap.objs.size := by simpa using hb
  subst e
  exact I1.fpOk (Nat.le_refl _) (I1.hok.fresh (Nat.le_refl _))
theorem range_it {pins : List (Addr × Obj)} {σ : St} {H : Hp} {s : Shared} {R : It -> Hp -> Prop} {E : Value -> Shared -> Prop} {lo hi : Int} {t u v : Tok} {tk : Nat} (I : Inv X pins σ H s) (h1 : -(2 ^ 62) <= lo) (h2 : lo < 2 ^ 62) (h3 : -(2 ^ 62) <= hi) (h4 : hi < 2 ^ 62)
    (q : R (Itr lo (hi - lo).toNat) H) : wpAny (model X.prog X.w) X.A (pyIter (.ref s.heap.objs.size)) (PIE X pins σ tg R) E { s with heap := s.heap.push { cls := .type "range", data := .fields #[.int lo t, .int hi u, .int 1 v] }, toks := tk } := by
  refine wpAny_pyIter_range (IsRange.new ..) (small_one h1 h2 h3 h4) ?_
  have I1 : Inv X pins σ H { s with heap := s.heap.push { cls := .type "range", data := .fields #[.int lo t, .int hi u, .int 1 v] }, toks := tk } := I.kept fun b o e => Heap.get?_push_of_some _ e
  refine ⟨(s.heap.push { cls := .type "range", data := .fields #[.int lo t, .int hi u, .int 1 v] }).objs.size, [(s.heap.push { cls := .type "range", data := .fields #[.int lo t, .int hi u, .int 1 v] }).objs.size], _, _, H, rfl,
    I1.kept (t' := tk) fun b o e => Heap.get?_push_of_some _ e, turn_range _ lo (hi - lo).toNat, ?_, fun b hb => ?_, q⟩
  · have e1 : lo + ((0 : Nat) : Int) * 1 = lo := by simp
    have e2 : (((hi - lo).toNat : Nat) : Int) - ((0 : Nat) : Int) = Builtin.Range.rangeSize lo hi 1 := by rw [rangeSize_one]; split <;> omega
    show IsRangeIter _ _ (lo + ((0 : Nat) : Int) * 1) ((((hi - lo).toNat : Nat) : Int) - ((0 : Nat) : Int)) 1
    rw [e1, e2]
    exact Heap.get?_push_size _ rfl
  · have e : b = (s.heap.push { cls := .type "range", data := .fields #[.int lo t, .int hi u, .int 1 v] }).objs.size := by simpa using hb
    subst e
    exact I1.fpOk (Nat.le_refl _) (I1.hok.fresh (Nat.le_refl _))
def iRng1 (ta : TA) : TI := fun σ H R => ta σ H fun vs H1 => ∃ j : Int, vs = [.int j] /\ -(2 ^ 62) <= j /\ j < 2 ^ 62 /\ R (Itr 0 j.toNat) H1
def iRng2 (ta : TA) : TI := fun σ H R => ta σ H fun vs H1 => ∃ i j : Int, vs = [.int i, .int j] /\ (-(2 ^ 62) <= i /\ i < 2 ^ 62 /\ -(2 ^ 62) <= j /\ j < 2 ^ 62) /\ R (Itr i (j - i).toNat) H1
theorem pi_range1 {a : Expr} {ta : TA} {p pos : Pos} (hg : Gl X "range") (hm : X.mg "range" = none) (ha : PA X [a] ta) (hs : starEach [a] X.env = [(false, eval a X.env)] := by rfl) : PI X tg (.Call (.Name "range" p) [a] [] pos) (iRng1 ta) := by
  intro pins s σ H R I h
  refine Call_ (ld_blt I hg hm boot_range (PyProof.Rows.callWith_type1 (thn (ha pos pins s σ H _ I h) fun us s1 ⟨vs, H1, I1, r1, q1⟩ => ?_) hs rfl))
  obtain ⟨j, e, q1, q2, q⟩ := q1
  subst e
  cases r1 with
  | cons r rr =>
    cases rr
    obtain ⟨t, rfl⟩ := r
    exact call_range_1 (range_it I1 (by omega) (by omega) q1 q2 (by simpa using q))
theorem pi_range2 {a b : Expr} {ta : TA} {p pos : Pos} (hg : Gl X "range") (hm : X.mg "range" = none) (ha : PA X [a, b] ta) (hs : starEach [a, b] X.env = [(false, eval a X.env), (false, eval b X.env)] := by rfl) (hs2 : starEach [b] X.env = [(false, eval b X.env)] := by rfl) :
    PI X tg (.Call (.Name "range" p) [a, b] [] pos) (iRng2 ta) := by
  intro pins s σ H R I h
  refine Call_ (ld_blt I hg hm boot_range (PyProof.Rows.callWith_type1 (thn (ha pos pins s σ H _ I h) fun us s1 ⟨vs, H1, I1, r1, q1⟩ => ?_) (by rw [hs, hs2]) (by rw [hs2]; rfl)))
  obtain ⟨i, j, e, ⟨q1, q2, q3, q4⟩, q⟩ := q1
  subst e
  cases r1 with
  | cons r rr =>
    cases rr with
    | cons r' rr =>
      cases rr
      obtain ⟨t, rfl⟩ := r
      obtain ⟨t', rfl⟩ := r'
      exact call_range_2 (range_it I1 q1 q2 q3 q4 q)
def tFor (wi : TI) (g : TG) (tb : TS) : TS := fun D σ H => wi σ H fun J H1 => ∃ W : Nat -> Nat -> St -> Hp -> Prop, (∃ m, W 0 m σ H1) /\ ∀ i m σ H, W i m σ H ->
  (J.stop i H /\ D.nx σ H) ∨ (J.go i H /\ ∃ N : St -> Hp -> Prop, (∀ σ' H', N σ' H' -> ∃ m', m' < m /\ W (i + 1) m' σ' H') /\ ∀ x H', J.yld i H x H' -> g x σ H' fun σ2 H2 => tb { D with nx := N, ct := N, bk := D.nx } σ2 H2)
def pinsAt (fp : List Addr) (h : Heap) : List (Addr × Obj) := fp.filterMap fun b => (h.get? b).map fun o => (b, o)
theorem mem_pinsAt {fp : List Addr} {h : Heap} {b : Addr} {o : Obj} (hb : b ∈ fp) (e : h.get? b = some o) : (b, o) ∈ pinsAt fp h := List.mem_filterMap.mpr ⟨b, hb, by rw [e]; rfl⟩
theorem of_pinsAt {fp : List Addr} {h : Heap} {p : Addr × Obj} (hp : p ∈ pinsAt fp h) : p.1 ∈ fp /\ h.get? p.1 = some p.2 := by
  obtain ⟨b, hb, e⟩ := List.mem_filterMap.mp hp
  cases q : h.get? b with
  | none => rw [q] at e; cases e
  | some o =>
    rw [q] at e
    have e' : (b, o) = p := Option.some.inj e
    subst e'
    exact ⟨hb, q⟩
theorem Inv.pinned {pins : List (Addr × Obj)} {σ : St} {H : Hp} {s : Shared} {fp : List Addr} (I : Inv X pins σ H s) (hf : ∀ b ∈ fp, FpOk X pins H b) (ho : ∀ b ∈ fp, ∃ o, s.heap.get? b = some o /\ ∀ v, o.data ≠ .cell v) : Inv X (pins ++ pinsAt fp s.heap) σ H s :=
  I.pins_of fun p hp => (List.mem_append.mp hp).elim (fun z => I.pin p (List.mem_append_right _ z)) fun z => by
    obtain ⟨hb, e⟩ := of_pinsAt z
    obtain ⟨f0, f1, f2, _⟩ := hf p.1 hb
    obtain ⟨o, e', d⟩ := ho p.1 hb
    rw [e] at e'; cases e'
    exact ⟨e, f0, f1, f2, d⟩
theorem Inv.unpinned {pins pl : List (Addr × Obj)} {σ : St} {H : Hp} {s : Shared} (I : Inv X (pins ++ pl) σ H s) : Inv X pins σ H s := I.pins_of fun p hp => I.pin p (List.mem_append_right _ (List.mem_append_left _ hp))
theorem ps_for {iter : Expr} {body : List Stmt} {wi : TI} {g : TG} {tb : TS} {pos : Pos} (hp : PassesOwn (model X.prog X.w) X.A X.env X.xe) (hc : X.calm = true) (hi : PI X tg iter wi) (hg : PG X tg g) (hb : PSs X body tb)
    (hs : ∀ x, foldedSetIterable iter X.env x = pure x := by intro _; rfl) : PS X (.For tg iter body [] pos) (tFor wi g tb) := by
  intro pins s σ H D I h
  refine wpAny_For (thn (hi pins s σ H _ I h) fun v s1 h1 => thn h1 fun itv s2 h2 => ?_) hs
  obtain ⟨it, fp, tn, J, H2, e, I2, T, st2, f2, W, ⟨m0, w0⟩, turn⟩ := h2
  subst e
  have stat : ∀ {H' : Hp}, (∀ b ∈ fp, H' b = none) -> ∀ b ∈ fp, FpOk X pins H' b := fun hn b hb => ⟨hn b hb, (f2 b hb).2⟩
  refine codeAny_forLoop_any (fun n s' => ∃ i σ' H', Inv X pins σ' H' s' /\ tn i s'.heap /\ (∀ b ∈ fp, H' b = none) /\ W i n σ' H') ?_ m0 ⟨0, σ, H2, I2, st2, fun b hb => (f2 b hb).1, w0⟩
  rintro n s3 ⟨i, σ3, H3, I3, st3, fr3, w3⟩
  rcases turn i n σ3 H3 w3 with ⟨stop, qn⟩ | ⟨go, N, hN, step⟩
  · refine wpAny_passesOwn hp (thn (T.done X rfl rfl rfl hc i pins s3 σ3 H3 X.xe I3 (stat fr3) st3 stop) fun r s4 ⟨hr, I4⟩ => ?_)
    subst hr
    exact wpAny_execs_nil ⟨σ3, H3, I4, qn⟩
  · refine wpAny_passesOwn hp (thn (T.item X rfl rfl rfl hc i pins s3 σ3 H3 X.xe I3 (stat fr3) st3 go) fun r s4 ⟨u, hr, h4⟩ => ?_)
    subst hr
    refine wpAny_passesOwn hp (thn h4 fun _ s5 ⟨x, H5, I5, r5, y5, st5, fr5⟩ => ?_)
    have I5' := I5.pinned (stat fr5) (T.obj _ _ st5)
    refine wpAny_passesOwn hp (thn (hg _ s5 σ3 H5 x u _ I5' r5 (step x H5 y5)) fun _ s6 ⟨σ6, H6, I6, q6⟩ => ?_)
    refine wpAny_passesOwn hp (thn (hb _ s6 σ6 H6 _ I6 q6) fun f s7 q7 => ?_)
    have again : ∀ {σ7 : St} {H7 : Hp}, Inv X (pins ++ pinsAt fp s5.heap) σ7 H7 s7 -> N σ7 H7 -> ∃ m, m < n /\ ∃ i σ' H', Inv X pins σ' H' s7 /\ tn i s7.heap /\ (∀ b ∈ fp, H' b = none) /\ W i m σ' H' := fun {σ7 H7} I7 n7 => by
      obtain ⟨m', hm, w7⟩ := hN σ7 H7 n7
      refine ⟨m', hm, i + 1, σ7, H7, I7.unpinned, T.keep _ _ _ st5 fun b hb o e => (I7.pin (b, o) (List.mem_append_right _ (List.mem_append_right _ (mem_pinsAt hb e)))).1, fun b hb => ?_, w7⟩
      obtain ⟨o, e, d⟩ := T.obj _ _ st5 b hb
      exact (I7.pin (b, o) (List.mem_append_right _ (List.mem_append_right _ (mem_pinsAt hb e)))).2.1
    cases f with
    | next => obtain ⟨σ7, H7, I7, n7⟩ := q7; exact again I7 n7
    | cont => obtain ⟨σ7, H7, I7, n7⟩ := q7; exact again I7 n7
    | brk => obtain ⟨σ7, H7, I7, q7⟩ := q7; exact ⟨σ7, H7, I7.unpinned, q7⟩
    | ret v => obtain ⟨x7, σ7, H7, I7, r7, q7⟩ := q7; exact ⟨x7, σ7, H7, I7.unpinned, r7, q7⟩
end
theorem for_list {K : PySem.W.Frag} {a : Addr} {xs : List V} {g : TG} {tb : TS} {D : Ends} {σ : St} {H : Hp} (Pv : Nat -> St -> Hp -> Prop) (h0 : Pv 0 σ H) (hl : ∀ i σ H, i <= xs.length -> Pv i σ H -> SqL K H a xs)
    (hs : ∀ i x σ H, xs[i]? = some x -> Pv i σ H -> g x σ H fun σ2 H2 => tb { D with nx := Pv (i + 1), ct := Pv (i + 1), bk := D.nx } σ2 H2) (hd : ∀ σ H, Pv xs.length σ H -> D.nx σ H) :
    ∃ W : Nat -> Nat -> St -> Hp -> Prop, (∃ m, W 0 m σ H) /\ ∀ i m σ H, W i m σ H ->
      ((Itl K a).stop i H /\ D.nx σ H) ∨ ((Itl K a).go i H /\ ∃ N : St -> Hp -> Prop, (∀ σ' H', N σ' H' -> ∃ m', m' < m /\ W (i + 1) m' σ' H') /\ ∀ x H', (Itl K a).yld i H x H' -> g x σ H' fun σ2 H2 => tb { D with nx := N, ct := N, bk := D.nx } σ2 H2) := by
  refine ⟨fun i m σ H => m = xs.length - i /\ i <= xs.length /\ Pv i σ H, ⟨xs.length, by simp, Nat.zero_le _, h0⟩, ?_⟩
  rintro i m σ H ⟨rfl, hi, p⟩
  have q := hl i σ H hi p
  by_cases hlt : i < xs.length
  · refine .inr ⟨⟨xs, xs[i], q, by simp [hlt]⟩, Pv (i + 1), fun σ' H' p' => ⟨xs.length - (i + 1), by omega, rfl, hlt, p'⟩, fun x H' y => ?_⟩
    obtain ⟨e, y⟩ := y
    subst e
    exact hs i x σ _ (y xs q) p
  · have e : i = xs.length := by omega
    subst e
    exact .inl ⟨⟨xs, q, Nat.le_refl _⟩, hd σ H p⟩
theorem for_tup {K : PySem.W.Frag} {a : Addr} {xs : List V} {g : TG} {tb : TS} {D : Ends} {σ : St} {H : Hp} (Pv : Nat -> St -> Hp -> Prop) (h0 : Pv 0 σ H) (hl : ∀ i σ H, i <= xs.length -> Pv i σ H -> SqT K H a xs)
    (hs : ∀ i x σ H, xs[i]? = some x -> Pv i σ H -> g x σ H fun σ2 H2 => tb { D with nx := Pv (i + 1), ct := Pv (i + 1), bk := D.nx } σ2 H2) (hd : ∀ σ H, Pv xs.length σ H -> D.nx σ H) :
    ∃ W : Nat -> Nat -> St -> Hp -> Prop, (∃ m, W 0 m σ H) /\ ∀ i m σ H, W i m σ H ->
      ((Itt K a).stop i H /\ D.nx σ H) ∨ ((Itt K a).go i H /\ ∃ N : St -> Hp -> Prop, (∀ σ' H', N σ' H' -> ∃ m', m' < m /\ W (i + 1) m' σ' H') /\ ∀ x H', (Itt K a).yld i H x H' -> g x σ H' fun σ2 H2 => tb { D with nx := N, ct := N, bk := D.nx } σ2 H2) := by
  refine ⟨fun i m σ H => m = xs.length - i /\ i <= xs.length /\ Pv i σ H, ⟨xs.length, by simp, Nat.zero_le _, h0⟩, ?_⟩
  rintro i m σ H ⟨rfl, hi, p⟩
  have q := hl i σ H hi p
  by_cases hlt : i < xs.length
  · refine .inr ⟨⟨xs, xs[i], q, by simp [hlt]⟩, Pv (i + 1), fun σ' H' p' => ⟨xs.length - (i + 1), by omega, rfl, hlt, p'⟩, fun x H' y => ?_⟩
    obtain ⟨e, y⟩ := y
    subst e
    exact hs i x σ _ (y xs q) p
  · have e : i = xs.length := by omega
    subst e
    exact .inl ⟨⟨xs, q, Nat.le_refl _⟩, hd σ H p⟩
theorem for_range {lo : Int} {n : Nat} {g : TG} {tb : TS} {D : Ends} {σ : St} {H : Hp} (Pv : Nat -> St -> Hp -> Prop) (h0 : Pv 0 σ H)
    (hs : ∀ i σ H, i < n -> Pv i σ H -> g (.int (lo + i)) σ H fun σ2 H2 => tb { D with nx := Pv (i + 1), ct := Pv (i + 1), bk := D.nx } σ2 H2) (hd : ∀ σ H, Pv n σ H -> D.nx σ H) :
    ∃ W : Nat -> Nat -> St -> Hp -> Prop, (∃ m, W 0 m σ H) /\ ∀ i m σ H, W i m σ H ->
      ((Itr lo n).stop i H /\ D.nx σ H) ∨ ((Itr lo n).go i H /\ ∃ N : St -> Hp -> Prop, (∀ σ' H', N σ' H' -> ∃ m', m' < m /\ W (i + 1) m' σ' H') /\ ∀ x H', (Itr lo n).yld i H x H' -> g x σ H' fun σ2 H2 => tb { D with nx := N, ct := N, bk := D.nx } σ2 H2) := by
  refine ⟨fun i m σ H => m = n - i /\ i <= n /\ Pv i σ H, ⟨n, by simp, Nat.zero_le _, h0⟩, ?_⟩
  rintro i m σ H ⟨rfl, hi, p⟩
  by_cases hlt : i < n
  · refine .inr ⟨hlt, Pv (i + 1), fun σ' H' p' => ⟨n - (i + 1), by omega, rfl, hlt, p'⟩, fun x H' y => ?_⟩
    obtain ⟨e, y⟩ := y
    subst e y
    exact hs i σ _ hlt p
  · have e : i = n := by omega
    subst e
    exact .inl ⟨Nat.le_refl _, hd σ H p⟩
end L2
namespace L2
open PySem PySem.Spec PyProof.Rows
abbrev R2 := V -> V -> Hp -> VK -> Prop
def OpR (X : Cx) (f : Value -> Value -> Sem Value) (r : R2) : Prop :=
  ∀ (pins : List (Addr × Obj)) (s : Shared) (σ : St) (H : Hp) (x y : V) (v u : Value) (Q : VK), Inv X pins σ H s -> RelV x v -> RelV y u -> r x y H Q ->
    wpAny (model X.prog X.w) X.A (f v u) (EP X pins σ Q) X.xe s
def UnR (X : Cx) (f : Value -> Sem Value) (r : V -> Hp -> VK -> Prop) : Prop :=
  ∀ (pins : List (Addr × Obj)) (s : Shared) (σ : St) (H : Hp) (x : V) (v : Value) (Q : VK), Inv X pins σ H s -> RelV x v -> r x H Q ->
    wpAny (model X.prog X.w) X.A (f v) (EP X pins σ Q) X.xe s
def CallR (X : Cx) (f : Value) (r : List V -> Hp -> VK -> Prop) : Prop :=
  ∀ (pins : List (Addr × Obj)) (s : Shared) (σ : St) (H : Hp) (xs : List V) (us : List Value) (Q : VK), Inv X pins σ H s -> Vals xs us -> r xs H Q ->
    wpAny (model X.prog X.w) X.A (call f us) (EP X pins σ Q) X.xe s
def tOp (r : R2) (ta tb : TE) : TE := fun σ H Q => ta σ H fun x H1 => tb σ H1 fun y H2 => r x y H2 Q
def tUn (r : V -> Hp -> VK -> Prop) (ta : TE) : TE := fun σ H Q => ta σ H fun x H1 => r x H1 Q
def rI (C : Int -> Int -> Prop) (g : Int -> Int -> V) : R2 := fun x y H Q => ∃ i j, x = .int i /\ y = .int j /\ C i j /\ Q (g i j) H
def rI0 (g : Int -> Int -> V) : R2 := fun x y H Q => ∃ i j, x = .int i /\ y = .int j /\ Q (g i j) H
def rU (g : Int -> V) : V -> Hp -> VK -> Prop := fun x H Q => ∃ i, x = .int i /\ Q (g i) H
section
variable {X : Cx} {a b c : Expr} {ta tb tc : TE} {pos : Pos}
theorem binT (ha : PE X a ta) (hb : PE X b tb) {pins : List (Addr × Obj)} {s : Shared} {σ : St} {H : Hp} {R : V -> V -> Hp -> Prop} (I : Inv X pins σ H s)
    (h : ta σ H fun x H1 => tb σ H1 fun y H2 => R x y H2) {Q : Value -> Shared -> Prop} {f : Value -> Value -> Sem Value}
    (hf : ∀ v u s2 x y H2, Inv X pins σ H2 s2 -> RelV x v -> RelV y u -> R x y H2 -> wpAny (model X.prog X.w) X.A (f v u) Q X.xe s2) :
    wpAny (model X.prog X.w) X.A (eval a X.env) (fun v s₁ => wpAny (model X.prog X.w) X.A (eval b X.env) (fun u s₂ => wpAny (model X.prog X.w) X.A (f v u) Q X.xe s₂) X.xe s₁) X.xe s := by
  refine thn (ha pins s σ H _ I h) fun v s1 ⟨x, H1, I1, r1, q1⟩ => ?_
  refine thn (hb pins s1 σ H1 _ I1 q1) fun u s2 ⟨y, H2, I2, r2, q2⟩ => ?_
  exact hf v u s2 x y H2 I2 r1 r2 q2
theorem pe_op {op : Operator} {r : R2} (ho : OpR X (binaryOp op) r) (ha : PE X a ta) (hb : PE X b tb) : PE X (.BinOp a op b pos) (tOp r ta tb) := by
  intro pins s σ H Q I h
  exact wpAny_BinOp (binT ha hb I h fun v u s2 x y H2 I2 rx ry q => ho pins s2 σ H2 x y v u Q I2 rx ry q)
theorem pe_un {op : UnaryOp} {r : V -> Hp -> VK -> Prop} (ho : UnR X (unaryOp op) r) (ha : PE X a ta) : PE X (.UnaryOp op a pos) (tUn r ta) := by
  intro pins s σ H Q I h
  exact UnaryOp_ (thn (ha pins s σ H _ I h) fun v s1 ⟨x, H1, I1, r1, q1⟩ => ho pins s1 σ H1 x v Q I1 r1 q1)
theorem opI {f : Value -> Value -> Sem Value} {C : Int -> Int -> Prop} {g : Int -> Int -> Int}
    (rule : ∀ (i j : Int) (t u : Tok) (s : Shared) (Q : Value -> Shared -> Prop) (E : Value -> Shared -> Prop), C i j -> Q (.int (g i j) s.toks) { s with toks := s.toks + 1 } -> wpAny (model X.prog X.w) X.A (f (.int i t) (.int j u)) Q E s) :
    OpR X f (rI C fun i j => .int (g i j)) := by
  intro pins s σ H x y v u Q I rx ry h
  obtain ⟨i, j, rfl, rfl, hc, q⟩ := h
  obtain ⟨t, rfl⟩ := rx
  obtain ⟨t', rfl⟩ := ry
  exact rule i j t t' s _ _ hc ⟨.int (g i j), H, I.tok _, ⟨_, rfl⟩, q⟩
theorem opI0 {f : Value -> Value -> Sem Value} {g : Int -> Int -> Int}
    (rule : ∀ (i j : Int) (t u : Tok) (s : Shared) (Q : Value -> Shared -> Prop) (E : Value -> Shared -> Prop), Q (.int (g i j) s.toks) { s with toks := s.toks + 1 } -> wpAny (model X.prog X.w) X.A (f (.int i t) (.int j u)) Q E s) :
    OpR X f (rI0 fun i j => .int (g i j)) := by
  intro pins s σ H x y v u Q I rx ry h
  obtain ⟨i, j, rfl, rfl, q⟩ := h
  obtain ⟨t, rfl⟩ := rx
  obtain ⟨t', rfl⟩ := ry
  exact rule i j t t' s _ _ ⟨.int (g i j), H, I.tok _, ⟨_, rfl⟩, q⟩
theorem opB0 {f : Value -> Value -> Sem Value} {g : Int -> Int -> Bool}
    (rule : ∀ (i j : Int) (t u : Tok) (s : Shared) (Q : Value -> Shared -> Prop) (E : Value -> Shared -> Prop), Q (.bool (g i j)) s -> wpAny (model X.prog X.w) X.A (f (.int i t) (.int j u)) Q E s) :
    OpR X f (rI0 fun i j => .bl (g i j)) := by
  intro pins s σ H x y v u Q I rx ry h
  obtain ⟨i, j, rfl, rfl, q⟩ := h
  obtain ⟨t, rfl⟩ := rx
  obtain ⟨t', rfl⟩ := ry
  exact rule i j t t' s _ _ ⟨.bl (g i j), H, I, rfl, q⟩
def CDiv (i j : Int) : Prop := 0 < j /\ j < 1073741824
def CPow (i j : Int) : Prop := 0 <= j /\ j <= 1000000 /\ i.natAbs < 2 ^ 64
def CMul (i j : Int) : Prop := (-(2 ^ 64) < i /\ i < 2 ^ 64) ∨ (-(2 ^ 64) < j /\ j < 2 ^ 64)
theorem CMul.ok {i j : Int} (h : CMul i j) : IntMulOk i j := by
  rcases h with ⟨h1, h2⟩ | ⟨h1, h2⟩
  · exact .of_left (intBits_le_64 h1 h2)
  · exact .of_right (intBits_le_64 h1 h2)
theorem op_add : OpR X (binaryOp .Add) (rI0 fun i j => .int (i + j)) := opI0 fun _ _ _ _ _ _ _ q => add_int q
theorem op_sub : OpR X (binaryOp .Sub) (rI0 fun i j => .int (i - j)) := opI0 fun _ _ _ _ _ _ _ q => sub_int q
theorem op_mul : OpR X (binaryOp .Mult) (rI CMul fun i j => .int (i * j)) := opI fun _ _ _ _ _ _ _ hc q => mul_int q hc.ok
theorem op_fdiv : OpR X (binaryOp .FloorDiv) (rI CDiv fun i j => .int (i / j)) := opI fun i j _ _ _ _ _ hc q => by
  have h1 : (0 : Int) < j := hc.1
  have h2 : j < 1073741824 := hc.2
  exact floordiv_int (by omega) (by rw [Int.fdiv_eq_ediv_of_nonneg i (by omega)]; exact q) (.inl (PyProof.noPylong_small (by omega)))
theorem op_mod : OpR X (binaryOp .Mod) (rI (fun _ j => 0 < j) fun i j => .int (i % j)) := opI fun i j _ _ _ _ _ hc q => by
  have h1 : (0 : Int) < j := hc
  exact mod_int' (by omega) (by rw [Int.fmod_eq_emod_of_nonneg i (by omega)]; exact q)
theorem op_pow : OpR X (binaryOp .Pow) (rI CPow fun i j => .int (i ^ j.toNat)) := opI fun _ _ _ _ _ _ _ hc q => pow_int_small hc.1 hc.2.1 hc.2.2 q
theorem unI {f : Value -> Sem Value} {g : Int -> Int}
    (rule : ∀ (i : Int) (t : Tok) (s : Shared) (Q : Value -> Shared -> Prop) (E : Value -> Shared -> Prop), Q (.int (g i) s.toks) { s with toks := s.toks + 1 } -> wpAny (model X.prog X.w) X.A (f (.int i t)) Q E s) :
    UnR X f (rU fun i => .int (g i)) := by
  intro pins s σ H x v Q I rx h
  obtain ⟨i, rfl, q⟩ := h
  obtain ⟨t, rfl⟩ := rx
  exact rule i t s _ _ ⟨.int (g i), H, I.tok _, ⟨_, rfl⟩, q⟩
theorem un_neg : UnR X (unaryOp .USub) (rU fun i => .int (-i)) := unI fun _ _ _ _ _ q => neg_int q
end
def scal : V -> V -> Bool
  | .non, .non => true | .non, .int _ => true | .int _, .non => true | .non, .bl _ => true | .bl _, .non => true | .non, .str _ => true | .str _, .non => true
  | .int _, .int _ => true | .bl _, .bl _ => true | .str _, .str _ => true | .byt _, .byt _ => true
  | .int _, .str _ => true | .str _, .int _ => true | .bl _, .str _ => true | .str _, .bl _ => true
  | _, _ => false
def rEq : R2 := fun x y H Q => scal x y = true /\ Q (.bl (decide (x = y))) H
def rNe : R2 := fun x y H Q => scal x y = true /\ Q (.bl (!decide (x = y))) H
theorem dec_int {i j : Int} : decide (V.int i = V.int j) = (i == j) := by
  rw [Bool.eq_iff_iff]
  simp
theorem dec_bl {i j : Bool} : decide (V.bl i = V.bl j) = (i == j) := by
  rw [Bool.eq_iff_iff]
  simp
theorem dec_str {i j : Str} : decide (V.str i = V.str j) = (i == j) := by
  rw [Bool.eq_iff_iff]
  simp
theorem dec_byt {i j : Array UInt8} : decide (V.byt i = V.byt j) = (i.toList == j.toList) := by
  rw [Bool.eq_iff_iff]
  cases i
  cases j
  simp
section
variable {X : Cx} {a b c : Expr} {ta tb tc : TE} {pos : Pos}
theorem fin_bl {pins : List (Addr × Obj)} {σ : St} {H : Hp} {s : Shared} {Q : VK} {k k' : Bool} (I : Inv X pins σ H s) (q : Q (.bl k) H) (e : k = k') : EP X pins σ Q (.bool k') s := by
  subst e
  exact ⟨.bl k, H, I, rfl, q⟩
theorem op_eq : OpR X (compareOp .Eq) rEq := by
  intro pins s σ H x y v u Q I rx ry h
  obtain ⟨hs, q⟩ := h
  cases x with
  | non =>
    cases rx
    cases y with
    | non => cases ry; exact PySem.EqNone.eq_none_none (fin_bl I q (by simp))
    | bl j => cases ry; exact PySem.EqNone.eq_none_bool (fin_bl I q (by simp))
    | int j => obtain ⟨t', rfl⟩ := ry; exact PySem.EqNone.eq_none_int (fin_bl I q (by simp))
    | str j => obtain ⟨t', rfl⟩ := ry; exact PySem.EqNone.eq_none_str (fin_bl I q (by simp))
    | _ => exact absurd (show false = true from hs) Bool.false_ne_true
  | bl i =>
    cases rx
    cases y with
    | non => cases ry; exact PySem.EqNone.eq_bool_none (fin_bl I q (by simp))
    | bl j => cases ry; exact eq_bool (fin_bl I q dec_bl)
    | str j => obtain ⟨t', rfl⟩ := ry; exact PySem.EqMixed.eq_bool_str (fin_bl I q (by simp))
    | _ => exact absurd (show false = true from hs) Bool.false_ne_true
  | int i =>
    obtain ⟨t, rfl⟩ := rx
    cases y with
    | non => cases ry; exact PySem.EqNone.eq_int_none (fin_bl I q (by simp))
    | int j => obtain ⟨t', rfl⟩ := ry; exact eq_int (fin_bl I q dec_int)
    | str j => obtain ⟨t', rfl⟩ := ry; exact PySem.EqMixed.eq_int_str (fin_bl I q (by simp))
    | _ => exact absurd (show false = true from hs) Bool.false_ne_true
  | str i =>
    obtain ⟨t, rfl⟩ := rx
    cases y with
    | non => cases ry; exact PySem.EqNone.eq_str_none (fin_bl I q (by simp))
    | bl j => cases ry; exact PySem.EqMixed.eq_str_bool (fin_bl I q (by simp))
    | int j => obtain ⟨t', rfl⟩ := ry; exact PySem.EqMixed.eq_str_int (fin_bl I q (by simp))
    | str j => obtain ⟨t', rfl⟩ := ry; exact eq_str (fin_bl I q dec_str)
    | _ => exact absurd (show false = true from hs) Bool.false_ne_true
  | byt i =>
    obtain ⟨t, rfl⟩ := rx
    cases y with
    | byt j => obtain ⟨t', rfl⟩ := ry; exact PySem.W.eq_bytes (fin_bl I q dec_byt)
    | _ => exact absurd (show false = true from hs) Bool.false_ne_true
  | _ => cases y <;> exact absurd (show false = true from hs) Bool.false_ne_true
theorem op_ne : OpR X (compareOp .NotEq) rNe := by
  intro pins s σ H x y v u Q I rx ry h
  obtain ⟨hs, q⟩ := h
  cases x with
  | non =>
    cases rx
    cases y with
    | non => cases ry; exact PySem.EqNone.ne_none_none (fin_bl I q (by simp))
    | bl j => cases ry; exact PySem.EqNone.ne_none_bool (fin_bl I q (by simp))
    | int j => obtain ⟨t', rfl⟩ := ry; exact PySem.EqNone.ne_none_int (fin_bl I q (by simp))
    | str j => obtain ⟨t', rfl⟩ := ry; exact PySem.EqNone.ne_none_str (fin_bl I q (by simp))
    | _ => exact absurd (show false = true from hs) Bool.false_ne_true
  | bl i =>
    cases rx
    cases y with
    | non => cases ry; exact PySem.EqNone.ne_bool_none (fin_bl I q (by simp))
    | bl j => cases ry; exact ne_bool (fin_bl I q (congrArg not dec_bl))
    | str j => obtain ⟨t', rfl⟩ := ry; exact PySem.EqMixed.ne_bool_str (fin_bl I q (by simp))
    | _ => exact absurd (show false = true from hs) Bool.false_ne_true
  | int i =>
    obtain ⟨t, rfl⟩ := rx
    cases y with
    | non => cases ry; exact PySem.EqNone.ne_int_none (fin_bl I q (by simp))
    | int j => obtain ⟨t', rfl⟩ := ry; exact ne_int (fin_bl I q (congrArg not dec_int))
    | str j => obtain ⟨t', rfl⟩ := ry; exact PySem.EqMixed.ne_int_str (fin_bl I q (by simp))
    | _ => exact absurd (show false = true from hs) Bool.false_ne_true
  | str i =>
    obtain ⟨t, rfl⟩ := rx
    cases y with
    | non => cases ry; exact PySem.EqNone.ne_str_none (fin_bl I q (by simp))
    | bl j => cases ry; exact PySem.EqMixed.ne_str_bool (fin_bl I q (by simp))
    | int j => obtain ⟨t', rfl⟩ := ry; exact PySem.EqMixed.ne_str_int (fin_bl I q (by simp))
    | str j => obtain ⟨t', rfl⟩ := ry; exact ne_str (fin_bl I q (congrArg not dec_str))
    | _ => exact absurd (show false = true from hs) Bool.false_ne_true
  | byt i =>
    obtain ⟨t, rfl⟩ := rx
    cases y with
    | byt j => obtain ⟨t', rfl⟩ := ry; exact PySem.W.ne_bytes (fin_bl I q (congrArg not dec_byt))
    | _ => exact absurd (show false = true from hs) Bool.false_ne_true
  | _ => cases y <;> exact absurd (show false = true from hs) Bool.false_ne_true
theorem op_lt : OpR X (compareOp .Lt) (rI0 fun i j => .bl (decide (i < j))) := opB0 fun _ _ _ _ _ _ _ q => lt_int q
theorem op_le : OpR X (compareOp .LtE) (rI0 fun i j => .bl (decide (i <= j))) := opB0 fun _ _ _ _ _ _ _ q => le_int q
theorem op_gt : OpR X (compareOp .Gt) (rI0 fun i j => .bl (decide (j < i))) := opB0 fun _ _ _ _ _ _ _ q => gt_int q
theorem op_ge : OpR X (compareOp .GtE) (rI0 fun i j => .bl (decide (j <= i))) := opB0 fun _ _ _ _ _ _ _ q => ge_int q
theorem op_isN : OpR X (compareOp .Is) (fun x y H Q => y = .non /\ Q (.bl (decide (x = .non))) H) := by
  intro pins s σ H x y v u Q I rx ry h
  obtain ⟨rfl, q⟩ := h
  cases ry
  refine is_none_gen (fin_bl I q ?_)
  cases x <;> first
    | (cases rx; rfl)
    | (obtain ⟨t, rfl⟩ := rx; rfl)
theorem op_notN : OpR X (compareOp .IsNot) (fun x y H Q => y = .non /\ Q (.bl (!decide (x = .non))) H) := by
  intro pins s σ H x y v u Q I rx ry h
  obtain ⟨rfl, q⟩ := h
  cases ry
  refine isnot_none_gen (fin_bl I q ?_)
  cases x <;> first
    | (cases rx; rfl)
    | (obtain ⟨t, rfl⟩ := rx; rfl)
theorem nomark (b : Expr) {op : CmpOp} (h : op ≠ .In := by decide) (h2 : op ≠ .NotIn := by decide) : behindInMarks op b = false := by
  have e1 : (op == CmpOp.In) = false := by cases op <;> first | rfl | exact absurd rfl h
  have e2 : (op == CmpOp.NotIn) = false := by cases op <;> first | rfl | exact absurd rfl h2
  cases b <;> simp [behindInMarks, e1, e2]
theorem pe_cmpR {op : CmpOp} {r : R2} (ho : OpR X (compareOp op) r) (ha : PE X a ta) (hb : PE X b tb) (hm : behindInMarks op b = false) : PE X (.Compare a [op] [b] pos) (tOp r ta tb) := by
  intro pins s σ H Q I h
  exact wpAny_Compare1 (binT ha hb I h fun v u s2 x y H2 I2 rx ry q => ho pins s2 σ H2 x y v u Q I2 rx ry q) hm
def tTest (t : TE) : TT := fun σ H Q => t σ H fun x H' => ∃ k, x = .bl k /\ Q k H'
theorem pt_cmpR {op : CmpOp} {r : R2} (ho : OpR X (compareOp op) r) (ha : PE X a ta) (hb : PE X b tb) (hm : behindInMarks op b = false) : PT X (.Compare a [op] [b] pos) (tTest (tOp r ta tb)) := by
  intro pins s σ H Q I h
  refine wpAny_isTrue_Compare1 (thn (ha pins s σ H _ I h) fun v s1 ⟨x, H1, I1, r1, q1⟩ => thn (hb pins s1 σ H1 _ I1 q1) fun u s2 ⟨y, H2, I2, r2, q2⟩ =>
    thn (ho pins s2 σ H2 x y v u _ I2 r1 r2 q2) fun c s3 ⟨z, H3, I3, r3, k, e, q3⟩ => ?_) hm
  subst e
  cases r3
  exact wpAny_truthy_bool ⟨H3, I3, q3⟩
theorem line63 : (sizeLine : Nat) < 2 ^ 63 := by rw [sizeLine_eq]; decide
theorem vals1 {x : V} {us : List Value} (r : Vals [x] us) : ∃ u, us = [u] /\ RelV x u := by
  cases r with
  | cons r1 r2 => cases r2; exact ⟨_, rfl, r1⟩
theorem vals2 {x y : V} {us : List Value} (r : Vals [x, y] us) : ∃ u w', us = [u, w'] /\ RelV x u /\ RelV y w' := by
  cases r with
  | cons r1 r2 =>
    cases r2 with
    | cons r3 r4 => cases r4; exact ⟨_, _, rfl, r1, r3⟩
theorem call_abs : CallR X (.builtin "abs") (fun xs H Q => ∃ i, xs = [.int i] /\ Q (.int (if i < 0 then -i else i)) H) := by
  intro pins s σ H xs us Q I r h
  obtain ⟨i, rfl, q⟩ := h
  obtain ⟨u, rfl, t, rfl⟩ := vals1 r
  exact call_abs_int fun u tk => ⟨.int (if i < 0 then -i else i), H, I.tok _, ⟨_, rfl⟩, q⟩
theorem call_max2 (hc : X.calm = true) : CallR X (.builtin "max") (fun xs H Q => ∃ i j, xs = [.int i, .int j] /\ Q (.int (if j > i then j else i)) H) := by
  intro pins s σ H xs us Q I r h
  obtain ⟨i, j, rfl, q⟩ := h
  obtain ⟨u, w', rfl, ⟨t, rfl⟩, ⟨t', rfl⟩⟩ := vals2 r
  refine max_two_ints (I.ok.hd hc) fun h' tk k => ⟨_, H, I.kept k, ?_, q⟩
  by_cases hj : j > i
  · rw [if_pos hj, if_pos hj]; exact ⟨_, rfl⟩
  · rw [if_neg hj, if_neg hj]; exact ⟨_, rfl⟩
theorem call_min2 (hc : X.calm = true) : CallR X (.builtin "min") (fun xs H Q => ∃ i j, xs = [.int i, .int j] /\ Q (.int (if j < i then j else i)) H) := by
  intro pins s σ H xs us Q I r h
  obtain ⟨i, j, rfl, q⟩ := h
  obtain ⟨u, w', rfl, ⟨t, rfl⟩, ⟨t', rfl⟩⟩ := vals2 r
  refine min_two_ints (I.ok.hd hc) fun h' tk k => ⟨_, H, I.kept k, ?_, q⟩
  by_cases hj : j < i
  · rw [if_pos hj, if_pos hj]; exact ⟨_, rfl⟩
  · rw [if_neg hj, if_neg hj]; exact ⟨_, rfl⟩
theorem call_int1 : CallR X (.type "int") (fun xs H Q => (∃ i, xs = [.int i] /\ Q (.int i) H) ∨ ∃ k, xs = [.bl k] /\ Q (.int (if k then 1 else 0)) H) := by
  intro pins s σ H xs us Q I r h
  rcases h with ⟨i, rfl, q⟩ | ⟨k, rfl, q⟩
  · obtain ⟨u, rfl, t, rfl⟩ := vals1 r
    exact call_int_int ⟨.int i, H, I, ⟨_, rfl⟩, q⟩
  · obtain ⟨u, rfl, r1⟩ := vals1 r
    cases r1
    exact call_int_bool ⟨.int (if k then 1 else 0), H, I.tok _, ⟨_, rfl⟩, q⟩
end
end L2
namespace L2
open PySem PySem.Spec PyProof.Rows
structure ObjM (h : Heap) (x dx C : Addr) (mA : Str -> Option Value) : Prop where
  obj : h.get? x = some (PySem.W.instObj C dx)
  ns : h.Ns1 dx mA
  ne : dx ≠ x
theorem lookIn_ns {h : Heap} {dx : Addr} {mA : Str -> Option Value} (n : h.Ns1 dx mA) : ∃ od, h.get? dx = some od /\ ∀ name, PySem.W.lookIn name od = some (mA name) := by
  obtain ⟨o, es, ep, ho, hd, hk, _, hm⟩ := n
  refine ⟨o, ho, fun name => ?_⟩
  have e := hm name
  unfold nsFind findBy at e
  rw [← Array.find?_toList] at e
  unfold PySem.W.lookIn
  rw [hd]
  dsimp only
  split
  · rename_i y q
    rw [q] at e
    exact congrArg some e
  · rename_i q
    rw [q] at e
    have a : es.toList.any (·.refKey) = false := by
      rw [List.any_eq_false]
      intro y hy
      obtain ⟨z, t, hkey⟩ := hk y (Array.mem_toList_iff.mp hy)
      simp [DictEntry.refKey, hkey]
    have a' : ¬ es.toList.any (·.refKey) = true := by rw [a]; exact Bool.false_ne_true
    rw [if_neg a']
    exact congrArg some e
theorem ObjM.look {h : Heap} {x dx C : Addr} {mA : Str -> Option Value} (I : ObjM h x dx C mA) : ∃ od, PySem.W.InstAt h x (PySem.W.instObj C dx) C (some od) /\ ∀ name, PySem.W.lookIn name od = some (mA name) :=
  let ⟨od, ho, hl⟩ := lookIn_ns I.ns
  ⟨od, ⟨I.obj, rfl, rfl, ho⟩, hl⟩
theorem RelO.some_of {v : V} {o : Option Value} (r : RelO (some v) o) : ∃ u, o = some u /\ RelV v u := by
  cases o with
  | none => exact (show False from r).elim
  | some u => exact ⟨u, rfl, r⟩
section
variable {P : Program} {w : World} {H H' : Hp} {h h' : Heap} {a C dx : Addr} {fs fs' : List (Str × V)}
theorem ins_get (hok : HOk P w H h) (e : H a = some (.ins C dx fs)) : ∃ mA, ObjM h a dx C mA /\ (∀ f, RelO (fs.lookup f) (mA f)) /\ PySem.Within mA (fs.map (·.1)) /\ fs.length <= 1000 /\ H dx = some (.own a) := by
  obtain ⟨d, z, ne, ob, mA, n, r, q⟩ := (show ObjOk P w H h a (.ins C dx fs) from hok a _ e)
  exact ⟨mA, ⟨ob, n, ne⟩, r, q, z, d⟩
end
structure Cls (K : PySem.W.Frag) (C : Addr) : Prop where
  pg : PySem.W.plainGet K C Str.empty = true
  hd : PySem.W.hasDictIn K C = true
  po : PySem.W.plainOver K C = true
  sa : PySem.W.findIn K (.ref C) "__setattr__" = some (some (.builtin "object.__setattr__"))
theorem Cls.get {K : PySem.W.Frag} {C : Addr} (c : Cls K C) (f : Str) : PySem.W.plainGet K C f = true := c.pg
section
variable {X : Cx} {pins : List (Addr × Obj)} {σ : St} {H : Hp} {s : Shared} {A : Around} {E : Value -> Shared -> Prop} {Q : Value -> Shared -> Prop} {c : Value} {b : Bool}
inductive TyOf (K : PySem.W.Frag) (H : Hp) : V -> Value -> Prop where
  | non : TyOf K H .non (.type "NoneType")
  | bl (x : Bool) : TyOf K H (.bl x) (.type "bool")
  | int (i : Int) : TyOf K H (.int i) (.type "int")
  | str (x : Str) : TyOf K H (.str x) (.type "str")
  | flt (x : UInt64) : TyOf K H (.flt x) (.type "float")
  | lst {a : Addr} {xs : List V} (e : H a = some (.lst xs)) : TyOf K H (.ref a) (.type "list")
  | frz {a : Addr} {o : Obj} {xs : List V} (e : H a = some (.frz o (.lst xs))) : TyOf K H (.ref a) (.type "list")
  | tup {a : Addr} {xs : List V} (e : H a = some (.tup xs)) : TyOf K H (.ref a) (.type "tuple")
  | dK {a : Addr} {kvs : List (Key × V)} (e : H a = some (.dK kvs)) : TyOf K H (.ref a) (.type "dict")
  | dT {a : Addr} {kvs : List (List Key × V)} (e : H a = some (.dT kvs)) : TyOf K H (.ref a) (.type "dict")
  | ins {a C dx : Addr} {fs : List (Str × V)} (e : H a = some (.ins C dx fs)) (cl : Cls K C) (ha : PySem.W.findIn K (.ref C) "__class__" = some (some (.builtin "object.__class__")))
      (hn : PySem.W.specialIn K (.builtin "object.__class__") "__get__" = some (some (.builtin "getset_descriptor.__get__"))) (htk : PySem.W.takesIn K (.builtin "object.__class__") = some true)
      (hm : PySem.W.mroIn K C (.type "object") = some true) : TyOf K H (.ref a) (.ref C)
theorem isinst_ok {x : V} {u t : Value} (I : Inv X pins σ H s) (rx : RelV x u) (ty : TyOf X.K H x t) (e : PySem.W.kitOne X.K t c = some b) (h : ∀ tk, Q (.bool b) { s with toks := tk }) :
    wpAny (model X.prog X.w) A (call (.builtin "isinstance") [u, c]) Q E s := by
  cases ty with
  | non => cases (show u = Value.none from rx); exact PySem.W.kia_one PySem.W.kitx_none I.kIn True.intro e (fun z => nomatch z) h
  | bl y => cases (show u = Value.bool y from rx); exact PySem.W.kia_one PySem.W.kitx_bool I.kIn True.intro e (fun z => nomatch z) h
  | int i => obtain ⟨t, q⟩ := (show ∃ t, u = Value.int i t from rx); cases q; exact PySem.W.kia_one PySem.W.kitx_int I.kIn True.intro e (fun z => nomatch z) h
  | str y => obtain ⟨t, q⟩ := (show ∃ t, u = Value.str y t from rx); cases q; exact PySem.W.kia_one PySem.W.kitx_str I.kIn True.intro e (fun z => nomatch z) h
  | flt y => obtain ⟨t, q⟩ := (show ∃ t, u = Value.float y t from rx); cases q; exact PySem.W.kia_one PySem.W.kitx_float I.kIn True.intro e (fun z => nomatch z) h
  | @lst a xs ea =>
    cases (show u = Value.ref a from rx)
    obtain ⟨_, _, n, _, h1⟩ := (show ObjOk X.prog X.w H s.heap a (.lst xs) from I.hok a _ ea)
    exact PySem.W.kia_one PySem.W.kitx_list I.kIn ⟨_, h1, rfl⟩ e (fun z => nomatch z) h
  | @frz a ob xs ea =>
    cases (show u = Value.ref a from rx)
    obtain ⟨_, _, _, n, _, h1⟩ := (show ObjOk X.prog X.w H s.heap a (.frz ob (.lst xs)) from I.hok a _ ea)
    exact PySem.W.kia_one PySem.W.kitx_list I.kIn ⟨_, h1, rfl⟩ e (fun z => nomatch z) h
  | @tup a xs ea =>
    cases (show u = Value.ref a from rx)
    obtain ⟨_, _, _, p0⟩ := (show ObjOk X.prog X.w H s.heap a (.tup xs) from I.hok a _ ea)
    have p := p0.up
    obtain ⟨o, h1, h2, _⟩ := p
    exact PySem.W.kia_one PySem.W.kitx_tuple I.kIn ⟨o, h1, h2⟩ e (fun z => nomatch z) h
  | @dK a kvs ea =>
    cases (show u = Value.ref a from rx)
    obtain ⟨_, _, vs, _, p⟩ := (show ObjOk X.prog X.w H s.heap a (.dK kvs) from I.hok a _ ea)
    obtain ⟨o, es, ep, h1, h2, _⟩ := p
    exact PySem.W.kia_one PySem.W.kitx_dict I.kIn ⟨o, h1, h2.1⟩ e (fun z => nomatch z) h
  | @dT a kvs ea =>
    cases (show u = Value.ref a from rx)
    obtain ⟨_, _, xs, _, o, es, ep, h1, h2, _⟩ := (show ObjOk X.prog X.w H s.heap a (.dT kvs) from I.hok a _ ea)
    exact PySem.W.kia_one PySem.W.kitx_dict I.kIn ⟨o, h1, h2.1⟩ e (fun z => nomatch z) h
  | @ins a C dx fs ea cl ha hn htk hm =>
    cases (show u = Value.ref a from rx)
    obtain ⟨mA, O, _⟩ := ins_get I.hok ea
    obtain ⟨od, J, _⟩ := O.look
    exact PySem.W.kia_one (PySem.W.kitx_own (cl.get _) cl.hd ha hn htk hm) I.kIn J e (fun z => nomatch z) h
end
end L2
namespace L2
open PySem PySem.Spec PyProof.Rows
structure Room (k : Nat) (A : Around) : Prop where
  hd : A.handled = none
  dp : A.depth + 3 * k + 5 < recursionLimit
  un : A.units + 16 * k + 200 < cLine
theorem Room.mono {j k : Nat} {A : Around} (r : Room k A) (h : j <= k) : Room j A := ⟨r.hd, by have := r.dp; omega, by have := r.un; omega⟩
theorem Room.deeper {k : Nat} {A : Around} (r : Room (k + 1) A) (env : Env) : Room k (A.deeper env) :=
  ⟨r.hd, by have := r.dp; show A.depth + 1 + 3 * k + 5 < _; omega, by have := r.un; show A.units + 3 + 16 * k + 200 < _; omega⟩
theorem Room.depth {k : Nat} {A : Around} (r : Room k A) : A.depth < recursionLimit := by have := r.dp; omega
theorem Room.units {k : Nat} {A : Around} (r : Room k A) : A.units + 64 < cLine := by have := r.un; omega
def tNil : TA := fun _ H Q => Q [] H
def tCons (ta : TE) (tr : TA) : TA := fun σ H Q => ta σ H fun x H1 => tr σ H1 fun xs H2 => Q (x :: xs) H2
section
variable {X : Cx} {e : Expr} {es : List Expr} {te : TE} {t : TA} {pos : Pos}
theorem pa_nil : PA X [] tNil := fun _ _ _ _ H Q I h => Calls.spliced_nil ⟨[], H, I, .nil, h⟩
theorem pa_cons (ha : PE X e te) (hr : PA X es t) (hs : starEach (e :: es) X.env = (false, eval e X.env) :: starEach es X.env := by rfl) : PA X (e :: es) (tCons te t) := by
  intro pos pins s σ H Q I h
  rw [hs]
  show wpAny _ _ (spliced ((false, eval e X.env) :: backTo pos (starEach es X.env))) _ _ s
  refine Calls.spliced_cons (thn (ha pins s σ H _ I h) fun u s1 ⟨x, H1, I1, r1, q1⟩ => ?_)
  exact thn (hr pos pins s1 σ H1 _ I1 q1) fun us s2 ⟨xs, H2, I2, r2, q2⟩ => ⟨x :: xs, H2, I2, .cons r1 r2, q2⟩
def tLst (t : TA) : TE := fun σ H Q => t σ H fun xs H1 => xs.length <= sizeLine /\ ∀ p, H1 p = none -> Q (.ref p) (upd H1 p (.lst xs))
theorem pe_lst (h : PA X es t) : PE X (.List es pos) (tLst t) := by
  intro pins s σ H Q I hq
  refine wpAny_List_spliced (thn (h pos pins s σ H _ I hq) fun us s1 ⟨xs, H1, I1, r, z, q⟩ => ⟨by rw [← r.length]; exact z, ?_⟩)
  have hf : H1 s1.heap.objs.size = none := I1.hok.fresh (Nat.le_refl _)
  refine ⟨.ref s1.heap.objs.size, upd H1 s1.heap.objs.size (.lst xs), I1.laid (t' := s1.toks) (fun b u e => Heap.get?_push_of_some _ e) (Nat.le_refl _) ?_, rfl, q _ hf⟩
  exact ⟨z, us, 0, r, Heap.get?_push_size _ rfl⟩
end
abbrev Sp := List V -> Hp -> VK -> XK -> Prop
abbrev CXT := List Env -> Hp -> Shared -> XK -> Value -> Shared -> Prop
structure Env0 (P : Program) (w : World) (K : PySem.W.Frag) (mg : Str -> Option Value) (base : Heap) (A : Around) (outer : List Env) (s : Shared) (H : Hp) : Prop where
  frames : A.frames = some outer
  mod : Mod K mg base
  bs : ∀ b o, base.get? b = some o -> s.heap.get? b = some o /\ H b = none
  bsz : base.objs.size <= s.heap.objs.size
  funs : s.heap.FunFrames base outer
  frf : ∀ b ∈ frs outer, H b = none
  hok : HOk P w H s.heap
  bare : AllBare s.gens
def CE (outer : List Env) (P : Program) (w : World) (H : Hp) (s : Shared) (Q : VK) (u : Value) (s' : Shared) : Prop :=
  ∃ v H', s'.os = s.os /\ AllBare s'.gens /\ Un (frs outer) [] H H' s.heap s'.heap /\ HOk P w H' s'.heap /\ RelV v u /\ Q v H'
def CR (CX : CXT) (outer : List Env) (P : Program) (w : World) (H : Hp) (s : Shared) (Q : VK) (E : XK) (r : Result) (s' : Shared) : Prop :=
  match r with
  | .ok (.ret u) => CE outer P w H s Q u s'
  | .ok _ => False
  | .error e => CX outer H s E e s'
structure FnOk (P : Program) (w : World) (K : PySem.W.Frag) (mg : Str -> Option Value) (base : Heap) (CX : CXT) (k : Nat) (f : Addr) (fd : FuncData) (ps : List Str) (sp : Sp) : Prop where
  len : ∀ vs H Q E, sp vs H Q E -> vs.length = ps.length
  run : ∀ (A : Around) (outer : List Env) (s : Shared) (H : Hp) (args : Args) (us : List Value) (vs : List V) (Q : VK) (E : XK), Room k A -> Env0 P w K mg base A outer s H -> BindsTo s fd args (ps.zip us) -> Vals vs us -> sp vs H Q E ->
    codeAny (model P w) A (.call (.ref f) args) (CR CX outer P w H s Q E) s
theorem FnOk.imp {P : Program} {w : World} {K : PySem.W.Frag} {mg : Str -> Option Value} {base : Heap} {CX : CXT} {k : Nat} {f : Addr} {fd : FuncData} {ps : List Str} {sp sp' : Sp} (F : FnOk P w K mg base CX k f fd ps sp)
    (h : ∀ vs H Q E, sp' vs H Q E -> sp vs H Q E) : FnOk P w K mg base CX k f fd ps sp' :=
  ⟨fun vs H Q E q => F.len vs H Q E (h _ _ _ _ q), fun A outer s H args us vs Q E hr he hb hv hs => F.run A outer s H args us vs Q E hr he hb hv (h _ _ _ _ hs)⟩
section
variable {X : Cx} {pins : List (Addr × Obj)} {σ : St} {H : Hp} {s s' : Shared}
theorem Inv.env0 (I : Inv X pins σ H s) : Env0 X.prog X.w X.K X.mg X.base X.A X.stack s H :=
  ⟨I.ok.frames, I.ok.mod, I.bs, Nat.le_trans I.ok.bsz I.sz, I.stack, I.stkFree, I.hok, I.bare⟩
theorem Inv.after {Q : VK} {u : Value} (I : Inv X pins σ H s) (h : CE X.stack X.prog X.w H s Q u s') : EP X pins σ Q u s' := by
  obtain ⟨v, H', os, bare, un, hok, r, q⟩ := h
  obtain ⟨hh, g, d, t, os'⟩ := s'
  obtain rfl : os' = s.os := os
  exact ⟨v, H', I.call (h' := hh) (g' := g) (d' := d) (t' := t) (ch := []) un hok bare (fun b z => absurd z (by simp)), r, q⟩
end
def tCall (sp : Sp) (dvs : List V) (E : XK) (t : TA) : TE := fun σ H Q => t σ H fun vs H1 => sp (vs ++ dvs) H1 Q E
def Binds (K : PySem.W.Frag) (fd : FuncData) (ps : List Str) (ds : List Value) : Prop :=
  ∀ (s : Shared) (us : List Value), K.In s.heap -> (us ++ ds).length = ps.length -> BindsTo s fd ⟨us, []⟩ (ps.zip (us ++ ds))
theorem Binds.all {K : PySem.W.Frag} {fd : FuncData} {ps : List Str} (h : ∀ us : List Value, us.length = ps.length -> bindArgs fd ⟨us, []⟩ = pure (ps.zip us)) : Binds K fd ps [] := fun s us _ hl => by
  rw [List.append_nil] at hl ⊢
  exact .of_eq (h us hl)
def Passes (CX : CXT) (X : Cx) (E : XK) : Prop := ∀ (pins : List (Addr × Obj)) (σ : St) (H : Hp) (s : Shared) (e : Value) (s' : Shared), Inv X pins σ H s -> CX X.stack H s E e s' -> X.xe e s'
section
variable {X : Cx} {CX : CXT} {k : Nat} {f C : Addr} {fd : FuncData} {ps : List Str} {sp : Sp} {dvs : List V} {ds : List Value} {E : XK} {x m : Str} {p pos apos : Pos} {e o : Expr} {es : List Expr} {ta : TE} {t : TA}
theorem run_fn {pins : List (Addr × Obj)} {σ : St} {H : Hp} {s : Shared} {Q : VK} {us : List Value} {vs : List V} (F : FnOk X.prog X.w X.K X.mg X.base CX k f fd ps sp) (hr : Room k X.A) (hb : Binds X.K fd ps ds) (hd : Vals dvs ds) (hx : Passes CX X E)
    (I : Inv X pins σ H s) (r : Vals vs us) (h : sp (vs ++ dvs) H Q E) : wpAny (model X.prog X.w) X.A (call (.ref f) us) (EP X pins σ Q) X.xe s := by
  have r2 : Vals (vs ++ dvs) (us ++ ds) := r.append hd
  have hl : (us ++ ds).length = ps.length := by rw [← r2.length]; exact F.len _ _ _ _ h
  refine wpAny_call (codeAny_mono (F.run X.A X.stack s H ⟨us, []⟩ (us ++ ds) (vs ++ dvs) Q E hr I.env0 (hb s us I.kIn hl) r2 h) fun r s' hq => ?_)
  cases r with
  | error e => exact hx pins σ H s e s' I hq
  | ok fl =>
    cases fl with
    | ret u => exact I.after hq
    | next => exact False.elim hq
    | brk => exact False.elim hq
    | cont => exact False.elim hq
theorem pe_call (F : FnOk X.prog X.w X.K X.mg X.base CX k f fd ps sp) (hr : Room k X.A) (hg : Gl X x) (hm : X.mg x = some (.ref f)) (hk : PySem.W.keepIn X.K (.ref f) = true) (hb : Binds X.K fd ps ds) (hd : Vals dvs ds) (hx : Passes CX X E)
    (ha : PA X (e :: es) t) (hdb : (x == ("__debug__" : Str)) = false := by decide) (he : starEach (e :: es) X.env = (false, eval e X.env) :: starEach es X.env := by rfl) (hpl : (backTo pos (starEach es X.env)).any (·.1) = false := by rfl) :
    PE X (.Call (.Name x p) (e :: es) [] pos) (tCall sp dvs E t) := by
  intro pins s σ H Q I h
  refine wpAny_Call_Name_kw (ld_glob I hg hm ?_ hdb)
  refine PySem.W.callWith_K (h₀ := X.base) I.ok.mod.kin hk (thn (ha pos pins s σ H _ I h) fun us s1 ⟨vs, H1, I1, r, q⟩ => ⟨I1.kIn, ?_⟩) he hpl
  exact run_fn F hr hb hd hx I1 r q
theorem pe_call0 (F : FnOk X.prog X.w X.K X.mg X.base CX k f fd ps sp) (hr : Room k X.A) (hg : Gl X x) (hm : X.mg x = some (.ref f)) (hk : PySem.W.keepIn X.K (.ref f) = true) (hb : Binds X.K fd ps ds) (hd : Vals dvs ds) (hx : Passes CX X E)
    (hdb : (x == ("__debug__" : Str)) = false := by decide) : PE X (.Call (.Name x p) [] [] pos) (tCall sp dvs E tNil) := by
  intro pins s σ H Q I h
  refine wpAny_Call_Name_kw (ld_glob I hg hm ?_ hdb)
  exact PySem.W.callWith_K0 I.kIn hk (run_fn (us := []) F hr hb hd hx I .nil h)
end
structure FnScope (N P : List Str) (sc : Scope) : Prop where
  kind : sc.kind = .function
  co : sc.isCoroutine = false
  gen : sc.isGenerator = false
  nd : N.Nodup
  pre : N.take P.length = P
  par : ∀ x ∈ P, sc.names.lookup x = some .local ∨ sc.names.lookup x = some .cell
  nofree : ∀ y ∈ sc.names, y.2 ≠ .free
theorem bindL_out {kindOf : Str -> Option NameKind} {x : Str} : ∀ {binds : List (Str × Value)} {m : Str -> Option Value}, (∀ v, (x, v) ∉ binds) -> bindL kindOf binds m x = m x
  | [], _, _ => rfl
  | (n, v) :: r, m, h => by
    unfold bindL
    rw [bindL_out fun w hw => h w (List.mem_cons_of_mem _ hw)]
    split
    · have : x ≠ n := by rintro rfl; exact h v List.mem_cons_self
      simp [this]
    · rfl
theorem bindC_out {kindOf : Str -> Option NameKind} {x : Str} : ∀ {binds : List (Str × Value)} {m : Str -> Option Value}, (∀ v, (x, v) ∉ binds) -> bindC kindOf binds m x = m x
  | [], _, _ => rfl
  | (n, v) :: r, m, h => by
    unfold bindC
    rw [bindC_out fun w hw => h w (List.mem_cons_of_mem _ hw)]
    split
    · rfl
    · have : x ≠ n := by rintro rfl; exact h v List.mem_cons_self
      simp [this]
theorem bindL_get {kindOf : Str -> Option NameKind} {x : Str} {v : Value} : ∀ {P : List Str} {vs : List Value} {i : Nat} {m : Str -> Option Value}, P.Nodup -> P[i]? = some x -> vs[i]? = some v -> kindOf x = some .local ->
    bindL kindOf (P.zip vs) m x = some v
  | [], _, _, _, _, h, _, _ => by simp at h
  | _ :: _, [], _, _, _, _, h, _ => by simp at h
  | p :: P, w :: vs, 0, m, nd, h1, h2, hk => by
    simp at h1 h2; subst h1; subst h2
    show bindL kindOf ((p, w) :: P.zip vs) m p = _
    unfold bindL
    rw [bindL_out fun v hv => (List.nodup_cons.mp nd).1 (List.of_mem_zip hv).1, if_pos hk]
    simp
  | p :: P, w :: vs, i + 1, m, nd, h1, h2, hk => by
    show bindL kindOf ((p, w) :: P.zip vs) m x = _
    unfold bindL
    exact bindL_get (i := i) (List.nodup_cons.mp nd).2 (by simpa using h1) (by simpa using h2) hk
theorem bindC_get {kindOf : Str -> Option NameKind} {x : Str} {v : Value} : ∀ {P : List Str} {vs : List Value} {i : Nat} {m : Str -> Option Value}, P.Nodup -> P[i]? = some x -> vs[i]? = some v -> kindOf x ≠ some .local ->
    bindC kindOf (P.zip vs) m x = some v
  | [], _, _, _, _, h, _, _ => by simp at h
  | _ :: _, [], _, _, _, _, h, _ => by simp at h
  | p :: P, w :: vs, 0, m, nd, h1, h2, hk => by
    simp at h1 h2; subst h1; subst h2
    show bindC kindOf ((p, w) :: P.zip vs) m p = _
    unfold bindC
    rw [bindC_out fun v hv => (List.nodup_cons.mp nd).1 (List.of_mem_zip hv).1, if_neg hk]
    simp
  | p :: P, w :: vs, i + 1, m, nd, h1, h2, hk => by
    show bindC kindOf ((p, w) :: P.zip vs) m x = _
    unfold bindC
    exact bindC_get (i := i) (List.nodup_cons.mp nd).2 (by simpa using h1) (by simpa using h2) hk
def start (N : List Str) (vs : List V) : St := vs.map some ++ List.replicate (N.length - vs.length) none
def cxOf (CX : CXT) (P : Program) (w : World) (K : PySem.W.Frag) (mg : Str -> Option Value) (base : Heap) (N : List Str) (qual : Str) (scope : Scope) (f : Addr) (cd : Value) (A : Around) (outer : List Env) (s : Shared) (H : Hp) (E : XK) : Cx where
  prog := P
  w := w
  K := K
  mg := mg
  base := base
  A := A.deeper (envOfC qual scope s.heap.objs.size f cd)
  N := N
  s₀ := s
  H₀ := H
  env := envOfC qual scope s.heap.objs.size f cd
  outer := outer
  stack := envOfC qual scope s.heap.objs.size f cd :: outer
  ex := []
  calm := true
  fn := fun _ => true
  pn := []
  xe := fun e s' => wpAny (model P w) (A.deeper (envOfC qual scope s.heap.objs.size f cd)) (leaving (envOfC qual scope s.heap.objs.size f cd) e) (fun _ s'' => CX outer H s E e s'') (fun e' s'' => CX outer H s E e' s'') s'
theorem cell_has {sc : Scope} {n : Nat} {x : Str} (h : sc.names.lookup x = some .cell) : ∃ c, (cellsFrom n sc.names []).lookup x = some c := by
  have q := PySem.W.cellsFrom_some sc.names n [] (.inl h)
  exact Option.isSome_iff_exists.mp q
theorem inv_start {CX : CXT} {P : Program} {w : World} {K : PySem.W.Frag} {mg : Str -> Option Value} {base : Heap} {N ps : List Str} {qual : Str} {scope : Scope} {f : Addr} {cd : Value} {A : Around} {outer : List Env} {s s1 : Shared} {H : Hp} {E : XK} {us : List Value} {vs : List V}
    (S : FnScope N ps scope) (hd : A.handled = none) (e0 : Env0 P w K mg base A outer s H) (hl : vs.length = ps.length) (r : Vals vs us)
    (x : InCallC s s.heap.objs.size (bindL (envOfC qual scope s.heap.objs.size f cd).kindOf (ps.zip us) fun _ => none) (cellsFrom (s.heap.objs.size + 1) scope.names []) (bindC (envOfC qual scope s.heap.objs.size f cd).kindOf (ps.zip us) fun _ => none) s1) :
    Inv (cxOf CX P w K mg base N qual scope f cd A outer s H E) [] (start N vs) H s1 := by
  have hpl : ps.length <= N.length := by have := congrArg List.length S.pre; rw [List.length_take] at this; omega
  obtain ⟨h1, tk, rfl, hk⟩ := x.done
  have noA : ∀ b : Addr, b ∉ (cxOf CX P w K mg base N qual scope f cd A outer s H E).ex := fun b z => absurd (show b ∈ ([] : List Addr) from z) (by simp)
  refine ⟨⟨e0.mod, S.kind, rfl, rfl, Nat.le_refl _, fun y z c h1 h2 => ?_, fun y hy => ?_, fun y c _ h => ?_, fun _ => hd, Around.frames_deeper e0.frames, .inr ⟨rfl, rfl⟩, fun b z => absurd z (noA b), e0.bs, e0.bsz, fun b _ _ => noA b, fun b z => absurd z (noA b), e0.funs, e0.frf⟩,
    rfl, e0.bare, Un.kept hk, ⟨_, x.toInCall.ns, fun i y v h1 h2 h3 => ?_⟩, fun y c h => ⟨_, x.cell y c h⟩, e0.hok.fresh (Nat.le_refl _), fun y c h => ?_, fun p hp => absurd (show p ∈ ([] : List (Addr × Obj)) from hp) (by simp), e0.hok.kept hk, ?_⟩
  · exact name_of_addr x.apart (PySem.mem_of_lookup h1) (PySem.mem_of_lookup h2)
  · have hy : scope.names.lookup y = some .cell ∨ scope.names.lookup y = some .free := hy
    rcases hy with hy | hy
    · exact cell_has hy
    · exact absurd rfl (S.nofree _ (PySem.mem_of_lookup hy))
  · exact Nat.le_of_lt (x.above y c (PySem.mem_of_lookup h))
  · have hi : i < vs.length := by
      unfold start at h2
      by_cases hi : i < vs.length
      · exact hi
      · rw [List.getElem?_append_right (by simpa using hi)] at h2
        rw [List.getElem?_replicate] at h2
        split at h2 <;> cases h2
    have ha : vs[i]? = some v := by
      unfold start at h2
      rw [List.getElem?_append_left (by simpa using hi), List.getElem?_map] at h2
      cases e : vs[i]? with
      | none => rw [e] at h2; cases h2
      | some a => rw [e] at h2; cases h2; rfl
    obtain ⟨u, hu, rv⟩ := r.get ha
    have hp : ps[i]? = some y := by
      rw [← S.pre, List.getElem?_take_of_lt (by omega)]; exact h1
    have ndP : ps.Nodup := by rw [← S.pre]; exact S.nd.sublist (List.take_sublist _ _)
    refine ⟨u, rv, ?_⟩
    rcases S.par y (List.mem_of_getElem? hp) with k | k
    · exact .inl ⟨k, bindL_get ndP hp hu k⟩
    · obtain ⟨c, e⟩ := cell_has (n := s.heap.objs.size + 1) k
      refine .inr ⟨.inl k, c, e, ?_⟩
      have q := x.cell y c e
      rw [bindC_get ndP hp hu (by show scope.names.lookup y ≠ _; rw [k]; decide)] at q
      exact q
  · exact e0.hok.fresh (Nat.le_of_lt (x.above y c (PySem.mem_of_lookup h)))
  · unfold start
    show _ = N.length
    rw [List.length_append, List.length_map, List.length_replicate]
    omega
theorem fn_of {CX : CXT} {P : Program} {w : World} {K : PySem.W.Frag} {mg : Str -> Option Value} {base : Heap} {k : Nat} {f : Addr} {name qual : Str} {params : Arguments} {body : List Stmt} {scope : Scope} {dV kV doc pm cdv ct oc : Value} {an od : Option Addr}
    {osl : Array (Option Value)} {N ps : List Str} {sp : Sp} (lk : K.lookup f = some ⟨oc, od, .func (PySem.W.fnOf name qual params body scope dV kV doc pm an cdv ct), osl⟩) (hcd : PySem.W.codeIn K cdv qual = true) (S : FnScope N ps scope)
    (len : ∀ vs H Q E, sp vs H Q E -> vs.length = ps.length)
    (hbody : ∀ (A : Around) (outer : List Env) (s : Shared) (H : Hp) (vs : List V) (Q : VK) (E : XK), Room k (A.deeper (envOfC qual scope s.heap.objs.size f cdv)) -> sp vs H Q E ->
      ∃ t, PSs (cxOf CX P w K mg base N qual scope f cdv A outer s H E) body t /\ t { nx := fun _ H' => Q .non H', rt := Q } (start N vs) H) :
    FnOk P w K mg base CX (k + 1) f (PySem.W.fnOf name qual params body scope dV kV doc pm an cdv ct) ps sp := by
  refine ⟨len, fun A outer s H args us vs Q E hr e0 hb r hsp => ?_⟩
  have hl := len _ _ _ _ hsp
  have KX : K.In s.heap := e0.mod.kin.keeps fun b o e => (e0.bs b o e).1
  have lim : s.heap.NoLimit := e0.mod.nolimit.keeps fun b o e => (e0.bs b o e).1
  have hkind : ∀ y ∈ ps.zip us, scope.names.lookup y.1 = some .local ∨ (scope.names.lookup y.1 = some .cell /\ ((cellsFrom (s.heap.objs.size + 1) scope.names []).lookup y.1).isSome = true) := fun ⟨n, v⟩ hy => by
    rcases S.par n (List.of_mem_zip hy).1 with q | q
    · exact .inl q
    · exact .inr ⟨q, PySem.W.cellsFrom_some _ _ _ (.inl q)⟩
  refine codeAny_call_function hr.depth (KX _ _ lk) rfl S.co S.gen rfl (PySem.W.codeRec_of KX hcd) (hb _ _ _ _ ?_)
  refine wpAny_newFunctionEnv_cells S.kind hkind fun env he s1 x => ?_
  subst he
  refine ⟨lim.keeps x.toInCall.keep, codeAny_func ?_⟩
  obtain ⟨t, ht, hq⟩ := hbody A outer s H vs Q E (hr.deeper _) hsp
  have I : Inv (cxOf CX P w K mg base N qual scope f cdv A outer s H E) [] (start N vs) H s1 := inv_start S hr.hd e0 hl r x
  refine wpAny_mono (ht [] s1 (start N vs) H _ I hq) (fun fl s' hs => ?_) fun e s' hs => hs
  have fin : ∀ {σ' : St} {H' : Hp} {v : V} {u : Value}, Inv (cxOf CX P w K mg base N qual scope f cdv A outer s H E) [] σ' H' s' -> RelV v u -> Q v H' -> CE outer P w H s Q u s' :=
    fun {σ' H' v u} J rv q => ⟨v, H', J.os, J.bare, J.base, J.hok, rv, q⟩
  cases fl with
  | ret u =>
    obtain ⟨v, σ', H', J, rv, q⟩ := hs
    exact fin J rv q
  | next =>
    obtain ⟨σ', H', J, q⟩ := hs
    exact fin (v := V.non) (u := Value.none) J rfl q
  | brk =>
    obtain ⟨_, _, _, q⟩ := hs
    exact False.elim q
  | cont =>
    obtain ⟨_, _, _, q⟩ := hs
    exact False.elim q
end L2
namespace L2
open PySem PySem.Spec PyProof.Rows
section
variable {X : Cx} {x : Str} {p pos : Pos} {e : Expr} {es : List Expr} {t : TA} {id T : String} {r : List V -> Hp -> VK -> Prop}
def tCB (r : List V -> Hp -> VK -> Prop) (t : TA) : TE := fun σ H Q => t σ H fun vs H1 => r vs H1 Q
theorem pe_callB (hc : CallR X (.builtin id) r) (hg : Gl X x) (hm : X.mg x = none) (hv : bootBuiltins x = some (.builtin id)) (ha : PA X (e :: es) t) (hn : x ≠ "__name__" := by decide) (hdb : (x == ("__debug__" : Str)) = false := by decide)
    (he : starEach (e :: es) X.env = (false, eval e X.env) :: starEach es X.env := by rfl) (hpl : (backTo pos (starEach es X.env)).any (·.1) = false := by rfl) : PE X (.Call (.Name x p) (e :: es) [] pos) (tCB r t) := by
  intro pins s σ H Q I h
  refine wpAny_Call_Name_kw (ld_blt I hg hm hv ?_ hn hdb)
  exact PyProof.Rows.callWith_builtin1 (thn (ha pos pins s σ H _ I h) fun us s1 ⟨vs, H1, I1, r1, q1⟩ => hc pins s1 σ H1 vs us Q I1 r1 q1) he hpl
theorem pe_callTy (hc : CallR X (.type T) r) (hg : Gl X x) (hm : X.mg x = none) (hv : bootBuiltins x = some (.type T)) (ha : PA X (e :: es) t) (hn : x ≠ "__name__" := by decide) (hdb : (x == ("__debug__" : Str)) = false := by decide)
    (he : starEach (e :: es) X.env = (false, eval e X.env) :: starEach es X.env := by rfl) (hpl : (backTo pos (starEach es X.env)).any (·.1) = false := by rfl) : PE X (.Call (.Name x p) (e :: es) [] pos) (tCB r t) := by
  intro pins s σ H Q I h
  refine wpAny_Call_Name_kw (ld_blt I hg hm hv ?_ hn hdb)
  exact PyProof.Rows.callWith_type1 (thn (ha pos pins s σ H _ I h) fun us s1 ⟨vs, H1, I1, r1, q1⟩ => hc pins s1 σ H1 vs us Q I1 r1 q1) he hpl
end
end L2
namespace HT
open PySem PyProof.Rows
theorem eqAt_int (A : Around) (s : Shared) (a : Int) (t : Tok) (c : Int) (u : Tok) : ∃ e, SeqAt.EqAt A s (.int a t) (.int c u) e /\ (e = true ↔ a = c) :=
  ⟨(a == c), SeqAt.EqAt.int_int a t c u, by simp⟩
theorem rcLt_int (A : Around) (s : Shared) (a : Int) (t : Tok) (c : Int) (u : Tok) (prog : Program) (w : World) (E : Value -> Shared -> Prop) (Q : Value -> Shared -> Prop) (h : Q (.bool (decide (a < c))) s) :
    wpAny (model prog w) A (richCompare .Lt (.int a t) (.int c u)) Q E s :=
  (PyProof.Rows.lt_int h : wpAny (model prog w) A (compareOp .Lt (.int a t) (.int c u)) Q E s)
section
variable {prog : Program} {w : World} {A : Around} {E : Value -> Shared -> Prop} {s : Shared}
def sIx (n d : Nat) : Option Int -> Nat
  | none => d
  | some v => if v < 0 then (v + (n : Int)).toNat else min v.toNat n
theorem clip_eq (v : Int) (n d : Nat) : (if v < 0 then max (v + (n : Int)) 0 else min v (n : Int)) = ((sIx n d (some v) : Nat) : Int) := by
  show (if v < 0 then max (v + (n : Int)) 0 else min v (n : Int)) = (((if v < 0 then (v + (n : Int)).toNat else min v.toNat n) : Nat) : Int)
  by_cases hv : v < 0
  · simp only [if_pos hv]; omega
  · simp only [if_neg hv]; omega
end
end HT
namespace L2
open PySem PySem.Spec PyProof.Rows
abbrev TO := St -> Hp -> (Option Int -> Hp -> Prop) -> Prop
def PO (X : Cx) (e : Option Expr) (t : TO) : Prop :=
  ∀ (pins : List (Addr × Obj)) (s : Shared) (σ : St) (H : Hp) (Q : Option Int -> Hp -> Prop), Inv X pins σ H s -> t σ H Q ->
    wpAny (model X.prog X.w) X.A (evalPart e X.env) (fun u s' => ∃ o H', Inv X pins σ H' s' /\ IsPart u o /\ Q o H') X.xe s
def tNoPart : TO := fun _ H Q => Q none H
def tPart (t : TE) : TO := fun σ H Q => t σ H fun x H1 => ∃ i, x = .int i /\ Q (some i) H1
theorem intsAre_of {ns : List Int} : ∀ {us : List Value}, Vals (ns.map V.int) us -> IntsAre us ns := by
  induction ns with
  | nil => intro us r; rw [List.map_nil] at r; cases r; exact .nil
  | cons n ns ih =>
    intro us r
    rw [List.map_cons] at r
    cases r with
    | cons r1 r2 =>
      obtain ⟨t, e⟩ := r1
      subst e
      exact .cons n t (ih r2)
section
variable {X : Cx} {e : Expr} {te : TE} {lo hi : Option Expr} {tl th : TO} {pos p2 : Pos}
theorem po_none : PO X none tNoPart := by
  intro pins s σ H Q I h
  rw [evalPart_none]
  exact wpAny_pure ⟨none, H, I, .none, h⟩
theorem po_some (h : PE X e te) : PO X (some e) (tPart te) := by
  intro pins s σ H Q I hw
  rw [evalPart_some]
  refine thn (h pins s σ H _ I hw) fun u s1 ⟨x, H1, I1, r1, q1⟩ => ?_
  obtain ⟨i, rfl, q⟩ := q1
  obtain ⟨t, rfl⟩ := r1
  exact ⟨some i, H1, I1, .int i t, q⟩
def SlR (X : Cx) (r : V -> Option Int -> Option Int -> Hp -> VK -> Prop) : Prop :=
  ∀ (pins : List (Addr × Obj)) (s : Shared) (σ : St) (H : Hp) (x : V) (v vl vu : Value) (lo hi : Option Int) (sl : Addr) (Q : VK), Inv X pins σ H s -> RelV x v -> s.heap.IsSliceOf sl vl vu .none -> IsPart vl lo -> IsPart vu hi -> r x lo hi H Q ->
    ∃ T id, typeLookup (.type T) "__getitem__" = pure (some (.builtin id)) /\ s.TypeIs v T /\ wpAny (model X.prog X.w) X.A (getItem v (.ref sl)) (EP X pins σ Q) X.xe s
def tSl (r : V -> Option Int -> Option Int -> Hp -> VK -> Prop) (te : TE) (tl th : TO) : TE := fun σ H Q => te σ H fun x H1 => tl σ H1 fun l H2 => th σ H2 fun u H3 => r x l u H3 Q
theorem pe_slice {r : V -> Option Int -> Option Int -> Hp -> VK -> Prop} (hr : SlR X r) (he : PE X e te) (hl : PO X lo tl) (hu : PO X hi th) : PE X (.Subscript e (.Slice lo hi none p2) pos) (tSl r te tl th) := by
  intro pins s σ H Q I h
  refine Subscript_ (thn (he pins s σ H _ I h) fun v s1 ⟨x, H1, I1, r1, q1⟩ => ?_)
  refine wpAny_Slice (thn (hl pins s1 σ H1 _ I1 q1) fun vl s2 ⟨l, H2, I2, pl, q2⟩ => thn (hu pins s2 σ H2 _ I2 q2) fun vu s3 ⟨u, H3, I3, pu, q3⟩ => ?_)
  rw [evalPart_none]
  refine wpAny_pure ?_
  have I4 : Inv X pins σ H3 { s3 with heap := s3.heap.push { cls := .type "slice", data := .fields #[vl, vu, .none] } } := I3.kept (t' := s3.toks) fun b ob q => Heap.get?_push_of_some _ q
  obtain ⟨T, id, hT, ht, hg⟩ := hr pins { s3 with heap := s3.heap.push { cls := .type "slice", data := .fields #[vl, vu, .none] } } σ H3 x v vl vu l u s3.heap.objs.size Q I4 r1 (Heap.IsSliceOf.new ..) pl pu q3
  show wpAny (model X.prog X.w) X.A (subscriptTail e (.Slice lo hi none p2) v (.ref s3.heap.objs.size)) (EP X pins σ Q) X.xe { s3 with heap := s3.heap.push { cls := .type "slice", data := .fields #[vl, vu, .none] } }
  exact tail_any (ops := [.ref s3.heap.objs.size, v]) ht hT hg (by with_unfolding_all rfl)
def cutV (xs : List V) (lo hi : Option Int) : List V := (xs.drop (HT.sIx xs.length 0 lo)).take (HT.sIx xs.length xs.length hi - HT.sIx xs.length 0 lo)
theorem cutV_length (xs : List V) (lo hi : Option Int) : (cutV xs lo hi).length <= xs.length := by
  unfold cutV
  rw [List.length_take, List.length_drop]
  omega
end
end L2
namespace L2
open PySem PySem.Spec PyProof.Rows
def ixN (n : Nat) (i : Int) : Option Nat := if 0 <= i then (if i < n then some i.toNat else none) else if -(n : Int) <= i then some (i + n).toNat else none
def atI {α : Type} (xs : List α) (i : Int) : Option α := (ixN xs.length i).bind fun j => xs[j]?
theorem ixN_seq {n : Nat} {i : Int} {j : Nat} (h : ixN n i = some j) : seqIndex? i n = some j /\ j < n /\ -(n : Int) <= i /\ i < n := by
  unfold ixN at h
  by_cases h0 : 0 <= i
  · rw [if_pos h0] at h
    by_cases h1 : i < n
    · rw [if_pos h1] at h
      have e : i.toNat = j := Option.some.inj h
      exact ⟨by rw [seqIndex_of h0 h1, e], by omega, by omega, h1⟩
    · rw [if_neg h1] at h; cases h
  · rw [if_neg h0] at h
    by_cases h1 : -(n : Int) <= i
    · rw [if_pos h1] at h
      have e : (i + n).toNat = j := Option.some.inj h
      exact ⟨by rw [seqIndex_neg (by omega) h1, e], by omega, h1, by omega⟩
    · rw [if_neg h1] at h; cases h
theorem atI_get {α : Type} {xs : List α} {i : Int} {v : α} (h : atI xs i = some v) : ∃ j, seqIndex? i xs.length = some j /\ xs[j]? = some v /\ j < xs.length /\ -(xs.length : Int) <= i /\ i < xs.length := by
  unfold atI at h
  cases e : ixN xs.length i with
  | none => rw [e] at h; cases h
  | some j =>
    rw [e] at h
    obtain ⟨h1, h2, h3, h4⟩ := ixN_seq e
    exact ⟨j, h1, h, h2, h3, h4⟩
theorem atI_nat {α : Type} {xs : List α} {j : Nat} {v : α} (h : xs[j]? = some v) : atI xs (j : Int) = some v := by
  have hj : j < xs.length := (List.getElem?_eq_some_iff.mp h).1
  have e : ixN xs.length (j : Int) = some j := by
    unfold ixN
    rw [if_pos (by omega), if_pos (by omega)]; simp
  unfold atI; rw [e]; exact h
theorem atI_last {α : Type} (xs : List α) (v : α) : atI (xs ++ [v]) (-1) = some v := by
  have hl : (xs ++ [v]).length = xs.length + 1 := by simp
  have e : ixN (xs ++ [v]).length (-1) = some xs.length := by
    unfold ixN
    rw [hl, if_neg (by decide), if_pos (by omega)]
    congr 1
    omega
  unfold atI
  rw [e]
  show (xs ++ [v])[xs.length]? = some v
  simp
def PlainIx (b : Expr) : Prop := ∀ o i, subscripted b false o i = operate [o, i] (getItem o i)
def IxR (X : Cx) (r : R2) : Prop :=
  ∀ (value slice : Expr) (pins : List (Addr × Obj)) (s : Shared) (σ : St) (H : Hp) (x y : V) (v u : Value) (Q : VK), Inv X pins σ H s -> RelV x v -> RelV y u -> r x y H Q ->
    subscripted slice false v u = operate [v, u] (getItem v u) -> wpAny (model X.prog X.w) X.A (subscriptTail value slice v u) (EP X pins σ Q) X.xe s
def MtR (X : Cx) (id : String) (r : V -> List V -> Hp -> VK -> Prop) : Prop :=
  ∀ (pins : List (Addr × Obj)) (s : Shared) (σ : St) (H : Hp) (x : V) (xs : List V) (v : Value) (us : List Value) (Q : VK), Inv X pins σ H s -> RelV x v -> Vals xs us -> r x xs H Q ->
    wpAny (model X.prog X.w) X.A (call (.builtin id) (v :: us)) (EP X pins σ Q) X.xe s
section
variable {X : Cx} {a b : Expr} {ta tb : TE} {pos : Pos}
theorem pe_ix {r : R2} (hr : IxR X r) (ha : PE X a ta) (hb : PE X b tb) (hs : PlainIx b) : PE X (.Subscript a b pos) (tOp r ta tb) := by
  intro pins s σ H Q I h
  exact Subscript_ (binT ha hb I h fun v u s2 x y H2 I2 rx ry q => hr a b pins s2 σ H2 x y v u Q I2 rx ry q (hs _ _))
def rIxL (K : PySem.W.Frag) : R2 := fun x y H Q => ∃ p xs i v, x = .ref p /\ y = .int i /\ SqL K H p xs /\ atI xs i = some v /\ Q v H
def rIxT (K : PySem.W.Frag) : R2 := fun x y H Q => ∃ p xs i v, x = .ref p /\ y = .int i /\ SqT K H p xs /\ atI xs i = some v /\ Q v H
theorem ix_list : IxR X (rIxL X.K) := by
  intro value slice pins s σ H x y v u Q I rx ry h hs
  obtain ⟨p, xs, i, z, rfl, rfl, hq, he, q⟩ := h
  cases rx
  obtain ⟨t, rfl⟩ := ry
  obtain ⟨its, r, pl, hz⟩ := I.list hq
  obtain ⟨j, h1, h2, h3, h4, h5⟩ := atI_get he
  obtain ⟨w, ew, rw'⟩ := r.get h2
  have hl := r.length
  have hn := line63
  have fin : EP X pins σ Q w s := ⟨z, H, I, rw', q⟩
  by_cases h0 : 0 <= i
  · have hj : i.toNat = j := by
      rw [seqIndex_of h0 h5] at h1
      exact Option.some.inj h1
    exact item_listR pl.isList h0 (by omega) (by rw [hj]; simpa using ew) fin hs
  · have hj : (i + (its.toArray.size : Int)).toNat = j := by
      rw [seqIndex_neg (by omega) h4] at h1
      rw [List.size_toArray, ← hl]
      exact Option.some.inj h1
    exact subscriptTail_builtinR (x := w) pl.isList.typeIs slot_list_getitem.lookup
      (wpAny_getItem_list_neg (Q := fun r s' => r = w /\ EP X pins σ Q r s') pl.isList (by omega) (by rw [List.size_toArray] <;> omega) (by omega) (by rw [hj]; simpa using ew) ⟨rfl, fin⟩) hs
theorem ix_tup : IxR X (rIxT X.K) := by
  intro value slice pins s σ H x y v u Q I rx ry h hs
  obtain ⟨p, xs, i, z, rfl, rfl, hq, he, q⟩ := h
  cases rx
  obtain ⟨t, rfl⟩ := ry
  obtain ⟨its, r, pl, hz⟩ := I.tuple hq
  obtain ⟨j, h1, h2, h3, h4, h5⟩ := atI_get he
  obtain ⟨w, ew, rw'⟩ := r.get h2
  have hl := r.length
  have hn := line63
  have fin : EP X pins σ Q w s := ⟨z, H, I, rw', q⟩
  exact subscriptTail_builtinR (x := w) pl.typeIs slot_tuple_getitem.lookup
    (getItem_tuple (j := j) (Q := fun r s' => r = w /\ EP X pins σ Q r s') pl (by omega) (by omega) (by rw [List.size_toArray, ← hl]; exact h1) (by simpa using ew) ⟨rfl, fin⟩) hs
theorem mapSeq_set (its : List Value) (n j : Nat) (u : Value) : Obj.mapSeq (·.setIfInBounds j u) { cls := .type "list", data := .seq its.toArray n } = { cls := .type "list", data := .seq (its.set j u).toArray n } := by
  simp [Obj.mapSeq]
theorem Inv.lst {pins : List (Addr × Obj)} {σ : St} {H : Hp} {s : Shared} {p : Addr} {xs : List V} (I : Inv X pins σ H s) (h : H p = some (.lst xs)) :
    ∃ (its : List Value) (n : Nat), Vals xs its /\ s.heap.get? p = some { cls := .type "list", data := .seq its.toArray n } /\ xs.length <= sizeLine := by
  obtain ⟨z, its, n, r, e⟩ := I.hok p _ h
  exact ⟨its, n, r, e, z⟩
theorem Inv.lstUpd {pins : List (Addr × Obj)} {σ : St} {H : Hp} {s : Shared} {p : Addr} {xs ys : List V} {its its' : List Value} {n n' : Nat} {f : Obj -> Obj} (I : Inv X pins σ H s) (h : H p = some (.lst xs))
    (ho : s.heap.get? p = some { cls := .type "list", data := .seq its.toArray n }) (hf : f { cls := .type "list", data := .seq its.toArray n } = { cls := .type "list", data := .seq its'.toArray n' }) (r : Vals ys its') (hz : ys.length <= sizeLine) (t : Nat) :
    Inv X pins σ (upd H p (.lst ys)) { s with heap := s.heap.update p f, toks := t } := by
  have e : (s.heap.update p f).get? p = some { cls := .type "list", data := .seq its'.toArray n' } := by
    rw [Heap.get?_update_self f ho (by rw [hf] <;> rfl), hf]
  refine I.write (x := p) (e := p) (by rw [h]; trivial) (.inl rfl) (fun b u hb q => (Heap.get?_update_other _ _ (Ne.symm hb)).trans q) ⟨_, e⟩ ?_
  exact ⟨hz, its', n', r, e⟩
def rSetL : V -> V -> V -> Hp -> (Hp -> Prop) -> Prop := fun o i v H Q => ∃ p xs k j, o = .ref p /\ i = .int k /\ H p = some (.lst xs) /\ ixN xs.length k = some j /\ Q (upd H p (.lst (xs.set j v)))
theorem set_list : PSet X rSetL := by
  intro pins s σ H o i v ov iv u Q I ro ri rv h
  obtain ⟨p, xs, k, j, rfl, rfl, hp, hj, q⟩ := h
  cases ro
  obtain ⟨t, rfl⟩ := ri
  obtain ⟨its, n, r, ho, hz⟩ := I.lst hp
  obtain ⟨h1, h2, h3, h4⟩ := ixN_seq hj
  have hl := r.length
  have hn := line63
  have I' : Inv X pins σ (upd H p (.lst (xs.set j v))) { s with heap := s.heap.update p (Obj.mapSeq (·.setIfInBounds j u)) } :=
    I.lstUpd hp ho (mapSeq_set its n j u) (r.set rv j) (by rw [List.length_set]; exact hz) s.toks
  by_cases h0 : 0 <= k
  · have hk : k.toNat = j := by
      rw [seqIndex_of h0 h4] at h1
      exact Option.some.inj h1
    exact PySem.W.ki_setAt ho h0 (by omega) (by rw [List.size_toArray, ← hl]; exact h4) (by rw [hk]; exact ⟨_, I', q⟩)
  · have hk : (k + (its.toArray.size : Int)).toNat = j := by
      rw [seqIndex_neg (by omega) h3] at h1
      rw [List.size_toArray, ← hl]
      exact Option.some.inj h1
    exact PySem.W.ki_setBack ho (by omega) (by rw [List.size_toArray, ← hl]; exact h3) (by omega) (by rw [hk]; exact ⟨_, I', q⟩)
theorem slice_bounds (lo hi : Option Int) (n : Nat) : (sliceBounds lo hi none n).1 = ((HT.sIx n 0 lo : Nat) : Int) /\ (sliceBounds lo hi none n).2.1 = ((HT.sIx n n hi : Nat) : Int) /\ (sliceBounds lo hi none n).2.2 = 1 := by
  refine ⟨?_, ?_, rfl⟩
  · cases lo with
    | none => simp [sliceBounds, HT.sIx]
    | some i =>
      simp only [sliceBounds, HT.sIx, Option.getD_none, show (1 : Int) > 0 by decide, if_true]
      by_cases h : i < 0
      · simp only [h, if_true] <;> omega
      · simp only [h, if_false] <;> omega
  · cases hi with
    | none => simp [sliceBounds, HT.sIx]
    | some i =>
      simp only [sliceBounds, HT.sIx, Option.getD_none, show (1 : Int) > 0 by decide, if_true]
      by_cases h : i < 0
      · simp only [h, if_true] <;> omega
      · simp only [h, if_false] <;> omega
theorem slicePick_cut (its : List Value) (lo hi : Option Int) : slicePick its.toArray lo hi none = ((its.drop (HT.sIx its.length 0 lo)).take (HT.sIx its.length its.length hi - HT.sIx its.length 0 lo)).toArray := by
  obtain ⟨h1, h2, h3⟩ := slice_bounds lo hi its.toArray.size
  unfold slicePick
  rw [h1, h2, h3]
  simp only [sliceRange_one, pick_run, List.size_toArray] <;> rfl
def rSlL (K : PySem.W.Frag) : V -> Option Int -> Option Int -> Hp -> VK -> Prop := fun x lo hi H Q => ∃ a xs, x = .ref a /\ SqL K H a xs /\ ∀ p, H p = none -> Q (.ref p) (upd H p (.lst (cutV xs lo hi)))
theorem sl_list : SlR X (rSlL X.K) := by
  intro pins s σ H x v vl vu lo hi sl Q I rx hs pl pu h
  obtain ⟨a, xs, rfl, hx, q⟩ := h
  cases rx
  obtain ⟨its, r, ht, hz⟩ := I.list hx
  have hlen := r.length
  refine ⟨"list", _, slot_list_getitem.lookup, ht.isList.typeIs, ?_⟩
  refine wpAny_getItem_list_slice ht.isList hs pl pu .none (by simp) ?_ (by rw [List.size_toArray] <;> omega)
  rw [slicePick_cut, ← hlen]
  refine ⟨.ref s.heap.objs.size, _, I.laid (t' := s.toks) (o := .lst (cutV xs lo hi)) (fun b ob q => Heap.get?_push_of_some _ q) (Nat.le_refl _) ?_, rfl, q _ (I.hok.fresh (Nat.le_refl _))⟩
  exact ⟨Nat.le_trans (cutV_length xs lo hi) hz, _, 0, (r.drop (HT.sIx xs.length 0 lo)).take (HT.sIx xs.length xs.length hi - HT.sIx xs.length 0 lo), Heap.get?_push_size _ rfl⟩
def flatV : V -> Bool
  | .non => true
  | .bl _ => true
  | .int _ => true
  | .str _ => true
  | _ => false
def eqV : V -> V -> Bool
  | .non, .non => true
  | .bl a, .bl b => a == b
  | .bl a, .int b => (if a then 1 else 0) == b
  | .int a, .bl b => a == (if b then 1 else 0)
  | .int a, .int b => a == b
  | .str a, .str b => a == b
  | _, _ => false
theorem eqAt_V {A : Around} {s : Shared} {y x : V} {u v : Value} (ry : RelV y u) (rx : RelV x v) (fy : flatV y = true) (fx : flatV x = true) : SeqAt.EqAt A s u v (eqV y x) := by
  cases y with
  | non =>
    cases ry
    cases x with
    | non => cases rx; exact SeqAt.EqAt.same _
    | bl b => cases rx; exact SeqAt.EqAt.none_bool b
    | int b => obtain ⟨t, rfl⟩ := rx; exact SeqAt.EqAt.none_int b t
    | str b => obtain ⟨t, rfl⟩ := rx; exact SeqAt.EqAt.none_str b t
    | _ => exact absurd (show false = true from fx) Bool.false_ne_true
  | bl a =>
    cases ry
    cases x with
    | non => cases rx; exact SeqAt.EqAt.bool_none a
    | bl b => cases rx; exact SeqAt.EqAt.bool_bool a b
    | int b => obtain ⟨t, rfl⟩ := rx; exact SeqAt.EqAt.bool_int a b t
    | str b => obtain ⟨t, rfl⟩ := rx; exact SeqAt.EqAt.bool_str a b t
    | _ => exact absurd (show false = true from fx) Bool.false_ne_true
  | int a =>
    obtain ⟨t', rfl⟩ := ry
    cases x with
    | non => cases rx; exact SeqAt.EqAt.int_none a t'
    | bl b => cases rx; exact SeqAt.EqAt.int_bool a t' b
    | int b => obtain ⟨t, rfl⟩ := rx; exact SeqAt.EqAt.int_int a t' b t
    | str b => obtain ⟨t, rfl⟩ := rx; exact SeqAt.EqAt.int_str a t' b t
    | _ => exact absurd (show false = true from fx) Bool.false_ne_true
  | str a =>
    obtain ⟨t', rfl⟩ := ry
    cases x with
    | non => cases rx; exact SeqAt.EqAt.str_none a t'
    | bl b => cases rx; exact SeqAt.EqAt.str_bool a t' b
    | int b => obtain ⟨t, rfl⟩ := rx; exact SeqAt.EqAt.str_int a t' b t
    | str b => obtain ⟨t, rfl⟩ := rx; exact SeqAt.EqAt.str_str a t' b t
    | _ => exact absurd (show false = true from fx) Bool.false_ne_true
  | _ => exact absurd (show false = true from fy) Bool.false_ne_true
def eqU (x : V) (u : Value) : Bool := match u with
  | .none => eqV .non x
  | .bool b => eqV (.bl b) x
  | .int i _ => eqV (.int i) x
  | .str z _ => eqV (.str z) x
  | _ => false
theorem eqU_of {x y : V} {u : Value} (r : RelV y u) (f : flatV y = true) : eqU x u = eqV y x := by
  cases y with
  | non => cases r; rfl
  | bl b => cases r; rfl
  | int i => obtain ⟨t, rfl⟩ := r; rfl
  | str z => obtain ⟨t, rfl⟩ := r; rfl
  | _ => exact absurd (show false = true from f) Bool.false_ne_true
theorem any_eqU {x : V} : ∀ {xs : List V} {us : List Value}, Vals xs us -> xs.all flatV = true -> us.any (eqU x) = xs.any fun y => eqV y x
  | _, _, .nil, _ => rfl
  | y :: xs, u :: us, .cons r t, f => by
    rw [List.all_cons, Bool.and_eq_true] at f
    rw [List.any_cons, List.any_cons, eqU_of r f.1, any_eqU t f.2]
theorem mem_eqAt {A : Around} {s : Shared} {x : V} {v : Value} (rx : RelV x v) (fx : flatV x = true) : ∀ {xs : List V} {us : List Value}, Vals xs us -> xs.all flatV = true -> ∀ u ∈ us, SeqAt.EqAt A s u v (eqU x u)
  | _, _, .nil, _ => fun u hu => by cases hu
  | y :: xs, u :: us, .cons r t, f => fun u' hu => by
    rw [List.all_cons, Bool.and_eq_true] at f
    rcases List.mem_cons.mp hu with rfl | hu
    · rw [eqU_of r f.1]; exact eqAt_V r rx f.1 fx
    · exact mem_eqAt rx fx t f.2 u' hu
def inV (x : V) (xs : List V) : Bool := xs.any fun y => eqV y x
def rIn (K : PySem.W.Frag) (neg : Bool) : R2 := fun x y H Q => ∃ p xs, y = .ref p /\ (SqL K H p xs ∨ SqT K H p xs) /\ flatV x = true /\ xs.all flatV = true /\ Q (.bl (if neg then !inV x xs else inV x xs)) H
theorem op_notIn_seq : OpR X (compareOp .NotIn) (rIn X.K true) := by
  intro pins s σ H x y v u Q I rx ry h
  obtain ⟨p, xs, rfl, hq, fx, fs, q⟩ := h
  cases ry
  rcases hq with hq | hq
  · obtain ⟨its, r, pl, hz⟩ := I.list hq
    refine SeqAt.notIn_listAt (eqU x) pl.isList (fun w hw => mem_eqAt rx fx r fs w (by simpa using hw)) ⟨.bl _, H, I, rfl, ?_⟩
    rw [show its.toArray.any (eqU x) = its.any (eqU x) by simp, any_eqU r fs]
    exact q
  · obtain ⟨its, r, pl, hz⟩ := I.tuple hq
    refine SeqAt.notIn_tupleAt (eqU x) pl (fun w hw => mem_eqAt rx fx r fs w (by simpa using hw)) ⟨.bl _, H, I, rfl, ?_⟩
    rw [show its.toArray.any (eqU x) = its.any (eqU x) by simp, any_eqU r fs]
    exact q
theorem call_len_seq : CallR X (.builtin "len") (fun xs H Q => ∃ p ys, xs = [.ref p] /\ (SqL X.K H p ys ∨ SqT X.K H p ys) /\ Q (.int ys.length) H) := by
  intro pins s σ H xs us Q I r h
  obtain ⟨p, ys, rfl, hq, q⟩ := h
  obtain ⟨u, rfl, rx⟩ := vals1 r
  cases rx
  have hn := line63
  rcases hq with hq | hq
  · obtain ⟨its, r', pl, hz⟩ := I.list hq
    have hlen := r'.length
    exact Calls.call_len_list pl.isList (by simp only [List.size_toArray] <;> omega) ⟨.int ys.length, H, I.tok _, ⟨s.toks + 1, by rw [List.size_toArray, hlen]⟩, q⟩
  · obtain ⟨its, r', pl, hz⟩ := I.tuple hq
    have hlen := r'.length
    exact len_tuple pl (by simp only [List.size_toArray] <;> omega) ⟨.int ys.length, H, I.tok _, ⟨s.toks + 1, by rw [List.size_toArray, hlen]⟩, q⟩
theorem call_list_of : CallR X (.type "list") (fun xs H Q => ∃ p ys, xs = [.ref p] /\ (SqL X.K H p ys ∨ SqT X.K H p ys) /\ ∀ l, H l = none -> Q (.ref l) (upd H l (.lst ys))) := by
  intro pins s σ H xs us Q I r h
  obtain ⟨p, ys, rfl, hq, q⟩ := h
  obtain ⟨u, rfl, rx⟩ := vals1 r
  cases rx
  have fin : ∀ (its : List Value), Vals ys its -> ys.length <= sizeLine -> ∀ (h' : Heap) (c' : Nat), (∀ b o', s.heap.get? b = some o' -> h'.get? b = some o') ->
      h'.get? s.heap.objs.size = some { cls := .type "list", dict := none, data := .seq its.toArray c', slots := #[] } -> EP X pins σ Q (.ref s.heap.objs.size) { s with heap := h' } := fun its r' hz h' c' kp e =>
    ⟨.ref s.heap.objs.size, _, I.laid (t' := s.toks) kp (Nat.le_refl _) (show ObjOk X.prog X.w _ h' _ (.lst ys) from ⟨hz, its, c', r', e⟩), rfl, q _ (I.hok.fresh (Nat.le_refl _))⟩
  rcases hq with hq | hq
  · obtain ⟨its, r', pl, hz⟩ := I.list hq
    have hlen := r'.length
    obtain ⟨o, ho, hc, n, hd⟩ := pl.isList
    exact call_list_seq p (.inl rfl) ho hc hd (fun h' c' kp e => fin its r' hz h' c' kp e) (by simp only [List.size_toArray] <;> omega)
  · obtain ⟨its, r', pl, hz⟩ := I.tuple hq
    have hlen := r'.length
    obtain ⟨o, ho, hc, n, hd⟩ := pl
    exact call_list_seq p (.inr rfl) ho hc hd (fun h' c' kp e => fin its r' hz h' c' kp e) (by simp only [List.size_toArray] <;> omega)
theorem call_tuple_of : CallR X (.type "tuple") (fun xs H Q => ∃ p ys, xs = [.ref p] /\ ((SqL X.K H p ys /\ ∀ l, H l = none -> Q (.ref l) (upd H l (.tup ys))) ∨ (SqT X.K H p ys /\ Q (.ref p) H))) := by
  intro pins s σ H xs us Q I r h
  obtain ⟨p, ys, rfl, h⟩ := h
  obtain ⟨u, rfl, rx⟩ := vals1 r
  cases rx
  rcases h with ⟨hq, q⟩ | ⟨hq, q⟩
  · obtain ⟨its, r', pl, hz⟩ := I.list hq
    have hlen := r'.length
    refine call_tuple_list pl.isList (fun h' kp => ?_) (by simp only [List.size_toArray] <;> omega)
    have I1 : Inv X pins σ H { s with heap := h' } := I.kept (t' := s.toks) kp
    have I2 : Inv X pins σ (upd H h'.objs.size (.tup ys)) { s with heap := h'.push { cls := .type "tuple", data := .seq its.toArray } } :=
      I1.laid (t' := s.toks) (fun b o e => Heap.get?_push_of_some _ e) (Nat.le_refl _) (show ObjOk X.prog X.w _ _ _ (.tup ys) from ⟨hz, its, r', IsTupD.new _ _⟩)
    exact ⟨.ref h'.objs.size, _, I2, rfl, q _ (I1.hok.fresh (Nat.le_refl _))⟩
  · obtain ⟨its, r', pl, hz⟩ := I.tuple hq
    exact call_tuple_same pl ⟨.ref p, H, I, rfl, q⟩
def tyV (K : PySem.W.Frag) (T : String) (x : V) (H : Hp) : Prop := match x with
  | .str _ => T = "str"
  | .int _ => T = "int"
  | .ref p => (T = "list" /\ ∃ xs, SqL K H p xs) ∨ (T = "tuple" /\ ∃ o, K.lookup p = some o /\ o.cls = .type "tuple" /\ o.dict = none) ∨
      (T = "dict" /\ ((∃ kvs, H p = some (.dK kvs)) ∨ ∃ kvs, H p = some (.dT kvs))) ∨ (T = "set" /\ ∃ S n, H p = some (.set S n))
  | _ => False
theorem tyV_is {pins : List (Addr × Obj)} {σ : St} {H : Hp} {s : Shared} {T : String} {x : V} {v : Value} (I : Inv X pins σ H s) (r : RelV x v) (ty : tyV X.K T x H) :
    s.TypeIs v T /\ ∀ a, v = .ref a -> ∃ ob, s.heap.get? a = some ob /\ ob.dict = none := by
  cases x with
  | str z =>
    obtain ⟨t, rfl⟩ := r
    cases (show T = "str" from ty)
    exact ⟨typeIs_str s z t, fun _ e => nomatch e⟩
  | int i =>
    obtain ⟨t, rfl⟩ := r
    cases (show T = "int" from ty)
    exact ⟨typeIs_int s i t, fun _ e => nomatch e⟩
  | ref p =>
    cases r
    rcases ty with ⟨rfl, xs, hq⟩ | ⟨rfl, o, hk, hc, hd⟩ | ⟨rfl, hk⟩ | ⟨rfl, S, n, hk⟩
    · obtain ⟨its, _, pl, _⟩ := I.list hq
      refine ⟨pl.isList.typeIs, fun a e => ?_⟩
      cases e
      obtain ⟨o, n, e, c, hd, _⟩ := pl
      exact ⟨o, e, hd⟩
    · refine ⟨⟨o, I.kIn p o hk, hc⟩, fun a e => ?_⟩
      cases e
      exact ⟨o, I.kIn _ o hk, hd⟩
    · have z : ∃ o, s.heap.get? p = some o /\ o.ExactDict := by
        rcases hk with ⟨kvs, hk⟩ | ⟨kvs, hk⟩
        · obtain ⟨_, _, _, _, o, _, _, e, ex, _⟩ := I.hok p _ hk
          exact ⟨o, e, ex⟩
        · obtain ⟨_, _, _, _, o, _, _, e, ex, _⟩ := I.hok p _ hk
          exact ⟨o, e, ex⟩
      obtain ⟨o, e, ex⟩ := z
      refine ⟨⟨o, e, ex.1⟩, fun a e2 => ?_⟩
      cases e2
      exact ⟨o, e, ex.2.1⟩
    · obtain ⟨o, _, _, _, e, ex, _⟩ := I.hok p _ hk
      refine ⟨⟨o, e, ex.1⟩, fun a e2 => ?_⟩
      cases e2
      exact ⟨o, e, ex.2.1⟩
  | _ => exact False.elim ty
def tBM (K : PySem.W.Frag) (T : String) (r : V -> List V -> Hp -> VK -> Prop) (to : TE) (t : TA) : TE := fun σ H Q => to σ H fun x H1 => tyV K T x H1 /\ t σ H1 fun xs H2 => r x xs H2 Q
variable {o e : Expr} {es : List Expr} {to : TE} {t : TA} {name : Str} {apos cpos : Pos} {T id : String} {r : V -> List V -> Hp -> VK -> Prop}
theorem pe_bm (pa : PlainAttrs T) (slot : Slot T name id) (hty : typeOf (.builtin id) = pure (.type "method_descriptor")) (hm : MtR X id r) (ho : PE X o to) (ha : PA X (e :: es) t)
    (hbase : attributeBase o name X.env (eval o X.env) = eval o X.env := by rfl)
    (hfew : ((backTo cpos (starEach (e :: es) X.env)).all (fun x => !x.1) && (backToKw cpos (keywordEach [] X.env)).all (fun x => x.1.isSome)
      && decide ((e :: es).length + ([] : List Keyword).length + (if ([] : List Keyword).isEmpty then 0 else 1) < 30)) = true := by rfl)
    (hline : (apos.endLine == cpos.line) = true := by rfl) (hs : starEach (e :: es) X.env = (false, eval e X.env) :: starEach es X.env := by rfl) (hplain : (backTo cpos (starEach es X.env)).any (·.1) = false := by rfl) :
    PE X (.Call (.Attribute o name apos) (e :: es) [] cpos) (tBM X.K T r to t) := by
  intro pins s σ H Q I h
  refine wpAny_Call_method_late hbase hfew hline rfl (thn (ho pins s σ H _ I h) fun v s1 ⟨x, H1, I1, r1, ty, q1⟩ => ?_)
  obtain ⟨h1, h2⟩ := tyV_is I1 r1 ty
  refine ⟨T, id, pa, slot, hty, h1, h2, ?_⟩
  have hA := ha cpos pins s1 σ H1 _ I1 q1
  rw [hs] at hA ⊢
  refine Calls.callWith_builtin (by show (false || (backTo cpos (starEach es X.env)).any (·.1)) = false; rw [hplain] <;> rfl) (Calls.evalArgs_plain ?_)
  exact thn hA fun us s2 ⟨vs, H2, I2, r2, q2⟩ => hm pins s2 σ H2 x vs v us Q I2 r1 r2 q2
/- xs.append(e), list.index on a module's tuple .. are MtR facts of 06m -/
end
end L2
namespace L2
open PySem PySem.Spec PyProof.Rows
def MtM (X : Cx) (id : String) (r : V -> List V -> Hp -> VK -> Prop) : Prop :=
  ∀ (pins : List (Addr × Obj)) (s : Shared) (σ : St) (H : Hp) (x : V) (xs : List V) (v : Value) (us : List Value) (Q : VK), Inv X pins σ H s -> RelV x v -> Vals xs us -> r x xs H Q ->
    wpAny (model X.prog X.w) X.A (call (.builtin id) (v :: us)) (EP X pins σ Q) X.xe s
theorem Vals.one : ∀ {x : V} {us : List Value}, Vals [x] us -> ∃ u, us = [u] /\ RelV x u
  | _, _, .cons r .nil => ⟨_, rfl, r⟩
theorem Vals.rep {xs : List V} {us : List Value} (h : Vals xs us) : ∀ k : Nat, Vals (List.replicate k xs).flatten (List.replicate k us).flatten
  | 0 => .nil
  | k + 1 => by
    rw [List.replicate_succ, List.replicate_succ, List.flatten_cons, List.flatten_cons]
    exact Vals.append h (Vals.rep h k)
theorem foldl_rep (its : List Value) : ∀ (k : Nat) (acc : List Value),
    List.foldl (fun x1 x2 => x1 ++ x2) acc.toArray (List.replicate k its.toArray) = (acc ++ (List.replicate k its).flatten).toArray
  | 0, acc => by simp
  | k + 1, acc => by
    have e : acc.toArray ++ its.toArray = (acc ++ its).toArray := by simp
    have e2 : (acc ++ its) ++ (List.replicate k its).flatten = acc ++ (List.replicate (k + 1) its).flatten := by
      rw [List.replicate_succ, List.flatten_cons, List.append_assoc]
    rw [← e2, ← foldl_rep its k (acc ++ its), ← e, List.replicate_succ, List.foldl_cons]
section
variable {X : Cx} {pins : List (Addr × Obj)} {σ : St} {H : Hp} {s : Shared} {l b : Addr} {xs ys zs : List V}
theorem Inv.lset {its its' : List Value} {n : Nat} {f : Array Value -> Array Value} {t' : Nat} (I : Inv X pins σ H s) (hH : H l = some (.lst xs))
    (e : s.heap.get? l = some { cls := .type "list", data := .seq its.toArray n }) (hf : f its.toArray = its'.toArray) (hv : Vals ys its') (hz : ys.length <= sizeLine) :
    Inv X pins σ (upd H l (.lst ys)) { s with heap := s.heap.update l (Obj.mapSeq f), toks := t' } := by
  have q := PySem.IsL.update e f
  rw [hf] at q
  refine I.write (x := l) (e := l) (by rw [hH]; exact trivial) (.inl rfl) (fun b' u hb hu => (Heap.get?_update_other s.heap (Obj.mapSeq f) (Ne.symm hb)).trans hu) ⟨_, q⟩ ?_
  exact ⟨hz, its', _, hv, q⟩
theorem Inv.lnew {its : List Value} {t' : Nat} (I : Inv X pins σ H s) (hv : Vals ys its) (hz : ys.length <= sizeLine) :
    Inv X pins σ (upd H s.heap.objs.size (.lst ys)) { s with heap := s.heap.push { cls := .type "list", data := .seq its.toArray }, toks := t' } :=
  I.laid (fun _ _ q => Heap.get?_push_of_some _ q) (Nat.le_refl _) ⟨hz, its, 0, hv, Heap.get?_push_size _ rfl⟩
theorem Inv.fresh (I : Inv X pins σ H s) : H s.heap.objs.size = none := I.hok.fresh (Nat.le_refl _)
theorem Inv.lstM (I : Inv X pins σ H s) (hH : H l = some (.lst xs)) : xs.length <= sizeLine /\ ∃ (its : List Value) (n : Nat), Vals xs its /\ xs.length = its.length /\ s.heap.get? l = some { cls := .type "list", data := .seq its.toArray n } := by
  obtain ⟨z, its, n, r, e⟩ := I.hok l _ hH
  exact ⟨z, its, n, r, r.length, e⟩
theorem notLongL {n : Nat} (h : n <= sizeLine) : Builtin.List.listTooLong n = false := by
  unfold Builtin.List.listTooLong
  exact decide_eq_false (by omega)
end
section
variable {X : Cx}
def rAppend : V -> List V -> Hp -> VK -> Prop := fun x vs H Q => ∃ l xs y, x = .ref l /\ vs = [y] /\ H l = some (.lst xs) /\ xs.length < sizeLine /\ Q .non (upd H l (.lst (xs ++ [y])))
theorem mt_append : MtM X "list.append" rAppend := by
  intro pins s σ H x vs v us Q I rx rv h
  obtain ⟨l, xs, y, rfl, rfl, hH, hz, q⟩ := h
  cases rx
  obtain ⟨u, rfl, ru⟩ := rv.one
  obtain ⟨z, its, n, r, hl, e⟩ := I.lstM hH
  refine call_meets F.slot_list_append ⟨_, e, rfl⟩ F.entry_list_append (F.args_list_append_2 _ _) (PySem.list_append l its.toArray n u (by rw [List.size_toArray]; omega)) ⟨e, ?_⟩
  refine ⟨.non, _, I.lset (its' := its ++ [u]) hH e (by simp) (r.append (.cons ru .nil)) ?_, rfl, q⟩
  rw [List.length_append, List.length_singleton]
  omega
def rCat : R2 := fun x y H Q => ∃ l b xs zs, x = .ref l /\ y = .ref b /\ H l = some (.lst xs) /\ H b = some (.lst zs) /\ xs.length + zs.length <= sizeLine /\ ∀ p, H p = none -> Q (.ref p) (upd H p (.lst (xs ++ zs)))
theorem op_cat : OpR X (binaryOp .Add) rCat := by
  intro pins s σ H x y v u Q I rx ry h
  obtain ⟨l, b, xs, zs, rfl, rfl, hH, hB, hz, q⟩ := h
  cases rx
  cases ry
  obtain ⟨z, its, n, r, hl, e⟩ := I.lstM hH
  obtain ⟨z2, its2, n2, r2, hl2, e2⟩ := I.lstM hB
  refine PySem.P.add_list e e2 ?_ (by rw [List.size_toArray, List.size_toArray]; omega)
  have ea : its.toArray ++ its2.toArray = (its ++ its2).toArray := by simp
  rw [ea]
  exact ⟨.ref _, _, I.lnew (t' := s.toks) (r.append r2) (by rw [List.length_append]; omega), rfl, q _ I.fresh⟩
def rRep : R2 := fun x y H Q => ∃ l k xs, x = .ref l /\ y = .int k /\ H l = some (.lst xs) /\ -(2 ^ 63) <= k /\ k < 2 ^ 63 /\ xs.length * k.toNat <= sizeLine /\
  ∀ p, H p = none -> Q (.ref p) (upd H p (.lst (List.replicate k.toNat xs).flatten))
theorem len_rep {α : Type} (xs : List α) (k : Nat) : (List.replicate k xs).flatten.length = k * xs.length := by
  induction k with
  | zero => simp
  | succ k ih => rw [List.replicate_succ, List.flatten_cons, List.length_append, ih, Nat.succ_mul, Nat.add_comm]
theorem op_rep : OpR X (binaryOp .Mult) rRep := by
  intro pins s σ H x y v u Q I rx ry h
  obtain ⟨l, k, xs, rfl, rfl, hH, h1, h2, hz, q⟩ := h
  cases rx
  obtain ⟨t, rfl⟩ := ry
  obtain ⟨z, its, n, r, hl, e⟩ := I.lstM hH
  have hlen : its.toArray.size * k.toNat <= sizeLine := by rw [List.size_toArray, ← hl]; exact hz
  have hcap : ¬ its.toArray.size * k.toNat > (2 ^ 63 - 1) / 8 := by
    have : (sizeLine : Nat) <= (2 ^ 63 - 1) / 8 := by decide
    omega
  have hfit : ¬ (!Builtin.List.listFitsIndex k) = true := by
    rw [fitsIndex_both h1 h2]
    exact Bool.false_ne_true
  have hlong : ¬ Builtin.List.listTooLong (its.toArray.size * k.toNat) = true := by
    rw [notLongL hlen]
    exact Bool.false_ne_true
  have hnew : List.foldl (fun x1 x2 => x1 ++ x2) #[] (List.replicate (if its.toArray.isEmpty = true then 0 else k.toNat) its.toArray) = (List.replicate k.toNat its).flatten.toArray := by
    have f0 : ∀ m : Nat, List.foldl (fun x1 x2 => x1 ++ x2) #[] (List.replicate m its.toArray) = (List.replicate m its).flatten.toArray := fun m => by
      have := foldl_rep its m []
      rw [List.nil_append] at this
      exact this
    rw [f0]
    cases its with
    | nil => simp
    | cons a r' => rw [if_neg (by simp)]
  refine wpAny_binaryOp_repeat_ref (T := "list") (U := "int") (by decide) ⟨_, e, rfl⟩ (fun s' => typeIs_int s' k t) noFill_list_mul F.fills_int_mul F.slot_int_rmul repeat_list F.slot_int_index.lookup
    (call_meets F.slot_int_rmul (typeIs_int s k t) F.entry_int_rmul (F.args_int_rmul_2 _ _) (int___rmul___int_list k t l its.toArray n)
      ⟨e, rfl, ⟨_, e, rfl⟩, call_meets F.slot_list_mul ⟨_, e, rfl⟩ F.entry_list_mul (F.args_list_mul_2 _ _) (AutoListH.list___mul___list_int_3 l its.toArray n k t hfit hcap hlong) ⟨e, ?_⟩⟩)
  rw [hnew]
  exact ⟨.ref _, _, I.lnew (t' := s.toks) (r.rep k.toNat) (by rw [len_rep, Nat.mul_comm]; exact hz), rfl, q _ I.fresh⟩
end
end L2
namespace Att
open PySem PySem.W PySem.Calls PyProof.Rows
theorem ints_of_wellAll {P : Params} {h : Heap} : ∀ (ns : List Int) (vs : List Value), WellAll P h vs (ns.map WData.int) -> IntsAre vs ns := by
  intro ns
  induction ns with
  | nil =>
    intro vs w
    rw [List.map_nil] at w
    cases w
    exact .nil
  | cons n ns ih =>
    intro vs w
    rw [List.map_cons] at w
    cases w with
    | cons a b =>
      cases a
      exact .cons _ _ (ih _ b)
theorem script_of {l : OpenLaw} {n : Nat} (hn : l.most = some n) {P : Params} {h : Heap} {args : List WData} {vals : List Value}
    (hpre : l.row.toRowW.claim.pre args = true) (hwl : WellAll P h vals args) :
    ∃ a vs ns, vals = [Value.ref a] /\ args = [WData.list (ns.map WData.int)] /\ h.get? a = some { cls := .type "list", data := .seq vs.toArray } /\ IntsAre vs ns /\ ns.length <= n := by
  have hsh : WShape.hasAll [] args [.list .int] = true := (pre_splitW hpre).1
  have hc : l.pre.holds [] { args := args } = true := (pre_splitW hpre).2
  obtain ⟨d, r, rfl, h1, h2⟩ := hasAllW_cons hsh
  obtain rfl := hasAllW_nil h2
  obtain ⟨xs, rfl, h3⟩ := hasW_list h1
  obtain ⟨ns, rfl⟩ := items_int h3
  have hlen : ns.length <= n := by
    unfold OpenLaw.pre at hc
    have h4 : (WTm.not (.lt (.lit (.int (n : Int))) (.len (.arg 0)))).holds [] { args := [.list (ns.map .int)] } = true := by
      have h4 := (holds_andW hc).1
      rw [hn] at h4
      exact h4
    have h5 := condW_of h4 (w_not (w_lt w_lit (w_len_list (w_arg rfl))))
    rw [List.length_map] at h5
    refine Nat.le_of_not_lt fun q => ?_
    have q' : (n : Int) < ((ns.length : Nat) : Int) := by omega
    first
      | (rw [decide_eq_true q'] at h5; exact absurd h5 (by decide))
      | (simp at h5; omega)
  cases hwl with
  | cons w1 w2 =>
    cases w2
    cases w1 with
    | list ho hall => exact ⟨_, _, ns, rfl, rfl, ho, ints_of_wellAll ns _ hall, hlen⟩
theorem post_true (l : OpenLaw) (args : List WData) : l.row.toRowW.claim.post args (.bool true) args = true :=
  postW_of (r := l.row.toRowW) (X := (true == true))
    (show WShape.has [] (.bool true) .bool = true by first | rfl | decide | simp [WShape.has, WShape.arms, WShape.armsAll])
    (show (WTm.eq .res (.lit (.bool true))).value [] { args := args, res := some (.bool true), after := args } = some (.bool (true == true)) from w_eq_bool (w_res rfl) w_lit) rfl
theorem attach_call {l : OpenLaw} {n : Nat} {q : Program} {loose : List Str} {XP : (Str -> Option Value) -> Heap -> Prop} {YP : World -> Heap -> Prop} {d : DefRec}
    (hn : l.most = some n) (hdf : d.params.defaults = [])
    (call : ∀ (w : World) (s₀ s₁ : Shared) (mg mb : Str -> Option Value) (fa : Addr) (o : Obj) (pm cd doc : Value) (a : Addr) (vs : List Value) (ns : List Int),
      Ground q loose [] XP w s₀ mg mb s₁.heap -> YP w s₁.heap ->
      s₁.heap.get? fa = some o -> o.data = .func (docDef d.name d.params d.body d.scope pm cd doc) -> s₁.heap.CodeRec cd d.name -> mg d.name = some (.ref fa) ->
      s₁.heap.get? a = some { cls := .type "list", data := .seq vs.toArray } -> IntsAre vs ns -> ns.length <= n -> s₁.gens = #[] ->
      codeAny (model l.prog w) callerA (.call (.ref fa) ⟨[.ref a], []⟩) (fun r s' => r = .ok (.ret (.bool true)) /\ OldK s₁.heap s'.heap /\ s'.os = s₁.os /\ AllBare s'.gens) s₁) :
    WalkO q loose XP YP l.row.toRowW d [] (fun f vs => PySem.call f vs) := by
  intro w s₀ s₁ mg mb G Y fa o pm cd doc dV kV ho hd hcd hD hmg hg args vals as hpre hlay hrd hwl hlo
  obtain rfl : dV = .none := Dflts.none hD hdf
  obtain rfl : kV = .none := Dflts.noKw hD
  obtain ⟨a, vs, ns, rfl, rfl, hobj, hints, hlen⟩ := script_of hn hpre hwl
  refine enter_call (codeAny_mono (call w s₀ s₁ mg mb fa o pm cd doc a vs ns G Y ho (fd_plain hd) hcd hmg hobj hints hlen hg) fun r s' hq => ?_)
  obtain ⟨rfl, h2, h3, h4⟩ := hq
  exact ⟨.inl ⟨.bool true, .bool true, [], rfl, fun _ => rfl, .bool true, post_true l _, fun _ => ⟨List.Pairwise.nil, fun _ hm => (nomatch hm)⟩⟩, h2, h3, h4⟩
end Att
namespace L2
open PySem PySem.Spec PyProof.Rows
theorem vals_ints : ∀ {vs : List Value} {ns : List Int}, IntsAre vs ns -> Vals (ns.map V.int) vs
  | _, _, .nil => .nil
  | _, _, .cons n t h => .cons ⟨t, rfl⟩ (vals_ints h)
def Only (H : Hp) : Prop := ∀ b, H b = none ∨ ∃ o xs, H b = some (.frz o (.lst xs))
theorem law_call {P : Program} {w : World} {K : PySem.W.Frag} {mg mb : Str -> Option Value} {CX : CXT} {k : Nat} {fa a : Addr} {fd : FuncData} {x : Str} {sp : Sp} {s₁ : Shared} {vs : List Value} {ns : List Int}
    (KX : K.In s₁.heap) (hns : s₁.heap.Ns mainGlobals mg) (hb : s₁.heap.Ns builtinsNs mb) (hbb : ∀ x : Str, x ≠ "__name__" -> mb x = bootBuiltins x) (hlim : s₁.heap.NoLimit) (hg : s₁.gens = #[])
    (ha : s₁.heap.get? a = some { cls := .type "list", data := .seq vs.toArray }) (hi : IntsAre vs ns) (hl : ns.length <= sizeLine) (hr : Room k callerA)
    (F : ∀ base : Heap, K.In base -> base.Ns mainGlobals mg -> FnOk P w K mg base CX k fa fd [x] sp) (hbind : ∀ (s : Shared) (u : Value), BindsTo s fd ⟨[u], []⟩ [(x, u)])
    (hsp : ∀ H : Hp, Only H -> SqL K H a (ns.map V.int) -> sp [.ref a] H (fun v _ => v = .bl true) fun _ _ _ => False)
    (hCX : ∀ H e s', CX [] H s₁ (fun _ _ _ => False) e s' -> False) :
    codeAny (model P w) callerA (.call (.ref fa) ⟨[.ref a], []⟩) (fun r s' => r = .ok (.ret (.bool true)) /\ OldK s₁.heap s'.heap /\ s'.os = s₁.os /\ AllBare s'.gens) s₁ := by
  have rv := vals_ints hi
  have lenV := hi.length
  have core : ∀ H : Hp, Only H -> SqL K H a (ns.map V.int) -> HOk P w H s₁.heap -> (∀ b, H b ≠ none -> b = a) -> (H a ≠ none -> K.lookup a = none) ->
      codeAny (model P w) callerA (.call (.ref fa) ⟨[.ref a], []⟩) (fun r s' => r = .ok (.ret (.bool true)) /\ OldK s₁.heap s'.heap /\ s'.os = s₁.os /\ AllBare s'.gens) s₁ := by
    intro H hO hS hok hA hK
    have base_of : ∀ {b : Addr} {o : Obj}, s₁.heap.get? b = some o -> H b = none -> (hidT s₁.heap H).get? b = some o := fun e n => hidT_get e n
    have noA : ∀ {b : Addr} {o : Obj} {es : Array DictEntry} {ep : Nat}, s₁.heap.get? b = some o -> o.data = .dict es ep -> H b = none := fun {b o es ep} e d => by
      cases q : H b with
      | none => rfl
      | some u =>
        have e' : b = a := hA b (by rw [q]; simp)
        subst e'
        rw [ha] at e; cases e
        have d' : Data.seq vs.toArray _ = Data.dict es ep := d
        cases d'
    have nsK : ∀ {b : Addr} {m : Str -> Option Value}, s₁.heap.Ns b m -> (hidT s₁.heap H).Ns b m := fun {b m} ⟨o, es, ep, e, d, r⟩ => ⟨o, es, ep, base_of e (noA e d), d, r⟩
    have hKb : K.In (hidT s₁.heap H) := fun b o e => base_of (KX b o e) (by
      cases q : H b with
      | none => rfl
      | some u =>
        have e' : b = a := hA b (by rw [q]; simp)
        subst e'
        rw [hK (by rw [q]; simp)] at e; cases e)
    have hM : Mod K mg (hidT s₁.heap H) := ⟨hKb, nsK hns, ⟨mb, nsK hb, hbb⟩, let ⟨mc, h1, h2⟩ := hlim; ⟨mc, nsK h1, h2⟩⟩
    have e0 : Env0 P w K mg (hidT s₁.heap H) callerA [] s₁ H := ⟨rfl, hM, fun b o e => of_hidT e, Nat.le_of_eq (hidT_size _ _), trivial, fun b hb => absurd (show b ∈ ([] : List Addr) from hb) (by simp), hok, .of_eq hg⟩
    refine codeAny_mono ((F _ hKb (nsK hns)).run callerA [] s₁ H ⟨[.ref a], []⟩ [.ref a] [.ref a] _ _ hr e0 (hbind s₁ (.ref a)) (.cons rfl .nil) (hsp H hO hS)) fun r s' h => ?_
    cases r with
    | error e => exact (hCX H e s' h).elim
    | ok fl =>
      cases fl with
      | next => exact False.elim h
      | brk => exact False.elim h
      | cont => exact False.elim h
      | ret u =>
        obtain ⟨v, H', os, bare, un, hok', r', q⟩ := h
        have q' : v = .bl true := q
        subst q'
        obtain rfl : u = Value.bool true := r'
        refine ⟨rfl, OldK.of_keep fun b o e => ?_, os, bare⟩
        cases q : H b with
        | none => exact un.keep b o e q (by intro z; exact absurd (show b ∈ ([] : List Addr) from z) (by simp)) (by simp)
        | some u =>
          rcases hO b with z | ⟨ob, xs, z⟩
          · rw [q] at z; cases z
          · have z2 := un.frzs b ob _ z
            obtain ⟨e1, _⟩ := hok b _ z
            obtain ⟨e2, _⟩ := hok' b _ z2
            rw [e] at e1; cases e1
            exact e2
  cases hk : K.lookup a with
  | some o =>
    have e := KX a o hk
    rw [ha] at e
    cases e
    refine core (fun _ => none) (fun _ => .inl rfl) (.inr ⟨_, vs.toArray, _, hk, rfl, rfl, rfl, by rw [List.size_toArray, lenV]; exact hl, by simpa using rv⟩) (fun b u z => by have z' : (none : Option HO) = some u := z; cases z') (fun b z => absurd rfl z) fun z => absurd rfl z
  | none =>
    refine core (fun b => if b = a then some (.frz { cls := .type "list", data := .seq vs.toArray } (.lst (ns.map V.int))) else none) (fun b => ?_) (.inl (.inr ⟨{ cls := .type "list", data := .seq vs.toArray }, if_pos rfl⟩)) (fun b u z => ?_) (fun b z => ?_) fun _ => hk
    · by_cases hb : b = a
      · exact .inr ⟨_, _, if_pos hb⟩
      · exact .inl (if_neg hb)
    · by_cases hb : b = a
      · have z' := (if_pos hb).symm.trans z
        cases z'
        subst hb
        exact ⟨ha, by rw [List.length_map]; exact hl, vs, _, rv, ha⟩
      · have z' := (if_neg hb).symm.trans z
        cases z'
    · by_cases hb : b = a
      · exact hb
      · exact absurd (if_neg hb) z
end L2
namespace L2
open PySem PySem.Spec PyProof.Rows
theorem walk_of {l : PySem.W.OpenLaw} {n k : Nat} {q : Program} {loose : List Str} {XP : (Str -> Option Value) -> Heap -> Prop} {YP : World -> Heap -> Prop} {d : DefRec} {K : Params -> PySem.W.Frag} {CX : World -> CXT} {sp : World -> Sp} {x : Str}
    (hn : l.most = some n) (hn2 : n <= sizeLine) (hdf : d.params.defaults = []) (hr : Room k callerA)
    (hY : ∀ (w : World) (h : Heap), YP w h -> (K w.params).In h)
    (F : ∀ (w : World) (mg : Str -> Option Value) (fa : Addr) (h : Heap), (K w.params).In h -> h.Ns mainGlobals mg -> mg d.name = some (.ref fa) ->
      ∃ fd : FuncData, (∀ (s : Shared) (u : Value), BindsTo s fd ⟨[u], []⟩ [(x, u)]) /\
        ∀ base : Heap, (K w.params).In base -> base.Ns mainGlobals mg -> FnOk l.prog w (K w.params) mg base (CX w) k fa fd [x] (sp w))
    (hsp : ∀ (w : World) (H : Hp) (a : Addr) (ns : List Int), ns.length <= n -> Only H -> SqL (K w.params) H a (ns.map V.int) -> sp w [.ref a] H (fun v _ => v = .bl true) fun _ _ _ => False)
    (hCX : ∀ (w : World) (H : Hp) (s : Shared) (e : Value) (s' : Shared), CX w [] H s (fun _ _ _ => False) e s' -> False) :
    PySem.W.WalkO q loose XP YP l.row.toRowW d [] (fun f vs => PySem.call f vs) := by
  refine Att.attach_call hn hdf fun w s₀ s₁ mg mb fa o pm cd doc a vs ns G Y ho hd hcd hmg hobj hints hlen hg => ?_
  have KX := hY w _ Y
  obtain ⟨fd, hb, hF⟩ := F w mg fa _ KX G.T.g hmg
  exact law_call KX G.T.g G.T.b G.T.builtins G.T.nolimit hg hobj hints (Nat.le_trans hlen hn2) hr hF hb (fun H hO hS => hsp w H a ns hlen hO hS) fun H e s' => hCX w H s₁ e s'
end L2
/- THE LAST THEOREM (shape; LID, My.* are yours):
   My.Adr: a structure of the addresses that your layer names (classes, functions); My.Txt K t: a structure (Prop) of the equations over K;
   My.txt_mk : {K} {implicit addresses ..} (e1 : nsIn K mainGlobals "law" = some (some (.ref f))) (e2 : K.lookup f = some ⟨oc, od, .func (fnOf "law" "law" params body scope dV kV doc pm an cdv ct), sl⟩) (e3 : codeIn K cdv "law" = true) .. : ∃ t, My.Txt K t
set_option maxRecDepth 100000 in
set_option maxHeartbeats 0 in
theorem PySem.Challenge.cw_LID_holds : PySem.Challenge.rw_LID.Holds := by
  w_on; o_law; k_head; (case hw => w_witness2)
  k_fill
  refine L2.walk_of (l := PySem.Challenge.rw_LID) (n := 63) (k := 40) (x := "script") (CX := fun w => ..) (sp := fun _ => My.sp_law) rfl (by decide) rfl ⟨rfl, by decide, by decide⟩ (fun w h Y => PySem.W.kIn_of Y) ?F ?S ?C
  case F =>
    intro w mg fa h KX G hmg
    have T : ∃ t, My.Txt (L2.KOf KX) t := by
      dsimp only [L2.KOf]                          -- K must stand as «<heap const> w.params» for k_is
      refine' My.txt_mk ?e1 ?e2 ?e3 ..
      (case e1 => PySem.W.k_is)                    -- in the order: a name -> its address -> its object -> its parts
      (case e2 => PySem.W.k_is)
      ..
    obtain ⟨t, T⟩ := T
    have e0 := hmg.symm.trans (PySem.W.mg_of KX G T.law)
    cases e0                                       -- fa is the law's own address
    exact ⟨_, fun s u => .of_eq rfl, fun base kb nb => My.law_fn T kb nb⟩     -- if «.of_eq rfl» comes too early: refine' ⟨_, ?b, fun base kb nb => My.law_fn T kb nb⟩; exact fun s u => .of_eq rfl
  case S => exact fun w H a ns hl hO hS => ..
  case C => exact ..
(the tactic k_is has no namespace: write k_is) -/
namespace L2
open PySem PySem.Spec PyProof.Rows
def defArgs (s : Stmt) : Arguments := match s with
  | .FunctionDef _ a _ _ _ _ _ _ _ _ => a
  | _ => { posonlyargs := [], args := [], vararg := none, kwonlyargs := [], kw_defaults := [], kwarg := none, defaults := [] }
def defBody (s : Stmt) : List Stmt := match s with
  | .FunctionDef _ _ b _ _ _ _ _ _ _ => b
  | _ => []
def defScope (s : Stmt) : Scope := match s with
  | .FunctionDef _ _ _ _ _ _ sc _ _ _ => sc
  | _ => { kind := .function, names := [], isGenerator := false, isCoroutine := false }
abbrev CX0 : CXT := fun _ _ _ _ _ _ => False
abbrev E0 : XK := fun _ _ _ => False
theorem pass0 {X : Cx} : Passes CX0 X E0 := fun _ _ _ _ _ _ _ h => h.elim
structure Fun (K : PySem.W.Frag) (x qual : Str) (st : Stmt) (f : Addr) (fd : FuncData) : Prop where
  ex : ∃ (oc : Value) (od : Option Addr) (kV doc pm : Value) (an : Option Addr) (cdv ct : Value) (osl : Array (Option Value)),
    fd = PySem.W.fnOf x qual (defArgs st) (defBody st) (defScope st) .none kV doc pm an cdv ct /\ K.lookup f = some ⟨oc, od, .func fd, osl⟩ /\ PySem.W.codeIn K cdv qual = true
  kp : PySem.W.keepIn K (.ref f) = true
section
variable {P : Program} {w : World} {K : PySem.W.Frag} {mg : Str -> Option Value} {base : Heap}
theorem Fun.ok {x qual : Str} {st : Stmt} {f : Addr} {fd : FuncData} {N ps : List Str} {k : Nat} {sp : Sp} (F : Fun K x qual st f fd) (S : FnScope N ps (defScope st)) (len : ∀ vs H Q E, sp vs H Q E -> vs.length = ps.length)
    (hbody : ∀ (cdv : Value) (A : Around) (outer : List Env) (s : Shared) (H : Hp) (vs : List V) (Q : VK) (E : XK), Room k (A.deeper (envOfC qual (defScope st) s.heap.objs.size f cdv)) -> sp vs H Q E ->
      ∃ t, PSs (cxOf CX0 P w K mg base N qual (defScope st) f cdv A outer s H E).nox (defBody st) t /\ t { nx := fun _ H' => Q .non H', rt := Q } (start N vs) H) : FnOk P w K mg base CX0 (k + 1) f fd ps sp := by
  obtain ⟨oc, od, kV, doc, pm, an, cdv, ct, osl, rfl, lk, hcd⟩ := F.ex
  refine fn_of lk hcd S len fun A outer s H vs Q E hr hsp => ?_
  obtain ⟨t, h, q⟩ := hbody cdv A outer s H vs Q E hr hsp
  exact ⟨t, h.nox, q⟩
theorem Fun.binds {x qual : Str} {st : Stmt} {f : Addr} {fd : FuncData} {ps : List Str} (F : Fun K x qual st f fd)
    (h : ∀ (kV doc pm : Value) (an : Option Addr) (cdv ct : Value) (us : List Value), us.length = ps.length -> bindArgs (PySem.W.fnOf x qual (defArgs st) (defBody st) (defScope st) .none kV doc pm an cdv ct) ⟨us, []⟩ = pure (ps.zip us)) : Binds K fd ps [] := by
  obtain ⟨oc, od, kV, doc, pm, an, cdv, ct, osl, rfl, lk, hcd⟩ := F.ex
  exact .all (h kV doc pm an cdv ct)
theorem fun_mk {x qual : Str} {st : Stmt} {f : Addr} {oc : Value} {od an : Option Addr} {osl : Array (Option Value)} {kV doc pm cdv ct : Value} (l : K.lookup f = some ⟨oc, od, .func (PySem.W.fnOf x qual (defArgs st) (defBody st) (defScope st) .none kV doc pm an cdv ct), osl⟩)
    (c : PySem.W.codeIn K cdv qual = true) (k : PySem.W.keepIn K (.ref f) = true) : Fun K x qual st f (PySem.W.fnOf x qual (defArgs st) (defBody st) (defScope st) .none kV doc pm an cdv ct) := ⟨⟨oc, od, kV, doc, pm, an, cdv, ct, osl, rfl, l, c⟩, k⟩
end
theorem hu_of {A : Around} {k : Nat} (hr : Room k A) : A.units + 1 < cLine := Nat.lt_of_le_of_lt (Nat.add_le_add_left (by decide : 1 <= 64) _) hr.units
section
variable {X : Cx}
theorem pv (i : Nat) {x : Str} {pos : Pos} (hN : X.N[i]? = some x := by rfl) (hv : Vis X.env.scope x := by first | exact Or.inl rfl | exact Or.inr (Or.inl rfl) | exact Or.inr (Or.inr rfl)) (hd : (x == ("__debug__" : Str)) = false := by decide)
    (hcd : (x == ("__classdict__" : Str)) = false := by decide) : PE X (.Name x pos) (tVar i) := pe_var hN hv hd hcd
end
theorem iteF {A B : Prop} (h : B) : if false = true then A else B := by
  rw [if_neg Bool.false_ne_true]
  exact h
theorem iteT {A B : Prop} (h : A) : if true = true then A else B := by
  rw [if_pos rfl]
  exact h
theorem ite2 {c A B : Prop} [Decidable c] (h1 : c -> A) (h2 : ¬ c -> B) : if c then A else B := by
  by_cases h : c
  · rw [if_pos h]
    exact h1 h
  · rw [if_neg h]
    exact h2 h
def Same (H H' : Hp) : Prop := ∀ b o, H b = some o -> H' b = some o
theorem Same.refl (H : Hp) : Same H H := fun _ _ h => h
theorem Same.trans {H H1 H2 : Hp} (a : Same H H1) (b : Same H1 H2) : Same H H2 := fun c o h => b c o (a c o h)
theorem Same.free {H H' : Hp} (e : Same H H') {l : Addr} (h : H' l = Option.none) : H l = Option.none := by
  cases q : H l with
  | none => rfl
  | some o =>
    rw [e l o q] at h
    cases h
end L2
set_option maxHeartbeats 4000000
namespace L2
open PySem PySem.Spec PyProof.Rows
def rIsi (K : PySem.W.Frag) : List V -> Hp -> VK -> Prop := fun xs H Q => ∃ x T t b, xs = [x, .ty T] /\ TyOf K H x t /\ PySem.W.kitOne K t (.type T) = some b /\ Q (.bl b) H
section
variable {X : Cx}
theorem call_isi : CallR X (.builtin "isinstance") (rIsi X.K) := by
  intro pins s σ H xs us Q I r h
  obtain ⟨x, T, t, b, rfl, ty, e, q⟩ := h
  obtain ⟨u, w', rfl, rx, rT⟩ := vals2 r
  cases (show w' = Value.type T from rT)
  exact isinst_ok I rx ty e fun tk => ⟨.bl b, H, I.tok _, rfl, q⟩
theorem vals_bl : ∀ {bs : List Bool} {us : List Value}, Vals (bs.map V.bl) us -> us = bs.map Value.bool
  | [], _, r => by rw [List.map_nil] at r; cases r; rfl
  | b :: bs, _, r => by
    rw [List.map_cons] at r
    cases r with
    | cons r1 r2 =>
      cases (show _ = Value.bool b from r1)
      rw [vals_bl r2]
      rfl
theorem all_range (bs : List Bool) : ((List.range bs.length).all fun i => bs.getD i true) = bs.all id := by
  rw [Bool.eq_iff_iff, List.all_eq_true, List.all_eq_true]
  constructor
  · intro h b hb
    obtain ⟨i, hi, rfl⟩ := List.getElem_of_mem hb
    have := h i (List.mem_range.mpr hi)
    rw [List.getD_eq_getElem?_getD, List.getElem?_eq_getElem hi] at this
    exact this
  · intro h i hi
    have hi' := List.mem_range.mp hi
    rw [List.getD_eq_getElem?_getD, List.getElem?_eq_getElem hi']
    exact h _ (List.getElem_mem hi')
theorem call_all (hc : X.calm = true) : CallR X (.builtin "all") (fun xs H Q => ∃ (p : Addr) (bs : List Bool), xs = [.ref p] /\ SqL X.K H p (bs.map V.bl) /\ Q (.bl (bs.all id)) H) := by
  intro pins s σ H xs us Q I r h
  obtain ⟨p, bs, rfl, hq, q⟩ := h
  obtain ⟨u, rfl, ru⟩ := vals1 r
  cases ru
  obtain ⟨its, rv, pl, hz⟩ := I.list hq
  have ei := vals_bl rv
  subst ei
  have hp : p < s.heap.objs.size := by obtain ⟨_, _, e, _⟩ := pl; exact Heap.lt_size e
  have hd : X.A.in1.handled = none := I.ok.hd hc
  refine call_all_walk (wpAny_pyIter_list pl.isList ?_)
  refine ⟨s.heap.objs.size, _, _, _, _, _, (fun i => bs.getD i true), rfl, Walks.list hd s.heap.objs.size p (Nat.ne_of_lt hp) (bs.map Value.bool).toArray, ⟨⟨_, Heap.get?_push_size _ rfl, rfl, rfl⟩, pl.isList.push _⟩, ?_, ?_⟩
  · intro i v s' Q' E' hv hQ
    have hv' : (bs.map Value.bool)[i]? = some v := by simpa using hv
    rw [List.getElem?_map] at hv'
    cases e : bs[i]? with
    | none => rw [e] at hv'; cases hv'
    | some b =>
      rw [e] at hv'
      cases hv'
      have hQ' : Q' (bs.getD i true) s' := hQ
      rw [List.getD_eq_getElem?_getD, e] at hQ'
      exact wpAny_truthy_bool hQ'
  · intro h' tk hk
    refine ⟨.bl (bs.all id), H, I.kept fun b o e => hk b o ?_ (Heap.get?_push_of_some _ e), ?_, q⟩
    · intro z
      rw [List.mem_singleton.mp z] at e
      exact absurd (Heap.lt_size e) (Nat.lt_irrefl _)
    · show Value.bool _ = Value.bool _
      rw [← all_range bs]
      simp
def rInsert : V -> List V -> Hp -> VK -> Prop := fun x vs H Q => ∃ l xs i y, x = .ref l /\ vs = [.int i, y] /\ H l = some (.lst xs) /\ 0 <= i /\ i < 2 ^ 63 /\ xs.length < sizeLine /\
  Q .non (upd H l (.lst (xs.take (min i.toNat xs.length) ++ y :: xs.drop (min i.toNat xs.length))))
theorem insert_arr (its : List Value) (k : Nat) (u : Value) : (its.toArray.extract 0 k).push u ++ its.toArray.extract k = (its.take k ++ u :: its.drop k).toArray := by
  apply Array.toList_inj.mp
  simp
  exact List.take_of_length_le (by simp)
theorem mt_insert : MtM X "list.insert" rInsert := by
  intro pins s σ H x vs v us Q I rx rv h
  obtain ⟨l, xs, i, y, rfl, rfl, hH, h0, h1, hz, q⟩ := h
  cases rx
  obtain ⟨ui, uy, rfl, ⟨t, rfl⟩, ry⟩ := vals2 rv
  obtain ⟨z, its, n, r, hl, e⟩ := I.lstM hH
  have hfit : ¬ (!Builtin.List.listFitsIndex i) = true := by
    rw [fitsIndex_both (by omega) h1]
    exact Bool.false_ne_true
  refine call_meets F.slot_list_insert ⟨_, e, rfl⟩ F.entry_list_insert (F.args_list_insert_3 _ _ _) (AutoListH.list_insert_list_int_val_1 l its.toArray n i t uy hfit (by rw [List.size_toArray]; omega)) ⟨e, ?_⟩
  refine ⟨.non, _, I.lset (its' := its.take (min i.toNat xs.length) ++ uy :: its.drop (min i.toNat xs.length)) hH e ?_ ((r.take _).append (.cons ry (r.drop _))) ?_, rfl, q⟩
  · have hk : (if i < 0 then (i + ((its.toArray.size : Nat) : Int)).toNat else min i.toNat its.toArray.size) = min i.toNat xs.length := by
      rw [if_neg (by omega), List.size_toArray, hl]
    show ((its.toArray.extract 0 (if i < 0 then (i + ((its.toArray.size : Nat) : Int)).toNat else min i.toNat its.toArray.size)).push uy ++ its.toArray.extract (if i < 0 then (i + ((its.toArray.size : Nat) : Int)).toNat else min i.toNat its.toArray.size)) = _
    rw [hk, insert_arr]
  · simp only [List.length_append, List.length_take, List.length_cons, List.length_drop]
    omega
end
end L2
namespace L2
open PySem PySem.Spec PyProof.Rows
def pick (js : List (Option Nat)) (σ : St) : St := js.map fun o => o.bind fun j => (σ[j]?).join
theorem pick_get {js : List (Option Nat)} {σ : St} {i : Nat} {v : V} (h : (pick js σ)[i]? = some (some v)) : ∃ j, js[i]? = some (some j) /\ σ[j]? = some (some v) := by
  unfold pick at h
  rw [List.getElem?_map] at h
  cases e : js[i]? with
  | none => rw [e] at h; cases h
  | some o =>
    rw [e] at h
    have h' : (o.bind fun j => (σ[j]?).join) = some v := Option.some.inj h
    cases o with
    | none => cases h'
    | some j =>
      refine ⟨j, rfl, ?_⟩
      have h2 : (σ[j]?).join = some v := h'
      cases e2 : σ[j]? with
      | none => rw [e2] at h2; cases h2
      | some q =>
        rw [e2] at h2
        have h3 : q = some v := h2
        rw [h3]
structure CompOk (X : Cx) (scope : Scope) (cl : List (Str × Addr)) (N : List Str) (js : List (Option Nat)) : Prop where
  clos : closureFor scope X.env = pure cl
  nocell : ∀ y ∈ scope.names, y.2 ≠ .cell
  kind : scope.kind = .function
  names : ∀ y ∈ scope.names, y.2 = .local -> scope.names.lookup y.1 = some .local
  sub : ∀ x c, cl.lookup x = some c -> X.env.cells.lookup x = some c
  has : ∀ x, ((relabel scope X.env).names.lookup x = some .cell ∨ (relabel scope X.env).names.lookup x = some .free) -> ∃ c, cl.lookup x = some c
  len : js.length = N.length
  seen : ∀ (i j : Nat) (x : Str), N[i]? = some x -> js[i]? = some (some j) -> X.N[j]? = some x /\ X.env.scope.names.lookup x = some .cell /\ ((relabel scope X.env).names.lookup x = some .cell ∨ (relabel scope X.env).names.lookup x = some .free)
abbrev compCx (X : Cx) (scope : Scope) (cl : List (Str × Addr)) (N : List Str) (fp : List Addr) (pins : List (Addr × Obj)) (s : Shared) (H : Hp) (E : Value -> Shared -> Prop) : Cx :=
  { X with N := N, s₀ := s, H₀ := H, env := compEnvC scope cl s.heap.objs.size X.env, outer := X.stack, ex := fp, fn := fun _ => false, pn := X.pn ++ pins, xe := E }
def CompW (J : It) (D : Addr) (js : List (Option Nat)) (g : TG) (tc : TT) (te : TE) (σ : St) (H1 : Hp) (Q : VK) : Prop :=
  ∃ W : Nat -> Nat -> St -> Hp -> List V -> Prop, (∃ m, W 0 m (pick js σ) (upd H1 D (.lst [])) []) /\ ∀ i m σ' H' ys, W i m σ' H' ys -> H' D = some (.lst ys) /\
    ((J.stop i H' /\ Q (.ref D) H') ∨ (J.go i H' /\ ys.length < sizeLine /\ ∃ N : St -> Hp -> List V -> Prop, (∀ σ2 H2 zs, N σ2 H2 zs -> ∃ m', m' < m /\ W (i + 1) m' σ2 H2 zs) /\ ∀ x H2, J.yld i H' x H2 -> g x σ' H2 fun σ2 H3 => tc σ2 H3 fun k H5 =>
      if k = true then te σ2 H5 fun y H4 => H4 D = some (.lst ys) /\ N σ2 (upd H4 D (.lst (ys ++ [y]))) (ys ++ [y]) else H5 D = some (.lst ys) /\ N σ2 H5 ys))
def tComp (js : List (Option Nat)) (wi : TI) (g : TG) (tc : TT) (te : TE) : TE := fun σ H Q => wi σ H fun J H1 => ∀ D, H1 D = none -> CompW J D js g tc te σ H1 Q
theorem comp_gen {J : It} {n : Nat} {D : Addr} {js : List (Option Nat)} {g : TG} {tc : TT} {te : TE} {σ : St} {H1 : Hp} {Q : VK} (hn : n <= sizeLine) (Pv : Nat -> St -> Hp -> List V -> Prop) (h0 : Pv 0 (pick js σ) (upd H1 D (.lst [])) [])
    (hp : ∀ i σ' H' ys, i <= n -> Pv i σ' H' ys -> H' D = some (.lst ys) /\ ys.length <= i) (hgo : ∀ i σ' H' ys, i < n -> Pv i σ' H' ys -> J.go i H') (hst : ∀ σ' H' ys, Pv n σ' H' ys -> J.stop n H' /\ Q (.ref D) H')
    (hs : ∀ i σ' H' ys x H2, i < n -> Pv i σ' H' ys -> J.yld i H' x H2 -> g x σ' H2 fun σ2 H3 => tc σ2 H3 fun k H5 =>
      if k = true then te σ2 H5 fun y H4 => H4 D = some (.lst ys) /\ Pv (i + 1) σ2 (upd H4 D (.lst (ys ++ [y]))) (ys ++ [y]) else H5 D = some (.lst ys) /\ Pv (i + 1) σ2 H5 ys) :
    ∃ W : Nat -> Nat -> St -> Hp -> List V -> Prop, (∃ m, W 0 m (pick js σ) (upd H1 D (.lst [])) []) /\ ∀ i m σ' H' ys, W i m σ' H' ys -> H' D = some (.lst ys) /\
      ((J.stop i H' /\ Q (.ref D) H') ∨ (J.go i H' /\ ys.length < sizeLine /\ ∃ N : St -> Hp -> List V -> Prop, (∀ σ2 H2 zs, N σ2 H2 zs -> ∃ m', m' < m /\ W (i + 1) m' σ2 H2 zs) /\ ∀ x H2, J.yld i H' x H2 -> g x σ' H2 fun σ2 H3 => tc σ2 H3 fun k H5 =>
        if k = true then te σ2 H5 fun y H4 => H4 D = some (.lst ys) /\ N σ2 (upd H4 D (.lst (ys ++ [y]))) (ys ++ [y]) else H5 D = some (.lst ys) /\ N σ2 H5 ys)) := by
  refine ⟨fun i m σ' H' ys => m = n - i /\ i <= n /\ Pv i σ' H' ys, ⟨n, rfl, Nat.zero_le _, h0⟩, ?_⟩
  rintro i m σ' H' ys ⟨rfl, hi, p⟩
  obtain ⟨hD, hy⟩ := hp i σ' H' ys hi p
  refine ⟨hD, ?_⟩
  by_cases hlt : i < n
  · exact .inr ⟨hgo i σ' H' ys hlt p, by omega, Pv (i + 1), fun σ2 H2 zs p' => ⟨n - (i + 1), by omega, rfl, hlt, p'⟩, fun x H2 y => hs i σ' H' ys x H2 hlt p y⟩
  · have e : i = n := by omega
    subst e
    exact .inl (hst σ' H' ys p)
def PTs (X : Cx) (cs : List Expr) (t : TT) : Prop :=
  ∀ (pins : List (Addr × Obj)) (s : Shared) (σ : St) (H : Hp) (Q : Bool -> Hp -> Prop), Inv X pins σ H s -> t σ H Q ->
    wpAny (model X.prog X.w) X.A (forIn cs true fun c r => if r = true then do let ok ← isTrue c X.env (eval c X.env); pure (ForInStep.yield ok) else pure (ForInStep.yield r)) (TP X pins σ Q) X.xe s
def tNoTest : TT := fun _ H Q => Q true H
theorem pts_nil {X : Cx} : PTs X [] tNoTest := fun _ _ _ H _ I h => wpAny_tests_nil ⟨H, I, h⟩
theorem pts_one {X : Cx} {c : Expr} {t : TT} (hc : PT X c t) : PTs X [c] t := fun pins s σ H Q I h => wpAny_tests_one (hc pins s σ H Q I h)
section
variable {prog : Program} {w : World} {A : Around} {R : Result -> Shared -> Prop} {s : Shared}
theorem loop_go {elt tg iter : Expr} {cs : List Expr} {scope : Scope} {pos : Pos} {it acc : Value} {env : Env} (J : Nat -> Shared -> Prop)
    (turn : ∀ n s', J n s' -> wpAny (model prog w) A (pyNext it) (fun r t1 => match r with
      | none => R (.ok .next) t1
      | some v => wpAny (model prog w) A (letOwnedTupleGo tg it v) (fun _ t2 => wpAny (model prog w) A (assign tg env v) (fun _ t3 =>
          wpAny (model prog w) A (forIn cs true fun c r => if r = true then do let ok ← isTrue c env (eval c env); pure (ForInStep.yield ok) else pure (ForInStep.yield r)) (fun ok t4 =>
            if ok = true then wpAny (model prog w) A (eval elt env) (fun x t5 => wpAny (model prog w) A (call (.builtin "list.append") [acc, x]) (fun _ t6 => ∃ m, m < n /\ J m t6)
              (notedBy (model prog w) A env fun e s'' => R (.error e) s'') t5) (notedBy (model prog w) A env fun e s'' => R (.error e) s'') t4
            else ∃ m, m < n /\ J m t4) (notedBy (model prog w) A env fun e s'' => R (.error e) s'') t3) (notedBy (model prog w) A env fun e s'' => R (.error e) s'') t2) (notedBy (model prog w) A env fun e s'' => R (.error e) s'') t1)
        (notedBy (model prog w) A env fun e s'' => R (.error e) s'') s')
    (n : Nat) (h : J n s) : codeAny (model prog w) A (.compLoop (.ListComp elt [⟨tg, iter, cs, 0⟩] scope pos) 0 it acc env) R s := by
  refine codeAny_loop rfl J (fun n s' hJ => ?_) n h
  show wpAny _ A ((compTurn (.ListComp elt [⟨tg, iter, cs, 0⟩] scope pos) 0 it acc env).onRaise (fun z => do noteFrame z env; theTreesLotGoes z)) _ _ s'
  refine wpAny_noted ?_
  rw [compTurn_list]
  refine wpAny_bind (wpAny_standAt (wpAny_bind (thn (turn n s' hJ) fun r t1 k1 => ?_)))
  cases r with
  | none => exact wpAny_pure k1
  | some v =>
    refine wpAny_bind (thn k1 fun _ t2 k2 => wpAny_bind (thn k2 fun _ t3 k3 => wpAny_bind (thn k3 fun ok t4 k4 => ?_)))
    cases ok with
    | false => exact wpAny_pure ⟨rfl, k4⟩
    | true => exact wpAny_bind (wpAny_bind (thn k4 fun x t5 k5 => wpAny_bind (thn k5 fun _ t6 k6 => wpAny_pure (wpAny_pure ⟨rfl, k6⟩))))
end
theorem noEx {M : Model} {A : Around} {α : Type} {t : Sem α} {Q : α -> Shared -> Prop} {E E' : Value -> Shared -> Prop} {s : Shared} (hE : ∀ e s', E e s' -> False) (h : wpAny M A t Q E s) : wpAny M A t Q E' s := wpAny_mono h (fun _ _ q => q) fun e s' z => (hE e s' z).elim
theorem pe_comp {X : Cx} {elt tg iter : Expr} {cs : List Expr} {scope : Scope} {pos : Pos} {cl : List (Str × Addr)} {N : List Str} {js : List (Option Nat)} {wi : TI} {g : TG} {tc : TT} {te : TE}
    (C : CompOk X scope cl N js) (hc : X.calm = true) (hi : PI X tg iter wi)
    (hg : ∀ fp pins s H, PG (compCx X scope cl N fp pins s H fun _ _ => False) tg g)
    (ht : ∀ fp pins s H, PTs (compCx X scope cl N fp pins s H fun _ _ => False) cs tc)
    (he : ∀ fp pins s H, PE (compCx X scope cl N fp pins s H fun _ _ => False) elt te)
    (hs : ∀ x, foldedSetIterable iter X.env x = pure x := by intro _; rfl) : PE X (.ListComp elt [⟨tg, iter, cs, 0⟩] scope pos) (tComp js wi g tc te) := by
  intro pins s σ H Q I h
  rw [eval_ListComp]
  refine wpAny_comprehension_free (use := none) rfl hs C.clos C.kind C.names (thn (hi pins s σ H _ I h) fun xv s1 h1 => thn h1 fun itv s2 h2 => ?_)
  obtain ⟨it, fp, tn, J, H2, e, I2, T, st2, f2, h2⟩ := h2
  subst e
  obtain ⟨W, ⟨m0, w0⟩, turn⟩ := h2 s2.heap.objs.size I2.fresh
  refine wpAny_newObj_type (wpAny_newFunctionEnv C.nocell (by intro y hy; simp at hy) (fun h4 ns4 sb4 => ?_) C.kind)
  have I3 : Inv X pins σ (upd H2 s2.heap.objs.size (.lst [])) { s2 with heap := s2.heap.push { cls := .type "list", data := .seq ([] : List Value).toArray } } := I2.lnew (t' := s2.toks) (its := []) .nil (Nat.zero_le _)
  dsimp only at ns4 sb4 ⊢
  generalize e3 : ({ s2 with heap := s2.heap.push { cls := .type "list", data := .seq ([] : List Value).toArray } } : Shared) = s3 at I3
  have e3h : s2.heap.push { cls := .type "list", data := .seq ([] : List Value).toArray } = s3.heap := by rw [← e3]
  have e3g : s2.gens = s3.gens := by rw [← e3]
  have e3o : s2.os = s3.os := by rw [← e3]
  rw [e3h] at ns4 sb4 ⊢
  generalize eH : upd H2 s2.heap.objs.size (.lst []) = H3 at I3 w0
  have hD : s2.heap.objs.size < s3.heap.objs.size := by rw [← e3h, Heap.size_push]; exact Nat.lt_succ_self _
  have up3 : ∀ b o, s2.heap.get? b = some o -> s3.heap.get? b = some o := fun b o q => by rw [← e3h]; exact Heap.get?_push_of_some _ q
  have up4 : ∀ b o, s3.heap.get? b = some o -> h4.get? b = some o := fun b o q => sb4.extBut b o (Nat.ne_of_lt (Heap.lt_size q)) (Heap.get?_push_of_some _ q)
  have fpo : ∀ b ∈ fp, b < s3.heap.objs.size := fun b hb => by
    obtain ⟨o, eo, _⟩ := T.obj 0 _ st2 b hb
    exact Heap.lt_size (up3 b o eo)
  have fst : ∀ b ∈ fp, b ∉ frs X.stack := fun b hb z => by
    rcases List.mem_cons.mp (I3.stkSub b z) with q | q
    · exact (f2 b hb).2.1 q
    · exact (f2 b hb).2.2.1 q
  have okY : (compCx X scope cl N fp pins s3 H3 fun _ _ => False).Ok := by
    refine ⟨I.ok.mod, C.kind, I.ok.glob, I.ok.blt, Nat.le_refl _, fun x y c q1 q2 => I.ok.inj x y c (C.sub _ _ q1) (C.sub _ _ q2), C.has, fun x c z => absurd z Bool.false_ne_true, I.ok.hd, I.ok.frames, .inl rfl, fun b hb => ⟨Nat.ne_of_lt (fpo b hb), fun x c q => (f2 b hb).2.2.2.2.1 x c (C.sub _ _ q)⟩,
      I3.bs, Nat.le_trans I.ok.bsz I3.sz, fun b o q hb => ?_, fst, I3.stack, I3.stkFree⟩
    rcases (f2 b hb).2.2.2.1 with z | z
    · exact I.ok.noex b o q z
    · exact absurd (Nat.lt_of_lt_of_le (Heap.lt_size q) (Nat.le_trans I.ok.bsz z)) (Nat.lt_irrefl _)
  have I4 : Inv (compCx X scope cl N fp pins s3 H3 fun _ _ => False) [] (pick js σ) H3 { s3 with heap := h4, toks := s3.toks + ([] : List (Str × Value)).length } := by
    refine ⟨okY, rfl, I3.bare, Un.kept up4, ⟨_, ns4, fun i x v q1 q2 q3 => ?_⟩, fun x c q => ?_, I3.hok.fresh (Nat.le_refl _), fun x c q => I3.freeC x c (C.sub _ _ q), fun p hp => ?_, I3.hok.kept up4, ?_⟩
    · obtain ⟨j, k1, k2⟩ := pick_get q2
      obtain ⟨z1, z2, z3⟩ := C.seen i j x q1 k1
      obtain ⟨m, hn, hl⟩ := I3.loc
      obtain ⟨u, ru, lk⟩ := hl j x v z1 k2 (.inr (.inl z2))
      refine ⟨u, ru, .inr ⟨z3, ?_⟩⟩
      rcases lk with ⟨k, _⟩ | ⟨_, c, ec, oc, hoc, hdc⟩
      · have k' : X.env.scope.names.lookup x = some .local := k
        rw [z2] at k'; cases k'
      · obtain ⟨c', ec'⟩ := C.has x z3
        have := C.sub _ _ ec'
        rw [ec] at this
        cases this
        exact ⟨c, ec', oc, up4 _ _ hoc, hdc⟩
    · obtain ⟨v, oc, hoc, hdc⟩ := I3.cell x c (C.sub _ _ q)
      exact ⟨v, oc, up4 _ _ hoc, hdc⟩
    · have hp' : p ∈ X.pn ++ pins := by simpa using hp
      obtain ⟨q1, q2, q3, q4, q5⟩ := I3.pin p hp'
      refine ⟨up4 _ _ q1, q2, Nat.ne_of_lt (Heap.lt_size q1), fun z => ?_, q5⟩
      rcases List.mem_cons.mp (I3.stkSub _ z) with q | q
      · exact q3 q
      · exact q4 q
    · show (pick js σ).length = N.length
      unfold pick
      rw [List.length_map, C.len]
  have stat : ∀ {H' : Hp}, (∀ b ∈ fp, H' b = none) -> ∀ b ∈ fp, FpOk (compCx X scope cl N fp pins s3 H3 fun _ _ => False) [] H' b := fun hn b hb =>
    ⟨hn b hb, Nat.ne_of_lt (fpo b hb), fst b hb, .inl hb, fun x c q => (f2 b hb).2.2.2.2.1 x c (C.sub _ _ q), fun p hp => (f2 b hb).2.2.2.2.2 p (by simpa using hp)⟩
  have st4 : tn 0 h4 := T.keep 0 _ _ st2 fun b hb o q => up4 b o (up3 b o q)
  have nx : ∀ e s', (compCx X scope cl N fp pins s3 H3 fun _ _ => False).xe e s' -> False := fun _ _ z => z
  have loop : codeAny (model X.prog X.w) X.A (.compLoop (.ListComp elt [⟨tg, iter, cs, 0⟩] scope pos) 0 (.ref it) (.ref s2.heap.objs.size) (compEnvC scope cl s3.heap.objs.size X.env))
      (compPost (model X.prog X.w) X.A X.xe none (EP X pins σ Q) (.ref s2.heap.objs.size) s3.heap.objs.size) { s3 with heap := h4, toks := s3.toks + ([] : List (Str × Value)).length } := by
    refine loop_go (fun n s' => ∃ i σ' H' ys, Inv (compCx X scope cl N fp pins s3 H3 fun _ _ => False) [] σ' H' s' /\ tn i s'.heap /\ (∀ b ∈ fp, H' b = none) /\ W i n σ' H' ys) ?_ m0 ⟨0, _, H3, [], I4, st4, fun b hb => ?_, w0⟩
    · rintro n s5 ⟨i, σ5, H5, ys, I5, st5, fr5, w5⟩
      obtain ⟨hD5, way⟩ := turn i n σ5 H5 ys w5
      rcases way with ⟨stop, qn⟩ | ⟨go, hz, NN, hN, step⟩
      · refine noEx nx (thn (T.done (compCx X scope cl N fp pins s3 H3 fun _ _ => False) rfl rfl rfl hc i [] s5 σ5 H5 _ I5 (stat fr5) st5 stop) fun r s6 ⟨hr, I6⟩ => ?_)
        subst hr
        obtain ⟨m, hn, _⟩ := I6.loc
        refine ⟨m, hn, fun h' sb => ⟨.ref s2.heap.objs.size, H5, ?_, rfl, qn⟩⟩
        have low : ∀ b o, s3.heap.get? b = some o -> b ≠ s3.heap.objs.size := fun b o q => Nat.ne_of_lt (Heap.lt_size q)
        have same : ∀ b, b ≠ s3.heap.objs.size -> h'.get? b = s6.heap.get? b := fun b hb => sb.2 b hb
        have B := I6.base
        refine I3.call' (s' := { s6 with heap := h' }) (H' := H5) (ch := fp) I6.os ⟨fun b o q n0 h1 h2 => ?_, fun b o q n0 h1 h2 => ?_, B.free, fun b o q h2 => ?_, B.tups, B.frzs, B.tbls⟩ (fun a o q => ?_) I6.bare (fun b hb => ⟨(f2 b hb).2.2.2.1, (f2 b hb).2.1, (f2 b hb).2.2.2.2.1, (f2 b hb).2.2.2.2.2⟩)
        · exact (same b (low b o q)).trans (B.keep b o q n0 h1 h2)
        · obtain ⟨sl, z⟩ := B.slot b o q n0 h1 h2
          exact ⟨sl, (same b (low b o q)).trans z⟩
        · obtain ⟨o', z⟩ := B.there b o q h2
          exact ⟨o', (same b (low b o q)).trans z⟩
        · have nC : ∀ c u, H5 c = some u -> c ≠ s3.heap.objs.size := fun c u z y => by
            have := I6.free
            rw [y] at z
            rw [show H5 s3.heap.objs.size = none from this] at z
            cases z
          refine (I6.hok a o q).stay (fun c u hc' z => (same c ?_).trans z) (fun _ z => z) fun _ _ z => z
          rcases hc' with z' | z'
          · rw [z']; exact nC a o q
          · exact nC c _ z'
      · refine noEx nx (thn (T.item (compCx X scope cl N fp pins s3 H3 fun _ _ => False) rfl rfl rfl hc i [] s5 σ5 H5 _ I5 (stat fr5) st5 go) fun r s6 ⟨u, hr, h6⟩ => ?_)
        subst hr
        refine noEx nx (thn h6 fun _ s7 ⟨x, H7, I7, r7, y7, st7, fr7⟩ => ?_)
        have I7' := I7.pinned (stat fr7) (T.obj _ _ st7)
        refine noEx nx (thn (hg fp pins s3 H3 _ s7 σ5 H7 x u _ I7' r7 (step x H7 y7)) fun _ s8 ⟨σ8, H8, I8, q8⟩ => ?_)
        refine noEx nx (thn (ht fp pins s3 H3 _ s8 σ8 H8 _ I8 q8) fun k s9 ⟨H9, I9, q9⟩ => ?_)
        have fin : ∀ {s' : Shared} {σ' : St} {H' : Hp} {ys' : List V}, Inv (compCx X scope cl N fp pins s3 H3 fun _ _ => False) ([] ++ pinsAt fp s7.heap) σ' H' s' -> NN σ' H' ys' ->
            ∃ m', m' < n /\ ∃ i σ' H' ys, Inv (compCx X scope cl N fp pins s3 H3 fun _ _ => False) [] σ' H' s' /\ tn i s'.heap /\ (∀ b ∈ fp, H' b = none) /\ W i m' σ' H' ys := fun {s' σ' H' ys'} Iv nv => by
          obtain ⟨m', hm, wv⟩ := hN σ' H' ys' nv
          refine ⟨m', hm, i + 1, σ', H', ys', Iv.unpinned, T.keep _ _ _ st7 fun b hb o q => (Iv.pin (b, o) (List.mem_append_right _ (List.mem_append_right _ (mem_pinsAt hb q)))).1, fun b hb => ?_, wv⟩
          obtain ⟨o, q, _⟩ := T.obj _ _ st7 b hb
          exact (Iv.pin (b, o) (List.mem_append_right _ (List.mem_append_right _ (mem_pinsAt hb q)))).2.1
        cases k with
        | false =>
          rw [if_neg Bool.false_ne_true] at q9 ⊢
          exact fin I9 q9.2
        | true =>
          rw [if_pos rfl] at q9 ⊢
          refine noEx nx (thn (he fp pins s3 H3 _ s9 σ8 H9 _ I9 q9) fun y sA ⟨yv, HA, IA, rA, hDA, qA⟩ => ?_)
          refine noEx nx (thn (mt_append _ sA σ8 HA (.ref s2.heap.objs.size) [yv] _ [y] (fun _ HB => NN σ8 HB (ys ++ [yv])) IA rfl (.cons rA .nil) ⟨_, ys, yv, rfl, rfl, hDA, hz, qA⟩) fun _ sB ⟨_, HB, IB, _, qB⟩ => ?_)
          exact fin IB qB
    · rw [← eH, upd_ne]
      · exact (f2 b hb).1
      · obtain ⟨o, eo, _⟩ := T.obj 0 _ st2 b hb
        exact Nat.ne_of_lt (Heap.lt_size eo)
  have goal : codeAny (model X.prog X.w) X.A (.compStart (.ListComp elt [⟨tg, iter, cs, 0⟩] scope pos) 0 (.ref it) (.ref s2.heap.objs.size) (compEnvC scope cl s3.heap.objs.size X.env))
      (compPost (model X.prog X.w) X.A X.xe none (EP X pins σ Q) (.ref s2.heap.objs.size) s3.heap.objs.size) { s3 with heap := h4, toks := s3.toks + ([] : List (Str × Value)).length } :=
    codeAny_compStart_list loop (T.self _ 0 _ _ _ st4 loop)
  subst e3
  exact goal
end L2
namespace Zt
open PySem PyProof.Rows
theorem notNone (t : Addr) : ¬ ((Value.ref t == Value.none) = true) := Bool.false_ne_true
section
variable {prog : Program} {w : World} {A : Around} {E : Value -> Shared -> Prop} {s : Shared}
theorem pull {j t : Addr} {k : Nat} {vs : Array Value} {x : Value} {Q : Value -> Shared -> Prop} (a : s.heap.IsTupleIter j t k) (b : s.heap.IsTuple t vs) (c : vs[k]? = some x)
    (q : ∀ g, g.IsTupleIter j t (k + 1) -> Heap.SameBut j s.heap g -> Q x { s with heap := g }) : wpAny (model prog w) A (Builtin.SmallTypes.nextOf (.ref j)) Q E s := by
  obtain ⟨oj, gj, cj, dj⟩ := id a
  obtain ⟨ot, gt, _, nt, dt⟩ := b
  unfold Builtin.SmallTypes.nextOf
  refine wpAny_bind (wpAny_callSpecial?_slot (name := Str.ofString "__next__") a.typeIs F.slot_tuple_iterator_next (wpAny_call_entry F.slot_tuple_iterator_next a.typeIs F.entry_tuple_iterator_next ?_ (F.args_tuple_iterator_next_1 _)))
  show wpAny _ _ (field (.ref j) 0 >>= _) _ _ s
  refine wpAny_bind (wpAny_field gj dj (x := .ref t) rfl ?_)
  show wpAny _ _ (ite ((Value.ref t == Value.none) = true) _ _) _ _ s
  rw [if_neg (notNone t)]
  show wpAny _ _ (field (.ref j) 1 >>= _) _ _ s
  refine wpAny_bind (wpAny_field gj dj (x := .int k 0) rfl ?_)
  show wpAny _ _ (seqItems? (.ref t) >>= _) _ _ s
  refine wpAny_bind (wpAny_seqItems gt dt ?_)
  simp only [Int.toNat_natCast, c]
  refine wpAny_bind (wpAny_setField gj dj (by simp) (wpAny_pure ⟨x, rfl, wpAny_pure (q _ ⟨_, Heap.get?_update_self _ gj (Obj.isFreed_of_fields (Obj.data_mapFields dj _)), (Obj.cls_mapFields ..).trans cj, ?_⟩ (Heap.SameBut.update ..))⟩))
  rw [Obj.data_mapFields dj]
  simp [rawInt]
theorem pull_end {j t : Addr} {k : Nat} {vs : Array Value} {Q : Value -> Shared -> Prop} (hd : A.handled = none) (a : s.heap.IsTupleIter j t k) (b : s.heap.IsTuple t vs) (c : vs[k]? = none)
    (q : ∀ g e, Heap.ExtBut j s.heap g -> (∃ o, g.get? e = some o /\ o.cls = .type "StopIteration") -> E (.ref e) { s with heap := g }) : wpAny (model prog w) A (Builtin.SmallTypes.nextOf (.ref j)) Q E s := by
  obtain ⟨oj, gj, cj, dj⟩ := id a
  obtain ⟨ot, gt, _, nt, dt⟩ := b
  unfold Builtin.SmallTypes.nextOf
  refine wpAny_bind (wpAny_callSpecial?_slot (name := Str.ofString "__next__") a.typeIs F.slot_tuple_iterator_next (wpAny_call_entry F.slot_tuple_iterator_next a.typeIs F.entry_tuple_iterator_next ?_ (F.args_tuple_iterator_next_1 _)))
  show wpAny _ _ (field (.ref j) 0 >>= _) _ _ s
  refine wpAny_bind (wpAny_field gj dj (x := .ref t) rfl ?_)
  show wpAny _ _ (ite ((Value.ref t == Value.none) = true) _ _) _ _ s
  rw [if_neg (notNone t)]
  show wpAny _ _ (field (.ref j) 1 >>= _) _ _ s
  refine wpAny_bind (wpAny_field gj dj (x := .int k 0) rfl ?_)
  show wpAny _ _ (seqItems? (.ref t) >>= _) _ _ s
  refine wpAny_bind (wpAny_seqItems gt dt ?_)
  simp only [Int.toNat_natCast, c]
  refine wpAny_bind (wpAny_rule (wpAny_bind (wpAny_setField gj dj (by simp) ?_)))
  show wpAny _ _ (newExc (.type "StopIteration") [] >>= _) _ _ _
  refine wpAny_bind ?_
  simp only [newExc, newTuple]
  refine wpAny_bind (wpAny_newObj_type (wpAny_bind (m := firstArgMember _ _) (wpAny_of_eq (a := Value.none) (by first | rfl | (simp only [firstArgMember]; rfl)) (wpAny_newObj_type ?_ (by size_fits)))) (by size_fits))
  simp only [raiseNew]
  refine wpAny_bind (wpAny_handled ?_)
  first
    | rw [show A.in1.handled = none from hd]
    | rw [hd]
  exact wpAny_bind (wpAny_pure (wpAny_throw (q _ _ (((Heap.SameBut.update ..).extBut.push _).push _) ⟨_, Heap.get?_push_size _ rfl, rfl⟩)))
theorem zip_item {z TI TO j1 j2 t1 t2 : Addr} {k : Nat} {xs ys : Array Value} {x y a b : Value} {Q : Value -> Shared -> Prop} (D : ZipApart z TI TO j1 j2 t1 t2)
    (zz : IsZip s.heap z TI TO .none) (zI : IsPair s.heap TI (.ref j1) (.ref j2)) (zO : IsPair s.heap TO a b)
    (i1 : s.heap.IsTupleIter j1 t1 k) (i2 : s.heap.IsTupleIter j2 t2 k) (l1 : s.heap.IsTuple t1 xs) (l2 : s.heap.IsTuple t2 ys) (ex : xs[k]? = some x) (ey : ys[k]? = some y)
    (q : ∀ g, IsZip g z TI TO (rawInt s.heap.objs.size) -> IsPair g TO x y -> g.IsTupleIter j1 t1 (k + 1) -> g.IsTupleIter j2 t2 (k + 1) -> IsPair g s.heap.objs.size x y ->
      (∀ c o, c ≠ z -> c ≠ TO -> c ≠ j1 -> c ≠ j2 -> s.heap.get? c = some o -> g.get? c = some o) -> Q (.ref s.heap.objs.size) { s with heap := g }) :
    wpAny (model prog w) A (Builtin.«zip.__next__» ⟨[.ref z], []⟩) (fun fin s' => ∃ v, fin = .done (.ret v) /\ Q v s') E s := by
  show wpAny _ _ (field (.ref z) 2 >>= _) _ _ _
  refine wpAny_bind (wpAny_field zz rfl (x := .bool false) rfl ?_)
  show wpAny _ _ (field (.ref z) 3 >>= _) _ _ _
  refine wpAny_bind (wpAny_field zz rfl (x := .ref TI) rfl (wpAny_bind (wpAny_seqItems zI rfl ?_)))
  show wpAny _ _ (Builtin.SmallTypes.ownedTupleIsFree (.ref z) >>= _) _ _ _
  refine wpAny_bind ?_
  unfold Builtin.SmallTypes.ownedTupleIsFree
  refine wpAny_bind (wpAny_field zz rfl (x := .none) rfl (wpAny_pure ?_))
  simp only [if_true]
  refine wpAny_bind (wpAny_rule (wpAny_bind (wpAny_field zz rfl (x := .ref TO) rfl (wpAny_bind (wpAny_setField_rec zz (by simp) fun g1 zz1 s1 => ?_)))))
  replace zz1 : IsZip g1 z TI TO .ellipsis := zz1
  refine wpAny_bind ?_
  simp only [List.zipIdx_cons, List.zipIdx_nil, List.forIn_cons, List.forIn_nil]
  refine wpAny_bind (wpAny_bind (wpAny_onRaise ?_))
  show wpAny _ _ (Builtin.SmallTypes.nextOf (.ref j1) >>= _) _ _ _
  refine wpAny_bind (pull (i1.extBut s1.extBut D.i1z) (l1.extBut s1.extBut D.l1z) ex fun g2 i1' s2 => wpAny_pure ?_)
  have zO2 : IsPair g2 TO a b := s2.extBut _ _ D.TOi1 (s1.extBut _ _ D.TOz zO)
  refine wpAny_bind (wpAny_seqItems zO2 rfl (wpAny_bind (wpAny_updateSeq_pair zO2 fun g3 zO3 s3 => ?_)))
  replace zO3 : IsPair g3 TO x b := zO3
  refine wpAny_bind (wpAny_letGo (wpAny_pure (wpAny_bind (wpAny_bind (wpAny_onRaise ?_)))))
  show wpAny _ _ (Builtin.SmallTypes.nextOf (.ref j2) >>= _) _ _ _
  have i2' := ((i2.extBut s1.extBut D.i2z).extBut s2.extBut D.i12.symm).extBut s3.extBut D.TOi2.symm
  have l2' := ((l2.extBut s1.extBut D.l2z).extBut s2.extBut D.l2i1).extBut s3.extBut D.l2TO
  refine wpAny_bind (pull i2' l2' ey fun g4 i2'' s4 => wpAny_pure ?_)
  have zO4 : IsPair g4 TO x b := s4.extBut _ _ D.TOi2 zO3
  refine wpAny_bind (wpAny_seqItems zO4 rfl (wpAny_bind (wpAny_updateSeq_pair zO4 fun g5 zO5 s5 => ?_)))
  replace zO5 : IsPair g5 TO x y := zO5
  refine wpAny_bind (wpAny_letGo (wpAny_pure (wpAny_pure (wpAny_bind (wpAny_seqItems zO5 rfl (wpAny_bind (wpAny_newTuple ?_)))))))
  have sz : g5.objs.size = s.heap.objs.size := by rw [s5.1, s4.1, s3.1, s2.1, s1.1]
  have zz5 : IsZip g5 z TI TO .ellipsis := s5.extBut _ _ D.TOz.symm (s4.extBut _ _ D.i2z.symm (s3.extBut _ _ D.TOz.symm (s2.extBut _ _ D.i1z.symm zz1)))
  have up5 : ∀ c o, c ≠ z -> c ≠ TO -> c ≠ j1 -> c ≠ j2 -> s.heap.get? c = some o -> g5.get? c = some o := fun c o n1 n2 n3 n4 q' =>
    s5.extBut _ _ n2 (s4.extBut _ _ n4 (s3.extBut _ _ n2 (s2.extBut _ _ n3 (s1.extBut _ _ n1 q'))))
  have j15 : g5.IsTupleIter j1 t1 (k + 1) := ((i1'.extBut s3.extBut D.TOi1.symm).extBut s4.extBut D.i12).extBut s5.extBut D.TOi1.symm
  have j25 : g5.IsTupleIter j2 t2 (k + 1) := i2''.extBut s5.extBut D.TOi2.symm
  have zlt : z < g5.objs.size := Heap.lt_size zz5
  show wpAny _ _ (Builtin.SmallTypes.ownedTupleHandOut (.ref z) (.ref g5.objs.size) >>= _) _ _ _
  refine wpAny_bind ?_
  unfold Builtin.SmallTypes.ownedTupleHandOut
  have zz6 : IsZip (g5.push { cls := .type "tuple", data := .seq #[x, y] }) z TI TO .ellipsis := Heap.get?_push_of_some _ zz5
  refine wpAny_bind (wpAny_setField_rec zz6 (by simp) fun g7 zz7 s7 => ?_)
  replace zz7 : IsZip g7 z TI TO (rawInt g5.objs.size) := zz7
  refine wpAny_setField_rec zz7 (by simp) fun g8 zz8 s8 => ?_
  replace zz8 : IsZip g8 z TI TO (rawInt g5.objs.size) := zz8
  have up8 : ∀ c o, c ≠ z -> g5.get? c = some o -> g8.get? c = some o := fun c o n1 q' => s8.extBut _ _ n1 (s7.extBut _ _ n1 (Heap.get?_push_of_some _ q'))
  have new8 : IsPair g8 g5.objs.size x y := s8.extBut _ _ (Nat.ne_of_gt zlt) (s7.extBut _ _ (Nat.ne_of_gt zlt) (Heap.get?_push_size _ rfl))
  rw [sz] at zz8 new8
  refine wpAny_pure ⟨_, rfl, ?_⟩
  show Q (.ref g5.objs.size) _
  rw [sz]
  refine q g8 zz8 (up8 _ _ D.TOz zO5) ?_ ?_ new8 fun c o n1 n2 n3 n4 q' => up8 c o n1 (up5 c o n1 n2 n3 n4 q')
  · obtain ⟨o, e, r⟩ := j15
    exact ⟨o, up8 _ _ D.i1z e, r⟩
  · obtain ⟨o, e, r⟩ := j25
    exact ⟨o, up8 _ _ D.i2z e, r⟩
theorem zip_stop {z TI TO j1 j2 t1 t2 : Addr} {k : Nat} {xs ys : Array Value} {a b : Value} {Q : Fin -> Shared -> Prop} (hd : A.handled = none) (D : ZipApart z TI TO j1 j2 t1 t2)
    (zz : IsZip s.heap z TI TO .none) (zI : IsPair s.heap TI (.ref j1) (.ref j2)) (zO : IsPair s.heap TO a b)
    (i1 : s.heap.IsTupleIter j1 t1 k) (i2 : s.heap.IsTupleIter j2 t2 k) (l1 : s.heap.IsTuple t1 xs) (l2 : s.heap.IsTuple t2 ys) (ee : xs[k]? = none ∨ ys[k]? = none)
    (q : ∀ g e, (∀ c o, c ≠ z -> c ≠ TO -> c ≠ j1 -> c ≠ j2 -> s.heap.get? c = some o -> g.get? c = some o) -> (∃ o, g.get? e = some o /\ o.cls = .type "StopIteration") -> E (.ref e) { s with heap := g }) :
    wpAny (model prog w) A (Builtin.«zip.__next__» ⟨[.ref z], []⟩) Q E s := by
  show wpAny _ _ (field (.ref z) 2 >>= _) _ _ _
  refine wpAny_bind (wpAny_field zz rfl (x := .bool false) rfl ?_)
  show wpAny _ _ (field (.ref z) 3 >>= _) _ _ _
  refine wpAny_bind (wpAny_field zz rfl (x := .ref TI) rfl (wpAny_bind (wpAny_seqItems zI rfl ?_)))
  show wpAny _ _ (Builtin.SmallTypes.ownedTupleIsFree (.ref z) >>= _) _ _ _
  refine wpAny_bind ?_
  unfold Builtin.SmallTypes.ownedTupleIsFree
  refine wpAny_bind (wpAny_field zz rfl (x := .none) rfl (wpAny_pure ?_))
  simp only [if_true]
  refine wpAny_bind (wpAny_rule (wpAny_bind (wpAny_field zz rfl (x := .ref TO) rfl (wpAny_bind (wpAny_setField_rec zz (by simp) fun g1 zz1 s1 => ?_)))))
  replace zz1 : IsZip g1 z TI TO .ellipsis := zz1
  refine wpAny_bind ?_
  simp only [List.zipIdx_cons, List.zipIdx_nil, List.forIn_cons, List.forIn_nil]
  refine wpAny_bind (wpAny_bind (wpAny_onRaise ?_))
  show wpAny _ _ (Builtin.SmallTypes.nextOf (.ref j1) >>= _) _ _ _
  cases ex : xs[k]? with
  | none =>
    refine wpAny_bind (pull_end hd (i1.extBut s1.extBut D.i1z) (l1.extBut s1.extBut D.l1z) ex fun g2 e s2 ⟨oe, goe, coe⟩ => ?_)
    have zz2 : IsZip g2 z TI TO .ellipsis := s2 _ _ D.i1z.symm zz1
    have nez : e ≠ z := fun y => by
      subst y
      rw [zz2] at goe
      cases goe
      simp at coe
    exact wpAny_setField_rec zz2 (by simp) fun g3 _ s3 => q g3 e (fun c o n1 _ n3 _ y => s3.extBut _ _ n1 (s2 _ _ n3 (s1.extBut _ _ n1 y))) ⟨oe, s3.extBut _ _ nez goe, coe⟩
  | some x =>
    have ey : ys[k]? = none := ee.resolve_left (by rw [ex]; exact fun y => nomatch y)
    refine wpAny_bind (pull (i1.extBut s1.extBut D.i1z) (l1.extBut s1.extBut D.l1z) ex fun g2 i1' s2 => wpAny_pure ?_)
    have zO2 : IsPair g2 TO a b := s2.extBut _ _ D.TOi1 (s1.extBut _ _ D.TOz zO)
    refine wpAny_bind (wpAny_seqItems zO2 rfl (wpAny_bind (wpAny_updateSeq_pair zO2 fun g3 zO3 s3 => ?_)))
    refine wpAny_bind (wpAny_letGo (wpAny_pure (wpAny_bind (wpAny_bind (wpAny_onRaise ?_)))))
    show wpAny _ _ (Builtin.SmallTypes.nextOf (.ref j2) >>= _) _ _ _
    have i2' := ((i2.extBut s1.extBut D.i2z).extBut s2.extBut D.i12.symm).extBut s3.extBut D.TOi2.symm
    have l2' := ((l2.extBut s1.extBut D.l2z).extBut s2.extBut D.l2i1).extBut s3.extBut D.l2TO
    refine wpAny_bind (pull_end hd i2' l2' ey fun g4 e s4 ⟨oe, goe, coe⟩ => ?_)
    have zz4 : IsZip g4 z TI TO .ellipsis := s4 _ _ D.i2z.symm (s3.extBut _ _ D.TOz.symm (s2.extBut _ _ D.i1z.symm zz1))
    have nez : e ≠ z := fun y => by
      subst y
      rw [zz4] at goe
      cases goe
      simp at coe
    exact wpAny_setField_rec zz4 (by simp) fun g5 _ s5 => q g5 e (fun c o n1 n2 n3 n4 y => s5.extBut _ _ n1 (s4 _ _ n4 (s3.extBut _ _ n2 (s2.extBut _ _ n3 (s1.extBut _ _ n1 y))))) ⟨oe, s5.extBut _ _ nez goe, coe⟩
theorem next_item {z TI TO j1 j2 t1 t2 : Addr} {k : Nat} {xs ys : Array Value} {x y a b : Value} {Q : Option Value -> Shared -> Prop} (D : ZipApart z TI TO j1 j2 t1 t2)
    (zz : IsZip s.heap z TI TO .none) (zI : IsPair s.heap TI (.ref j1) (.ref j2)) (zO : IsPair s.heap TO a b)
    (i1 : s.heap.IsTupleIter j1 t1 k) (i2 : s.heap.IsTupleIter j2 t2 k) (l1 : s.heap.IsTuple t1 xs) (l2 : s.heap.IsTuple t2 ys) (ex : xs[k]? = some x) (ey : ys[k]? = some y)
    (q : ∀ g, IsZip g z TI TO (rawInt s.heap.objs.size) -> IsPair g TO x y -> g.IsTupleIter j1 t1 (k + 1) -> g.IsTupleIter j2 t2 (k + 1) -> IsPair g s.heap.objs.size x y ->
      (∀ c o, c ≠ z -> c ≠ TO -> c ≠ j1 -> c ≠ j2 -> s.heap.get? c = some o -> g.get? c = some o) -> Q (some (.ref s.heap.objs.size)) { s with heap := g }) : wpAny (model prog w) A (pyNext (.ref z)) Q E s := by
  have ty : s.TypeIs (.ref z) "zip" := ⟨_, zz, rfl⟩
  unfold pyNext
  refine wpAny_bind (wpAny_attempt (wpAny_callSpecial?_slot (name := Str.ofString "__next__") ty F.slot_zip_next (wpAny_call_entry F.slot_zip_next ty F.entry_zip_next ?_ (F.args_zip_next_1 _))))
  exact zip_item D zz zI zO i1 i2 l1 l2 ex ey fun g b1 b2 b3 b4 b5 b6 => wpAny_pure (q g b1 b2 b3 b4 b5 b6)
theorem next_stop {z TI TO j1 j2 t1 t2 : Addr} {k : Nat} {xs ys : Array Value} {a b : Value} {Q : Option Value -> Shared -> Prop} (hd : A.handled = none) (D : ZipApart z TI TO j1 j2 t1 t2)
    (zz : IsZip s.heap z TI TO .none) (zI : IsPair s.heap TI (.ref j1) (.ref j2)) (zO : IsPair s.heap TO a b)
    (i1 : s.heap.IsTupleIter j1 t1 k) (i2 : s.heap.IsTupleIter j2 t2 k) (l1 : s.heap.IsTuple t1 xs) (l2 : s.heap.IsTuple t2 ys) (ee : xs[k]? = none ∨ ys[k]? = none)
    (q : ∀ g, (∀ c o, c ≠ z -> c ≠ TO -> c ≠ j1 -> c ≠ j2 -> s.heap.get? c = some o -> g.get? c = some o) -> Q none { s with heap := g }) : wpAny (model prog w) A (pyNext (.ref z)) Q E s := by
  have ty : s.TypeIs (.ref z) "zip" := ⟨_, zz, rfl⟩
  unfold pyNext
  refine wpAny_bind (wpAny_attempt (wpAny_callSpecial?_slot (name := Str.ofString "__next__") ty F.slot_zip_next (wpAny_call_entry F.slot_zip_next ty F.entry_zip_next ?_ (F.args_zip_next_1 _))))
  refine zip_stop hd D zz zI zO i1 i2 l1 l2 ee fun g e up ⟨oe, goe, coe⟩ => ?_
  exact wpAny_bind (wpAny_isInstance (T := "StopIteration") (b := true) ⟨oe, goe, coe⟩ isSubtype_stop (wpAny_pure (q _ up)))
end
abbrev mk1 (h : Heap) (t1 : Addr) : Heap := h.push { cls := .type "tuple_iterator", data := .fields #[.ref t1, .int 0 0] }
abbrev mk2 (h : Heap) (t1 t2 : Addr) : Heap := (mk1 h t1).push { cls := .type "tuple_iterator", data := .fields #[.ref t2, .int 0 0] }
abbrev mk3 (h : Heap) (t1 t2 : Addr) : Heap := (mk2 h t1 t2).push { cls := .type "tuple", data := .seq #[.ref h.objs.size, .ref (mk1 h t1).objs.size] }
abbrev mk4 (h : Heap) (t1 t2 : Addr) : Heap := (mk3 h t1 t2).push { cls := .type "tuple", data := .seq #[.none, .none] }
abbrev mk5 (h : Heap) (t1 t2 : Addr) : Heap := (mk4 h t1 t2).push { cls := .type "zip", data := .fields #[.none, .bool false, .bool false, .ref (mk2 h t1 t2).objs.size, .ref (mk3 h t1 t2).objs.size] }
theorem meets_new (t1 t2 : Addr) (xs ys : Array Value) : Meets (Builtin.«zip.__new__» ⟨[.type "zip", .ref t1, .ref t2], []⟩) (fun _ R s => s.heap.IsTuple t1 xs /\ s.heap.IsTuple t2 ys /\ R (.ok (.ret (.ref (mk4 s.heap t1 t2).objs.size))) { s with heap := mk5 s.heap t1 t2 }) :=
  .of_wp fun prog w A R s h => by
    obtain ⟨hh, gg, dd, tt, oo⟩ := s
    obtain ⟨a1, a2, h⟩ := h
    have sub := sub_zip
    have b1 : Heap.IsTuple (Shared.heap ⟨hh, gg, dd, tt, oo⟩) t1 xs := a1
    have b2 : Heap.IsTuple (Shared.heap ⟨mk1 hh t1, gg, dd, tt, oo⟩) t2 ys := Heap.IsTuple.push a2 _
    wp_walk using wpAny_pyIter_tuple b1, wpAny_pyIter_tuple b2
    exact ⟨_, rfl, h⟩
section
variable {prog : Program} {w : World} {A : Around} {E : Value -> Shared -> Prop} {s : Shared}
theorem make {t1 t2 : Addr} {xs ys : Array Value} {Q : Value -> Shared -> Prop} (a1 : s.heap.IsTuple t1 xs) (a2 : s.heap.IsTuple t2 ys)
    (q : ∀ g, IsZip g (s.heap.objs.size + 4) (s.heap.objs.size + 2) (s.heap.objs.size + 3) .none -> IsPair g (s.heap.objs.size + 2) (.ref s.heap.objs.size) (.ref (s.heap.objs.size + 1)) -> IsPair g (s.heap.objs.size + 3) .none .none ->
      g.IsTupleIter s.heap.objs.size t1 0 -> g.IsTupleIter (s.heap.objs.size + 1) t2 0 -> (∀ c o, s.heap.get? c = some o -> g.get? c = some o) -> Q (.ref (s.heap.objs.size + 4)) { s with heap := g }) :
    wpAny (model prog w) A (call (.type "zip") [.ref t1, .ref t2]) Q E s := by
  refine callType_new F.called_zip (by decide) (F.typeCall_zip_2 _ _) (F.newCall_zip_2 _ _) (fun obj => F.args_object_init_3 obj _ _) F.entry_zip_new (meets_new t1 t2 xs ys) ⟨a1, a2, ?_⟩
  have n1 : (mk1 s.heap t1).objs.size = s.heap.objs.size + 1 := Heap.size_push ..
  have n2 : (mk2 s.heap t1 t2).objs.size = s.heap.objs.size + 2 := by rw [Heap.size_push, n1]
  have n3 : (mk3 s.heap t1 t2).objs.size = s.heap.objs.size + 3 := by rw [Heap.size_push, n2]
  have n4 : (mk4 s.heap t1 t2).objs.size = s.heap.objs.size + 4 := by rw [Heap.size_push, n3]
  have p5 : (mk5 s.heap t1 t2).get? (mk4 s.heap t1 t2).objs.size = some _ := Heap.get?_push_size _ rfl
  have p4 : (mk5 s.heap t1 t2).get? (mk3 s.heap t1 t2).objs.size = some _ := Heap.get?_push_of_some _ (Heap.get?_push_size _ rfl)
  have p3 : (mk5 s.heap t1 t2).get? (mk2 s.heap t1 t2).objs.size = some _ := Heap.get?_push_of_some _ (Heap.get?_push_of_some _ (Heap.get?_push_size _ rfl))
  have p2 : (mk5 s.heap t1 t2).get? (mk1 s.heap t1).objs.size = some _ := Heap.get?_push_of_some _ (Heap.get?_push_of_some _ (Heap.get?_push_of_some _ (Heap.get?_push_size _ rfl)))
  have p1 : (mk5 s.heap t1 t2).get? s.heap.objs.size = some _ := Heap.get?_push_of_some _ (Heap.get?_push_of_some _ (Heap.get?_push_of_some _ (Heap.get?_push_of_some _ (Heap.get?_push_size _ rfl))))
  show _ /\ _
  rw [n2, n3, n4] at p5
  rw [n1, n2] at p3
  rw [n3] at p4
  rw [n1] at p2
  rw [n4]
  exact ⟨⟨_, p5, rfl⟩, q _ p5 p3 p4 ⟨_, p1, rfl, rfl⟩ ⟨_, p2, rfl, rfl⟩ fun c o y => Heap.get?_push_of_some _ (Heap.get?_push_of_some _ (Heap.get?_push_of_some _ (Heap.get?_push_of_some _ (Heap.get?_push_of_some _ y))))⟩
end
end Zt
namespace L2
open PySem PySem.Spec PyProof.Rows
def Itz (K : PySem.W.Frag) (a b : Addr) : It :=
  ⟨fun i H => ∃ xs ys x y, SqT K H a xs /\ SqT K H b ys /\ xs[i]? = some x /\ ys[i]? = some y,
   fun i H v H' => ∃ p, H p = none /\ v = .ref p /\ ∃ x y, H' = upd H p (.tup [x, y]) /\ ∀ xs ys, SqT K H a xs -> SqT K H b ys -> xs[i]? = some x /\ ys[i]? = some y,
   fun i H => ∃ xs ys, SqT K H a xs /\ SqT K H b ys /\ (xs.length <= i ∨ ys.length <= i)⟩
def tupleTg : Expr -> Bool
  | .Tuple _ _ _ => true
  | _ => false
theorem Inv.turnedNew {X : Cx} {pins : List (Addr × Obj)} {σ : St} {H : Hp} {s : Shared} {h' : Heap} {t' : Nat} {L : List Addr} {p : Addr} {xs : List V} (I : Inv X pins σ H s) (k : ∀ b o, b ∉ L -> s.heap.get? b = some o -> h'.get? b = some o)
    (hf : ∀ b ∈ L, FpOk X pins H b) (hp : s.heap.objs.size <= p) (new : ObjOk X.prog X.w (upd H p (.tup xs)) h' p (.tup xs)) : Inv X pins σ (upd H p (.tup xs)) { s with heap := h', toks := t' } := by
  have hn : H p = none := I.hok.fresh hp
  have ne : ∀ b o, s.heap.get? b = some o -> b ≠ p := fun b o e => Nat.ne_of_lt (Nat.lt_of_lt_of_le (Heap.lt_size e) hp)
  have nit : ∀ b u, H b = some u -> b ∉ L := fun b u e z => by rw [(hf b z).1] at e; cases e
  refine I.step (g' := s.gens) (d' := s.drawn) (ch := L) (fun b hb => ?_) (fun b o _ _ hc e _ => k b o hc e) (fun b o _ _ hc e _ => ⟨o.slots, k b o hc e⟩) (fun b o _ e n => by rw [upd_ne (ne b o e)]; exact n) (fun b o hc e => ⟨o, k b o hc e⟩)
    (fun b ys e => by rw [upd_ne (ne_of_none e hn)]; exact e) (fun b o u e => by rw [upd_ne (ne_of_none e hn)]; exact e) (fun b ps e => ⟨#[], by rw [upd_ne (ne_of_none e hn), e]; simp⟩) (fun m hm => ?_) (fun b u e => ?_) I.bare
  · obtain ⟨_, f1, _, f3, f4, f5⟩ := hf b hb
    exact ⟨f3, f1, f4, f5⟩
  · obtain ⟨o, es, ep, ho, r⟩ := hm
    exact ⟨o, es, ep, k _ o (fun z => (hf _ z).2.1 rfl) ho, r⟩
  · by_cases hb : b = p
    · subst hb
      rw [upd_same] at e
      cases e
      exact new
    · rw [upd_ne hb] at e
      refine (I.hok b u e).stay (fun c v hc q => k c v ?_ q) (fun c q => by rw [upd_ne (ne_of_none q hn)]; exact q) fun c ys q => by rw [upd_ne (ne_of_none q hn)]; exact q
      rcases hc with z | z
      · rw [z]; exact nit b u e
      · exact nit c _ z
theorem Inv.turnedL {X : Cx} {pins : List (Addr × Obj)} {σ : St} {H : Hp} {s : Shared} {h' : Heap} {t' : Nat} {L : List Addr} (I : Inv X pins σ H s) (k : ∀ b o, b ∉ L -> s.heap.get? b = some o -> h'.get? b = some o)
    (hf : ∀ b ∈ L, FpOk X pins H b) : Inv X pins σ H { s with heap := h', toks := t' } := by
  have nit : ∀ b u, H b = some u -> b ∉ L := fun b u e z => by rw [(hf b z).1] at e; cases e
  refine I.step (g' := s.gens) (d' := s.drawn) (ch := L) (fun b hb => ?_) (fun b o _ _ hc e _ => k b o hc e) (fun b o _ _ hc e _ => ⟨o.slots, k b o hc e⟩) (fun _ _ _ _ n => n) (fun b o hc e => ⟨o, k b o hc e⟩) (fun _ _ e => e) (fun _ _ _ e => e) (fun b ps e => ⟨#[], by rw [e]; simp⟩)
    (fun m hm => ?_) (fun b u e => ?_) I.bare
  · obtain ⟨_, f1, _, f3, f4, f5⟩ := hf b hb
    exact ⟨f3, f1, f4, f5⟩
  · obtain ⟨o, es, ep, ho, r⟩ := hm
    exact ⟨o, es, ep, k _ o (fun z => (hf _ z).2.1 rfl) ho, r⟩
  · refine (I.hok b u e).stay (fun c v hc q => k c v ?_ q) (fun _ q => q) fun _ _ q => q
    rcases hc with z | z
    · rw [z]; exact nit b u e
    · exact nit c _ z
theorem turn_zip {P : Program} {w : World} {K : PySem.W.Frag} {tg : Expr} (htg : tupleTg tg = true) {z TI TO j1 j2 a b : Addr} (D : ZipApart z TI TO j1 j2 a b) :
    Turn P w K tg (Itz K a b) [z, TO, j1, j2, TI] z (fun i h => IsZip h z TI TO .none /\ IsPair h TI (.ref j1) (.ref j2) /\ (∃ u v, IsPair h TO u v) /\ h.IsTupleIter j1 a i /\ h.IsTupleIter j2 b i) where
  mem := List.mem_cons_self
  obj := fun i h st c hc => by
    obtain ⟨h1, h2, ⟨u, v, h3⟩, ⟨o4, h4, _, d4⟩, ⟨o5, h5, _, d5⟩⟩ := st
    have nof : ∀ {o : Obj} {vs : Array Value}, o.data = .fields vs -> ∀ v, o.data ≠ .cell v := fun e v q => by rw [e] at q; cases q
    have nos : ∀ {o : Obj} {vs : Array Value} {n : Nat}, o.data = .seq vs n -> ∀ v, o.data ≠ .cell v := fun e v q => by rw [e] at q; cases q
    simp only [List.mem_cons, List.not_mem_nil, or_false] at hc
    rcases hc with rfl | rfl | rfl | rfl | rfl
    · exact ⟨_, h1, nof rfl⟩
    · exact ⟨_, h3, nos rfl⟩
    · exact ⟨_, h4, nof d4⟩
    · exact ⟨_, h5, nof d5⟩
    · exact ⟨_, h2, nos rfl⟩
  keep := fun i h h' st k => by
    obtain ⟨h1, h2, ⟨u, v, h3⟩, ⟨o4, h4, r4⟩, ⟨o5, h5, r5⟩⟩ := st
    exact ⟨k _ (by simp) _ h1, k _ (by simp) _ h2, ⟨u, v, k _ (by simp) _ h3⟩, ⟨o4, k _ (by simp) _ h4, r4⟩, ⟨o5, k _ (by simp) _ h5, r5⟩⟩
  item := by
    intro X hP hw hK hc i pins s σ H E I hf st hg
    subst hP hw hK
    obtain ⟨h1, h2, ⟨u, v, h3⟩, h4, h5⟩ := st
    obtain ⟨xs, ys, x, y, qa, qb, hx, hy⟩ := hg
    obtain ⟨its, rv, pa, _⟩ := I.tuple qa
    obtain ⟨jts, rw', pb, _⟩ := I.tuple qb
    obtain ⟨ux, eux, rux⟩ := rv.get hx
    obtain ⟨uy, euy, ruy⟩ := rw'.get hy
    refine Zt.next_item D h1 h2 h3 h4 h5 (show s.heap.IsTuple a its.toArray from pa) (show s.heap.IsTuple b jts.toArray from pb) (x := ux) (y := uy) (by simpa using eux) (by simpa using euy) fun g b1 b2 b3 b4 b5 b6 => ?_
    refine ⟨_, rfl, ?_⟩
    have zlt : z < s.heap.objs.size := Heap.lt_size h1
    cases tg with
    | Tuple es kk pp =>
      refine wpAny_letOwnedTupleGo_zip b1 fun g' c1 sb => ?_
      have new : IsPair g' s.heap.objs.size ux uy := sb.extBut _ _ (Nat.ne_of_gt zlt) b5
      have I1 : Inv X pins σ (upd H s.heap.objs.size (.tup [x, y])) { s with heap := g' } := by
        refine I.turnedNew (t' := s.toks) (L := [z, TO, j1, j2, TI]) (fun c o hcn e => ?_) hf (Nat.le_refl _) ⟨by show 2 <= sizeLine; decide, [ux, uy], .cons rux (.cons ruy .nil), ⟨_, new, rfl, ⟨0, rfl⟩, rfl⟩⟩
        simp only [List.mem_cons, List.not_mem_nil, or_false, not_or] at hcn
        exact sb.extBut c o hcn.1 (b6 c o hcn.1 hcn.2.1 hcn.2.2.1 hcn.2.2.2.1 e)
      have h2' : IsPair g' TI (.ref j1) (.ref j2) := sb.extBut _ _ D.TIz (b6 _ _ D.TIz D.TITO D.TIi1 D.TIi2 h2)
      refine ⟨.ref s.heap.objs.size, _, I1, rfl, ⟨_, I.fresh, rfl, x, y, rfl, fun xs' ys' q1 q2 => ⟨by rw [I.tuple_inj q1 qa]; exact hx, by rw [I.tuple_inj q2 qb]; exact hy⟩⟩, ⟨c1, h2', ⟨_, _, sb.extBut _ _ D.TOz b2⟩, b3.extBut sb.extBut D.i1z, b4.extBut sb.extBut D.i2z⟩, fun c hcm => ?_⟩
      obtain ⟨o, eo, _⟩ : ∃ o, s.heap.get? c = some o /\ True := by
        simp only [List.mem_cons, List.not_mem_nil, or_false] at hcm
        rcases hcm with rfl | rfl | rfl | rfl | rfl
        · exact ⟨_, h1, trivial⟩
        · exact ⟨_, h3, trivial⟩
        · obtain ⟨o4, g4, _⟩ := h4
          exact ⟨_, g4, trivial⟩
        · obtain ⟨o5, g5, _⟩ := h5
          exact ⟨_, g5, trivial⟩
        · exact ⟨_, h2, trivial⟩
      rw [upd_ne (Nat.ne_of_lt (Heap.lt_size eo))]
      exact (hf c hcm).1
    | _ => exact absurd (show false = true from htg) Bool.false_ne_true
  done := by
    intro X hP hw hK hc i pins s σ H E I hf st hg
    subst hP hw hK
    obtain ⟨h1, h2, ⟨u, v, h3⟩, h4, h5⟩ := st
    obtain ⟨xs, ys, qa, qb, hl⟩ := hg
    obtain ⟨its, rv, pa, _⟩ := I.tuple qa
    obtain ⟨jts, rw', pb, _⟩ := I.tuple qb
    have e1 := rv.length
    have e2 := rw'.length
    refine Zt.next_stop (I.ok.hd hc) D h1 h2 h3 h4 h5 (show s.heap.IsTuple a its.toArray from pa) (show s.heap.IsTuple b jts.toArray from pb) ?_ fun g up => ⟨rfl, ?_⟩
    · rcases hl with hl | hl
      · exact .inl (by simp; omega)
      · exact .inr (by simp; omega)
    · refine I.turnedL (t' := s.toks) (L := [z, TO, j1, j2, TI]) (fun c o hcn e => ?_) hf
      simp only [List.mem_cons, List.not_mem_nil, or_false, not_or] at hcn
      exact up c o hcn.1 hcn.2.1 hcn.2.2.1 hcn.2.2.2.1 e
  self := fun _ _ _ _ _ st h => wpAny_pyIter_zip st.1 h
section
variable {X : Cx} {tg : Expr}
def iZip (K : PySem.W.Frag) (ta : TA) : TI := fun σ H R => ta σ H fun vs H1 => ∃ a b, vs = [.ref a, .ref b] /\ (∃ xs, SqT K H1 a xs) /\ (∃ ys, SqT K H1 b ys) /\ R (Itz K a b) H1
theorem apart_new {n l1 l2 : Addr} (h1 : l1 < n) (h2 : l2 < n) : ZipApart (n + 4) (n + 2) (n + 3) n (n + 1) l1 l2 := zipApart_new h1 h2
theorem pi_zip {e1 e2 : Expr} {ta : TA} {p pos : Pos} (htg : tupleTg tg = true) (hg : Gl X "zip") (hm : X.mg "zip" = none) (ha : PA X [e1, e2] ta) (hs : starEach [e1, e2] X.env = [(false, eval e1 X.env), (false, eval e2 X.env)] := by rfl) (hs2 : starEach [e2] X.env = [(false, eval e2 X.env)] := by rfl)
    (hb : bootBuiltins "zip" = some (.type "zip") := by decide +kernel) : PI X tg (.Call (.Name "zip" p) [e1, e2] [] pos) (iZip X.K ta) := by
  intro pins s σ H R I h
  refine Call_ (ld_blt I hg hm hb (PyProof.Rows.callWith_type1 (thn (ha pos pins s σ H _ I h) fun us s1 ⟨vs, H1, I1, r1, q1⟩ => ?_) (by rw [hs, hs2]) (by rw [hs2]; rfl)))
  obtain ⟨a, b, e, ⟨xs, qa⟩, ⟨ys, qb⟩, q⟩ := q1
  subst e
  obtain ⟨u1, u2, rfl, ra, rb⟩ := vals2 r1
  cases ra
  cases rb
  obtain ⟨its, rv, pa, _⟩ := I1.tuple qa
  obtain ⟨jts, rw', pb, _⟩ := I1.tuple qb
  have la : a < s1.heap.objs.size := by obtain ⟨o, e, _⟩ := pa; exact Heap.lt_size e
  have lb : b < s1.heap.objs.size := by obtain ⟨o, e, _⟩ := pb; exact Heap.lt_size e
  refine Zt.make (show s1.heap.IsTuple a its.toArray from pa) (show s1.heap.IsTuple b jts.toArray from pb) fun g z1 z2 z3 z4 z5 up => ?_
  refine wpAny_pyIter_zip z1 ?_
  have I2 : Inv X pins σ H1 { s1 with heap := g } := I1.kept (t' := s1.toks) up
  refine ⟨_, [s1.heap.objs.size + 4, s1.heap.objs.size + 3, s1.heap.objs.size, s1.heap.objs.size + 1, s1.heap.objs.size + 2], _, _, H1, rfl, I2, turn_zip htg (apart_new la lb), ⟨z1, z2, ⟨_, _, z3⟩, z4, z5⟩, fun c hc => ?_, q⟩
  have big : s1.heap.objs.size <= c := by
    simp only [List.mem_cons, List.not_mem_nil, or_false] at hc
    rcases hc with rfl | rfl | rfl | rfl | rfl
    · exact Nat.le_add_right _ _
    · exact Nat.le_add_right _ _
    · exact Nat.le_refl _
    · exact Nat.le_add_right _ _
    · exact Nat.le_add_right _ _
  exact I1.fpOk big (I1.hok.fresh big)
end
theorem for_zip {K : PySem.W.Frag} {a b : Addr} {xs ys : List V} {g : TG} {tb : TS} {D : Ends} {σ : St} {H : Hp} (Pv : Nat -> St -> Hp -> Prop) (h0 : Pv 0 σ H) (hl : ∀ i σ H, i <= min xs.length ys.length -> Pv i σ H -> SqT K H a xs /\ SqT K H b ys)
    (hs : ∀ i x y p σ H, xs[i]? = some x -> ys[i]? = some y -> H p = none -> Pv i σ H -> g (.ref p) σ (upd H p (.tup [x, y])) fun σ2 H2 => tb { D with nx := Pv (i + 1), ct := Pv (i + 1), bk := D.nx } σ2 H2) (hd : ∀ σ H, Pv (min xs.length ys.length) σ H -> D.nx σ H) :
    ∃ W : Nat -> Nat -> St -> Hp -> Prop, (∃ m, W 0 m σ H) /\ ∀ i m σ H, W i m σ H ->
      ((Itz K a b).stop i H /\ D.nx σ H) ∨ ((Itz K a b).go i H /\ ∃ N : St -> Hp -> Prop, (∀ σ' H', N σ' H' -> ∃ m', m' < m /\ W (i + 1) m' σ' H') /\ ∀ x H', (Itz K a b).yld i H x H' -> g x σ H' fun σ2 H2 => tb { D with nx := N, ct := N, bk := D.nx } σ2 H2) := by
  refine ⟨fun i m σ H => m = min xs.length ys.length - i /\ i <= min xs.length ys.length /\ Pv i σ H, ⟨_, rfl, Nat.zero_le _, h0⟩, ?_⟩
  rintro i m σ H ⟨rfl, hi, p⟩
  obtain ⟨qa, qb⟩ := hl i σ H hi p
  by_cases hlt : i < min xs.length ys.length
  · have h1 : i < xs.length := by omega
    have h2 : i < ys.length := by omega
    refine .inr ⟨⟨xs, ys, xs[i], ys[i], qa, qb, by simp [h1], by simp [h2]⟩, Pv (i + 1), fun σ' H' p' => ⟨min xs.length ys.length - (i + 1), by omega, rfl, hlt, p'⟩, fun v H' yv => ?_⟩
    obtain ⟨q, hq, rfl, x, y, rfl, hxy⟩ := yv
    obtain ⟨ex, ey⟩ := hxy xs ys qa qb
    exact hs i x y q σ H ex ey hq p
  · have e : i = min xs.length ys.length := by omega
    refine .inl ⟨⟨xs, ys, qa, qb, by omega⟩, hd σ H (e ▸ p)⟩
end L2
namespace Tp
open PySem PyProof.Rows
open AutoSeq1 (wpAny_loadPart')
end Tp
namespace L2
open PySem PySem.Spec PyProof.Rows
end L2
namespace Tp
open PySem PyProof.Rows
open AutoSeq1 (wpAny_loadPart')
end Tp
namespace HT
open PySem PyProof.Rows
end HT
namespace L2
open PySem PySem.Spec PyProof.Rows
end L2
namespace L2
open PySem PySem.Spec PyProof.Rows
end L2
namespace L2
open PySem PySem.Spec PyProof.Rows
theorem pe_ty {X : Cx} {x : Str} {T : String} {pos : Pos} (hg : Gl X x) (hm : X.mg x = none) (hv : bootBuiltins x = some (.type T)) (hn : x ≠ "__name__" := by decide) (hd : (x == ("__debug__" : Str)) = false := by decide) : PE X (.Name x pos) (tC (.ty T)) :=
  pe_bltn (v := .ty T) hg hm hv rfl hn hd
end L2
namespace Mth
def strip (p : Nat) (n : Nat) : Nat := if h : 2 <= p /\ 1 <= n /\ n % p = 0 then strip p (n / p) else n
termination_by n
decreasing_by exact Nat.div_lt_self h.2.1 h.1
theorem strip_div {p n : Nat} (hp : 2 <= p) (hn : 1 <= n) (h : n % p = 0) : strip p n = strip p (n / p) := by
  conv => lhs; unfold strip
  rw [dif_pos ⟨hp, hn, h⟩]
theorem strip_not {p n : Nat} (h : n % p ≠ 0) : strip p n = n := by
  unfold strip
  rw [dif_neg (fun q => h q.2.2)]
theorem div_pos_of {p n : Nat} (hn : 1 <= n) (h : n % p = 0) : 1 <= n / p := by
  have e := Nat.div_add_mod n p
  rw [h] at e
  rcases Nat.eq_zero_or_pos (n / p) with z | z
  · rw [z] at e; omega
  · exact z
theorem strip_pos {p : Nat} (hp : 2 <= p) : ∀ n : Nat, 1 <= n -> 1 <= strip p n := by
  intro n
  induction n using Nat.strongRecOn with
  | ind n ih =>
    intro hn
    by_cases h : n % p = 0
    · rw [strip_div hp hn h]
      exact ih _ (Nat.div_lt_self hn hp) (div_pos_of hn h)
    · rw [strip_not h]; exact hn
theorem strip_pow {p : Nat} (hp : 2 <= p) {m : Nat} (hm : 1 <= m) : ∀ e : Nat, strip p (p ^ e * m) = strip p m := by
  intro e
  induction e with
  | zero => rw [Nat.pow_zero, Nat.one_mul]
  | succ e ih =>
    have h1 : p ^ (e + 1) * m = p * (p ^ e * m) := by rw [Nat.pow_succ, Nat.mul_comm (p ^ e) p, Nat.mul_assoc]
    have hpos : 1 <= p ^ e * m := Nat.mul_pos (Nat.pow_pos (by omega)) hm
    have h2 : 1 <= p * (p ^ e * m) := Nat.mul_pos (by omega) hpos
    rw [h1, strip_div hp h2 (Nat.mul_mod_right _ _), Nat.mul_div_cancel_left _ (by omega)]
    exact ih
def primes : List Nat := [2, 3, 5, 7, 11, 13, 17, 19, 23, 29]
def stripL (ps : List Nat) (n : Nat) : Nat := ps.foldl (fun m p => strip p m) n
def stripAll (n : Nat) : Nat := stripL primes n
theorem stripL_pos : ∀ (ps : List Nat), (∀ p ∈ ps, 2 <= p) -> ∀ n, 1 <= n -> 1 <= stripL ps n
  | [], _, _, h => h
  | p :: ps, hp, n, h => stripL_pos ps (fun q hq => hp q (List.mem_cons_of_mem _ hq)) _ (strip_pos (hp p List.mem_cons_self) n h)
theorem two_le : ∀ p ∈ primes, 2 <= p := by decide
def noShare (a b : Nat) : Bool := primes.all fun p => a % p != 0 || b % p != 0
theorem noShare_iff {a b : Nat} : noShare a b = true ↔ ∀ p ∈ primes, ¬ (p ∣ a /\ p ∣ b) := by
  unfold noShare
  rw [List.all_eq_true]
  constructor
  · intro h p hp ⟨h1, h2⟩
    have := h p hp
    rw [Nat.mod_eq_zero_of_dvd h1, Nat.mod_eq_zero_of_dvd h2] at this
    exact absurd this (by decide)
  · intro h p hp
    by_cases h1 : a % p = 0
    · by_cases h2 : b % p = 0
      · exact absurd ⟨Nat.dvd_of_mod_eq_zero h1, Nat.dvd_of_mod_eq_zero h2⟩ (h p hp)
      · simp [h2]
    · simp [h1]
def prodR : List Nat -> List Nat -> Nat
  | p :: ps, e :: es => p ^ e * prodR ps es
  | _, _ => 1
theorem prodR_pos : ∀ (ps es : List Nat), (∀ p ∈ ps, 2 <= p) -> 1 <= prodR ps es
  | [], _, _ => Nat.le_refl _
  | _ :: _, [], _ => Nat.le_refl _
  | p :: ps, e :: es, h => Nat.mul_pos (Nat.pow_pos (by have := h p List.mem_cons_self; omega)) (prodR_pos ps es fun q hq => h q (List.mem_cons_of_mem _ hq))
theorem cop_prodR {p : Nat} : ∀ (ps es : List Nat), (∀ q ∈ ps, Nat.Coprime p q) -> Nat.Coprime p (prodR ps es)
  | [], _, _ => Nat.coprime_one_right p
  | _ :: _, [], _ => Nat.coprime_one_right p
  | q :: ps, e :: es, h => Nat.Coprime.mul_right (Nat.Coprime.pow_right e (h q List.mem_cons_self)) (cop_prodR ps es fun r hr => h r (List.mem_cons_of_mem _ hr))
theorem not_mod_of_cop {p n : Nat} (hp : 2 <= p) (c : Nat.Coprime p n) : n % p ≠ 0 := fun h => by
  have := c.eq_one_of_dvd (Nat.dvd_of_mod_eq_zero h)
  omega
theorem strip_one {p : Nat} (hp : 2 <= p) : strip p 1 = 1 := strip_not (by rw [Nat.mod_eq_of_lt (by omega)]; decide)
theorem stripL_one : ∀ (ps : List Nat), (∀ p ∈ ps, 2 <= p) -> stripL ps 1 = 1
  | [], _ => rfl
  | p :: ps, h => by
    show stripL ps (strip p 1) = 1
    rw [strip_one (h p List.mem_cons_self)]
    exact stripL_one ps fun q hq => h q (List.mem_cons_of_mem _ hq)
theorem stripL_prodR : ∀ (ps es : List Nat), (∀ p ∈ ps, 2 <= p) -> ps.Pairwise Nat.Coprime -> stripL ps (prodR ps es) = 1
  | [], _, _, _ => rfl
  | p :: ps, [], h, _ => stripL_one (p :: ps) h
  | p :: ps, e :: es, h, c => by
    have hp := h p List.mem_cons_self
    have ht : ∀ q ∈ ps, 2 <= q := fun q hq => h q (List.mem_cons_of_mem _ hq)
    have c' := List.pairwise_cons.mp c
    show stripL ps (strip p (p ^ e * prodR ps es)) = 1
    rw [strip_pow hp (prodR_pos ps es ht), strip_not (not_mod_of_cop hp (cop_prodR ps es c'.1))]
    exact stripL_prodR ps es ht c'.2
theorem primes_cop : primes.Pairwise Nat.Coprime := by decide
def prod (es : List Nat) : Nat := prodR primes es
theorem prod_pos (es : List Nat) : 1 <= prod es := prodR_pos _ _ two_le
theorem stripAll_prod (es : List Nat) : stripAll (prod es) = 1 := stripL_prodR _ _ two_le primes_cop
theorem cop_at {p : Nat} : ∀ (ps es : List Nat) (k : Nat), ps.Pairwise Nat.Coprime -> ps[k]? = some p -> es.getD k 0 = 0 -> Nat.Coprime p (prodR ps es)
  | [], _, _, _, h, _ => by simp at h
  | _ :: _, [], _, _, _, _ => Nat.coprime_one_right p
  | q :: ps, e :: es, 0, c, h, h0 => by
    simp at h h0
    subst h; subst h0
    show Nat.Coprime q (q ^ 0 * prodR ps es)
    rw [Nat.pow_zero, Nat.one_mul]
    exact cop_prodR ps es (List.pairwise_cons.mp c).1
  | q :: ps, e :: es, k + 1, c, h, h0 => by
    have c' := List.pairwise_cons.mp c
    have h' : ps[k]? = some p := by simpa using h
    have hm : p ∈ ps := List.mem_of_getElem? h'
    refine Nat.Coprime.mul_right (Nat.Coprime.pow_right e (Nat.Coprime.symm (c'.1 p hm))) ?_
    exact cop_at ps es k c'.2 h' (by simpa using h0)
theorem noShare_prod {es fs : List Nat} (h : ∀ k, es.getD k 0 = 0 ∨ fs.getD k 0 = 0) : noShare (prod es) (prod fs) = true := by
  rw [noShare_iff]
  intro p hp ⟨h1, h2⟩
  obtain ⟨k, hk⟩ := List.getElem?_of_mem hp
  have tp := two_le p hp
  rcases h k with e | e
  · have := (cop_at primes es k primes_cop hk e).eq_one_of_dvd h1; omega
  · have := (cop_at primes fs k primes_cop hk e).eq_one_of_dvd h2; omega
theorem prodR_le : ∀ (ps es : List Nat), (∀ p ∈ ps, p <= 29) -> prodR ps es <= 29 ^ es.sum
  | [], _, _ => Nat.pow_pos (by decide)
  | _ :: _, [], _ => Nat.le_refl _
  | p :: ps, e :: es, h => by
    rw [List.sum_cons, Nat.pow_add]
    exact Nat.mul_le_mul (Nat.pow_le_pow_left (h p List.mem_cons_self) e) (prodR_le ps es fun q hq => h q (List.mem_cons_of_mem _ hq))
theorem prod_le (es : List Nat) : prod es <= 29 ^ es.sum := prodR_le primes es (by decide)
def termB (i : Int) : Bool := decide (1 <= i) && decide (i <= 1000000000000) && decide (stripAll i.toNat = 1)
def fracB (i j : Int) : Bool := termB i && termB j && noShare i.toNat j.toNat
def ups (xs : List Int) : List Nat := xs.map Int.toNat
def downs (xs : List Int) : List Nat := xs.map fun x => (-x).toNat
theorem ups_or_downs (xs : List Int) (k : Nat) : (ups xs).getD k 0 = 0 ∨ (downs xs).getD k 0 = 0 := by
  unfold ups downs
  rw [List.getD_eq_getElem?_getD, List.getD_eq_getElem?_getD, List.getElem?_map, List.getElem?_map]
  cases xs[k]? with
  | none => exact .inl rfl
  | some x => simp; omega
theorem sum_set_le : ∀ (xs : List Nat) (k : Nat) (v : Nat), (xs.set k v).sum + xs.getD k 0 <= xs.sum + v
  | [], k, v => by simp
  | x :: xs, 0, v => by simp; omega
  | x :: xs, k + 1, v => by
    have := sum_set_le xs k v
    simp only [List.set_cons_succ, List.sum_cons, List.getD_cons_succ]
    omega
theorem ups_up {xs : List Int} {k : Nat} {x : Int} (h : xs[k]? = some x) : (ups (xs.set k (x + 1))).sum <= (ups xs).sum + 1 := by
  have q := sum_set_le (ups xs) k (x + 1).toNat
  have e : (ups xs).getD k 0 = x.toNat := by unfold ups; rw [List.getD_eq_getElem?_getD, List.getElem?_map, h]; rfl
  rw [e] at q
  have e2 : ups (xs.set k (x + 1)) = (ups xs).set k (x + 1).toNat := by unfold ups; rw [List.map_set]
  rw [e2]
  omega
end Mth
namespace L2
open PySem PySem.Spec PyProof.Rows
theorem pe_globC {X : Cx} {x : Str} {i : Int} {pos : Pos} (hg : Gl X x) (hm : ∃ t, X.mg x = some (.int i t)) (hd : (x == ("__debug__" : Str)) = false := by decide) : PE X (.Name x pos) (tC (.int i)) := by
  obtain ⟨t, h⟩ := hm
  exact pe_glob hg h ⟨t, rfl⟩ hd
def relN (sc osc : Scope) : List (Str × NameKind) := sc.names.map fun (n, k) => if (k == .free && osc.kind == .function && osc.names.lookup n == some .cell) then (n, .cell) else (n, k)
def ksOf (sc : Scope) : List Str := ((sc.names.filter (fun p => p.2 == .free)).reverse).map (·.1)
def compChk (sc osc : Scope) (N XN : List Str) (js : List (Option Nat)) : Bool :=
  sc.names.all (fun y => y.2 != .cell) && decide (sc.kind = .function) && sc.names.all (fun y => y.2 != .local || sc.names.lookup y.1 == some .local) &&
  (relN sc osc).all (fun p => !(p.2 == .cell || p.2 == .free) || (ksOf sc).contains p.1) && js.length == N.length &&
  (List.range N.length).all fun i => match js[i]?, N[i]? with
    | some (some j), some x => XN[j]? == some x && osc.names.lookup x == some .cell && ((relN sc osc).lookup x == some .cell || (relN sc osc).lookup x == some .free)
    | _, _ => true
theorem mem_of_lookup {α β : Type} [BEq α] [LawfulBEq α] : ∀ {l : List (α × β)} {x : α} {c : β}, l.lookup x = some c -> (x, c) ∈ l
  | [], _, _, h => by simp at h
  | (y, d) :: r, x, c, h => by
    rw [List.lookup_cons] at h
    cases e : (x == y) with
    | true =>
      rw [e] at h
      cases h
      rw [eq_of_beq e]
      exact List.mem_cons_self
    | false =>
      rw [e] at h
      exact List.mem_cons_of_mem _ (mem_of_lookup h)
theorem lookup_of_key {α β : Type} [BEq α] [LawfulBEq α] : ∀ {l : List (α × β)} {x : α}, x ∈ l.map (·.1) -> ∃ c, l.lookup x = some c
  | [], _, h => by cases h
  | (y, d) :: r, x, h => by
    rw [List.lookup_cons]
    cases e : (x == y) with
    | true => exact ⟨d, rfl⟩
    | false =>
      rcases List.mem_cons.mp h with z | z
      · rw [z] at e; simp at e
      · exact lookup_of_key z
theorem compOk_of {X : Cx} {sc osc : Scope} {cl : List (Str × Addr)} {N XN : List Str} {js : List (Option Nat)} (ho : X.env.scope = osc) (clos : closureFor sc X.env = pure cl) (hk : cl.map (·.1) = ksOf sc)
    (hsub : ∀ p ∈ cl, X.env.cells.lookup p.1 = some p.2) (chk : compChk sc osc N XN js = true) (hN : X.N = XN) : CompOk X sc cl N js := by
  unfold compChk at chk
  simp only [Bool.and_eq_true] at chk
  obtain ⟨⟨⟨⟨⟨h1, h2⟩, h3⟩, h4⟩, h5⟩, h6⟩ := chk
  have er : (relabel sc X.env).names = relN sc osc := by
    unfold relabel relN Env.kindOf
    rw [ho]
  refine ⟨clos, ?_, of_decide_eq_true h2, ?_, ?_, ?_, eq_of_beq h5, ?_⟩
  · intro y hy
    have := List.all_eq_true.mp h1 y hy
    simpa using this
  · intro y hy hl
    have := List.all_eq_true.mp h3 y hy
    rw [hl] at this
    simpa using this
  · intro x c h
    exact hsub (x, c) (mem_of_lookup h)
  · intro x h
    rw [er] at h
    refine lookup_of_key ?_
    rw [hk]
    rcases h with h | h
    all_goals
      have := List.all_eq_true.mp h4 _ (mem_of_lookup h)
      simpa using this
  · intro i j x hNi hj
    have hi : i < N.length := (List.getElem?_eq_some_iff.mp hNi).1
    have := List.all_eq_true.mp h6 i (List.mem_range.mpr hi)
    rw [hj, hNi] at this
    simp only [Bool.and_eq_true, Bool.or_eq_true] at this
    obtain ⟨⟨a, b⟩, c⟩ := this
    refine ⟨?_, ?_, ?_⟩
    · rw [hN]; exact eq_of_beq a
    · rw [ho]; exact eq_of_beq b
    · rw [er]
      rcases c with c | c
      · exact .inl (eq_of_beq c)
      · exact .inr (eq_of_beq c)
end L2
namespace W2
open PySem L2
structure Df (K : PySem.W.Frag) (mg : Str -> Option Value) (x : Str) (st : Stmt) (ps : List Str) (f : Addr) (fd : FuncData) : Prop where
  fn : Fun K x x st f fd
  at_ : mg x = some (.ref f)
  bd : Binds K fd ps []
theorem b_len : bootBuiltins "len" = some (.builtin "len") := PySem.boot_len
theorem b_isinstance : bootBuiltins "isinstance" = some (.builtin "isinstance") := by decide +kernel
theorem b_int : bootBuiltins "int" = some (.type "int") := by decide +kernel
theorem b_bool : bootBuiltins "bool" = some (.type "bool") := by decide +kernel
theorem b_tuple : bootBuiltins "tuple" = some (.type "tuple") := by decide +kernel
theorem b_list : bootBuiltins "list" = some (.type "list") := by decide +kernel
theorem b_max : bootBuiltins "max" = some (.builtin "max") := by decide +kernel
theorem b_min : bootBuiltins "min" = some (.builtin "min") := by decide +kernel
theorem b_all : bootBuiltins "all" = some (.builtin "all") := by decide +kernel
def kindV (H : Hp) : V -> Prop
  | .non => True
  | .bl _ => True
  | .int _ => True
  | .str _ => True
  | .ref a => (∃ xs, H a = some (.tup xs)) ∨ (∃ xs, H a = some (.lst xs)) ∨ (∃ kvs, H a = some (.dK kvs))
  | _ => False
def isI : V -> Bool
  | .int _ => true
  | .bl _ => true
  | _ => false
def isB : V -> Bool
  | .bl _ => true
  | _ => false
def isW : V -> Bool
  | .int _ => true
  | _ => false
theorem isW_eq (v : V) : (isI v && !isB v) = isW v := by cases v <;> rfl
section
variable {K : PySem.W.Frag} {H : Hp} {v : V}
theorem isi_I (k : kindV H v) : ∃ t, TyOf K H v t /\ PySem.W.kitOne K t (.type "int") = some (isI v) := by
  cases v with
  | non => exact ⟨_, .non, by kernel_rfl⟩
  | bl b => exact ⟨_, .bl b, by kernel_rfl⟩
  | int i => exact ⟨_, .int i, by kernel_rfl⟩
  | str x => exact ⟨_, .str x, by kernel_rfl⟩
  | ref a =>
    rcases (show (∃ xs, H a = some (.tup xs)) ∨ (∃ xs, H a = some (.lst xs)) ∨ (∃ kvs, H a = some (.dK kvs)) from k) with ⟨xs, e⟩ | ⟨xs, e⟩ | ⟨kvs, e⟩
    · exact ⟨_, .tup e, by kernel_rfl⟩
    · exact ⟨_, .lst e, by kernel_rfl⟩
    · exact ⟨_, .dK e, by kernel_rfl⟩
  | _ => exact False.elim k
theorem isi_B (k : kindV H v) : ∃ t, TyOf K H v t /\ PySem.W.kitOne K t (.type "bool") = some (isB v) := by
  cases v with
  | non => exact ⟨_, .non, by kernel_rfl⟩
  | bl b => exact ⟨_, .bl b, by kernel_rfl⟩
  | int i => exact ⟨_, .int i, by kernel_rfl⟩
  | str x => exact ⟨_, .str x, by kernel_rfl⟩
  | ref a =>
    rcases (show (∃ xs, H a = some (.tup xs)) ∨ (∃ xs, H a = some (.lst xs)) ∨ (∃ kvs, H a = some (.dK kvs)) from k) with ⟨xs, e⟩ | ⟨xs, e⟩ | ⟨kvs, e⟩
    · exact ⟨_, .tup e, by kernel_rfl⟩
    · exact ⟨_, .lst e, by kernel_rfl⟩
    · exact ⟨_, .dK e, by kernel_rfl⟩
  | _ => exact False.elim k
end
def But (a : Addr) (H H' : Hp) : Prop := ∀ b o, b ≠ a -> H b = some o -> H' b = some o
theorem But.refl (a : Addr) (H : Hp) : But a H H := fun _ _ _ h => h
theorem But.trans {a : Addr} {H H1 H2 : Hp} (x : But a H H1) (y : But a H1 H2) : But a H H2 := fun b o n h => y b o n (x b o n h)
theorem But.of {a : Addr} {H H' : Hp} (x : Same H H') : But a H H' := fun b o _ h => x b o h
theorem But.upd {a : Addr} {H : Hp} {o : HO} : But a H (upd H a o) := fun b q n h => by rw [upd_ne n]; exact h
theorem But.new {a p : Addr} {H H' : Hp} {o : HO} (x : But a H H') (h : H' p = none) : But a H (L2.upd H' p o) := fun b q n e => by rw [upd_ne (ne_of_none (x b q n e) h)]; exact x b q n e
theorem But.set {a : Addr} {H H' : Hp} {o : HO} (x : But a H H') : But a H (L2.upd H' a o) := fun b q n e => by rw [upd_ne n]; exact x b q n e
theorem Same.new {H : Hp} {p : Addr} {o : HO} (h : H p = none) : Same H (upd H p o) := fun b q e => by rw [upd_ne (ne_of_none e h)]; exact e
theorem Same.more {H H' : Hp} {p : Addr} {o : HO} (s : Same H H') (h : H' p = none) : Same H (upd H' p o) := s.trans (Same.new h)
theorem map_int_get {ns : List Int} {i : Nat} {y : V} (h : (ns.map V.int)[i]? = some y) : ∃ z, y = .int z /\ ns[i]? = some z := by
  rw [List.getElem?_map] at h
  cases e : ns[i]? with
  | none => rw [e] at h; cases h
  | some z => rw [e] at h; exact ⟨z, (Option.some.inj h).symm, rfl⟩
theorem atI_of {α : Type} {xs : List α} {i : Int} {v : α} (h0 : 0 <= i) (h : xs[i.toNat]? = some v) : atI xs i = some v := by
  have := atI_nat h
  rwa [Int.toNat_of_nonneg h0] at this
theorem ixN_of {n : Nat} {i : Int} (h0 : 0 <= i) (h : i < n) : ixN n i = some i.toNat := by
  unfold ixN
  rw [if_pos h0, if_pos h]
end W2
namespace L2
open PySem PySem.Spec PyProof.Rows
def noStar : Expr -> Bool
  | .Starred _ _ => false
  | _ => true
theorem starEach_cons {e : Expr} (h : noStar e = true) (es : List Expr) (env : Env) : starEach (e :: es) env = (false, eval e env) :: starEach es env := by
  cases e <;> first | rfl | cases h
theorem pa_c {X : Cx} {e : Expr} {es : List Expr} {te : TE} {t : TA} (ha : PE X e te) (hr : PA X es t) (h : noStar e = true := by rfl) : PA X (e :: es) (tCons te t) := pa_cons ha hr (starEach_cons h es X.env)
section
variable {K : PySem.W.Frag} {a D : Addr} {js : List (Option Nat)} {g : TG} {te : TE} {σ : St} {H1 : Hp} {Q : VK}
theorem comp_plain {J : It} {n : Nat} (hn : n <= sizeLine) (Pv : Nat -> St -> Hp -> List V -> Prop) (h0 : Pv 0 (pick js σ) (upd H1 D (.lst [])) [])
    (hgo : ∀ i σ' H' ys, i < n -> H' D = some (.lst ys) -> Pv i σ' H' ys -> J.go i H') (hst : ∀ σ' H' ys, H' D = some (.lst ys) -> ys.length = n -> Pv n σ' H' ys -> J.stop n H' /\ Q (.ref D) H')
    (hs : ∀ i σ' H' ys x H2 (R : St -> V -> Hp -> Prop), i < n -> H' D = some (.lst ys) -> ys.length = i -> Pv i σ' H' ys -> J.yld i H' x H2 ->
      (∀ σ2 y H4, H4 D = some (.lst ys) -> Pv (i + 1) σ2 (upd H4 D (.lst (ys ++ [y]))) (ys ++ [y]) -> R σ2 y H4) -> g x σ' H2 fun σ2 H3 => te σ2 H3 fun y H4 => R σ2 y H4) :
    CompW J D js g tNoTest te σ H1 Q := by
  refine ⟨fun i m σ' H' ys => m = n - i /\ i <= n /\ H' D = some (.lst ys) /\ ys.length = i /\ Pv i σ' H' ys, ⟨n, rfl, Nat.zero_le _, upd_same, rfl, h0⟩, ?_⟩
  rintro i m σ' H' ys ⟨rfl, hi, hD, hy, p⟩
  refine ⟨hD, ?_⟩
  by_cases e : i = n
  · subst e
    exact .inl (hst σ' H' ys hD hy p)
  · have hlt : i < n := by omega
    refine .inr ⟨hgo i σ' H' ys hlt hD p, by omega, fun σ2 H2 zs => H2 D = some (.lst zs) /\ zs.length = i + 1 /\ Pv (i + 1) σ2 H2 zs, fun σ2 H2 zs ⟨z1, z2, z3⟩ => ⟨n - (i + 1), by omega, rfl, by omega, z1, z2, z3⟩, fun x H2 hx => ?_⟩
    exact hs i σ' H' ys x H2 (fun σ2 y H4 => H4 D = some (.lst ys) /\ (upd H4 D (.lst (ys ++ [y]))) D = some (.lst (ys ++ [y])) /\ (ys ++ [y]).length = i + 1 /\ Pv (i + 1) σ2 (upd H4 D (.lst (ys ++ [y]))) (ys ++ [y])) hlt hD hy p hx
      fun σ2 y H4 z1 z2 => ⟨z1, upd_same, by rw [List.length_append, hy]; rfl, z2⟩
theorem comp_range {lo : Int} {n : Nat} (hn : n <= sizeLine) (Pv : Nat -> St -> Hp -> List V -> Prop) (h0 : Pv 0 (pick js σ) (upd H1 D (.lst [])) [])
    (hs : ∀ i σ' H' ys (R : St -> V -> Hp -> Prop), i < n -> H' D = some (.lst ys) -> ys.length = i -> Pv i σ' H' ys -> (∀ σ2 y H4, H4 D = some (.lst ys) -> Pv (i + 1) σ2 (upd H4 D (.lst (ys ++ [y]))) (ys ++ [y]) -> R σ2 y H4) ->
      g (.int (lo + i)) σ' H' fun σ2 H3 => te σ2 H3 fun y H4 => R σ2 y H4)
    (hst : ∀ σ' H' ys, H' D = some (.lst ys) -> ys.length = n -> Pv n σ' H' ys -> Q (.ref D) H') : CompW (Itr lo n) D js g tNoTest te σ H1 Q :=
  comp_plain hn Pv h0 (fun i _ _ _ hi _ _ => hi) (fun σ' H' ys a b c => ⟨Nat.le_refl _, hst σ' H' ys a b c⟩) fun i σ' H' ys x H2 R hi a b c ⟨e1, e2⟩ => by
    subst e1; subst e2
    exact hs i σ' H2 ys R hi a b c
theorem comp_list {xs : List V} (hn : xs.length <= sizeLine) (Pv : Nat -> St -> Hp -> List V -> Prop) (h0 : Pv 0 (pick js σ) (upd H1 D (.lst [])) [])
    (hl : ∀ i σ' H' ys, i <= xs.length -> H' D = some (.lst ys) -> Pv i σ' H' ys -> SqL K H' a xs)
    (hs : ∀ i x σ' H' ys (R : St -> V -> Hp -> Prop), xs[i]? = some x -> H' D = some (.lst ys) -> ys.length = i -> Pv i σ' H' ys -> (∀ σ2 y H4, H4 D = some (.lst ys) -> Pv (i + 1) σ2 (upd H4 D (.lst (ys ++ [y]))) (ys ++ [y]) -> R σ2 y H4) ->
      g x σ' H' fun σ2 H3 => te σ2 H3 fun y H4 => R σ2 y H4)
    (hst : ∀ σ' H' ys, H' D = some (.lst ys) -> ys.length = xs.length -> Pv xs.length σ' H' ys -> Q (.ref D) H') : CompW (Itl K a) D js g tNoTest te σ H1 Q :=
  comp_plain hn Pv h0 (fun i σ' H' ys hi hD p => ⟨xs, xs[i], hl i σ' H' ys (by omega) hD p, List.getElem?_eq_getElem hi⟩)
    (fun σ' H' ys hD b c => ⟨⟨xs, hl _ σ' H' ys (Nat.le_refl _) hD c, Nat.le_refl _⟩, hst σ' H' ys hD b c⟩) fun i σ' H' ys x H2 R hi hD b c ⟨e1, e2⟩ => by
    subst e1
    exact hs i x σ' H2 ys R (e2 xs (hl i σ' H2 ys (by omega) hD c)) hD b c
theorem comp_tup {xs : List V} (hn : xs.length <= sizeLine) (Pv : Nat -> St -> Hp -> List V -> Prop) (h0 : Pv 0 (pick js σ) (upd H1 D (.lst [])) [])
    (hl : ∀ i σ' H' ys, i <= xs.length -> H' D = some (.lst ys) -> Pv i σ' H' ys -> SqT K H' a xs)
    (hs : ∀ i x σ' H' ys (R : St -> V -> Hp -> Prop), xs[i]? = some x -> H' D = some (.lst ys) -> ys.length = i -> Pv i σ' H' ys -> (∀ σ2 y H4, H4 D = some (.lst ys) -> Pv (i + 1) σ2 (upd H4 D (.lst (ys ++ [y]))) (ys ++ [y]) -> R σ2 y H4) ->
      g x σ' H' fun σ2 H3 => te σ2 H3 fun y H4 => R σ2 y H4)
    (hst : ∀ σ' H' ys, H' D = some (.lst ys) -> ys.length = xs.length -> Pv xs.length σ' H' ys -> Q (.ref D) H') : CompW (Itt K a) D js g tNoTest te σ H1 Q :=
  comp_plain hn Pv h0 (fun i σ' H' ys hi hD p => ⟨xs, xs[i], hl i σ' H' ys (by omega) hD p, List.getElem?_eq_getElem hi⟩)
    (fun σ' H' ys hD b c => ⟨⟨xs, hl _ σ' H' ys (Nat.le_refl _) hD c, Nat.le_refl _⟩, hst σ' H' ys hD b c⟩) fun i σ' H' ys x H2 R hi hD b c ⟨e1, e2⟩ => by
    subst e1
    exact hs i x σ' H2 ys R (e2 xs (hl i σ' H2 ys (by omega) hD c)) hD b c
end
theorem SqL.upd_new {K : PySem.W.Frag} {H : Hp} {a D : Addr} {xs : List V} {o : HO} (h : SqL K H a xs) (n : H D = none) : SqL K (upd H D o) a xs := by
  rcases h with (h | ⟨u, h⟩) | h
  · exact .inl (.inl (by rw [upd_ne (ne_of_none h n)]; exact h))
  · exact .inl (.inr ⟨u, by rw [upd_ne (ne_of_none h n)]; exact h⟩)
  · exact .inr h
theorem SqT.upd_new {K : PySem.W.Frag} {H : Hp} {a D : Addr} {xs : List V} {o : HO} (h : SqT K H a xs) (n : H D = none) : SqT K (upd H D o) a xs := by
  rcases h with (h | ⟨u, h⟩) | h
  · exact .inl (.inl (by rw [upd_ne (ne_of_none h n)]; exact h))
  · exact .inl (.inr ⟨u, by rw [upd_ne (ne_of_none h n)]; exact h⟩)
  · exact .inr h
theorem take_map_succ {α β : Type} {f : α -> β} {xs : List α} {i : Nat} {x : α} (h : xs[i]? = some x) : (xs.take (i + 1)).map f = (xs.take i).map f ++ [f x] := by
  rw [List.take_add_one, h, List.map_append]
  rfl
section
variable {K : PySem.W.Frag} {a D : Addr} {js : List (Option Nat)} {te : TE} {σ : St} {H1 : Hp} {Q : VK}
theorem comp_map_list {xs : List V} {o : Option V} {σ0 : St} {f : V -> V} (hp : pick js σ = o :: σ0) (hn : xs.length <= sizeLine) (hD : H1 D = none) (hS : SqL K H1 a xs)
    (hs : ∀ (x : V) (H' : Hp) (R : VK), x ∈ xs -> R (f x) H' -> te (some x :: σ0) H' R) (q : Q (.ref D) (upd H1 D (.lst (xs.map f)))) : CompW (Itl K a) D js (gName 0) tNoTest te σ H1 Q := by
  refine comp_list (xs := xs) hn (fun i σ' H' ys => (∃ u, σ' = u :: σ0) /\ ys = (xs.take i).map f /\ H' = upd H1 D (.lst ys)) ⟨⟨o, hp⟩, rfl, rfl⟩ ?_ ?_ ?_
  · rintro i σ' H' ys _ _ ⟨_, rfl, rfl⟩
    exact hS.upd_new hD
  · rintro i x σ' H' ys R hx _ _ ⟨⟨u, rfl⟩, rfl, rfl⟩ k
    refine hs x _ _ (List.mem_of_getElem? hx) (k _ _ _ upd_same ⟨⟨_, rfl⟩, (take_map_succ hx).symm, upd_upd⟩)
  · rintro σ' H' ys _ _ ⟨_, rfl, rfl⟩
    rw [List.take_length]
    exact q
theorem comp_map_tup {xs : List V} {o : Option V} {σ0 : St} {f : V -> V} (hp : pick js σ = o :: σ0) (hn : xs.length <= sizeLine) (hD : H1 D = none) (hS : SqT K H1 a xs)
    (hs : ∀ (x : V) (H' : Hp) (R : VK), x ∈ xs -> R (f x) H' -> te (some x :: σ0) H' R) (q : Q (.ref D) (upd H1 D (.lst (xs.map f)))) : CompW (Itt K a) D js (gName 0) tNoTest te σ H1 Q := by
  refine comp_tup (xs := xs) hn (fun i σ' H' ys => (∃ u, σ' = u :: σ0) /\ ys = (xs.take i).map f /\ H' = upd H1 D (.lst ys)) ⟨⟨o, hp⟩, rfl, rfl⟩ ?_ ?_ ?_
  · rintro i σ' H' ys _ _ ⟨_, rfl, rfl⟩
    exact hS.upd_new hD
  · rintro i x σ' H' ys R hx _ _ ⟨⟨u, rfl⟩, rfl, rfl⟩ k
    refine hs x _ _ (List.mem_of_getElem? hx) (k _ _ _ upd_same ⟨⟨_, rfl⟩, (take_map_succ hx).symm, upd_upd⟩)
  · rintro σ' H' ys _ _ ⟨_, rfl, rfl⟩
    rw [List.take_length]
    exact q
end
theorem while_own {c : TT} {tb : TS} {D : Ends} {σ : St} {H : Hp} (Pv : St -> Hp -> Prop) (μ : St -> Hp -> Nat) (h0 : Pv σ H)
    (hs : ∀ σ H, Pv σ H -> c σ H fun b H1 => if b = true then ∃ N : St -> Hp -> Prop, (∀ σ' H', N σ' H' -> ∃ m', m' < μ σ H /\ m' = μ σ' H' /\ Pv σ' H') /\ tb { D with nx := N, ct := N, bk := D.nx } σ H1 else D.nx σ H1) : tWhile c tb D σ H :=
  ⟨fun m σ H => m = μ σ H /\ Pv σ H, ⟨_, rfl, h0⟩, fun m σ H ⟨e, p⟩ => by subst e; exact hs σ H p⟩
theorem whN {tb : TS} {D : Ends} {σ : St} {H1 : Hp} {m : Nat} {Pv : St -> Hp -> Prop} {μ : St -> Hp -> Nat} (h : tb { D with nx := fun σ' H' => Pv σ' H' /\ μ σ' H' < m, ct := fun σ' H' => Pv σ' H' /\ μ σ' H' < m, bk := D.nx } σ H1) :
    ∃ N : St -> Hp -> Prop, (∀ σ' H', N σ' H' -> ∃ m', m' < m /\ m' = μ σ' H' /\ Pv σ' H') /\ tb { D with nx := N, ct := N, bk := D.nx } σ H1 := ⟨_, fun _ _ ⟨a, b⟩ => ⟨_, b, rfl, a⟩, h⟩
theorem sIx_of {n d : Nat} {i : Int} (h : 0 <= i) : HT.sIx n d (some i) = min i.toNat n := by
  show (if i < 0 then _ else _) = _
  rw [if_neg (by omega)]
theorem cutV_pre {xs : List V} {i : Int} (h : 0 <= i) : cutV xs none (some i) = xs.take i.toNat := by
  unfold cutV
  rw [sIx_of h]
  show (xs.drop 0).take (min i.toNat xs.length - 0) = _
  rw [List.drop_zero, Nat.sub_zero]
  rcases Nat.le_total i.toNat xs.length with g | g
  · rw [Nat.min_eq_left g]
  · rw [Nat.min_eq_right g, List.take_of_length_le (Nat.le_refl _), List.take_of_length_le g]
theorem cutV_suf {xs : List V} {i : Int} (h : 0 <= i) : cutV xs (some i) none = xs.drop i.toNat := by
  unfold cutV
  rw [sIx_of h]
  show (xs.drop (min i.toNat xs.length)).take (xs.length - min i.toNat xs.length) = _
  rcases Nat.le_total i.toNat xs.length with g | g
  · rw [Nat.min_eq_left g, List.take_of_length_le (by rw [List.length_drop]; exact Nat.le_refl _)]
  · rw [Nat.min_eq_right g, List.drop_of_length_le (Nat.le_refl _), List.drop_of_length_le g, List.take_nil]
end L2
namespace L2
open PySem PySem.Spec PyProof.Rows
structure QE (X : Cx) (e : Expr) (t : TE) : Prop where
  o : PE X e t
structure QT (X : Cx) (e : Expr) (t : TT) : Prop where
  o : PT X e t
structure QW (X : Cx) (e : Expr) (t : TT) : Prop where
  o : PW X e t
structure QA (X : Cx) (e : List Expr) (t : TA) : Prop where
  o : PA X e t
structure QS (X : Cx) (e : Stmt) (t : TS) : Prop where
  o : PS X e t
structure QSs (X : Cx) (e : List Stmt) (t : TS) : Prop where
  o : PSs X e t
structure QG (X : Cx) (e : Expr) (t : TG) : Prop where
  o : PG X e t
structure QGs (X : Cx) (e : List Expr) (t : TGs) : Prop where
  o : PGs X e t
structure QO (X : Cx) (e : Option Expr) (t : TO) : Prop where
  o : PO X e t
structure QTs (X : Cx) (e : List Expr) (t : TT) : Prop where
  o : PTs X e t
structure QI (X : Cx) (tg e : Expr) (t : TI) : Prop where
  o : PI X tg e t
theorem qv (i : Nat) {x : Str} {pos : Pos} (hN : X.N[i]? = some x := by rfl) (hv : Vis X.env.scope x := by first | exact Or.inl rfl | exact Or.inr (Or.inl rfl) | exact Or.inr (Or.inr rfl)) (hd : (x == ("__debug__" : Str)) = false := by decide) (hcd : (x == ("__classdict__" : Str)) = false := by decide) : QE X (.Name x pos) (tVar i) :=
  ⟨pv i hN hv hd hcd⟩
theorem qe_int {i j pos} : QE X (.Constant (.int i) j pos) (tC (.int i)) :=
  ⟨pe_int ⟩
theorem qe_bl {b j pos} : QE X (.Constant (.bool b) j pos) (tC (.bl b)) :=
  ⟨pe_bl ⟩
theorem qe_non {j pos} : QE X (.Constant .none j pos) (tC .non) :=
  ⟨pe_non ⟩
theorem qe_str {x j pos} : QE X (.Constant (.str x) j pos) (tC (.str x)) :=
  ⟨pe_str ⟩
theorem qe_glob {x : Str} {v : V} {u : Value} {pos : Pos} (hg : Gl X x) (hm : X.mg x = some u) (r : RelV v u) (hd : (x == ("__debug__" : Str)) = false := by decide) : QE X (.Name x pos) (tC v) :=
  ⟨pe_glob hg hm r hd⟩
theorem qe_globC {X : Cx} {x : Str} {i : Int} {pos : Pos} (hg : Gl X x) (hm : ∃ t, X.mg x = some (.int i t)) (hd : (x == ("__debug__" : Str)) = false := by decide) : QE X (.Name x pos) (tC (.int i)) :=
  ⟨pe_globC hg hm hd⟩
theorem qe_ty {X : Cx} {x : Str} {T : String} {pos : Pos} (hg : Gl X x) (hm : X.mg x = none) (hv : bootBuiltins x = some (.type T)) (hn : x ≠ "__name__" := by decide) (hd : (x == ("__debug__" : Str)) = false := by decide) : QE X (.Name x pos) (tC (.ty T)) :=
  ⟨pe_ty hg hm hv hn hd⟩
theorem qe_op {a : Expr} {b : Expr} {op : Operator} {r : R2} (ho : OpR X (binaryOp op) r) (ha : QE X a ta) (hb : QE X b tb) : QE X (.BinOp a op b pos) (tOp r ta tb) :=
  ⟨pe_op ho ha.o hb.o⟩
theorem qe_un {a : Expr} {op : UnaryOp} {r : V -> Hp -> VK -> Prop} (ho : UnR X (unaryOp op) r) (ha : QE X a ta) : QE X (.UnaryOp op a pos) (tUn r ta) :=
  ⟨pe_un ho ha.o⟩
theorem qe_and {rest : List Expr} {a : Expr} {b : Expr} (ha : QE X a ta) (hb : QE X (.BoolOp .And (b :: rest) pos) tb) : QE X (.BoolOp .And (a :: b :: rest) pos) (tAndV ta tb) :=
  ⟨pe_and ha.o hb.o⟩
theorem qe_one {a : Expr} {op} {t : TE} (h : QE X a t) : QE X (.BoolOp op [a] pos) t :=
  ⟨pe_one h.o⟩
theorem qe_not {a : Expr} (ha : QE X a ta) : QE X (.UnaryOp .Not a pos) (tNotV ta) :=
  ⟨pe_not ha.o⟩
theorem qe_ifExp {a : Expr} {b : Expr} {c : Expr} (hc : QT X c tA) (ha : QE X a ta) (hb : QE X b tb) : QE X (.IfExp c a b pos) (tIf tA ta tb) :=
  ⟨pe_ifExp hc.o ha.o hb.o⟩
theorem qe_cmpR {a : Expr} {b : Expr} {op : CmpOp} {r : R2} (ho : OpR X (compareOp op) r) (ha : QE X a ta) (hb : QE X b tb) (hm : behindInMarks op b = false) : QE X (.Compare a [op] [b] pos) (tOp r ta tb) :=
  ⟨pe_cmpR ho ha.o hb.o hm⟩
theorem qe_lst (h : QA X es t) : QE X (.List es pos) (tLst t) :=
  ⟨pe_lst h.o⟩
theorem qe_ix {a : Expr} {b : Expr} {r : R2} (hr : IxR X r) (ha : QE X a ta) (hb : QE X b tb) (hs : PlainIx b) : QE X (.Subscript a b pos) (tOp r ta tb) :=
  ⟨pe_ix hr ha.o hb.o hs⟩
theorem qe_slice {lo : Option Expr} {hi : Option Expr} {e : Expr} {r : V -> Option Int -> Option Int -> Hp -> VK -> Prop} (hr : SlR X r) (he : QE X e te) (hl : QO X lo tl) (hu : QO X hi th) : QE X (.Subscript e (.Slice lo hi none p2) pos) (tSl r te tl th) :=
  ⟨pe_slice hr he.o hl.o hu.o⟩
theorem qe_call {e : Expr} (F : FnOk X.prog X.w X.K X.mg X.base CX k f fd ps sp) (hr : Room k X.A) (hg : Gl X x) (hm : X.mg x = some (.ref f)) (hk : PySem.W.keepIn X.K (.ref f) = true) (hb : Binds X.K fd ps ds) (hd : Vals dvs ds) (hx : Passes CX X E) (ha : QA X (e :: es) t) (hdb : (x == ("__debug__" : Str)) = false := by decide) (he : starEach (e :: es) X.env = (false, eval e X.env) :: starEach es X.env := by rfl) (hpl : (backTo pos (starEach es X.env)).any (·.1) = false := by rfl) : QE X (.Call (.Name x p) (e :: es) [] pos) (tCall sp dvs E t) :=
  ⟨pe_call F hr hg hm hk hb hd hx ha.o hdb he hpl⟩
theorem qe_call0 (F : FnOk X.prog X.w X.K X.mg X.base CX k f fd ps sp) (hr : Room k X.A) (hg : Gl X x) (hm : X.mg x = some (.ref f)) (hk : PySem.W.keepIn X.K (.ref f) = true) (hb : Binds X.K fd ps ds) (hd : Vals dvs ds) (hx : Passes CX X E) (hdb : (x == ("__debug__" : Str)) = false := by decide) : QE X (.Call (.Name x p) [] [] pos) (tCall sp dvs E tNil) :=
  ⟨pe_call0 F hr hg hm hk hb hd hx hdb⟩
theorem qe_callB {id : String} {e : Expr} (hc : CallR X (.builtin id) r) (hg : Gl X x) (hm : X.mg x = none) (hv : bootBuiltins x = some (.builtin id)) (ha : QA X (e :: es) t) (hn : x ≠ "__name__" := by decide) (hdb : (x == ("__debug__" : Str)) = false := by decide) (he : starEach (e :: es) X.env = (false, eval e X.env) :: starEach es X.env := by rfl) (hpl : (backTo pos (starEach es X.env)).any (·.1) = false := by rfl) : QE X (.Call (.Name x p) (e :: es) [] pos) (tCB r t) :=
  ⟨pe_callB hc hg hm hv ha.o hn hdb he hpl⟩
theorem qe_callTy {e : Expr} (hc : CallR X (.type T) r) (hg : Gl X x) (hm : X.mg x = none) (hv : bootBuiltins x = some (.type T)) (ha : QA X (e :: es) t) (hn : x ≠ "__name__" := by decide) (hdb : (x == ("__debug__" : Str)) = false := by decide) (he : starEach (e :: es) X.env = (false, eval e X.env) :: starEach es X.env := by rfl) (hpl : (backTo pos (starEach es X.env)).any (·.1) = false := by rfl) : QE X (.Call (.Name x p) (e :: es) [] pos) (tCB r t) :=
  ⟨pe_callTy hc hg hm hv ha.o hn hdb he hpl⟩
theorem qe_bm {id : String} {e : Expr} {o : Expr} (pa : PlainAttrs T) (slot : Slot T name id) (hty : typeOf (.builtin id) = pure (.type "method_descriptor")) (hm : MtR X id r) (ho : QE X o to) (ha : QA X (e :: es) t) (hbase : attributeBase o name X.env (eval o X.env) = eval o X.env := by rfl) (hfew : ((backTo cpos (starEach (e :: es) X.env)).all (fun x => !x.1) && (backToKw cpos (keywordEach [] X.env)).all (fun x => x.1.isSome)
      && decide ((e :: es).length + ([] : List Keyword).length + (if ([] : List Keyword).isEmpty then 0 else 1) < 30)) = true := by rfl) (hline : (apos.endLine == cpos.line) = true := by rfl) (hs : starEach (e :: es) X.env = (false, eval e X.env) :: starEach es X.env := by rfl) (hplain : (backTo cpos (starEach es X.env)).any (·.1) = false := by rfl) : QE X (.Call (.Attribute o name apos) (e :: es) [] cpos) (tBM X.K T r to t) :=
  ⟨pe_bm pa slot hty hm ho.o ha.o hbase hfew hline hs hplain⟩
theorem qt_cmpR {a : Expr} {b : Expr} {op : CmpOp} {r : R2} (ho : OpR X (compareOp op) r) (ha : QE X a ta) (hb : QE X b tb) (hm : behindInMarks op b = false) : QT X (.Compare a [op] [b] pos) (tTest (tOp r ta tb)) :=
  ⟨pt_cmpR ho ha.o hb.o hm⟩
theorem qt_not {a : Expr} (ha : QT X a tA) : QT X (.UnaryOp .Not a pos) (tNot tA) :=
  ⟨pt_not ha.o⟩
theorem qt_val {e : Expr} {t : TE} (h : QE X e t) (he : ∀ whole, isTrue e X.env whole = (do let v ← whole; standAt e.pos; holding [v] (truthy v)) := by intro _; rfl) : QT X e (tB t) :=
  ⟨pt_val h.o he⟩
theorem qw_and {rest : List Expr} {a : Expr} {b : Expr} (ha : QT X a tA) (hb : QW X (.BoolOp .And (b :: rest) pos) tB') : QW X (.BoolOp .And (a :: b :: rest) pos) (tAnd tA tB') :=
  ⟨pw_and ha.o hb.o⟩
theorem qw_and1 {a : Expr} (ha : QT X a tA) : QW X (.BoolOp .And [a] pos) tA :=
  ⟨pw_and1 ha.o⟩
theorem qw_or {rest : List Expr} {a : Expr} {b : Expr} (ha : QT X a tA) (hb : QW X (.BoolOp .Or (b :: rest) pos) tB') : QW X (.BoolOp .Or (a :: b :: rest) pos) (tOr tA tB') :=
  ⟨pw_or ha.o hb.o⟩
theorem qw_or1 {a : Expr} (ha : QT X a tA) : QW X (.BoolOp .Or [a] pos) tA :=
  ⟨pw_or1 ha.o⟩
theorem qa_nil  : QA X [] tNil :=
  ⟨pa_nil ⟩
theorem qa_c {X : Cx} {e : Expr} {es : List Expr} {te : TE} {t : TA} (ha : QE X e te) (hr : QA X es t) (h : noStar e = true := by rfl) : QA X (e :: es) (tCons te t) :=
  ⟨pa_c ha.o hr.o h⟩
theorem qo_none  : QO X none tNoPart :=
  ⟨po_none ⟩
theorem qo_some {e : Expr} (h : QE X e te) : QO X (some e) (tPart te) :=
  ⟨po_some h.o⟩
theorem qi_list {l : Expr} {tl : TE} (hl : QE X l tl) : QI X tg l (iList X.K tl) :=
  ⟨pi_list hl.o⟩
theorem qi_tup {l : Expr} {tl : TE} (hl : QE X l tl) : QI X tg l (iTup X.K tl) :=
  ⟨pi_tup hl.o⟩
theorem qi_range1 {a : Expr} {ta : TA} {p pos : Pos} (hg : Gl X "range") (hm : X.mg "range" = none) (ha : QA X [a] ta) (hs : starEach [a] X.env = [(false, eval a X.env)] := by rfl) : QI X tg (.Call (.Name "range" p) [a] [] pos) (iRng1 ta) :=
  ⟨pi_range1 hg hm ha.o hs⟩
theorem qi_range2 {a b : Expr} {ta : TA} {p pos : Pos} (hg : Gl X "range") (hm : X.mg "range" = none) (ha : QA X [a, b] ta) (hs : starEach [a, b] X.env = [(false, eval a X.env), (false, eval b X.env)] := by rfl) (hs2 : starEach [b] X.env = [(false, eval b X.env)] := by rfl) : QI X tg (.Call (.Name "range" p) [a, b] [] pos) (iRng2 ta) :=
  ⟨pi_range2 hg hm ha.o hs hs2⟩
theorem qi_zip {e1 e2 : Expr} {ta : TA} {p pos : Pos} (htg : tupleTg tg = true) (hg : Gl X "zip") (hm : X.mg "zip" = none) (ha : QA X [e1, e2] ta) (hs : starEach [e1, e2] X.env = [(false, eval e1 X.env), (false, eval e2 X.env)] := by rfl) (hs2 : starEach [e2] X.env = [(false, eval e2 X.env)] := by rfl) (hb : bootBuiltins "zip" = some (.type "zip") := by decide +kernel) : QI X tg (.Call (.Name "zip" p) [e1, e2] [] pos) (iZip X.K ta) :=
  ⟨pi_zip htg hg hm ha.o hs hs2 hb⟩
theorem qg_name {i : Nat} {x : Str} (hN : X.N.Nodup) (hi : X.N[i]? = some x) (hx : Loc X.env.scope x) (hf : X.fn x = true ∨ X.env.scope.names.lookup x = some .local := by first | exact .inl rfl | exact .inr rfl | assumption) : QG X (.Name x pos) (gName i) :=
  ⟨pg_name hN hi hx hf⟩
theorem qg_tup {es : List Expr} {k : Nat} {t : TGs} {n : Nat} (hc : X.calm = true) (h : QGs X es t) (hn : (assignEach es X.env).length = n := by rfl) (hst : (assignEach es X.env).findIdx? (·.1) = none := by rfl) : QG X (.Tuple es k pos) (gTup X.K n t) :=
  ⟨pg_tup hc h.o hn hst⟩
theorem qg_sub {o i : Expr} {to ti : TE} {t : TSet} (ho : QE X o to) (hi : QE X i ti) (hs : PSet X t) (ha : ∀ v, assign (.Subscript o i pos) X.env v = (do
      let ov ← holding [v] (eval o X.env)
      let iv ← holding [v, ov] (eval i X.env)
      standAt pos
      holding [v, ov, iv] (setItem ov iv v)
      release [v, ov, iv] []) := by intro _; rfl) : QG X (.Subscript o i pos) (gSub to ti t) :=
  ⟨pg_sub ho.o hi.o hs ha⟩
theorem qgs_nil  : QGs X [] gNil :=
  ⟨pgs_nil ⟩
theorem qgs_cons {e : Expr} {es : List Expr} {t : TG} {u : TGs} (h1 : QG X e t) (h2 : QGs X es u) (hs : (assignEach (e :: es) X.env).map (·.2) = assign e X.env :: (assignEach es X.env).map (·.2) := by rfl) : QGs X (e :: es) (gCons t u) :=
  ⟨pgs_cons h1.o h2.o hs⟩
theorem qs_set {i : Nat} {x : Str} {e : Expr} {te : TE} {pos' : Pos} (hN : X.N.Nodup) (hi : X.N[i]? = some x) (hx : Loc X.env.scope x) (he : QE X e te) (hs : swapsWith e (some (.Name x pos')) pos.line X.env = pure false := by rfl) (hf : X.fn x = true ∨ X.env.scope.names.lookup x = some .local := by first | exact .inl rfl | exact .inr rfl | assumption) : QS X (.Assign [.Name x pos'] e pos) (tAsg te (gName i)) :=
  ⟨ps_set hN hi hx he.o hs hf⟩
theorem qs_asg {tg e : Expr} {te : TE} {g : TG} (he : QE X e te) (hg : QG X tg g) (hs : swapsWithSole [tg] e pos.line X.env = pure false := by rfl) (hw : swappedStores [tg] e X.env = pure none := by rfl) (h1 : (assignEach [tg] X.env).map (·.2) = [assign tg X.env] := by rfl) : QS X (.Assign [tg] e pos) (tAsg te g) :=
  ⟨ps_asg he.o hg.o hs hw h1⟩
theorem qs_ret {e : Expr} (he : QE X e te) : QS X (.Return (some e) pos) (tRet te) :=
  ⟨ps_ret he.o⟩
theorem qs_expr {e : Expr} (he : QE X e te) (hs : swapsWith e none pos.line X.env = pure false := by rfl) : QS X (.Expr e pos) (tDrop te) :=
  ⟨ps_expr he.o hs⟩
theorem qs_if {c : Expr} {a b : List Stmt} {tc : TT} (hc : QT X c tc) (ha : QSs X a t) (hb : QSs X b u) : QS X (.If c a b pos) (tIfS tc t u) :=
  ⟨ps_if hc.o ha.o hb.o⟩
theorem qs_while {c : Expr} {body : List Stmt} {tc : TT} {tb : TS} (hp : PassesOwn (model X.prog X.w) X.A X.env X.xe) (hc : QT X c tc) (hb : QSs X body tb) : QS X (.While c body [] pos) (tWhile tc tb) :=
  ⟨ps_while hp hc.o hb.o⟩
theorem qs_for {iter : Expr} {body : List Stmt} {wi : TI} {g : TG} {tb : TS} {pos : Pos} (hp : PassesOwn (model X.prog X.w) X.A X.env X.xe) (hc : X.calm = true) (hi : QI X tg iter wi) (hg : QG X tg g) (hb : QSs X body tb) (hs : ∀ x, foldedSetIterable iter X.env x = pure x := by intro _; rfl) : QS X (.For tg iter body [] pos) (tFor wi g tb) :=
  ⟨ps_for hp hc hi.o hg.o hb.o hs⟩
theorem qss_nil  : QSs X [] tNext :=
  ⟨pss_nil ⟩
theorem qss_one {st : Stmt} (h1 : QS X st t) : QSs X [st] t :=
  ⟨pss_one h1.o⟩
theorem qss_cons {rest : List Stmt} {st : Stmt} (h1 : QS X st t) (h2 : QSs X rest u) : QSs X (st :: rest) (tSeq t u) :=
  ⟨pss_cons h1.o h2.o⟩
theorem qts_nil {X : Cx} : QTs X [] tNoTest :=
  ⟨pts_nil ⟩
theorem qts_one {X : Cx} {c : Expr} {t : TT} (hc : QT X c t) : QTs X [c] t :=
  ⟨pts_one hc.o⟩
theorem QW.pt {X : Cx} {e : Expr} {t : TT} (h : QW X e t) : QT X e t :=
  ⟨PW.pt h.o⟩
theorem qe_comp {X : Cx} {elt tg iter : Expr} {cs : List Expr} {scope : Scope} {pos : Pos} {cl : List (Str × Addr)} {N : List Str} {js : List (Option Nat)} {wi : TI} {g : TG} {tc : TT} {te : TE}
    (C : CompOk X scope cl N js) (hc : X.calm = true) (hi : QI X tg iter wi)
    (hg : ∀ fp pins s H, QG (compCx X scope cl N fp pins s H fun _ _ => False) tg g)
    (ht : ∀ fp pins s H, QTs (compCx X scope cl N fp pins s H fun _ _ => False) cs tc)
    (he : ∀ fp pins s H, QE (compCx X scope cl N fp pins s H fun _ _ => False) elt te)
    (hs : ∀ x, foldedSetIterable iter X.env x = pure x := by intro _; rfl) : QE X (.ListComp elt [⟨tg, iter, cs, 0⟩] scope pos) (tComp js wi g tc te) :=
  ⟨pe_comp C hc hi.o (fun a b c d => (hg a b c d).o) (fun a b c d => (ht a b c d).o) (fun a b c d => (he a b c d).o) hs⟩
theorem Fun.okQ {P : Program} {w : World} {K : PySem.W.Frag} {mg : Str -> Option Value} {base : Heap} {x qual : Str} {st : Stmt} {f : Addr} {fd : FuncData} {N ps : List Str} {k : Nat} {sp : Sp} (F : Fun K x qual st f fd) (S : FnScope N ps (defScope st)) (len : ∀ vs H Q E, sp vs H Q E -> vs.length = ps.length)
    (hbody : ∀ (cdv : Value) (A : Around) (outer : List Env) (s : Shared) (H : Hp) (vs : List V) (Q : VK) (E : XK), Room k (A.deeper (envOfC qual (defScope st) s.heap.objs.size f cdv)) -> sp vs H Q E ->
      ∃ t, QSs (cxOf CX0 P w K mg base N qual (defScope st) f cdv A outer s H E).nox (defBody st) t /\ t { nx := fun _ H' => Q .non H', rt := Q } (start N vs) H) : FnOk P w K mg base CX0 (k + 1) f fd ps sp :=
  F.ok S len fun cdv A outer s H vs Q E hr h => let ⟨t, a, b⟩ := hbody cdv A outer s H vs Q E hr h; ⟨t, a.o, b⟩
end L2
namespace W2
open PySem L2
end W2
namespace L2
open PySem PySem.Spec PyProof.Rows
theorem OpR.imp {X : Cx} {f : Value -> Value -> Sem Value} {r r' : R2} (h : OpR X f r) (i : ∀ x y H Q, r' x y H Q -> r x y H Q) : OpR X f r' := fun pins s σ H x y v u Q I rx ry z => h pins s σ H x y v u Q I rx ry (i x y H Q z)
theorem CallR.imp {X : Cx} {f : Value} {r r' : List V -> Hp -> VK -> Prop} (h : CallR X f r) (i : ∀ xs H Q, r' xs H Q -> r xs H Q) : CallR X f r' := fun pins s σ H xs us Q I rx z => h pins s σ H xs us Q I rx (i xs H Q z)
theorem MtM.imp {X : Cx} {id : String} {r r' : V -> List V -> Hp -> VK -> Prop} (h : MtM X id r) (i : ∀ x xs H Q, r' x xs H Q -> r x xs H Q) : MtM X id r' := fun pins s σ H x xs v us Q I rx rs z => h pins s σ H x xs v us Q I rx rs (i x xs H Q z)
def NewA (o : HO) (H : Hp) (Q : VK) : Prop := ∀ p H', H p = none -> Same H H' -> H' p = some o -> Q (.ref p) H'
theorem NewA.at {o : HO} {H : Hp} {Q : VK} (q : NewA o H Q) : ∀ p, H p = none -> Q (.ref p) (upd H p o) := fun p hp => q p _ hp (W2.Same.new hp) upd_same
def tTupA (t : TA) : TE := fun σ H Q => t σ H fun xs H1 => xs.length <= sizeLine /\ NewA (.tup xs) H1 Q
def tLstA (t : TA) : TE := fun σ H Q => t σ H fun xs H1 => xs.length <= sizeLine /\ NewA (.lst xs) H1 Q
section
variable {X : Cx}
theorem qe_tupA {es : List Expr} {t : TA} {x1} {pos : Pos} (h : QA X es t) : QE X (.Tuple es x1 pos) (tTupA t) := ⟨by
  intro pins s σ H Q I hq
  refine wpAny_Tuple_spliced (thn (h.o pos pins s σ H _ I hq) fun us s1 ⟨xs, H1, I1, r, z, q⟩ => ⟨by rw [← r.length]; exact z, ?_⟩)
  have hf : H1 s1.heap.objs.size = none := I1.hok.fresh (Nat.le_refl _)
  refine ⟨.ref s1.heap.objs.size, upd H1 s1.heap.objs.size (.tup xs), I1.laid (t' := s1.toks) (fun b u e => Heap.get?_push_of_some _ e) (Nat.le_refl _) ?_, rfl, q.at _ hf⟩
  exact ⟨z, us, r, ⟨_, Heap.get?_push_size _ rfl, rfl, ⟨_, rfl⟩, rfl⟩⟩⟩
theorem qe_lstA {es : List Expr} {t : TA} {pos : Pos} (h : QA X es t) : QE X (.List es pos) (tLstA t) := ⟨by
  intro pins s σ H Q I hq
  refine wpAny_List_spliced (thn (h.o pos pins s σ H _ I hq) fun us s1 ⟨xs, H1, I1, r, z, q⟩ => ⟨by rw [← r.length]; exact z, ?_⟩)
  have hf : H1 s1.heap.objs.size = none := I1.hok.fresh (Nat.le_refl _)
  refine ⟨.ref s1.heap.objs.size, upd H1 s1.heap.objs.size (.lst xs), I1.laid (t' := s1.toks) (fun b u e => Heap.get?_push_of_some _ e) (Nat.le_refl _) ?_, rfl, q.at _ hf⟩
  exact ⟨z, us, 0, r, Heap.get?_push_size _ rfl⟩⟩
def rCatLA : R2 := fun x y H Q => ∃ l b xs zs, x = .ref l /\ y = .ref b /\ H l = some (.lst xs) /\ H b = some (.lst zs) /\ xs.length + zs.length <= sizeLine /\ NewA (.lst (xs ++ zs)) H Q
theorem op_catLA : OpR X (binaryOp .Add) rCatLA := op_cat.imp fun x y H Q ⟨l, b, xs, zs, e1, e2, h1, h2, h3, q⟩ => ⟨l, b, xs, zs, e1, e2, h1, h2, h3, q.at⟩
def rRepLA : R2 := fun x y H Q => ∃ l k xs, x = .ref l /\ y = .int k /\ H l = some (.lst xs) /\ -(2 ^ 63) <= k /\ k < 2 ^ 63 /\ xs.length * k.toNat <= sizeLine /\ NewA (.lst (List.replicate k.toNat xs).flatten) H Q
theorem op_repLA : OpR X (binaryOp .Mult) rRepLA := op_rep.imp fun x y H Q ⟨l, k, xs, e1, e2, h1, h2, h3, h4, q⟩ => ⟨l, k, xs, e1, e2, h1, h2, h3, h4, q.at⟩
theorem call_list_ofA : CallR X (.type "list") (fun xs H Q => ∃ p ys, xs = [.ref p] /\ (SqL X.K H p ys ∨ SqT X.K H p ys) /\ NewA (.lst ys) H Q) := call_list_of.imp fun xs H Q ⟨p, ys, e, h, q⟩ => ⟨p, ys, e, h, q.at⟩
theorem call_tuple_ofA : CallR X (.type "tuple") (fun xs H Q => ∃ p ys, xs = [.ref p] /\ SqL X.K H p ys /\ NewA (.tup ys) H Q) := call_tuple_of.imp fun xs H Q ⟨p, ys, e, h, q⟩ => ⟨p, ys, e, .inl ⟨h, q.at⟩⟩
def rAppendA : V -> List V -> Hp -> VK -> Prop := fun x vs H Q => ∃ l xs y, x = .ref l /\ vs = [y] /\ H l = some (.lst xs) /\ xs.length < sizeLine /\ ∀ H', W2.But l H H' -> H' l = some (.lst (xs ++ [y])) -> Q .non H'
theorem mt_appendA : MtM X "list.append" rAppendA := mt_append.imp fun x vs H Q ⟨l, xs, y, e1, e2, h1, h2, q⟩ => ⟨l, xs, y, e1, e2, h1, h2, q _ W2.But.upd upd_same⟩
end
end L2
namespace W2
open PySem L2
def Keep (H H' : Hp) : Prop := ∀ b o, H b = some o -> H' b = some o ∨ ∃ xs ys, o = .lst xs /\ H' b = some (.lst ys)
theorem Keep.refl (H : Hp) : Keep H H := fun _ _ h => .inl h
theorem Keep.of {H H' : Hp} (s : Same H H') : Keep H H' := fun b o h => .inl (s b o h)
theorem Keep.trans {H H1 H2 : Hp} (x : Keep H H1) (y : Keep H1 H2) : Keep H H2 := fun b o h => by
  rcases x b o h with z | ⟨xs, ys, rfl, z⟩
  · exact y b o z
  · rcases y b _ z with z2 | ⟨us, vs, e, z2⟩
    · exact .inr ⟨xs, ys, rfl, z2⟩
    · exact .inr ⟨xs, vs, rfl, z2⟩
theorem Keep.but {a : Addr} {H H' : Hp} {xs ys : List V} (bt : But a H H') (h : H a = some (.lst xs)) (h' : H' a = some (.lst ys)) : Keep H H' := fun b o e => by
  by_cases z : b = a
  · subst z
    rw [h] at e
    cases e
    exact .inr ⟨xs, ys, rfl, h'⟩
  · exact .inl (bt b o z e)
theorem Keep.tup {H H' : Hp} (k : Keep H H') {b : Addr} {xs : List V} (h : H b = some (.tup xs)) : H' b = some (.tup xs) := by
  rcases k b _ h with z | ⟨_, _, e, _⟩
  · exact z
  · cases e
end W2
namespace L2
open PySem PySem.Spec PyProof.Rows
section
variable {κ : Type} [DecidableEq κ]
def valV (kvs : List (κ × V)) (k : κ) : Option V := (kvs.find? fun kv => decide (kv.1 = k)).map (·.2)
def putK (kvs : List (κ × V)) (k : κ) (v : V) : List (κ × V) :=
  if (kvs.any fun kv => decide (kv.1 = k)) = true then kvs.map (fun kv => if kv.1 = k then (kv.1, v) else kv) else kvs ++ [(k, v)]
theorem valV_pos {p : κ × V} {r : List (κ × V)} {k : κ} (e : p.1 = k) : valV (p :: r) k = some p.2 := by simp [valV, List.find?_cons, e]
theorem valV_neg {p : κ × V} {r : List (κ × V)} {k : κ} (e : ¬ p.1 = k) : valV (p :: r) k = valV r k := by simp [valV, List.find?_cons, e]
theorem valV_any (k : κ) : ∀ kvs : List (κ × V), (kvs.any fun kv => decide (kv.1 = k)) = (valV kvs k).isSome
  | [] => rfl
  | p :: r => by
    rw [List.any_cons]
    by_cases e : p.1 = k
    · simp only [valV_pos e, decide_eq_true e, Bool.true_or, Option.isSome_some]
    · rw [valV_neg e, decide_eq_false e, Bool.false_or]; exact valV_any k r
theorem valV_map (k j : κ) (y : V) : ∀ kvs : List (κ × V), valV (kvs.map fun kv => if kv.1 = k then (kv.1, y) else kv) j = (valV kvs j).map fun x => if j = k then y else x
  | [] => rfl
  | p :: r => by
    have ih := valV_map k j y r
    rw [List.map_cons]
    by_cases h : p.1 = k
    · rw [if_pos h]
      by_cases e : p.1 = j
      · rw [valV_pos (p := (p.1, y)) e, valV_pos e, Option.map_some, if_pos (e.symm.trans h)]
      · rw [valV_neg (p := (p.1, y)) e, valV_neg e, ih]
    · rw [if_neg h]
      by_cases e : p.1 = j
      · rw [valV_pos (p := p) e, valV_pos e, Option.map_some, if_neg (fun z => h (e.trans z))]
      · rw [valV_neg (p := p) e, valV_neg e, ih]
theorem valV_snoc (k j : κ) (y : V) : ∀ kvs : List (κ × V), valV kvs k = none -> valV (kvs ++ [(k, y)]) j = if j = k then some y else valV kvs j
  | [], _ => by
    by_cases e : k = j
    · rw [if_pos e.symm]; exact valV_pos (p := (k, y)) e
    · rw [if_neg (fun z => e z.symm)]; exact valV_neg (p := (k, y)) e
  | p :: r, hn => by
    rw [List.cons_append]
    have hk : ¬ p.1 = k := fun z => by rw [valV_pos z] at hn; cases hn
    rw [valV_neg hk] at hn
    have ih := valV_snoc k j y r hn
    by_cases e : p.1 = j
    · rw [valV_pos e, valV_pos e, if_neg (fun z => hk (e.trans z))]
    · rw [valV_neg e, valV_neg e, ih]
theorem valV_put (kvs : List (κ × V)) (k j : κ) (y : V) : valV (putK kvs k y) j = if j = k then some y else valV kvs j := by
  unfold putK
  by_cases a : (kvs.any fun kv => decide (kv.1 = k)) = true
  · rw [if_pos a, valV_map]
    rw [valV_any] at a
    by_cases e : j = k
    · obtain ⟨x, hx⟩ := Option.isSome_iff_exists.mp a
      rw [if_pos e, e, hx, Option.map_some, if_pos rfl]
    · rw [if_neg e]
      cases valV kvs j with
      | none => rfl
      | some x => rw [Option.map_some, if_neg e]
  · rw [if_neg a]
    refine valV_snoc k j y kvs ?_
    rw [valV_any] at a
    cases q : valV kvs k with
    | none => rfl
    | some x => rw [q] at a; exact (a rfl).elim
theorem length_putK (kvs : List (κ × V)) (k : κ) (v : V) : (putK kvs k v).length <= kvs.length + 1 := by
  unfold putK
  split
  · rw [List.length_map]; omega
  · rw [List.length_append, List.length_cons, List.length_nil]; omega
theorem RelO.isSome_eq {o : Option V} {u : Option Value} (r : RelO o u) : o.isSome = u.isSome := by
  cases o with
  | none => cases u with
    | none => rfl
    | some _ => exact (show False from r).elim
  | some _ => cases u with
    | none => exact (show False from r).elim
    | some _ => rfl
theorem KV.val {kvs : List (κ × V)} {vs : List (κ × Value)} (r : KV kvs vs) (k : κ) : RelO (valV kvs k) (valueAt vs k) := by
  unfold KV at r
  induction r with
  | nil => exact True.intro
  | @cons p q ps qs h t ih =>
    obtain ⟨h1, h2⟩ := h
    by_cases e : p.1 = k
    · have e' : q.1 = k := h1.symm.trans e
      have b : valueAt (q :: qs) k = some q.2 := by simp [valueAt, List.find?_cons, e']
      rw [valV_pos e, b]; exact h2
    · have e' : ¬ q.1 = k := fun z => e (h1.trans z)
      have b : valueAt (q :: qs) k = valueAt qs k := by simp [valueAt, List.find?_cons, e']
      rw [valV_neg e, b]; exact ih
theorem KV.any {kvs : List (κ × V)} {vs : List (κ × Value)} (r : KV kvs vs) (k : κ) : (kvs.any fun kv => decide (kv.1 = k)) = vs.any fun kv => decide (kv.1 = k) := by
  unfold KV at r
  induction r with
  | nil => rfl
  | cons h t ih => rw [List.any_cons, List.any_cons, ih, h.1]
theorem KV.repl {kvs : List (κ × V)} {vs : List (κ × Value)} (r : KV kvs vs) (k : κ) {y : V} {u : Value} (ry : RelV y u) :
    KV (kvs.map fun kv => if kv.1 = k then (kv.1, y) else kv) (vs.map fun kv => if kv.1 = k then (kv.1, u) else kv) := by
  unfold KV at r ⊢
  induction r with
  | nil => exact .nil
  | @cons p q ps qs h t ih =>
    rw [List.map_cons, List.map_cons]
    refine .cons ?_ ih
    obtain ⟨h1, h2⟩ := h
    by_cases e : p.1 = k
    · rw [if_pos e, if_pos (h1.symm.trans e)]; exact ⟨h1, ry⟩
    · rw [if_neg e, if_neg (fun z => e (h1.trans z))]; exact ⟨h1, h2⟩
theorem KV.put {kvs : List (κ × V)} {vs : List (κ × Value)} (r : KV kvs vs) (k : κ) {y : V} {u : Value} (ry : RelV y u) : KV (putK kvs k y) (stored vs k u) := by
  unfold putK stored
  rw [r.any k]
  by_cases e : (vs.any fun kv => decide (kv.1 = k)) = true
  · rw [if_pos e, if_pos e]; exact r.repl k ry
  · rw [if_neg e, if_neg e]; exact Paired.snoc r ⟨rfl, ry⟩
theorem KV.length {kvs : List (κ × V)} {vs : List (κ × Value)} (r : KV kvs vs) : kvs.length = vs.length := Paired.length r
end
theorem kV_is {P : Program} {w : World} {k : Key} {u : Value} (r : RelV (kV k) u) : (mixKind P w).is k u = true := by
  cases k with
  | inl i => obtain ⟨t, e⟩ := (show ∃ t, u = Value.int i t from r); subst e; exact mixKind_int P w i t
  | inr x => obtain ⟨t, e⟩ := (show ∃ t, u = Value.str x t from r); subst e; exact mixKind_str P w x t
theorem items_are {P : Program} {w : World} : ∀ {ks : List Key} {us : List Value}, Vals (ks.map kV) us -> ItemsAre (mixKind P w) ks us
  | [], _, r => by rw [List.map_nil] at r; cases r; exact .nil
  | k :: ks, _, r => by
    rw [List.map_cons] at r
    cases r with
    | cons h t => exact .cons (kV_is h) (items_are t)
abbrev KT (H : Hp) : List (List Key × V) -> List (List Key × Addr × Value) -> Prop := Paired fun p q => p.1 = q.1 /\ H q.2.1 = some (.tup (p.1.map kV)) /\ RelV p.2 q.2.2
theorem KT.val {H : Hp} {kvs : List (List Key × V)} {xs : List (List Key × Addr × Value)} (r : KT H kvs xs) (k : List Key) : RelO (valV kvs k) ((atKey xs k).map (·.2)) := by
  induction r with
  | nil => exact True.intro
  | @cons p q ps qs h t ih =>
    obtain ⟨h1, _, h2⟩ := h
    by_cases e : p.1 = k
    · have e' : q.1 = k := h1.symm.trans e
      have b : atKey (q :: qs) k = some q.2 := by simp [atKey, List.find?_cons, e']
      rw [valV_pos e, b]; exact h2
    · have e' : ¬ q.1 = k := fun z => e (h1.trans z)
      have b : atKey (q :: qs) k = atKey qs k := by simp [atKey, List.find?_cons, e']
      rw [valV_neg e, b]; exact ih
theorem KT.repl {H : Hp} {kvs : List (List Key × V)} {xs : List (List Key × Addr × Value)} (r : KT H kvs xs) (k : List Key) {y : V} {u : Value} (ry : RelV y u) :
    KT H (kvs.map fun kv => if kv.1 = k then (kv.1, y) else kv) (xs.map (putAt k u)) := by
  induction r with
  | nil => exact .nil
  | @cons p q ps qs h t ih =>
    rw [List.map_cons, List.map_cons]
    refine .cons ?_ ih
    obtain ⟨h1, h2, h3⟩ := h
    unfold putAt
    by_cases e : p.1 = k
    · rw [if_pos e, if_pos (h1.symm.trans e)]; exact ⟨h1, h2, ry⟩
    · rw [if_neg e, if_neg (fun z => e (h1.trans z))]; exact ⟨h1, h2, h3⟩
theorem KT.put {H : Hp} {kvs : List (List Key × V)} {xs : List (List Key × Addr × Value)} (r : KT H kvs xs) (k : List Key) {b : Addr} {y : V} {u : Value} (hb : H b = some (.tup (k.map kV))) (ry : RelV y u) :
    KT H (putK kvs k y) (storedH xs k b u) := by
  have e : (kvs.any fun kv => decide (kv.1 = k)) = (atKey xs k).isSome := by
    rw [valV_any, (r.val k).isSome_eq, Option.isSome_map]
  unfold putK storedH
  rw [e]
  by_cases q : (atKey xs k).isSome = true
  · rw [if_pos q, if_pos q]; exact r.repl k ry
  · rw [if_neg q, if_neg q]; exact Paired.snoc r ⟨rfl, hb, ry⟩
theorem KT.keeps {H H' : Hp} {kvs : List (List Key × V)} {xs : List (List Key × Addr × Value)} (r : KT H kvs xs) (ht : ∀ b ys, H b = some (.tup ys) -> H' b = some (.tup ys)) : KT H' kvs xs :=
  Paired.mapP r fun _ _ z => ⟨z.1, ht _ _ z.2.1, z.2.2⟩
section
variable {P : Program} {w : World} {H : Hp} {h : Heap} {a : Addr}
theorem rd_of {u : HO} (ok : HOk P w H h) (e : Rd H a u) : ObjOk P w H h a u := e.ok ok
theorem dk_rd {kvs : List (Key × V)} (ok : HOk P w H h) (e : Rd H a (.dK kvs)) : kvs.length <= sizeLine /\ (a == sysModules) = false /\ ∃ vs, KV kvs vs /\ h.DictOf (mixKind P w) a vs :=
  show ObjOk P w H h a (.dK kvs) from rd_of ok e
theorem dk_of {kvs : List (Key × V)} (ok : HOk P w H h) (e : H a = some (.dK kvs)) : kvs.length <= sizeLine /\ (a == sysModules) = false /\ ∃ vs, KV kvs vs /\ h.DictOf (mixKind P w) a vs := dk_rd ok (.inl e)
theorem key_of {ks : List Key} (ok : HOk P w H h) (e : H a = some (.tup (ks.map kV))) : (tupleKind (mixKind P w)).is h ks a := by
  obtain ⟨_, its, r, o, h1, h2, ⟨n, h3⟩, _⟩ := (show ObjOk P w H h a (.tup (ks.map kV)) from ok a _ e)
  exact ⟨o, its.toArray, n, h1, h2, h3, by simpa using items_are r⟩
theorem dt_rd {kvs : List (List Key × V)} (ok : HOk P w H h) (e : Rd H a (.dT kvs)) : kvs.length <= sizeLine /\ (a == sysModules) = false /\
    ∃ xs, KT H kvs xs /\ h.DictOfH (tupleKind (mixKind P w)) a xs := by
  obtain ⟨z, y, xs, r, o, es, ep, h1, h2, h3, h4, h5⟩ := (show ObjOk P w H h a (.dT kvs) from rd_of ok e)
  refine ⟨z, y, xs, r, o, es, ep, h1, h2, h3, h4, fun x hx => ?_, h5⟩
  have all : ∀ {l : List (List Key × V)} {m : List (List Key × Addr × Value)}, KT H l m -> ∀ x ∈ m, (tupleKind (mixKind P w)).is h x.1 x.2.1 := by
    intro l m q
    induction q with
    | nil => intro x hx; exact nomatch hx
    | @cons p q ps qs hq t ih =>
      intro x hx
      rcases List.mem_cons.mp hx with e | hx
      · subst e
        exact key_of ok (by rw [← hq.1]; exact hq.2.1)
      · exact ih x hx
  exact all r x hx
theorem dt_of {kvs : List (List Key × V)} (ok : HOk P w H h) (e : H a = some (.dT kvs)) : kvs.length <= sizeLine /\ (a == sysModules) = false /\
    ∃ xs, KT H kvs xs /\ h.DictOfH (tupleKind (mixKind P w)) a xs := dt_rd ok (.inl e)
end
def DGet (H : Hp) (a : Addr) (y : V) (r : Option V) : Prop :=
  (∃ kvs k, Rd H a (.dK kvs) /\ y = kV k /\ r = valV kvs k) ∨ ∃ kvs k b, Rd H a (.dT kvs) /\ y = .ref b /\ H b = some (.tup (k.map kV)) /\ r = valV kvs k
def DPut (H : Hp) (a : Addr) (y v : V) (H' : Hp) : Prop :=
  (∃ kvs k, H a = some (.dK kvs) /\ y = kV k /\ kvs.length < sizeLine /\ H' = upd H a (.dK (putK kvs k v))) ∨
  ∃ kvs k b, H a = some (.dT kvs) /\ y = .ref b /\ H b = some (.tup (k.map kV)) /\ kvs.length < sizeLine /\ H' = upd H a (.dT (putK kvs k v))
theorem DGet.t {H : Hp} {a b : Addr} {kvs : List (List Key × V)} {k : List Key} (e : H a = some (.dT kvs)) (eb : H b = some (.tup (k.map kV))) : DGet H a (.ref b) (valV kvs k) := .inr ⟨kvs, k, b, .inl e, rfl, eb, rfl⟩
theorem DPut.t {H : Hp} {a b : Addr} {kvs : List (List Key × V)} {k : List Key} {v : V} (e : H a = some (.dT kvs)) (eb : H b = some (.tup (k.map kV))) (hl : kvs.length < sizeLine) :
    DPut H a (.ref b) v (upd H a (.dT (putK kvs k v))) := .inr ⟨kvs, k, b, e, rfl, eb, hl, rfl⟩
section
variable {X : Cx} {pins : List (Addr × Obj)} {σ : St} {H : Hp} {s : Shared} {a : Addr} {y v : V} {u r : Value} {o : Option V} {A : Around} {E : Value -> Shared -> Prop}
theorem Inv.big (I : Inv X pins σ H s) : sysModules < s.heap.objs.size := by
  have h : mainGlobals < s.heap.objs.size := (I.mod.glob.keeps I.bk).lt
  exact Nat.lt_trans (by decide) h
theorem d_getItem {Q : Value -> Shared -> Prop} (hu : A.units + 1 < cLine) (I : Inv X pins σ H s) (g : DGet H a y (some v)) (ry : RelV y u) (h : ∀ w' s', Inv X pins σ H s' -> RelV v w' -> Q w' s') :
    wpAny (model X.prog X.w) A (getItem (.ref a) u) Q E s := by
  rcases g with ⟨kvs, k, e, ey, l⟩ | ⟨kvs, k, b, e, ey, eb, l⟩
  · subst ey
    obtain ⟨z, hd, vs, rel, dd⟩ := dk_rd I.hok e
    obtain ⟨w', hw, rw'⟩ := RelO.some_of (v := v) (o := valueAt vs k) (by rw [l]; exact rel.val k)
    exact wpAny_getItem_of (kV_is ry) dd.mapOf hw (h w' _ (I.tok _) rw')
  · subst ey
    cases (show u = Value.ref b from ry)
    obtain ⟨z, hd, xs, rel, dd⟩ := dt_rd I.hok e
    obtain ⟨w', hw, rw'⟩ := RelO.some_of (v := v) (o := (atKey xs k).map (·.2)) (by rw [l]; exact rel.val k)
    obtain ⟨p, hp, hp2⟩ := Option.map_eq_some_iff.mp hw
    refine wpAny_getItem_heap (tupleKind_room_in1 hu) (key_of I.hok eb) dd hp ?_
    rw [hp2]
    exact h w' _ (I.tok _) rw'
theorem d_in {Q : Value -> Shared -> Prop} (hu : A.units + 1 < cLine) (I : Inv X pins σ H s) (g : DGet H a y o) (ry : RelV y u) (h : ∀ s', Inv X pins σ H s' -> Q (.bool o.isSome) s') :
    wpAny (model X.prog X.w) A (compareOp .In u (.ref a)) Q E s := by
  rcases g with ⟨kvs, k, e, ey, l⟩ | ⟨kvs, k, b, e, ey, eb, l⟩
  · subst ey
    obtain ⟨z, hd, vs, rel, dd⟩ := dk_rd I.hok e
    refine wpAny_in_of (kV_is ry) hd dd.mapOf ?_
    rw [← (rel.val k).isSome_eq, ← l]
    exact h _ (I.tok _)
  · subst ey
    cases (show u = Value.ref b from ry)
    obtain ⟨z, hd, xs, rel, dd⟩ := dt_rd I.hok e
    refine wpAny_in_heap (tupleKind_room_in1 hu) (key_of I.hok eb) hd dd ?_
    have q := (rel.val k).isSome_eq
    rw [Option.isSome_map] at q
    rw [← q, ← l]
    exact h _ (I.tok _)
theorem d_write {h' : Heap} {t' : Nat} {ob : HO} (I : Inv X pins σ H s) (mu : Mut (H a)) (hs : Heap.SameBut a s.heap h') (he : ∃ q, h'.get? a = some q) (new : ObjOk X.prog X.w (upd H a ob) h' a ob) :
    Inv X pins σ (upd H a ob) { s with heap := h', toks := t' } :=
  I.write (x := a) (e := a) mu (.inl rfl) (fun b q hb z => (hs.2 b hb).trans z) he new
theorem dk_new {P : Program} {w : World} {H' : Hp} {h' : Heap} {kvs : List (Key × V)} {vs : List (Key × Value)} (z : kvs.length <= sizeLine) (hd : (a == sysModules) = false) (rel : KV kvs vs) (dd : h'.DictOf (mixKind P w) a vs) :
    ObjOk P w H' h' a (.dK kvs) := ⟨z, hd, vs, rel, dd⟩
theorem d_setItem {H' : Hp} {Q : Unit -> Shared -> Prop} (hu : A.units + 1 < cLine) (I : Inv X pins σ H s) (g : DPut H a y v H') (ry : RelV y u) (rv : RelV v r) (h : ∀ s', Inv X pins σ H' s' -> Q () s') :
    wpAny (model X.prog X.w) A (setItem (.ref a) u r) Q E s := by
  rcases g with ⟨kvs, k, e, ey, l, eH⟩ | ⟨kvs, k, b, e, ey, eb, l, eH⟩
  · subst ey eH
    obtain ⟨z, hd, vs, rel, dd⟩ := dk_of I.hok e
    have hz : vs.length <= sizeLine := by rw [← rel.length]; exact z
    have hl : (putK kvs k v).length <= sizeLine := by have := length_putK kvs k v; omega
    refine wpAny_setItem_pairs (hsz := hz) (kV_is ry) dd fun h' dd' hs => h _ ?_
    have he : ∃ q, h'.get? a = some q := let ⟨q, _, _, hq, _⟩ := dd'; ⟨q, hq⟩
    exact d_write I (by rw [e]; exact True.intro) hs he (dk_new hl hd (rel.put k rv) dd')
  · subst ey eH
    cases (show u = Value.ref b from ry)
    obtain ⟨z, hd, xs, rel, dd⟩ := dt_of I.hok e
    have hz : xs.length <= sizeLine := by rw [← Paired.length rel]; exact z
    have hl : (putK kvs k v).length <= sizeLine := by have := length_putK kvs k v; omega
    refine wpAny_setItem_heap (hsz := hz) (tupleKind_room_in1 hu) (key_of I.hok eb) dd fun h' dd' hs => h _ ?_
    obtain ⟨q, es, ep, hq, h2, h3, h4, _, h5⟩ := dd'
    refine d_write I (by rw [e]; exact True.intro) hs ⟨q, hq⟩ ⟨hl, hd, _, (rel.put k eb rv).keeps fun c ys ec => ?_, q, es, ep, hq, h2, h3, h4, h5⟩
    rw [upd_ne (ne_of ec e (fun z => nomatch z))]
    exact ec
end
def NoSl (i : Expr) : Prop := ∀ ov iv, subscripted i false ov iv = operate [ov, iv] (getItem ov iv)
theorem subD_of {prog : Program} {w : World} {A : Around} {E : Value -> Shared -> Prop} {s : Shared} {env : Env} {value slice : Expr} {pos : Pos} {T id : String} {Q : Value -> Shared -> Prop}
    (hl : typeLookup (.type T) "__getitem__" = pure (some (.builtin id))) (hs : NoSl slice)
    (h : wpAny (model prog w) A (eval value env) (fun o s₁ => wpAny (model prog w) A (eval slice env) (fun i s₂ => s₂.TypeIs o T /\ wpAny (model prog w) A (getItem o i) Q E s₂) E s₁) E s) :
    wpAny (model prog w) A (eval (.Subscript value slice pos) env) Q E s := by
  refine Subscript_ (wpAny_mono h (fun o s₁ h₁ => wpAny_mono h₁ (fun i s₂ h₂ => ?_) fun _ _ x => x) fun _ _ x => x)
  obtain ⟨hT, h₂⟩ := h₂
  unfold subscriptTail
  refine wpAny_bind ?_
  rw [getitemInPython_of_ne hT.not_modules]
  refine wpAny_bind (wpAny_specialOf hT hl ?_)
  have fin : wpAny (model prog w) A (subscripted slice false o i) (fun r s₃ => wpAny (model prog w) A (letTemporaryGo value o r >>= fun _ => pure r) Q E s₃) E s₂ := by
    rw [hs o i]
    exact wpAny_operating (wpAny_mono h₂ (fun r s₃ h₃ => wpAny_bind (wpAny_letTemporaryGo (wpAny_pure h₃))) fun _ _ x => x)
  first
    | exact wpAny_pure (wpAny_bind fin)
    | exact wpAny_bind (wpAny_pure (wpAny_bind fin))
    | exact wpAny_bind fin
theorem dict_typeIs {X : Cx} {pins : List (Addr × Obj)} {σ : St} {H : Hp} {s : Shared} {a : Addr} {y : V} {o : Option V} (I : Inv X pins σ H s) (g : DGet H a y o) : s.TypeIs (.ref a) "dict" := by
  rcases g with ⟨kvs, k, e, _, _⟩ | ⟨kvs, k, b, e, _, _, _⟩
  · obtain ⟨_, _, vs, _, dd⟩ := dk_rd I.hok e
    exact dd.typeIs
  · obtain ⟨_, _, xs, _, dd⟩ := dt_rd I.hok e
    exact dd.typeIs
theorem dt_empty {P : Program} {w : World} {H : Hp} (h : Heap) (hb : sysModules < h.objs.size) : ObjOk P w H (h.push { cls := .type "dict", data := .dict #[] }) h.objs.size (.dT []) :=
  ⟨Nat.zero_le _, beq_eq_false_iff_ne.mpr (Ne.symm (Nat.ne_of_lt hb)), [], .nil, _, #[], 0, Heap.get?_push_size _ rfl, ⟨rfl, rfl, rfl⟩, rfl, rfl, List.nodup_nil⟩
def tDNewT : TE := fun _ H Q => ∀ p, H p = none -> Q (.ref p) (upd H p (.dT []))
section
variable {X : Cx} {pos : Pos}
theorem pe_dnewT : PE X (.Dict [] [] pos) tDNewT := fun pins s σ H Q I h =>
  wpAny_Dict_empty ⟨.ref s.heap.objs.size, _, I.laid (a := s.heap.objs.size) (o := .dT []) (t' := s.toks) (fun _ _ q => Heap.get?_push_of_some _ q) (Nat.le_refl _) (dt_empty s.heap I.big), rfl, h _ (I.hok.fresh (Nat.le_refl _))⟩
end
end L2
namespace L2
open PySem PySem.Spec PyProof.Rows
theorem qs_never {X : Cx} {st : Stmt} : QS X st tNever := ⟨ps_never⟩
def Ite (a : Addr) : It :=
  ⟨fun i H => ∃ xs x, H a = some (.lst xs) /\ xs[i]? = some x,
   fun i H v H' => ∃ p, H p = none /\ v = .ref p /\ ∃ x, H' = upd H p (.tup [.int (i : Int), x]) /\ ∀ xs, H a = some (.lst xs) -> xs[i]? = some x,
   fun i H => ∃ xs, H a = some (.lst xs) /\ xs.length <= i⟩
theorem turn_enum {P : Program} {w : World} {K : PySem.W.Frag} {tg : Expr} (htg : tupleTg tg = true) {e it a : Addr} (hne : e ≠ it) :
    Turn P w K tg (Ite a) [e, it] e (fun i h => (∃ old, IsEnum h e it (i : Int) old) /\ h.IsListIter it a i) where
  mem := List.mem_cons_self
  obj := fun i h st c hc => by
    obtain ⟨⟨old, h1⟩, ⟨o4, h4, _, d4⟩⟩ := st
    have nof : ∀ {o : Obj} {vs : Array Value}, o.data = .fields vs -> ∀ v, o.data ≠ .cell v := fun e v q => by rw [e] at q; cases q
    simp only [List.mem_cons, List.not_mem_nil, or_false] at hc
    rcases hc with rfl | rfl
    · exact ⟨_, h1, nof rfl⟩
    · exact ⟨_, h4, nof d4⟩
  keep := fun i h h' st k => by
    obtain ⟨⟨old, h1⟩, ⟨o4, h4, r4⟩⟩ := st
    exact ⟨⟨old, k _ (by simp) _ h1⟩, ⟨o4, k _ (by simp) _ h4, r4⟩⟩
  item := by
    intro X hP hw hK hc i pins s σ H E I hf st hg
    subst hP hw hK
    obtain ⟨⟨old, h1⟩, h4⟩ := st
    obtain ⟨xs, x, qa, hx⟩ := hg
    obtain ⟨z, its, n, rv, hlen, e0⟩ := I.lstM qa
    obtain ⟨ux, eux, rux⟩ := rv.get hx
    refine wpAny_pyNext_enum_item h1 h4 (show s.heap.IsList a its.toArray from ⟨_, e0, rfl, n, rfl⟩) (x := ux) (by simpa using eux) hne fun g b1 b2 b3 b4 b5 => ?_
    refine ⟨_, rfl, ?_⟩
    have elt : e < s.heap.objs.size := Heap.lt_size h1
    cases tg with
    | Tuple es kk pp =>
      refine wpAny_letOwnedTupleGo_enum b1 fun g' c1 sb => ?_
      have new : g'.get? s.heap.objs.size = some { cls := .type "tuple", data := .seq #[.int i s.toks, ux] } := sb.extBut _ _ (Nat.ne_of_gt elt) b3
      have I1 : Inv X pins σ (upd H s.heap.objs.size (.tup [.int (i : Int), x])) { s with heap := g', toks := s.toks + 1 } := by
        refine I.turnedNew (t' := s.toks + 1) (L := [e, it]) (fun c o hcn eo => ?_) hf (Nat.le_refl _) ⟨by show 2 <= sizeLine; decide, [.int i s.toks, ux], .cons ⟨_, rfl⟩ (.cons rux .nil), ⟨_, new, rfl, ⟨0, rfl⟩, rfl⟩⟩
        simp only [List.mem_cons, List.not_mem_nil, or_false, not_or] at hcn
        exact sb.extBut c o hcn.1 (b5 c o hcn.1 hcn.2 eo)
      refine ⟨.ref s.heap.objs.size, _, I1, rfl, ⟨_, I.fresh, rfl, x, rfl, fun xs' q1 => ?_⟩, ⟨⟨ux, ?_⟩, b2.extBut sb.extBut hne.symm⟩, fun c hcm => ?_⟩
      · rw [qa] at q1; cases q1; exact hx
      · rw [show ((i + 1 : Nat) : Int) = (i : Int) + 1 by omega]; exact c1
      · obtain ⟨o, eo⟩ : ∃ o, s.heap.get? c = some o := by
          simp only [List.mem_cons, List.not_mem_nil, or_false] at hcm
          rcases hcm with rfl | rfl
          · exact ⟨_, h1⟩
          · obtain ⟨o4, g4, _⟩ := h4
            exact ⟨_, g4⟩
        rw [upd_ne (Nat.ne_of_lt (Heap.lt_size eo))]
        exact (hf c hcm).1
    | _ => exact absurd (show false = true from htg) Bool.false_ne_true
  done := by
    intro X hP hw hK hc i pins s σ H E I hf st hg
    subst hP hw hK
    obtain ⟨⟨old, h1⟩, h4⟩ := st
    obtain ⟨xs, qa, hl⟩ := hg
    obtain ⟨z, its, n, rv, hlen, e0⟩ := I.lstM qa
    refine wpAny_pyNext_enum_end (I.ok.hd hc) h1 h4 (show s.heap.IsList a its.toArray from ⟨_, e0, rfl, n, rfl⟩) (by simp; omega) fun g up => ⟨rfl, ?_⟩
    refine I.turnedL (t' := s.toks) (L := [e, it]) (fun c o hcn eo => ?_) hf
    simp only [List.mem_cons, List.not_mem_nil, or_false, not_or] at hcn
    exact up c o hcn.2 eo
  self := fun _ _ _ _ _ st h => by
    obtain ⟨⟨old, h1⟩, _⟩ := st
    exact wpAny_pyIter_enum h1 h
section
variable {X : Cx} {tg : Expr}
def iEnum (ta : TA) : TI := fun σ H R => ta σ H fun vs H1 => ∃ a xs, vs = [.ref a] /\ H1 a = some (.lst xs) /\ R (Ite a) H1
theorem pi_enum {e1 : Expr} {ta : TA} {p pos : Pos} (htg : tupleTg tg = true) (hg : Gl X "enumerate") (hm : X.mg "enumerate" = none) (ha : PA X [e1] ta) (hs : starEach [e1] X.env = [(false, eval e1 X.env)] := by rfl)
    (hb : bootBuiltins "enumerate" = some (.type "enumerate") := by decide +kernel) : PI X tg (.Call (.Name "enumerate" p) [e1] [] pos) (iEnum ta) := by
  intro pins s σ H R I h
  refine Call_ (ld_blt I hg hm hb (PyProof.Rows.callWith_type1 (thn (ha pos pins s σ H _ I h) fun us s1 ⟨vs, H1, I1, r1, q1⟩ => ?_) hs rfl))
  obtain ⟨a, xs, e, qa, q⟩ := q1
  subst e
  obtain ⟨u1, rfl, ra⟩ := vals1 r1
  cases ra
  obtain ⟨z, its, n, rv, hlen, e0⟩ := I1.lstM qa
  refine call_enumerate_1 e0 fun g z1 z2 z3 up => ?_
  refine wpAny_pyIter_enum z1 ?_
  have I2 : Inv X pins σ H1 { s1 with heap := g } := I1.kept (t' := s1.toks) up
  refine ⟨_, [s1.heap.objs.size + 1, s1.heap.objs.size], _, _, H1, rfl, I2, turn_enum htg (Nat.ne_of_gt (Nat.lt_succ_self _)), ⟨⟨_, z1⟩, z2⟩, fun c hc => ?_, q⟩
  have big : s1.heap.objs.size <= c := by
    simp only [List.mem_cons, List.not_mem_nil, or_false] at hc
    rcases hc with rfl | rfl
    · exact Nat.le_add_right _ _
    · exact Nat.le_refl _
  exact I1.fpOk big (I1.hok.fresh big)
theorem qi_enum {e1 : Expr} {ta : TA} {p pos : Pos} (htg : tupleTg tg = true) (hg : Gl X "enumerate") (hm : X.mg "enumerate" = none) (ha : QA X [e1] ta) (hs : starEach [e1] X.env = [(false, eval e1 X.env)] := by rfl)
    (hb : bootBuiltins "enumerate" = some (.type "enumerate") := by decide +kernel) : QI X tg (.Call (.Name "enumerate" p) [e1] [] pos) (iEnum ta) := ⟨pi_enum htg hg hm ha.o hs hb⟩
end
theorem for_enum {a : Addr} {xs : List V} {g : TG} {tb : TS} {D : Ends} {σ : St} {H : Hp} (Pv : Nat -> St -> Hp -> Prop) (h0 : Pv 0 σ H) (hl : ∀ i σ H, i <= xs.length -> Pv i σ H -> H a = some (.lst xs))
    (hs : ∀ i x p σ H, xs[i]? = some x -> H p = none -> Pv i σ H -> g (.ref p) σ (upd H p (.tup [.int (i : Int), x])) fun σ2 H2 => tb { D with nx := Pv (i + 1), ct := Pv (i + 1), bk := D.nx } σ2 H2) (hd : ∀ σ H, Pv xs.length σ H -> D.nx σ H) :
    ∃ W : Nat -> Nat -> St -> Hp -> Prop, (∃ m, W 0 m σ H) /\ ∀ i m σ H, W i m σ H ->
      ((Ite a).stop i H /\ D.nx σ H) ∨ ((Ite a).go i H /\ ∃ N : St -> Hp -> Prop, (∀ σ' H', N σ' H' -> ∃ m', m' < m /\ W (i + 1) m' σ' H') /\ ∀ x H', (Ite a).yld i H x H' -> g x σ H' fun σ2 H2 => tb { D with nx := N, ct := N, bk := D.nx } σ2 H2) := by
  refine ⟨fun i m σ H => m = xs.length - i /\ i <= xs.length /\ Pv i σ H, ⟨_, rfl, Nat.zero_le _, h0⟩, ?_⟩
  rintro i m σ H ⟨rfl, hi, p⟩
  have qa := hl i σ H hi p
  by_cases hlt : i < xs.length
  · refine .inr ⟨⟨xs, xs[i], qa, by simp [hlt]⟩, Pv (i + 1), fun σ' H' p' => ⟨xs.length - (i + 1), by omega, rfl, hlt, p'⟩, fun v H' yv => ?_⟩
    obtain ⟨q, hq, rfl, x, rfl, hxy⟩ := yv
    exact hs i x q σ H (hxy xs qa) hq p
  · have e : i = xs.length := by omega
    refine .inl ⟨⟨xs, qa, by omega⟩, hd σ H (e ▸ p)⟩
section
variable {X : Cx}
theorem min_tup {prog : Program} {w : World} {A : Around} {E : Value -> Shared -> Prop} {s : Shared} {l : Addr} {vs : List Value} {ns : List Int} {Q : Value -> Shared -> Prop} (hh : A.handled = none)
    (hl : s.heap.IsTuple l vs.toArray) (hi : IntsAre vs ns) (hne : 0 < ns.length)
    (h : ∀ h' M (t : Tok) tk, (∀ b o, s.heap.get? b = some o -> h'.get? b = some o) -> M ∈ ns -> (∀ a, a ∈ ns -> M <= a) -> Q (.int M t) { s with heap := h', toks := tk }) :
    wpAny (model prog w) A (call (.builtin "min") [.ref l]) Q E s := by
  obtain ⟨xs, e⟩ := hi.allInts.items
  have hns : ns = xs.toList.map (·.1) := by rw [← hi.numsOf, ← nums_intItems, ← e]
  have hsz : 0 < xs.size := by
    have h3 := hne; rw [hns, List.length_map, Array.length_toList] at h3; exact h3
  rw [e] at hl
  have hlt : l < s.heap.objs.size := by obtain ⟨_, e, _⟩ := hl; exact Heap.lt_size e
  refine call_min_walk (wpAny_pyIter_tuple hl ?_)
  refine ⟨_, _, _, _, _, _, _, rfl, Walks.tuple (A := A.in1) hh _ l (Nat.ne_of_lt hlt) (intItems xs), ⟨⟨_, Heap.get?_push_size _ rfl, rfl, rfl⟩, hl.push _⟩, fun c hc => ?_, by simpa [intItems] using hsz, CmpOf.ints_lt (numAt xs) (fun _ _ => intItems_at), fun v h' tk hP hk => ?_⟩
  · show c < (s.heap.push _).objs.size
    rw [Heap.size_push]
    rcases List.mem_cons.mp hc with rfl | hc
    · exact Nat.lt_succ_self _
    · rcases List.mem_cons.mp hc with rfl | hc
      · exact Nat.lt_succ_of_lt hlt
      · cases hc
  · have hv : (intItems xs)[argBest (fun i j => decide (numAt xs i < numAt xs j)) (xs.size - 1)]? = some v := by simpa [intItems] using hP
    obtain ⟨t, rfl⟩ := intItems_at hv
    obtain ⟨h1, h2⟩ := argBest_lt (numAt xs) (xs.size - 1)
    refine h _ _ t tk (fun b o eb => hk b o (fun hm => ?_) (Heap.get?_push_of_some _ eb)) ?_ fun a ha => ?_
    · rcases List.mem_cons.mp hm with e1 | hm
      · exact absurd (e1 ▸ Heap.lt_size eb) (Nat.lt_irrefl _)
      · cases hm
    · rw [hns, numAt_eq]; exact getD_mem (by rw [List.length_map, Array.length_toList]; omega)
    · rw [hns] at ha
      obtain ⟨j, hj, rfl⟩ := mem_getD ha
      rw [List.length_map, Array.length_toList] at hj
      rw [← numAt_eq]; exact h2 j (by omega)
theorem call_minT (hc : X.calm = true) : CallR X (.builtin "min") (fun xs H Q => ∃ (p : Addr) (ns : List Int), xs = [.ref p] /\ SqT X.K H p (ns.map V.int) /\ ns ≠ [] /\ ∀ M, M ∈ ns -> (∀ a, a ∈ ns -> M <= a) -> Q (.int M) H) := by
  intro pins s σ H xs us Q I r h
  obtain ⟨p, ns, rfl, hq, hne, q⟩ := h
  obtain ⟨u, rfl, rx⟩ := vals1 r
  cases rx
  obtain ⟨its, r', pl, hz⟩ := I.tuple hq
  refine min_tup (I.ok.hd hc) pl (intsAre_of r') (by cases ns with | nil => exact absurd rfl hne | cons => simp) fun h' M t tk k m1 m2 => ?_
  exact ⟨.int M, H, I.kept k, ⟨_, rfl⟩, q M m1 m2⟩
theorem call_sumL (hc : X.calm = true) : CallR X (.builtin "sum") (fun xs H Q => ∃ (p : Addr) (ns : List Int), xs = [.ref p] /\ SqL X.K H p (ns.map V.int) /\ Q (.int ns.sum) H) := by
  intro pins s σ H xs us Q I r h
  obtain ⟨p, ns, rfl, hq, q⟩ := h
  obtain ⟨u, rfl, rx⟩ := vals1 r
  cases rx
  obtain ⟨its, r', pl, hz⟩ := I.list hq
  have hl := pl.isList
  have hi := intsAre_of r'
  obtain ⟨xs, e⟩ := hi.allInts.items
  have hns : ns = xs.toList.map (·.1) := by rw [← hi.numsOf, ← nums_intItems, ← e]
  rw [e] at hl
  refine sum_intListG (I.ok.hd hc) hl fun h' tk t' hk => ?_
  rw [preSum_eq, List.take_of_length_le (by simp), ← hns]
  exact ⟨.int ns.sum, H, I.kept hk, ⟨_, rfl⟩, q⟩
end
end L2
namespace Srt
open PySem PySem.W PyProof.Rows
end Srt
namespace L2
open PySem PySem.Spec PyProof.Rows
def RowV (H : Hp) (x : V) (c : List Int) : Prop := ∃ a, x = .ref a /\ H a = some (.tup (c.map V.int))
def RowsV (H : Hp) (xs : List V) (cs : List (List Int)) : Prop := xs.length = cs.length /\ ∀ (i : Nat) (x : V), xs[i]? = some x -> ∃ c, cs[i]? = some c /\ RowV H x c
end L2
namespace Xn
open PySem PyProof.Rows
end Xn
namespace Xn
open PySem PyProof.Rows
end Xn
namespace L2
open PySem PySem.Spec PyProof.Rows Xn
end L2
namespace PySem
end PySem
namespace L2
open PySem PySem.Spec PyProof.Rows Xn
end L2
namespace L2
open PySem PySem.Spec PyProof.Rows Xn
end L2
namespace PySem.W
open PySem PySem.Spec PySem.Calls PyProof.Rows
end PySem.W
namespace L2
open PySem PySem.Spec PyProof.Rows Xn
end L2
namespace L2
open PySem PySem.Spec PyProof.Rows Xn
end L2
namespace L2
open PySem PySem.Spec PySem.SeqAt PyProof.Rows Xn
section
variable {K : PySem.W.Frag} {a b D : Addr} {js : List (Option Nat)} {g : TG} {te : TE} {σ : St} {H1 : Hp} {Q : VK}
theorem comp_zip {xs ys : List V} (hn : min xs.length ys.length <= sizeLine) (Pv : Nat -> St -> Hp -> List V -> Prop) (h0 : Pv 0 (pick js σ) (upd H1 D (.lst [])) [])
    (hl : ∀ i σ' H' zs, H' D = some (.lst zs) -> Pv i σ' H' zs -> SqT K H' a xs /\ SqT K H' b ys)
    (hs : ∀ i x y p σ' H' zs (R : St -> V -> Hp -> Prop), xs[i]? = some x -> ys[i]? = some y -> H' p = none -> H' D = some (.lst zs) -> zs.length = i -> Pv i σ' H' zs -> (∀ σ2 z H4, H4 D = some (.lst zs) -> Pv (i + 1) σ2 (upd H4 D (.lst (zs ++ [z]))) (zs ++ [z]) -> R σ2 z H4) ->
      g (.ref p) σ' (upd H' p (.tup [x, y])) fun σ2 H3 => te σ2 H3 fun z H4 => R σ2 z H4)
    (hst : ∀ σ' H' zs, H' D = some (.lst zs) -> zs.length = min xs.length ys.length -> Pv (min xs.length ys.length) σ' H' zs -> Q (.ref D) H') : CompW (Itz K a b) D js g tNoTest te σ H1 Q := by
  refine comp_plain hn Pv h0 (fun i σ' H' zs hi hD p => ?_) (fun σ' H' zs hD b' c => ⟨?_, hst σ' H' zs hD b' c⟩) fun i σ' H' zs x H2 R hi hD hz p hx k => ?_
  · obtain ⟨qa, qb⟩ := hl i σ' H' zs hD p
    have h1 : i < xs.length := by omega
    have h2 : i < ys.length := by omega
    exact ⟨xs, ys, xs[i], ys[i], qa, qb, by simp [h1], by simp [h2]⟩
  · obtain ⟨qa, qb⟩ := hl _ σ' H' zs hD c
    exact ⟨xs, ys, qa, qb, by omega⟩
  · obtain ⟨qa, qb⟩ := hl i σ' H' zs hD p
    obtain ⟨q, hq, rfl, x', y', rfl, hxy⟩ := hx
    obtain ⟨ex, ey⟩ := hxy xs ys qa qb
    exact hs i x' y' q σ' H' zs R ex ey hq hD hz p k
end
theorem qg_tupN {X : Cx} {K : PySem.W.Frag} {es : List Expr} {k : Nat} {pos : Pos} {t : TGs} {n : Nat} (hK : X.K = K) (hc : X.calm = true) (h : QGs X es t) (hn : (assignEach es X.env).length = n := by rfl) (hst : (assignEach es X.env).findIdx? (·.1) = none := by rfl) : QG X (.Tuple es k pos) (gTup K n t) := by
  subst hK
  exact qg_tup hc h hn hst
def tIfJ (c : TT) (t u : TS) : TS := fun D σ H => ∃ J : St -> Hp -> Prop, (c σ H fun b H1 => if b = true then t { D with nx := J } σ H1 else u { D with nx := J } σ H1) /\ ∀ σ' H', J σ' H' -> D.nx σ' H'
theorem qs_ifJ {X : Cx} {c : Expr} {a b : List Stmt} {tc : TT} {t u : TS} {pos : Pos} (hc : QT X c tc) (ha : QSs X a t) (hb : QSs X b u) : QS X (.If c a b pos) (tIfJ tc t u) := ⟨by
  intro pins s σ H D I ⟨J, h1, h2⟩
  refine thn ((qs_if hc ha hb).o pins s σ H { D with nx := J } I h1) fun f s' hs => ?_
  cases f with
  | next => obtain ⟨σ', H', I', q⟩ := hs; exact ⟨σ', H', I', h2 σ' H' q⟩
  | brk => exact hs
  | cont => exact hs
  | ret u => exact hs⟩
end L2
namespace PySem.W
end PySem.W
namespace Mth
def cnt (p : Nat) (n : Nat) : Nat := if h : 2 <= p /\ 1 <= n /\ n % p = 0 then cnt p (n / p) + 1 else 0
termination_by n
decreasing_by exact Nat.div_lt_self h.2.1 h.1
theorem cnt_div {p n : Nat} (hp : 2 <= p) (hn : 1 <= n) (h : n % p = 0) : cnt p n = cnt p (n / p) + 1 := by
  rw [cnt, dif_pos ⟨hp, hn, h⟩]
theorem cnt_not {p n : Nat} (h : n % p ≠ 0) : cnt p n = 0 := by
  rw [cnt, dif_neg fun z => h z.2.2]
theorem cnt_spec {p : Nat} (hp : 2 <= p) : ∀ n : Nat, 1 <= n -> n = p ^ cnt p n * strip p n := by
  intro n
  induction n using Nat.strongRecOn with
  | _ n ih =>
    intro hn
    by_cases h : n % p = 0
    · have h1 := div_pos_of hn h
      have e := ih (n / p) (Nat.div_lt_self hn hp) h1
      rw [cnt_div hp hn h, strip_div hp hn h, Nat.pow_succ]
      have e2 : n = p * (n / p) := (Nat.mul_div_cancel' (Nat.dvd_of_mod_eq_zero h)).symm
      calc n = p * (n / p) := e2
        _ = p * (p ^ cnt p (n / p) * strip p (n / p)) := by rw [← e]
        _ = p ^ cnt p (n / p) * p * strip p (n / p) := by rw [← Nat.mul_assoc, Nat.mul_comm p]
    · rw [cnt_not h, strip_not h, Nat.pow_zero, Nat.one_mul]
def powsOf (n : Nat) : List Nat := primes.map fun p => cnt p n
end Mth
namespace Mth
def chg (n d : Nat) : List Int := List.zipWith (fun a b : Nat => (a : Int) - (b : Int)) (powsOf n) (powsOf d)
theorem chg_length (n d : Nat) : (chg n d).length = 10 := by simp [chg, powsOf, primes]
def fitsB (c p : List Int) : Bool := (c.zip p).all fun x => decide (0 <= x.2 + x.1)
def fstI : List (List Int) -> List Int -> Option Nat
  | [], _ => none
  | c :: r, p => if fitsB c p = true then some 0 else (fstI r p).map (· + 1)
def mvd (p c : List Int) (m : Int) : List Int := List.zipWith (fun a b => a + m * b) p c
def nn (p : List Int) : Bool := p.all fun x => decide (0 <= x)
theorem mvd_length {p c : List Int} {m : Int} (hp : p.length = 10) (hc : c.length = 10) : (mvd p c m).length = 10 := by simp [mvd, hp, hc]
def R10 (rows : List (List Int)) : Prop := ∀ c ∈ rows, c.length = 10
theorem fstI_lt : ∀ {rows : List (List Int)} {p : List Int} {i : Nat}, fstI rows p = some i -> ∃ c, rows[i]? = some c /\ fitsB c p = true /\ i < rows.length
  | [], _, _, h => by cases h
  | c :: r, p, i, h => by
    unfold fstI at h
    by_cases hc : fitsB c p = true
    · rw [if_pos hc] at h
      cases h
      exact ⟨c, rfl, hc, by simp⟩
    · rw [if_neg hc] at h
      cases e : fstI r p with
      | none => rw [e] at h; cases h
      | some j =>
        rw [e] at h
        have hj : j + 1 = i := Option.some.inj h
        subst hj
        obtain ⟨c', h1, h2, h3⟩ := fstI_lt e
        exact ⟨c', by simpa using h1, h2, by simp; omega⟩
theorem fstI_at : ∀ (rows : List (List Int)) (p : List Int) (i : Nat), (∀ j, j < i -> ∀ c, rows[j]? = some c -> fitsB c p = false) -> (∀ c, rows[i]? = some c -> fitsB c p = true) -> i < rows.length -> fstI rows p = some i
  | [], _, _, _, _, h => by simp at h
  | c :: r, p, 0, _, h, _ => by
    unfold fstI
    rw [if_pos (h c rfl)]
  | c :: r, p, i + 1, h, h', hl => by
    have h0 := h 0 (by omega) c rfl
    unfold fstI
    rw [h0, if_neg (by decide), fstI_at r p i (fun j hj c' e => h (j + 1) (by omega) c' (by simpa using e)) (fun c' e => h' c' (by simpa using e)) (by simpa using hl)]
    rfl
theorem fstI_none : ∀ (rows : List (List Int)) (p : List Int), (∀ (j : Nat) c, rows[j]? = some c -> fitsB c p = false) -> fstI rows p = none
  | [], _, _ => rfl
  | c :: r, p, h => by
    unfold fstI
    rw [h 0 c rfl, if_neg (by decide), fstI_none r p fun j c' e => h (j + 1) c' (by simpa using e)]
    rfl
def stp (rows : List (List Int)) (p : List Int) : Option (List Int) := (fstI rows p).map fun i => mvd p (rows.getD i []) 1
def goN (rows : List (List Int)) : Nat -> List Int -> Option (List Int)
  | 0, p => some p
  | k + 1, p => (goN rows k p).bind (stp rows)
theorem nn_iff {p : List Int} : nn p = true ↔ ∀ x ∈ p, 0 <= x := by simp [nn]
theorem fitsB_iff {c p : List Int} : fitsB c p = true ↔ ∀ (i : Nat) (a b : Int), c[i]? = some a -> p[i]? = some b -> 0 <= b + a := by
  unfold fitsB
  rw [List.all_eq_true]
  constructor
  · intro h i a b h1 h2
    have hz : (c.zip p)[i]? = some (a, b) := by rw [List.getElem?_zip_eq_some]; exact ⟨h1, h2⟩
    exact of_decide_eq_true (h _ (List.mem_of_getElem? hz))
  · intro h x hx
    obtain ⟨i, hi⟩ := List.getElem?_of_mem hx
    obtain ⟨a, b⟩ := x
    rw [List.getElem?_zip_eq_some] at hi
    exact decide_eq_true (h i a b hi.1 hi.2)
theorem nn_step {c p : List Int} (h : fitsB c p = true) : nn (mvd p c 1) = true := by
  rw [nn_iff]
  intro x hx
  obtain ⟨i, hi⟩ := List.getElem?_of_mem hx
  unfold mvd at hi
  rw [List.getElem?_zipWith_eq_some] at hi
  obtain ⟨b, a, h1, h2, rfl⟩ := hi
  have := fitsB_iff.mp h i a b h2 h1
  omega
theorem getD_of {rows : List (List Int)} {i : Nat} {c : List Int} (h : rows[i]? = some c) : rows.getD i [] = c := by
  rw [List.getD_eq_getElem?_getD, h]; rfl
theorem stp_of {rows : List (List Int)} {p : List Int} {i : Nat} {c : List Int} (h : fstI rows p = some i) (hc : rows[i]? = some c) : stp rows p = some (mvd p c 1) := by
  unfold stp
  rw [h, ← getD_of hc]
  rfl
theorem stp_none {rows : List (List Int)} {p : List Int} (h : fstI rows p = none) : stp rows p = none := by
  unfold stp; rw [h]; rfl
theorem stp_some {rows : List (List Int)} {p q : List Int} (h : stp rows p = some q) : ∃ i c, fstI rows p = some i /\ rows[i]? = some c /\ fitsB c p = true /\ q = mvd p c 1 := by
  unfold stp at h
  cases e : fstI rows p with
  | none => rw [e] at h; cases h
  | some i =>
    rw [e] at h
    obtain ⟨c, h1, h2, _⟩ := fstI_lt e
    have h3 : mvd p (rows.getD i []) 1 = q := Option.some.inj h
    rw [getD_of h1] at h3
    exact ⟨i, c, rfl, h1, h2, h3.symm⟩
theorem stp_ok {rows : List (List Int)} {p q : List Int} (hr : R10 rows) (hp : p.length = 10) (h : stp rows p = some q) : q.length = 10 /\ nn q = true := by
  obtain ⟨i, c, _, h2, h3, rfl⟩ := stp_some h
  exact ⟨mvd_length hp (hr c (List.mem_of_getElem? h2)), nn_step h3⟩
theorem goN_ok {rows : List (List Int)} (hr : R10 rows) {p : List Int} (hp : p.length = 10) (hn : nn p = true) : ∀ {k : Nat} {q : List Int}, goN rows k p = some q -> q.length = 10 /\ nn q = true
  | 0, q, h => by cases h; exact ⟨hp, hn⟩
  | k + 1, q, h => by
    obtain ⟨r, h1, h2⟩ := Option.bind_eq_some_iff.mp h
    exact stp_ok hr (goN_ok hr hp hn h1).1 h2
def trl (rows : List (List Int)) : Nat -> List Int -> List Nat
  | 0, _ => []
  | k + 1, p => match fstI rows p with
    | none => []
    | some i => i :: trl rows k (mvd p (rows.getD i []) 1)
theorem trl_none {rows : List (List Int)} {p : List Int} (h : fstI rows p = none) : ∀ k, trl rows k p = []
  | 0 => rfl
  | k + 1 => by simp only [trl, h]
theorem trl_some {rows : List (List Int)} {p c : List Int} {i : Nat} (h : fstI rows p = some i) (hc : rows[i]? = some c) (k : Nat) : trl rows (k + 1) p = i :: trl rows k (mvd p c 1) := by
  simp only [trl, h]
  rw [getD_of hc]
theorem trl_len (rows : List (List Int)) : ∀ (k : Nat) (p : List Int), (trl rows k p).length <= k
  | 0, _ => Nat.le_refl _
  | k + 1, p => by
    cases h : fstI rows p with
    | none => rw [trl_none h]; simp
    | some i =>
      obtain ⟨c, hc, _, _⟩ := fstI_lt h
      rw [trl_some h hc]
      have := trl_len rows k (mvd p c 1)
      simp; omega
theorem goN_first (rows : List (List Int)) : ∀ (k : Nat) (p : List Int), goN rows (k + 1) p = (stp rows p).bind (goN rows k)
  | 0, p => by
    show stp rows p = (stp rows p).bind fun q => some q
    cases stp rows p <;> rfl
  | k + 1, p => by
    show (goN rows (k + 1) p).bind (stp rows) = (stp rows p).bind fun q => (goN rows k q).bind (stp rows)
    rw [goN_first rows k p]
    cases stp rows p <;> rfl
end Mth
namespace Mth
def natI (l : List Nat) : List Int := l.map fun n : Nat => (n : Int)
end Mth
namespace L2
open PySem PyProof.Rows
theorem b_sum : bootBuiltins "sum" = some (.builtin "sum") := by decide +kernel
theorem b_abs : bootBuiltins "abs" = some (.builtin "abs") := by decide +kernel
end L2
namespace W2
open PySem L2 Mth
abbrev tupI (c : List Int) : HO := .tup (c.map V.int)
theorem _root_.L2.RowV.same {H H' : Hp} {x : V} {c : List Int} (h : RowV H x c) (s : Same H H') : RowV H' x c := by
  obtain ⟨a, e, ha⟩ := h
  exact ⟨a, e, s _ _ ha⟩
theorem _root_.L2.RowsV.same {H H' : Hp} {xs : List V} {cs : List (List Int)} (h : RowsV H xs cs) (s : Same H H') : RowsV H' xs cs := ⟨h.1, fun i x e => by
  obtain ⟨c, hc, r⟩ := h.2 i x e
  exact ⟨c, hc, r.same s⟩⟩
theorem _root_.L2.RowsV.but {H H' : Hp} {xs : List V} {cs : List (List Int)} {l : Addr} {ys : List V} (h : RowsV H xs cs) (hl : H l = some (.lst ys)) (s : But l H H') : RowsV H' xs cs := ⟨h.1, fun i x e => by
  obtain ⟨c, hc, a, ea, ha⟩ := h.2 i x e
  exact ⟨c, hc, a, ea, s _ _ (ne_of ha hl (by intro z; cases z)) ha⟩⟩
theorem _root_.L2.RowsV.nil {H : Hp} : RowsV H [] [] := ⟨rfl, fun i x e => by cases e⟩
theorem _root_.L2.RowsV.app {H : Hp} {xs ys : List V} {cs ds : List (List Int)} (h : RowsV H xs cs) (g : RowsV H ys ds) : RowsV H (xs ++ ys) (cs ++ ds) := by
  refine ⟨by rw [List.length_append, List.length_append, h.1, g.1], fun i x e => ?_⟩
  by_cases hi : i < xs.length
  · rw [List.getElem?_append_left hi] at e
    obtain ⟨c, hc, r⟩ := h.2 i x e
    exact ⟨c, by rw [List.getElem?_append_left (by rw [← h.1]; exact hi)]; exact hc, r⟩
  · rw [List.getElem?_append_right (by omega)] at e
    obtain ⟨c, hc, r⟩ := g.2 _ x e
    exact ⟨c, by rw [List.getElem?_append_right (by rw [← h.1]; omega), ← h.1]; exact hc, r⟩
theorem _root_.L2.RowsV.one {H : Hp} {x : V} {c : List Int} (h : RowV H x c) : RowsV H [x] [c] := by
  refine ⟨rfl, fun i y e => ?_⟩
  cases i with
  | zero => cases e; exact ⟨c, rfl, h⟩
  | succ i => cases e
theorem _root_.L2.RowsV.at {H : Hp} {xs : List V} {cs : List (List Int)} {i : Nat} {x : V} (h : RowsV H xs cs) (e : xs[i]? = some x) : ∃ c a, cs[i]? = some c /\ x = .ref a /\ H a = some (tupI c) := by
  obtain ⟨c, hc, a, ea, ha⟩ := h.2 i x e
  exact ⟨c, a, hc, ea, ha⟩
theorem _root_.L2.RowsV.of {H : Hp} {xs : List V} {cs : List (List Int)} {i : Nat} {c : List Int} (h : RowsV H xs cs) (e : cs[i]? = some c) : ∃ x a, xs[i]? = some x /\ x = .ref a /\ H a = some (tupI c) := by
  have hi : i < cs.length := (List.getElem?_eq_some_iff.mp e).1
  have hx : xs[i]? = some (xs[i]'(by rw [h.1]; exact hi)) := List.getElem?_eq_getElem _
  obtain ⟨c', a, hc, ea, ha⟩ := h.at hx
  rw [e] at hc
  cases hc
  exact ⟨_, a, hx, ea, ha⟩
def optV : Option Nat -> V
  | none => .non
  | some i => .int (i : Int)
def FrcsV (H : Hp) (xs : List V) (fs : List (Int × Int)) : Prop := xs.length = fs.length /\ ∀ (k : Nat) (x : V), xs[k]? = some x -> ∃ i j c, fs[k]? = some (i, j) /\ x = .ref c /\ H c = some (.tup [.int i, .int j]) /\ fracB i j = true
theorem FrcsV.same {H H' : Hp} {xs : List V} {fs : List (Int × Int)} (h : FrcsV H xs fs) (s : Same H H') : FrcsV H' xs fs := ⟨h.1, fun k x e => by
  obtain ⟨i, j, c, h1, h2, h3, h4⟩ := h.2 k x e
  exact ⟨i, j, c, h1, h2, s _ _ h3, h4⟩⟩
theorem frcs_of {H : Hp} : ∀ {xs : List V}, (∀ x ∈ xs, ∃ (c : Addr) (i j : Int), x = .ref c /\ H c = some (.tup [.int i, .int j]) /\ fracB i j = true) -> ∃ fs, FrcsV H xs fs
  | [], _ => ⟨[], rfl, fun k x e => by cases e⟩
  | x :: xs, h => by
    obtain ⟨c, i, j, h1, h2, h3⟩ := h x List.mem_cons_self
    obtain ⟨fs, f1, f2⟩ := frcs_of fun y hy => h y (List.mem_cons_of_mem _ hy)
    refine ⟨(i, j) :: fs, by simp [f1], fun k y e => ?_⟩
    cases k with
    | zero => cases e; exact ⟨i, j, c, rfl, h1, h2, h3⟩
    | succ k => exact f2 k y (by simpa using e)
def rowsOf (fs : List (Int × Int)) : List (List Int) := fs.map fun f => chg f.1.toNat f.2.toNat
theorem rowsOf_10 (fs : List (Int × Int)) : R10 (rowsOf fs) := fun c hc => by
  obtain ⟨f, _, rfl⟩ := List.mem_map.mp hc
  exact chg_length _ _
theorem rowsOf_len (fs : List (Int × Int)) : (rowsOf fs).length = fs.length := List.length_map _
theorem fracB_parts {i j : Int} (h : fracB i j = true) : (1 <= i /\ stripAll i.toNat = 1) /\ (1 <= j /\ stripAll j.toNat = 1) := by
  unfold fracB termB at h
  simp only [Bool.and_eq_true, decide_eq_true_eq] at h
  exact ⟨⟨h.1.1.1.1, h.1.1.2⟩, ⟨h.1.2.1.1, h.1.2.2⟩⟩
theorem zipWith_snoc {f : Int -> Int -> Int} {xs ys : List Int} {i : Nat} {x y : Int} (hx : xs[i]? = some x) (hy : ys[i]? = some y) : (List.zipWith f xs ys).take (i + 1) = (List.zipWith f xs ys).take i ++ [f x y] := by
  have hz : (List.zipWith f xs ys)[i]? = some (f x y) := by rw [List.getElem?_zipWith_eq_some]; exact ⟨x, y, hx, hy, rfl⟩
  rw [List.take_add_one, hz]
  rfl
theorem comp_zip_ints {K : PySem.W.Frag} {a b D : Addr} {js : List (Option Nat)} {te : TE} {σ : St} {H1 : Hp} {Q : VK} {xs ys : List Int} {σ0 : St} {f : Int -> Int -> Int} (hn : min xs.length ys.length <= sizeLine) (hp : ∃ u v, pick js σ = u :: v :: σ0) (hD : H1 D = none)
    (ha : H1 a = some (tupI xs)) (hb : H1 b = some (tupI ys))
    (hs : ∀ (x y : Int) (H' : Hp) (R : VK), x ∈ xs -> y ∈ ys -> R (.int (f x y)) H' -> te (some (.int x) :: some (.int y) :: σ0) H' R)
    (q : ∀ H', Same H1 H' -> H' D = some (.lst ((List.zipWith f xs ys).map V.int)) -> Q (.ref D) H') : CompW (Itz K a b) D js (gTup K 2 (gCons (gName 0) (gCons (gName 1) gNil))) tNoTest te σ H1 Q := by
  obtain ⟨u0, v0, hp⟩ := hp
  refine comp_zip (K := K) (a := a) (b := b) (xs := xs.map V.int) (ys := ys.map V.int) (by rw [List.length_map, List.length_map]; exact hn) (fun i σ' H' zs => (∃ u v : Option V, σ' = u :: v :: σ0) /\ Same H1 H' /\ zs = ((List.zipWith f xs ys).take i).map V.int) ⟨⟨u0, v0, hp⟩, Same.new hD, rfl⟩ (fun i σ' H' zs _ ⟨_, s', _⟩ => ⟨SqT.of (s' _ _ ha), SqT.of (s' _ _ hb)⟩) ?_ ?_
  · rintro i x y p σ' H' zs R hx hy hp hD' hzl ⟨⟨u, v, rfl⟩, s', rfl⟩ kk
    obtain ⟨x, rfl, hx'⟩ := map_int_get hx
    obtain ⟨y, rfl, hy'⟩ := map_int_get hy
    refine ⟨p, _, rfl, SqT.of upd_same, rfl, _, _, rfl, _, _, rfl, rfl, ?_⟩
    refine hs x y _ _ (List.mem_of_getElem? hx') (List.mem_of_getElem? hy') (kk _ _ _ ?_ ⟨⟨_, _, rfl⟩, ?_, ?_⟩)
    · rw [upd_ne (ne_of_none hD' hp)]; exact hD'
    · intro c o e
      rw [upd_ne (ne_of_none e hD), upd_ne (ne_of_none (s' c o e) hp)]
      exact s' c o e
    · rw [zipWith_snoc hx' hy', List.map_append]
      rfl
  · rintro σ' H' zs hD' hzl ⟨_, s', rfl⟩
    refine q H' s' ?_
    rw [hD', List.length_map, List.length_map, List.take_of_length_le (by rw [List.length_zipWith]; exact Nat.le_refl _)]
end W2
namespace L2
open PySem PySem.Spec PyProof.Rows
def Itzl (a b : Addr) : It :=
  ⟨fun i H => ∃ xs ys x y, H a = some (.lst xs) /\ H b = some (.lst ys) /\ xs[i]? = some x /\ ys[i]? = some y,
   fun i H v H' => ∃ p, H p = none /\ v = .ref p /\ ∃ x y, H' = upd H p (.tup [x, y]) /\ ∀ xs ys, H a = some (.lst xs) -> H b = some (.lst ys) -> xs[i]? = some x /\ ys[i]? = some y,
   fun i H => ∃ xs ys, H a = some (.lst xs) /\ H b = some (.lst ys) /\ (xs.length <= i ∨ ys.length <= i)⟩
theorem turn_zipL {P : Program} {w : World} {K : PySem.W.Frag} {tg : Expr} (htg : tupleTg tg = true) {z TI TO j1 j2 a b : Addr} (D : ZipApart z TI TO j1 j2 a b) :
    Turn P w K tg (Itzl a b) [z, TO, j1, j2, TI] z (fun i h => IsZip h z TI TO .none /\ IsPair h TI (.ref j1) (.ref j2) /\ (∃ u v, IsPair h TO u v) /\ h.IsListIter j1 a i /\ h.IsListIter j2 b i) where
  mem := List.mem_cons_self
  obj := fun i h st c hc => by
    obtain ⟨h1, h2, ⟨u, v, h3⟩, ⟨o4, h4, _, d4⟩, ⟨o5, h5, _, d5⟩⟩ := st
    have nof : ∀ {o : Obj} {vs : Array Value}, o.data = .fields vs -> ∀ v, o.data ≠ .cell v := fun e v q => by rw [e] at q; cases q
    have nos : ∀ {o : Obj} {vs : Array Value} {n : Nat}, o.data = .seq vs n -> ∀ v, o.data ≠ .cell v := fun e v q => by rw [e] at q; cases q
    simp only [List.mem_cons, List.not_mem_nil, or_false] at hc
    rcases hc with rfl | rfl | rfl | rfl | rfl
    · exact ⟨_, h1, nof rfl⟩
    · exact ⟨_, h3, nos rfl⟩
    · exact ⟨_, h4, nof d4⟩
    · exact ⟨_, h5, nof d5⟩
    · exact ⟨_, h2, nos rfl⟩
  keep := fun i h h' st k => by
    obtain ⟨h1, h2, ⟨u, v, h3⟩, ⟨o4, h4, r4⟩, ⟨o5, h5, r5⟩⟩ := st
    exact ⟨k _ (by simp) _ h1, k _ (by simp) _ h2, ⟨u, v, k _ (by simp) _ h3⟩, ⟨o4, k _ (by simp) _ h4, r4⟩, ⟨o5, k _ (by simp) _ h5, r5⟩⟩
  item := by
    intro X hP hw hK hc i pins s σ H E I hf st hg
    subst hP hw hK
    obtain ⟨h1, h2, ⟨u, v, h3⟩, h4, h5⟩ := st
    obtain ⟨xs, ys, x, y, qa, qb, hx, hy⟩ := hg
    obtain ⟨_, its, n1, rv, _, pa⟩ := I.lstM qa
    obtain ⟨_, jts, n2, rw', _, pb⟩ := I.lstM qb
    obtain ⟨ux, eux, rux⟩ := rv.get hx
    obtain ⟨uy, euy, ruy⟩ := rw'.get hy
    refine wpAny_pyNext_zip_item D h1 h2 h3 h4 h5 (show s.heap.IsList a its.toArray from ⟨_, pa, rfl, n1, rfl⟩) (show s.heap.IsList b jts.toArray from ⟨_, pb, rfl, n2, rfl⟩) (x := ux) (y := uy) (by simpa using eux) (by simpa using euy) fun g b1 b2 b3 b4 b5 _ b6 => ?_
    refine ⟨_, rfl, ?_⟩
    have zlt : z < s.heap.objs.size := Heap.lt_size h1
    cases tg with
    | Tuple es kk pp =>
      refine wpAny_letOwnedTupleGo_zip b1 fun g' c1 sb => ?_
      have new : IsPair g' s.heap.objs.size ux uy := sb.extBut _ _ (Nat.ne_of_gt zlt) b5
      have I1 : Inv X pins σ (upd H s.heap.objs.size (.tup [x, y])) { s with heap := g' } := by
        refine I.turnedNew (t' := s.toks) (L := [z, TO, j1, j2, TI]) (fun c o hcn e => ?_) hf (Nat.le_refl _) ⟨by show 2 <= sizeLine; decide, [ux, uy], .cons rux (.cons ruy .nil), ⟨_, new, rfl, ⟨0, rfl⟩, rfl⟩⟩
        simp only [List.mem_cons, List.not_mem_nil, or_false, not_or] at hcn
        exact sb.extBut c o hcn.1 (b6 c o hcn.1 hcn.2.1 hcn.2.2.1 hcn.2.2.2.1 e)
      have h2' : IsPair g' TI (.ref j1) (.ref j2) := sb.extBut _ _ D.TIz (b6 _ _ D.TIz D.TITO D.TIi1 D.TIi2 h2)
      refine ⟨.ref s.heap.objs.size, _, I1, rfl, ⟨_, I.fresh, rfl, x, y, rfl, fun xs' ys' q1 q2 => ?_⟩, ⟨c1, h2', ⟨_, _, sb.extBut _ _ D.TOz b2⟩, b3.extBut sb.extBut D.i1z, b4.extBut sb.extBut D.i2z⟩, fun c hcm => ?_⟩
      · rw [qa] at q1
        rw [qb] at q2
        cases q1
        cases q2
        exact ⟨hx, hy⟩
      obtain ⟨o, eo, _⟩ : ∃ o, s.heap.get? c = some o /\ True := by
        simp only [List.mem_cons, List.not_mem_nil, or_false] at hcm
        rcases hcm with rfl | rfl | rfl | rfl | rfl
        · exact ⟨_, h1, trivial⟩
        · exact ⟨_, h3, trivial⟩
        · obtain ⟨o4, g4, _⟩ := h4
          exact ⟨_, g4, trivial⟩
        · obtain ⟨o5, g5, _⟩ := h5
          exact ⟨_, g5, trivial⟩
        · exact ⟨_, h2, trivial⟩
      rw [upd_ne (Nat.ne_of_lt (Heap.lt_size eo))]
      exact (hf c hcm).1
    | _ => exact absurd (show false = true from htg) Bool.false_ne_true
  done := by
    intro X hP hw hK hc i pins s σ H E I hf st hg
    subst hP hw hK
    obtain ⟨h1, h2, ⟨u, v, h3⟩, h4, h5⟩ := st
    obtain ⟨xs, ys, qa, qb, hl⟩ := hg
    obtain ⟨_, its, n1, rv, e1, pa⟩ := I.lstM qa
    obtain ⟨_, jts, n2, rw', e2, pb⟩ := I.lstM qb
    refine wpAny_pyNext_zip_end (I.ok.hd hc) D h1 h2 h3 h4 h5 (show s.heap.IsList a its.toArray from ⟨_, pa, rfl, n1, rfl⟩) (show s.heap.IsList b jts.toArray from ⟨_, pb, rfl, n2, rfl⟩) ?_ fun g up => ⟨rfl, ?_⟩
    · rcases hl with hl | hl
      · exact .inl (by simp; omega)
      · exact .inr (by simp; omega)
    · refine I.turnedL (t' := s.toks) (L := [z, TO, j1, j2, TI]) (fun c o hcn e => ?_) hf
      simp only [List.mem_cons, List.not_mem_nil, or_false, not_or] at hcn
      exact up c o hcn.1 hcn.2.1 hcn.2.2.1 hcn.2.2.2.1 e
  self := fun _ _ _ _ _ st h => wpAny_pyIter_zip st.1 h
section
variable {X : Cx} {tg : Expr}
def iZipL (ta : TA) : TI := fun σ H R => ta σ H fun vs H1 => ∃ a b xs ys, vs = [.ref a, .ref b] /\ H1 a = some (.lst xs) /\ H1 b = some (.lst ys) /\ R (Itzl a b) H1
theorem qi_zipL {e1 e2 : Expr} {ta : TA} {p pos : Pos} (htg : tupleTg tg = true) (hg : Gl X "zip") (hm : X.mg "zip" = none) (ha : QA X [e1, e2] ta) (hs : starEach [e1, e2] X.env = [(false, eval e1 X.env), (false, eval e2 X.env)] := by rfl) (hs2 : starEach [e2] X.env = [(false, eval e2 X.env)] := by rfl)
    (hb : bootBuiltins "zip" = some (.type "zip") := by decide +kernel) : QI X tg (.Call (.Name "zip" p) [e1, e2] [] pos) (iZipL ta) := ⟨by
  intro pins s σ H R I h
  refine Call_ (ld_blt I hg hm hb (PyProof.Rows.callWith_type1 (thn (ha.o pos pins s σ H _ I h) fun us s1 ⟨vs, H1, I1, r1, q1⟩ => ?_) (by rw [hs, hs2]) (by rw [hs2]; rfl)))
  obtain ⟨a, b, xs, ys, e, qa, qb, q⟩ := q1
  subst e
  obtain ⟨u1, u2, rfl, ra, rb⟩ := vals2 r1
  cases ra
  cases rb
  obtain ⟨_, its, n1, rv, e1, pa⟩ := I1.lstM qa
  obtain ⟨_, jts, n2, rw', e2, pb⟩ := I1.lstM qb
  have la : a < s1.heap.objs.size := Heap.lt_size pa
  have lb : b < s1.heap.objs.size := Heap.lt_size pb
  refine call_zip_2 (show s1.heap.IsList a its.toArray from ⟨_, pa, rfl, n1, rfl⟩) (show s1.heap.IsList b jts.toArray from ⟨_, pb, rfl, n2, rfl⟩) fun g z1 z2 z3 z4 z5 _ up => ?_
  refine wpAny_pyIter_zip z1 ?_
  have I2 : Inv X pins σ H1 { s1 with heap := g } := I1.kept (t' := s1.toks) up
  refine ⟨_, [s1.heap.objs.size + 4, s1.heap.objs.size + 3, s1.heap.objs.size, s1.heap.objs.size + 1, s1.heap.objs.size + 2], _, _, H1, rfl, I2, turn_zipL htg (apart_new la lb), ⟨z1, z2, ⟨_, _, z3⟩, z4, z5⟩, fun c hc => ?_, q⟩
  have big : s1.heap.objs.size <= c := by
    simp only [List.mem_cons, List.not_mem_nil, or_false] at hc
    rcases hc with rfl | rfl | rfl | rfl | rfl
    · exact Nat.le_add_right _ _
    · exact Nat.le_add_right _ _
    · exact Nat.le_refl _
    · exact Nat.le_add_right _ _
    · exact Nat.le_add_right _ _
  exact I1.fpOk big (I1.hok.fresh big)⟩
end
theorem comp_zipL {a b D : Addr} {js : List (Option Nat)} {g : TG} {te : TE} {σ : St} {H1 : Hp} {Q : VK} {xs ys : List V} (hn : min xs.length ys.length <= sizeLine) (Pv : Nat -> St -> Hp -> List V -> Prop) (h0 : Pv 0 (pick js σ) (upd H1 D (.lst [])) [])
    (hl : ∀ i σ' H' zs, H' D = some (.lst zs) -> Pv i σ' H' zs -> H' a = some (.lst xs) /\ H' b = some (.lst ys))
    (hs : ∀ i x y p σ' H' zs (R : St -> V -> Hp -> Prop), xs[i]? = some x -> ys[i]? = some y -> H' p = none -> H' D = some (.lst zs) -> zs.length = i -> Pv i σ' H' zs -> (∀ σ2 z H4, H4 D = some (.lst zs) -> Pv (i + 1) σ2 (upd H4 D (.lst (zs ++ [z]))) (zs ++ [z]) -> R σ2 z H4) ->
      g (.ref p) σ' (upd H' p (.tup [x, y])) fun σ2 H3 => te σ2 H3 fun z H4 => R σ2 z H4)
    (hst : ∀ σ' H' zs, H' D = some (.lst zs) -> zs.length = min xs.length ys.length -> Pv (min xs.length ys.length) σ' H' zs -> Q (.ref D) H') : CompW (Itzl a b) D js g tNoTest te σ H1 Q := by
  refine comp_plain hn Pv h0 (fun i σ' H' zs hi hD p => ?_) (fun σ' H' zs hD b' c => ⟨?_, hst σ' H' zs hD b' c⟩) fun i σ' H' zs x H2 R hi hD hz p hx k => ?_
  · obtain ⟨qa, qb⟩ := hl i σ' H' zs hD p
    have h1 : i < xs.length := by omega
    have h2 : i < ys.length := by omega
    exact ⟨xs, ys, xs[i], ys[i], qa, qb, by simp [h1], by simp [h2]⟩
  · obtain ⟨qa, qb⟩ := hl _ σ' H' zs hD c
    exact ⟨xs, ys, qa, qb, by omega⟩
  · obtain ⟨qa, qb⟩ := hl i σ' H' zs hD p
    obtain ⟨q, hq, rfl, x', y', rfl, hxy⟩ := hx
    obtain ⟨ex, ey⟩ := hxy xs ys qa qb
    exact hs i x' y' q σ' H' zs R ex ey hq hD hz p k
end L2
namespace W2
open PySem L2 Mth
end W2
namespace Xi
open PySem PyProof.Rows
end Xi
namespace PySem.W
open PySem PySem.Spec PySem.Calls PyProof.Rows Builtin.ObjectAttr
end PySem.W
namespace L2
open PySem PySem.Spec PyProof.Rows Xn
end L2
namespace Mth
end Mth
namespace L2
open PySem PySem.Spec PySem.Calls PyProof.Rows
theorem atI_end {α : Type} {xs : List α} {x : α} {n : Nat} (hn : xs.length = n + 1) (h : xs[n]? = some x) : atI xs (-1) = some x := by
  have e : xs = xs.take n ++ [x] := by
    have h1 : xs.take (n + 1) = xs := List.take_of_length_le (by omega)
    rw [List.take_add_one, h] at h1
    exact h1.symm
  rw [e]
  exact atI_last _ _
end L2
namespace Mth
end Mth
namespace Zm
open PySem PyProof.Rows Zt
section
variable {prog : Program} {w : World} {A : Around} {E : Value -> Shared -> Prop} {s : Shared}
theorem zip_item {z TI TO j1 j2 t1 t2 : Addr} {k : Nat} {xs ys : Array Value} {x y a b : Value} {Q : Value -> Shared -> Prop} (D : ZipApart z TI TO j1 j2 t1 t2)
    (zz : IsZip s.heap z TI TO .none) (zI : IsPair s.heap TI (.ref j1) (.ref j2)) (zO : IsPair s.heap TO a b)
    (i1 : s.heap.IsTupleIter j1 t1 k) (i2 : s.heap.IsListIter j2 t2 k) (l1 : s.heap.IsTuple t1 xs) (l2 : s.heap.IsList t2 ys) (ex : xs[k]? = some x) (ey : ys[k]? = some y)
    (q : ∀ g, IsZip g z TI TO (rawInt s.heap.objs.size) -> IsPair g TO x y -> g.IsTupleIter j1 t1 (k + 1) -> g.IsListIter j2 t2 (k + 1) -> IsPair g s.heap.objs.size x y ->
      (∀ c o, c ≠ z -> c ≠ TO -> c ≠ j1 -> c ≠ j2 -> s.heap.get? c = some o -> g.get? c = some o) -> Q (.ref s.heap.objs.size) { s with heap := g }) :
    wpAny (model prog w) A (Builtin.«zip.__next__» ⟨[.ref z], []⟩) (fun fin s' => ∃ v, fin = .done (.ret v) /\ Q v s') E s := by
  show wpAny _ _ (field (.ref z) 2 >>= _) _ _ _
  refine wpAny_bind (wpAny_field zz rfl (x := .bool false) rfl ?_)
  show wpAny _ _ (field (.ref z) 3 >>= _) _ _ _
  refine wpAny_bind (wpAny_field zz rfl (x := .ref TI) rfl (wpAny_bind (wpAny_seqItems zI rfl ?_)))
  show wpAny _ _ (Builtin.SmallTypes.ownedTupleIsFree (.ref z) >>= _) _ _ _
  refine wpAny_bind ?_
  unfold Builtin.SmallTypes.ownedTupleIsFree
  refine wpAny_bind (wpAny_field zz rfl (x := .none) rfl (wpAny_pure ?_))
  simp only [if_true]
  refine wpAny_bind (wpAny_rule (wpAny_bind (wpAny_field zz rfl (x := .ref TO) rfl (wpAny_bind (wpAny_setField_rec zz (by simp) fun g1 zz1 s1 => ?_)))))
  replace zz1 : IsZip g1 z TI TO .ellipsis := zz1
  refine wpAny_bind ?_
  simp only [List.zipIdx_cons, List.zipIdx_nil, List.forIn_cons, List.forIn_nil]
  refine wpAny_bind (wpAny_bind (wpAny_onRaise ?_))
  show wpAny _ _ (Builtin.SmallTypes.nextOf (.ref j1) >>= _) _ _ _
  refine wpAny_bind (pull (i1.extBut s1.extBut D.i1z) (l1.extBut s1.extBut D.l1z) ex fun g2 i1' s2 => wpAny_pure ?_)
  have zO2 : IsPair g2 TO a b := s2.extBut _ _ D.TOi1 (s1.extBut _ _ D.TOz zO)
  refine wpAny_bind (wpAny_seqItems zO2 rfl (wpAny_bind (wpAny_updateSeq_pair zO2 fun g3 zO3 s3 => ?_)))
  replace zO3 : IsPair g3 TO x b := zO3
  refine wpAny_bind (wpAny_letGo (wpAny_pure (wpAny_bind (wpAny_bind (wpAny_onRaise ?_)))))
  show wpAny _ _ (Builtin.SmallTypes.nextOf (.ref j2) >>= _) _ _ _
  have i2' := ((i2.extBut s1.extBut D.i2z).extBut s2.extBut D.i12.symm).extBut s3.extBut D.TOi2.symm
  have l2' := ((l2.extBut s1.extBut D.l2z).extBut s2.extBut D.l2i1).extBut s3.extBut D.l2TO
  refine wpAny_bind (wpAny_nextOf_list_item i2' l2' ey fun g4 i2'' s4 => wpAny_pure ?_)
  have zO4 : IsPair g4 TO x b := s4.extBut _ _ D.TOi2 zO3
  refine wpAny_bind (wpAny_seqItems zO4 rfl (wpAny_bind (wpAny_updateSeq_pair zO4 fun g5 zO5 s5 => ?_)))
  replace zO5 : IsPair g5 TO x y := zO5
  refine wpAny_bind (wpAny_letGo (wpAny_pure (wpAny_pure (wpAny_bind (wpAny_seqItems zO5 rfl (wpAny_bind (wpAny_newTuple ?_)))))))
  have sz : g5.objs.size = s.heap.objs.size := by rw [s5.1, s4.1, s3.1, s2.1, s1.1]
  have zz5 : IsZip g5 z TI TO .ellipsis := s5.extBut _ _ D.TOz.symm (s4.extBut _ _ D.i2z.symm (s3.extBut _ _ D.TOz.symm (s2.extBut _ _ D.i1z.symm zz1)))
  have up5 : ∀ c o, c ≠ z -> c ≠ TO -> c ≠ j1 -> c ≠ j2 -> s.heap.get? c = some o -> g5.get? c = some o := fun c o n1 n2 n3 n4 q' =>
    s5.extBut _ _ n2 (s4.extBut _ _ n4 (s3.extBut _ _ n2 (s2.extBut _ _ n3 (s1.extBut _ _ n1 q'))))
  have j15 : g5.IsTupleIter j1 t1 (k + 1) := ((i1'.extBut s3.extBut D.TOi1.symm).extBut s4.extBut D.i12).extBut s5.extBut D.TOi1.symm
  have j25 : g5.IsListIter j2 t2 (k + 1) := i2''.extBut s5.extBut D.TOi2.symm
  have zlt : z < g5.objs.size := Heap.lt_size zz5
  show wpAny _ _ (Builtin.SmallTypes.ownedTupleHandOut (.ref z) (.ref g5.objs.size) >>= _) _ _ _
  refine wpAny_bind ?_
  unfold Builtin.SmallTypes.ownedTupleHandOut
  have zz6 : IsZip (g5.push { cls := .type "tuple", data := .seq #[x, y] }) z TI TO .ellipsis := Heap.get?_push_of_some _ zz5
  refine wpAny_bind (wpAny_setField_rec zz6 (by simp) fun g7 zz7 s7 => ?_)
  replace zz7 : IsZip g7 z TI TO (rawInt g5.objs.size) := zz7
  refine wpAny_setField_rec zz7 (by simp) fun g8 zz8 s8 => ?_
  replace zz8 : IsZip g8 z TI TO (rawInt g5.objs.size) := zz8
  have up8 : ∀ c o, c ≠ z -> g5.get? c = some o -> g8.get? c = some o := fun c o n1 q' => s8.extBut _ _ n1 (s7.extBut _ _ n1 (Heap.get?_push_of_some _ q'))
  have new8 : IsPair g8 g5.objs.size x y := s8.extBut _ _ (Nat.ne_of_gt zlt) (s7.extBut _ _ (Nat.ne_of_gt zlt) (Heap.get?_push_size _ rfl))
  rw [sz] at zz8 new8
  refine wpAny_pure ⟨_, rfl, ?_⟩
  show Q (.ref g5.objs.size) _
  rw [sz]
  refine q g8 zz8 (up8 _ _ D.TOz zO5) ?_ ?_ new8 fun c o n1 n2 n3 n4 q' => up8 c o n1 (up5 c o n1 n2 n3 n4 q')
  · obtain ⟨o, e, r⟩ := j15
    exact ⟨o, up8 _ _ D.i1z e, r⟩
  · obtain ⟨o, e, r⟩ := j25
    exact ⟨o, up8 _ _ D.i2z e, r⟩
theorem zip_stop {z TI TO j1 j2 t1 t2 : Addr} {k : Nat} {xs ys : Array Value} {a b : Value} {Q : Fin -> Shared -> Prop} (hd : A.handled = none) (D : ZipApart z TI TO j1 j2 t1 t2)
    (zz : IsZip s.heap z TI TO .none) (zI : IsPair s.heap TI (.ref j1) (.ref j2)) (zO : IsPair s.heap TO a b)
    (i1 : s.heap.IsTupleIter j1 t1 k) (i2 : s.heap.IsListIter j2 t2 k) (l1 : s.heap.IsTuple t1 xs) (l2 : s.heap.IsList t2 ys) (ee : xs[k]? = none ∨ ys[k]? = none)
    (q : ∀ g e, (∀ c o, c ≠ z -> c ≠ TO -> c ≠ j1 -> c ≠ j2 -> s.heap.get? c = some o -> g.get? c = some o) -> (∃ o, g.get? e = some o /\ o.cls = .type "StopIteration") -> E (.ref e) { s with heap := g }) :
    wpAny (model prog w) A (Builtin.«zip.__next__» ⟨[.ref z], []⟩) Q E s := by
  show wpAny _ _ (field (.ref z) 2 >>= _) _ _ _
  refine wpAny_bind (wpAny_field zz rfl (x := .bool false) rfl ?_)
  show wpAny _ _ (field (.ref z) 3 >>= _) _ _ _
  refine wpAny_bind (wpAny_field zz rfl (x := .ref TI) rfl (wpAny_bind (wpAny_seqItems zI rfl ?_)))
  show wpAny _ _ (Builtin.SmallTypes.ownedTupleIsFree (.ref z) >>= _) _ _ _
  refine wpAny_bind ?_
  unfold Builtin.SmallTypes.ownedTupleIsFree
  refine wpAny_bind (wpAny_field zz rfl (x := .none) rfl (wpAny_pure ?_))
  simp only [if_true]
  refine wpAny_bind (wpAny_rule (wpAny_bind (wpAny_field zz rfl (x := .ref TO) rfl (wpAny_bind (wpAny_setField_rec zz (by simp) fun g1 zz1 s1 => ?_)))))
  replace zz1 : IsZip g1 z TI TO .ellipsis := zz1
  refine wpAny_bind ?_
  simp only [List.zipIdx_cons, List.zipIdx_nil, List.forIn_cons, List.forIn_nil]
  refine wpAny_bind (wpAny_bind (wpAny_onRaise ?_))
  show wpAny _ _ (Builtin.SmallTypes.nextOf (.ref j1) >>= _) _ _ _
  cases ex : xs[k]? with
  | none =>
    refine wpAny_bind (pull_end hd (i1.extBut s1.extBut D.i1z) (l1.extBut s1.extBut D.l1z) ex fun g2 e s2 ⟨oe, goe, coe⟩ => ?_)
    have zz2 : IsZip g2 z TI TO .ellipsis := s2 _ _ D.i1z.symm zz1
    have nez : e ≠ z := fun y => by
      subst y
      rw [zz2] at goe
      cases goe
      simp at coe
    exact wpAny_setField_rec zz2 (by simp) fun g3 _ s3 => q g3 e (fun c o n1 _ n3 _ y => s3.extBut _ _ n1 (s2 _ _ n3 (s1.extBut _ _ n1 y))) ⟨oe, s3.extBut _ _ nez goe, coe⟩
  | some x =>
    have ey : ys[k]? = none := ee.resolve_left (by rw [ex]; exact fun y => nomatch y)
    refine wpAny_bind (pull (i1.extBut s1.extBut D.i1z) (l1.extBut s1.extBut D.l1z) ex fun g2 i1' s2 => wpAny_pure ?_)
    have zO2 : IsPair g2 TO a b := s2.extBut _ _ D.TOi1 (s1.extBut _ _ D.TOz zO)
    refine wpAny_bind (wpAny_seqItems zO2 rfl (wpAny_bind (wpAny_updateSeq_pair zO2 fun g3 zO3 s3 => ?_)))
    refine wpAny_bind (wpAny_letGo (wpAny_pure (wpAny_bind (wpAny_bind (wpAny_onRaise ?_)))))
    show wpAny _ _ (Builtin.SmallTypes.nextOf (.ref j2) >>= _) _ _ _
    have i2' := ((i2.extBut s1.extBut D.i2z).extBut s2.extBut D.i12.symm).extBut s3.extBut D.TOi2.symm
    have l2' := ((l2.extBut s1.extBut D.l2z).extBut s2.extBut D.l2i1).extBut s3.extBut D.l2TO
    refine wpAny_bind (wpAny_nextOf_list_end hd i2' l2' ey fun g4 e s4 ⟨oe, goe, coe⟩ => ?_)
    have zz4 : IsZip g4 z TI TO .ellipsis := s4 _ _ D.i2z.symm (s3.extBut _ _ D.TOz.symm (s2.extBut _ _ D.i1z.symm zz1))
    have nez : e ≠ z := fun y => by
      subst y
      rw [zz4] at goe
      cases goe
      simp at coe
    exact wpAny_setField_rec zz4 (by simp) fun g5 _ s5 => q g5 e (fun c o n1 n2 n3 n4 y => s5.extBut _ _ n1 (s4 _ _ n4 (s3.extBut _ _ n2 (s2.extBut _ _ n3 (s1.extBut _ _ n1 y))))) ⟨oe, s5.extBut _ _ nez goe, coe⟩
theorem next_item {z TI TO j1 j2 t1 t2 : Addr} {k : Nat} {xs ys : Array Value} {x y a b : Value} {Q : Option Value -> Shared -> Prop} (D : ZipApart z TI TO j1 j2 t1 t2)
    (zz : IsZip s.heap z TI TO .none) (zI : IsPair s.heap TI (.ref j1) (.ref j2)) (zO : IsPair s.heap TO a b)
    (i1 : s.heap.IsTupleIter j1 t1 k) (i2 : s.heap.IsListIter j2 t2 k) (l1 : s.heap.IsTuple t1 xs) (l2 : s.heap.IsList t2 ys) (ex : xs[k]? = some x) (ey : ys[k]? = some y)
    (q : ∀ g, IsZip g z TI TO (rawInt s.heap.objs.size) -> IsPair g TO x y -> g.IsTupleIter j1 t1 (k + 1) -> g.IsListIter j2 t2 (k + 1) -> IsPair g s.heap.objs.size x y ->
      (∀ c o, c ≠ z -> c ≠ TO -> c ≠ j1 -> c ≠ j2 -> s.heap.get? c = some o -> g.get? c = some o) -> Q (some (.ref s.heap.objs.size)) { s with heap := g }) : wpAny (model prog w) A (pyNext (.ref z)) Q E s := by
  have ty : s.TypeIs (.ref z) "zip" := ⟨_, zz, rfl⟩
  unfold pyNext
  refine wpAny_bind (wpAny_attempt (wpAny_callSpecial?_slot (name := Str.ofString "__next__") ty F.slot_zip_next (wpAny_call_entry F.slot_zip_next ty F.entry_zip_next ?_ (F.args_zip_next_1 _))))
  exact zip_item D zz zI zO i1 i2 l1 l2 ex ey fun g b1 b2 b3 b4 b5 b6 => wpAny_pure (q g b1 b2 b3 b4 b5 b6)
theorem next_stop {z TI TO j1 j2 t1 t2 : Addr} {k : Nat} {xs ys : Array Value} {a b : Value} {Q : Option Value -> Shared -> Prop} (hd : A.handled = none) (D : ZipApart z TI TO j1 j2 t1 t2)
    (zz : IsZip s.heap z TI TO .none) (zI : IsPair s.heap TI (.ref j1) (.ref j2)) (zO : IsPair s.heap TO a b)
    (i1 : s.heap.IsTupleIter j1 t1 k) (i2 : s.heap.IsListIter j2 t2 k) (l1 : s.heap.IsTuple t1 xs) (l2 : s.heap.IsList t2 ys) (ee : xs[k]? = none ∨ ys[k]? = none)
    (q : ∀ g, (∀ c o, c ≠ z -> c ≠ TO -> c ≠ j1 -> c ≠ j2 -> s.heap.get? c = some o -> g.get? c = some o) -> Q none { s with heap := g }) : wpAny (model prog w) A (pyNext (.ref z)) Q E s := by
  have ty : s.TypeIs (.ref z) "zip" := ⟨_, zz, rfl⟩
  unfold pyNext
  refine wpAny_bind (wpAny_attempt (wpAny_callSpecial?_slot (name := Str.ofString "__next__") ty F.slot_zip_next (wpAny_call_entry F.slot_zip_next ty F.entry_zip_next ?_ (F.args_zip_next_1 _))))
  refine zip_stop hd D zz zI zO i1 i2 l1 l2 ee fun g e up ⟨oe, goe, coe⟩ => ?_
  exact wpAny_bind (wpAny_isInstance (T := "StopIteration") (b := true) ⟨oe, goe, coe⟩ isSubtype_stop (wpAny_pure (q _ up)))
end
abbrev mk1 (h : Heap) (t1 : Addr) : Heap := h.push { cls := .type "tuple_iterator", data := .fields #[.ref t1, .int 0 0] }
abbrev mk2 (h : Heap) (t1 t2 : Addr) : Heap := (mk1 h t1).push { cls := .type "list_iterator", data := .fields #[.ref t2, .int 0 0] }
abbrev mk3 (h : Heap) (t1 t2 : Addr) : Heap := (mk2 h t1 t2).push { cls := .type "tuple", data := .seq #[.ref h.objs.size, .ref (mk1 h t1).objs.size] }
abbrev mk4 (h : Heap) (t1 t2 : Addr) : Heap := (mk3 h t1 t2).push { cls := .type "tuple", data := .seq #[.none, .none] }
abbrev mk5 (h : Heap) (t1 t2 : Addr) : Heap := (mk4 h t1 t2).push { cls := .type "zip", data := .fields #[.none, .bool false, .bool false, .ref (mk2 h t1 t2).objs.size, .ref (mk3 h t1 t2).objs.size] }
theorem meets_new (t1 t2 : Addr) (xs ys : Array Value) : Meets (Builtin.«zip.__new__» ⟨[.type "zip", .ref t1, .ref t2], []⟩) (fun _ R s => s.heap.IsTuple t1 xs /\ s.heap.IsList t2 ys /\ R (.ok (.ret (.ref (mk4 s.heap t1 t2).objs.size))) { s with heap := mk5 s.heap t1 t2 }) :=
  .of_wp fun prog w A R s h => by
    obtain ⟨hh, gg, dd, tt, oo⟩ := s
    obtain ⟨a1, a2, h⟩ := h
    have sub := sub_zip
    have b1 : Heap.IsTuple (Shared.heap ⟨hh, gg, dd, tt, oo⟩) t1 xs := a1
    have b2 : Heap.IsList (Shared.heap ⟨mk1 hh t1, gg, dd, tt, oo⟩) t2 ys := Heap.IsList.push a2 _
    wp_walk using wpAny_pyIter_tuple b1, wpAny_pyIter_list b2
    exact ⟨_, rfl, h⟩
section
variable {prog : Program} {w : World} {A : Around} {E : Value -> Shared -> Prop} {s : Shared}
theorem make {t1 t2 : Addr} {xs ys : Array Value} {Q : Value -> Shared -> Prop} (a1 : s.heap.IsTuple t1 xs) (a2 : s.heap.IsList t2 ys)
    (q : ∀ g, IsZip g (s.heap.objs.size + 4) (s.heap.objs.size + 2) (s.heap.objs.size + 3) .none -> IsPair g (s.heap.objs.size + 2) (.ref s.heap.objs.size) (.ref (s.heap.objs.size + 1)) -> IsPair g (s.heap.objs.size + 3) .none .none ->
      g.IsTupleIter s.heap.objs.size t1 0 -> g.IsListIter (s.heap.objs.size + 1) t2 0 -> (∀ c o, s.heap.get? c = some o -> g.get? c = some o) -> Q (.ref (s.heap.objs.size + 4)) { s with heap := g }) :
    wpAny (model prog w) A (call (.type "zip") [.ref t1, .ref t2]) Q E s := by
  refine callType_new F.called_zip (by decide) (F.typeCall_zip_2 _ _) (F.newCall_zip_2 _ _) (fun obj => F.args_object_init_3 obj _ _) F.entry_zip_new (meets_new t1 t2 xs ys) ⟨a1, a2, ?_⟩
  have n1 : (mk1 s.heap t1).objs.size = s.heap.objs.size + 1 := Heap.size_push ..
  have n2 : (mk2 s.heap t1 t2).objs.size = s.heap.objs.size + 2 := by rw [Heap.size_push, n1]
  have n3 : (mk3 s.heap t1 t2).objs.size = s.heap.objs.size + 3 := by rw [Heap.size_push, n2]
  have n4 : (mk4 s.heap t1 t2).objs.size = s.heap.objs.size + 4 := by rw [Heap.size_push, n3]
  have p5 : (mk5 s.heap t1 t2).get? (mk4 s.heap t1 t2).objs.size = some _ := Heap.get?_push_size _ rfl
  have p4 : (mk5 s.heap t1 t2).get? (mk3 s.heap t1 t2).objs.size = some _ := Heap.get?_push_of_some _ (Heap.get?_push_size _ rfl)
  have p3 : (mk5 s.heap t1 t2).get? (mk2 s.heap t1 t2).objs.size = some _ := Heap.get?_push_of_some _ (Heap.get?_push_of_some _ (Heap.get?_push_size _ rfl))
  have p2 : (mk5 s.heap t1 t2).get? (mk1 s.heap t1).objs.size = some _ := Heap.get?_push_of_some _ (Heap.get?_push_of_some _ (Heap.get?_push_of_some _ (Heap.get?_push_size _ rfl)))
  have p1 : (mk5 s.heap t1 t2).get? s.heap.objs.size = some _ := Heap.get?_push_of_some _ (Heap.get?_push_of_some _ (Heap.get?_push_of_some _ (Heap.get?_push_of_some _ (Heap.get?_push_size _ rfl))))
  show _ /\ _
  rw [n2, n3, n4] at p5
  rw [n1, n2] at p3
  rw [n3] at p4
  rw [n1] at p2
  rw [n4]
  exact ⟨⟨_, p5, rfl⟩, q _ p5 p3 p4 ⟨_, p1, rfl, rfl⟩ ⟨_, p2, rfl, rfl⟩ fun c o y => Heap.get?_push_of_some _ (Heap.get?_push_of_some _ (Heap.get?_push_of_some _ (Heap.get?_push_of_some _ (Heap.get?_push_of_some _ y))))⟩
end
end Zm
namespace L2
open PySem PySem.Spec PyProof.Rows
def Itm (K : PySem.W.Frag) (a b : Addr) : It :=
  ⟨fun i H => ∃ xs ys x y, SqT K H a xs /\ SqL K H b ys /\ xs[i]? = some x /\ ys[i]? = some y,
   fun i H v H' => ∃ p, H p = none /\ v = .ref p /\ ∃ x y, H' = upd H p (.tup [x, y]) /\ ∀ xs ys, SqT K H a xs -> SqL K H b ys -> xs[i]? = some x /\ ys[i]? = some y,
   fun i H => ∃ xs ys, SqT K H a xs /\ SqL K H b ys /\ (xs.length <= i ∨ ys.length <= i)⟩
theorem turn_zipM {P : Program} {w : World} {K : PySem.W.Frag} {tg : Expr} (htg : tupleTg tg = true) {z TI TO j1 j2 a b : Addr} (D : ZipApart z TI TO j1 j2 a b) :
    Turn P w K tg (Itm K a b) [z, TO, j1, j2, TI] z (fun i h => IsZip h z TI TO .none /\ IsPair h TI (.ref j1) (.ref j2) /\ (∃ u v, IsPair h TO u v) /\ h.IsTupleIter j1 a i /\ h.IsListIter j2 b i) where
  mem := List.mem_cons_self
  obj := fun i h st c hc => by
    obtain ⟨h1, h2, ⟨u, v, h3⟩, ⟨o4, h4, _, d4⟩, ⟨o5, h5, _, d5⟩⟩ := st
    have nof : ∀ {o : Obj} {vs : Array Value}, o.data = .fields vs -> ∀ v, o.data ≠ .cell v := fun e v q => by rw [e] at q; cases q
    have nos : ∀ {o : Obj} {vs : Array Value} {n : Nat}, o.data = .seq vs n -> ∀ v, o.data ≠ .cell v := fun e v q => by rw [e] at q; cases q
    simp only [List.mem_cons, List.not_mem_nil, or_false] at hc
    rcases hc with rfl | rfl | rfl | rfl | rfl
    · exact ⟨_, h1, nof rfl⟩
    · exact ⟨_, h3, nos rfl⟩
    · exact ⟨_, h4, nof d4⟩
    · exact ⟨_, h5, nof d5⟩
    · exact ⟨_, h2, nos rfl⟩
  keep := fun i h h' st k => by
    obtain ⟨h1, h2, ⟨u, v, h3⟩, ⟨o4, h4, r4⟩, ⟨o5, h5, r5⟩⟩ := st
    exact ⟨k _ (by simp) _ h1, k _ (by simp) _ h2, ⟨u, v, k _ (by simp) _ h3⟩, ⟨o4, k _ (by simp) _ h4, r4⟩, ⟨o5, k _ (by simp) _ h5, r5⟩⟩
  item := by
    intro X hP hw hK hc i pins s σ H E I hf st hg
    subst hP hw hK
    obtain ⟨h1, h2, ⟨u, v, h3⟩, h4, h5⟩ := st
    obtain ⟨xs, ys, x, y, qa, qb, hx, hy⟩ := hg
    obtain ⟨its, rv, pa, _⟩ := I.tuple qa
    obtain ⟨jts, rw', pb', _⟩ := I.list qb
    have pb := pb'.isList
    obtain ⟨ux, eux, rux⟩ := rv.get hx
    obtain ⟨uy, euy, ruy⟩ := rw'.get hy
    refine Zm.next_item D h1 h2 h3 h4 h5 (show s.heap.IsTuple a its.toArray from pa) (show s.heap.IsList b jts.toArray from pb) (x := ux) (y := uy) (by simpa using eux) (by simpa using euy) fun g b1 b2 b3 b4 b5 b6 => ?_
    refine ⟨_, rfl, ?_⟩
    have zlt : z < s.heap.objs.size := Heap.lt_size h1
    cases tg with
    | Tuple es kk pp =>
      refine wpAny_letOwnedTupleGo_zip b1 fun g' c1 sb => ?_
      have new : IsPair g' s.heap.objs.size ux uy := sb.extBut _ _ (Nat.ne_of_gt zlt) b5
      have I1 : Inv X pins σ (upd H s.heap.objs.size (.tup [x, y])) { s with heap := g' } := by
        refine I.turnedNew (t' := s.toks) (L := [z, TO, j1, j2, TI]) (fun c o hcn e => ?_) hf (Nat.le_refl _) ⟨by show 2 <= sizeLine; decide, [ux, uy], .cons rux (.cons ruy .nil), ⟨_, new, rfl, ⟨0, rfl⟩, rfl⟩⟩
        simp only [List.mem_cons, List.not_mem_nil, or_false, not_or] at hcn
        exact sb.extBut c o hcn.1 (b6 c o hcn.1 hcn.2.1 hcn.2.2.1 hcn.2.2.2.1 e)
      have h2' : IsPair g' TI (.ref j1) (.ref j2) := sb.extBut _ _ D.TIz (b6 _ _ D.TIz D.TITO D.TIi1 D.TIi2 h2)
      refine ⟨.ref s.heap.objs.size, _, I1, rfl, ⟨_, I.fresh, rfl, x, y, rfl, fun xs' ys' q1 q2 => ⟨by rw [I.tuple_inj q1 qa]; exact hx, by rw [I.list_inj q2 qb]; exact hy⟩⟩, ⟨c1, h2', ⟨_, _, sb.extBut _ _ D.TOz b2⟩, b3.extBut sb.extBut D.i1z, b4.extBut sb.extBut D.i2z⟩, fun c hcm => ?_⟩
      obtain ⟨o, eo, _⟩ : ∃ o, s.heap.get? c = some o /\ True := by
        simp only [List.mem_cons, List.not_mem_nil, or_false] at hcm
        rcases hcm with rfl | rfl | rfl | rfl | rfl
        · exact ⟨_, h1, trivial⟩
        · exact ⟨_, h3, trivial⟩
        · obtain ⟨o4, g4, _⟩ := h4
          exact ⟨_, g4, trivial⟩
        · obtain ⟨o5, g5, _⟩ := h5
          exact ⟨_, g5, trivial⟩
        · exact ⟨_, h2, trivial⟩
      rw [upd_ne (Nat.ne_of_lt (Heap.lt_size eo))]
      exact (hf c hcm).1
    | _ => exact absurd (show false = true from htg) Bool.false_ne_true
  done := by
    intro X hP hw hK hc i pins s σ H E I hf st hg
    subst hP hw hK
    obtain ⟨h1, h2, ⟨u, v, h3⟩, h4, h5⟩ := st
    obtain ⟨xs, ys, qa, qb, hl⟩ := hg
    obtain ⟨its, rv, pa, _⟩ := I.tuple qa
    obtain ⟨jts, rw', pb', _⟩ := I.list qb
    have pb := pb'.isList
    have e1 := rv.length
    have e2 := rw'.length
    refine Zm.next_stop (I.ok.hd hc) D h1 h2 h3 h4 h5 (show s.heap.IsTuple a its.toArray from pa) (show s.heap.IsList b jts.toArray from pb) ?_ fun g up => ⟨rfl, ?_⟩
    · rcases hl with hl | hl
      · exact .inl (by simp; omega)
      · exact .inr (by simp; omega)
    · refine I.turnedL (t' := s.toks) (L := [z, TO, j1, j2, TI]) (fun c o hcn e => ?_) hf
      simp only [List.mem_cons, List.not_mem_nil, or_false, not_or] at hcn
      exact up c o hcn.1 hcn.2.1 hcn.2.2.1 hcn.2.2.2.1 e
  self := fun _ _ _ _ _ st h => wpAny_pyIter_zip st.1 h
section
variable {X : Cx} {tg : Expr}
def iZipM (K : PySem.W.Frag) (ta : TA) : TI := fun σ H R => ta σ H fun vs H1 => ∃ a b, vs = [.ref a, .ref b] /\ (∃ xs, SqT K H1 a xs) /\ (∃ ys, SqL K H1 b ys) /\ R (Itm K a b) H1
theorem pi_zipM {e1 e2 : Expr} {ta : TA} {p pos : Pos} (htg : tupleTg tg = true) (hg : Gl X "zip") (hm : X.mg "zip" = none) (ha : PA X [e1, e2] ta) (hs : starEach [e1, e2] X.env = [(false, eval e1 X.env), (false, eval e2 X.env)] := by rfl) (hs2 : starEach [e2] X.env = [(false, eval e2 X.env)] := by rfl)
    (hb : bootBuiltins "zip" = some (.type "zip") := by decide +kernel) : PI X tg (.Call (.Name "zip" p) [e1, e2] [] pos) (iZipM X.K ta) := by
  intro pins s σ H R I h
  refine Call_ (ld_blt I hg hm hb (PyProof.Rows.callWith_type1 (thn (ha pos pins s σ H _ I h) fun us s1 ⟨vs, H1, I1, r1, q1⟩ => ?_) (by rw [hs, hs2]) (by rw [hs2]; rfl)))
  obtain ⟨a, b, e, ⟨xs, qa⟩, ⟨ys, qb⟩, q⟩ := q1
  subst e
  obtain ⟨u1, u2, rfl, ra, rb⟩ := vals2 r1
  cases ra
  cases rb
  obtain ⟨its, rv, pa, _⟩ := I1.tuple qa
  obtain ⟨jts, rw', pb', _⟩ := I1.list qb
  have pb := pb'.isList
  have la : a < s1.heap.objs.size := by obtain ⟨o, e, _⟩ := pa; exact Heap.lt_size e
  have lb : b < s1.heap.objs.size := by obtain ⟨o, e, _⟩ := pb; exact Heap.lt_size e
  refine Zm.make (show s1.heap.IsTuple a its.toArray from pa) (show s1.heap.IsList b jts.toArray from pb) fun g z1 z2 z3 z4 z5 up => ?_
  refine wpAny_pyIter_zip z1 ?_
  have I2 : Inv X pins σ H1 { s1 with heap := g } := I1.kept (t' := s1.toks) up
  refine ⟨_, [s1.heap.objs.size + 4, s1.heap.objs.size + 3, s1.heap.objs.size, s1.heap.objs.size + 1, s1.heap.objs.size + 2], _, _, H1, rfl, I2, turn_zipM htg (apart_new la lb), ⟨z1, z2, ⟨_, _, z3⟩, z4, z5⟩, fun c hc => ?_, q⟩
  have big : s1.heap.objs.size <= c := by
    simp only [List.mem_cons, List.not_mem_nil, or_false] at hc
    rcases hc with rfl | rfl | rfl | rfl | rfl
    · exact Nat.le_add_right _ _
    · exact Nat.le_add_right _ _
    · exact Nat.le_refl _
    · exact Nat.le_add_right _ _
    · exact Nat.le_add_right _ _
  exact I1.fpOk big (I1.hok.fresh big)
end
theorem qi_zipM {X : Cx} {tg : Expr} {e1 e2 : Expr} {ta : TA} {p pos : Pos} (htg : tupleTg tg = true) (hg : Gl X "zip") (hm : X.mg "zip" = none) (ha : QA X [e1, e2] ta) (hs : starEach [e1, e2] X.env = [(false, eval e1 X.env), (false, eval e2 X.env)] := by rfl) (hs2 : starEach [e2] X.env = [(false, eval e2 X.env)] := by rfl)
    (hb : bootBuiltins "zip" = some (.type "zip") := by decide +kernel) : QI X tg (.Call (.Name "zip" p) [e1, e2] [] pos) (iZipM X.K ta) := ⟨pi_zipM htg hg hm ha.o hs hs2 hb⟩
end L2
namespace L2
open PySem PySem.Spec PyProof.Rows W2
def kI (c : List Int) : List Key := c.map fun i => (Sum.inl i : Key)
theorem kI_map (c : List Int) : (kI c).map kV = c.map V.int := by
  unfold kI
  rw [List.map_map]
  rfl
theorem kI_inj {a b : List Int} (h : kI a = kI b) : a = b := by
  have := kI_map a
  rw [h, kI_map] at this
  exact (List.map_inj_right (fun x y e => by injection e)).mp this.symm
theorem key_row {H : Hp} {b : Addr} {c : List Int} (h : H b = some (tupI c)) : H b = some (.tup ((kI c).map kV)) := by rw [kI_map]; exact h
section
variable {X : Cx}
theorem op_inD (hu : X.A.units + 1 < cLine) : OpR X (compareOp .In) (fun y x H Q => ∃ b d c kvs, y = .ref b /\ x = .ref d /\ H b = some (tupI c) /\ H d = some (.dT kvs) /\ Q (.bl (valV kvs (kI c)).isSome) H) := by
  intro pins s σ H y x u v Q I ry rx h
  obtain ⟨b, d, c, kvs, rfl, rfl, hb, hd, q⟩ := h
  cases rx
  exact d_in hu I (DGet.t hd (key_row hb)) ry fun s3 I3 => ⟨.bl _, H, I3, rfl, q⟩
def tDGetR (td ty : TE) : TE := fun σ H Q => td σ H fun x H1 => ty σ H1 fun y H2 => ∃ d b c kvs v, x = .ref d /\ y = .ref b /\ H2 d = some (.dT kvs) /\ H2 b = some (tupI c) /\ valV kvs (kI c) = some v /\ Q v H2
theorem qe_dget {o i : Expr} {td ty : TE} {pos : Pos} (hu : X.A.units + 1 < cLine) (ho : QE X o td) (hi : QE X i ty) (hs : NoSl i) : QE X (.Subscript o i pos) (tDGetR td ty) := ⟨by
  intro pins s σ H Q I h
  refine subD_of PySem.F.slot_dict_getitem.lookup hs (thn (ho.o pins s σ H _ I h) fun u s1 ⟨x, H1, I1, rx, q1⟩ => thn (hi.o pins s1 σ H1 _ I1 q1) fun iv s2 ⟨y, H2, I2, ry, q2⟩ => ?_)
  obtain ⟨d, b, c, kvs, v, rfl, rfl, hd, hb, hv, q⟩ := q2
  obtain rfl : u = Value.ref d := rx
  have g : DGet H2 d (.ref b) (some v) := by rw [← hv]; exact DGet.t hd (key_row hb)
  exact ⟨dict_typeIs I2 g, d_getItem hu I2 g ry fun w' s3 I3 rw' => ⟨v, H2, I3, rw', q⟩⟩⟩
def sDPutR (td ty tv : TE) : TS := fun D σ H => tv σ H fun v H1 => td σ H1 fun x H2 => ty σ H2 fun y H3 => ∃ d b c kvs, x = .ref d /\ y = .ref b /\ H3 d = some (.dT kvs) /\ H3 b = some (tupI c) /\ kvs.length < sizeLine /\ ∀ H4, W2.But d H3 H4 -> H4 d = some (.dT (putK kvs (kI c) v)) -> D.nx σ H4
theorem qs_dput {o i value : Expr} {td ty tv : TE} {pos pos' : Pos} (hu : X.A.units + 1 < cLine) (ho : QE X o td) (hi : QE X i ty) (hv : QE X value tv) (hs : swapsWith value (some (.Subscript o i pos')) pos.line X.env = pure false) :
    QS X (.Assign [.Subscript o i pos'] value pos) (sDPutR td ty tv) := ⟨by
  intro pins s σ H D I h
  refine wpAny_Assign_Subscript (thn (hv.o pins s σ H _ I h) fun r s1 ⟨v, H1, I1, rv, q1⟩ => thn (ho.o pins s1 σ H1 _ I1 q1) fun u s2 ⟨x, H2, I2, rx, q2⟩ => thn (hi.o pins s2 σ H2 _ I2 q2) fun iv s3 ⟨y, H3, I3, ry, q3⟩ => ?_) hs
  obtain ⟨d, b, c, kvs, rfl, rfl, hd, hb, hl, q⟩ := q3
  obtain rfl : u = Value.ref d := rx
  exact d_setItem hu I3 (DPut.t hd (key_row hb) hl) ry rv fun s4 I4 => ⟨σ, _, I4, q _ W2.But.upd upd_same⟩⟩
def tDNewTA : TE := fun _ H Q => NewA (.dT []) H Q
theorem qe_dnewT {pos : Pos} : QE X (.Dict [] [] pos) tDNewTA := ⟨fun pins s σ H Q I h => pe_dnewT pins s σ H Q I (NewA.at h)⟩
end
theorem valV_put_ne {kvs : List (List Key × V)} {c d : List Int} {y : V} (h : d ≠ c) : valV (putK kvs (kI c) y) (kI d) = valV kvs (kI d) := by
  rw [valV_put, if_neg fun e => h (kI_inj e)]
theorem valV_put_self {kvs : List (List Key × V)} {c : List Int} {y : V} : valV (putK kvs (kI c) y) (kI c) = some y := by
  rw [valV_put, if_pos rfl]
end L2
namespace L2
open PySem PySem.Spec PyProof.Rows
end L2
namespace Mth
inductive FO where
  | round (b l : Nat)
  | rests (n : Nat) (c : List Int)
  | open_
def Dst (rows : List (List Int)) (p : List Int) (k : Nat) : Prop := ∀ i j, i < j -> j < k -> goN rows i p ≠ goN rows j p
def FateR (rows : List (List Int)) (m : Nat) (p : List Int) : FO -> Prop
  | .round b l => 1 <= l /\ b + l <= m /\ (∃ c, goN rows b p = some c /\ goN rows (b + l) p = some c) /\ Dst rows p (b + l)
  | .rests n c => n <= m /\ goN rows n p = some c /\ fstI rows c = none
  | .open_ => (∃ c, goN rows (m + 1) p = some c) /\ Dst rows p (m + 1)
theorem goN_shift {rows : List (List Int)} {p : List Int} {a b : Nat} (h : goN rows a p = goN rows b p) : ∀ k, goN rows (a + k) p = goN rows (b + k) p
  | 0 => h
  | k + 1 => by
    show (goN rows (a + k) p).bind (stp rows) = (goN rows (b + k) p).bind (stp rows)
    rw [goN_shift h k]
end Mth
namespace Mth
end Mth
namespace W2
open PySem L2 Mth
theorem comp_zipL_ints {K : PySem.W.Frag} {a b D : Addr} {js : List (Option Nat)} {te : TE} {σ : St} {H1 : Hp} {Q : VK} {xs ys : List Int} {σ0 : St} {f : Int -> Int -> Int} (hn : min xs.length ys.length <= sizeLine) (hp : ∃ u v, pick js σ = u :: v :: σ0) (hD : H1 D = none)
    (ha : H1 a = some (.lst (xs.map V.int))) (hb : H1 b = some (.lst (ys.map V.int)))
    (hs : ∀ (x y : Int) (H' : Hp) (R : VK), x ∈ xs -> y ∈ ys -> R (.int (f x y)) H' -> te (some (.int x) :: some (.int y) :: σ0) H' R)
    (q : ∀ H', Same H1 H' -> H' D = some (.lst ((List.zipWith f xs ys).map V.int)) -> Q (.ref D) H') : CompW (Itzl a b) D js (gTup K 2 (gCons (gName 0) (gCons (gName 1) gNil))) tNoTest te σ H1 Q := by
  obtain ⟨u0, v0, hp⟩ := hp
  refine comp_zipL (a := a) (b := b) (xs := xs.map V.int) (ys := ys.map V.int) (by rw [List.length_map, List.length_map]; exact hn) (fun i σ' H' zs => (∃ u v : Option V, σ' = u :: v :: σ0) /\ Same H1 H' /\ zs = ((List.zipWith f xs ys).take i).map V.int) ⟨⟨u0, v0, hp⟩, Same.new hD, rfl⟩ (fun i σ' H' zs _ ⟨_, s', _⟩ => ⟨s' _ _ ha, s' _ _ hb⟩) ?_ ?_
  · rintro i x y p σ' H' zs R hx hy hp hD' hzl ⟨⟨u, v, rfl⟩, s', rfl⟩ kk
    obtain ⟨x, rfl, hx'⟩ := map_int_get hx
    obtain ⟨y, rfl, hy'⟩ := map_int_get hy
    refine ⟨p, _, rfl, SqT.of upd_same, rfl, _, _, rfl, _, _, rfl, rfl, ?_⟩
    refine hs x y _ _ (List.mem_of_getElem? hx') (List.mem_of_getElem? hy') (kk _ _ _ ?_ ⟨⟨_, _, rfl⟩, ?_, ?_⟩)
    · rw [upd_ne (ne_of_none hD' hp)]; exact hD'
    · intro c o e
      rw [upd_ne (ne_of_none e hD), upd_ne (ne_of_none (s' c o e) hp)]
      exact s' c o e
    · rw [zipWith_snoc hx' hy', List.map_append]
      rfl
  · rintro σ' H' zs hD' hzl ⟨_, s', rfl⟩
    refine q H' s' ?_
    rw [hD', List.length_map, List.length_map, List.take_of_length_le (by rw [List.length_zipWith]; exact Nat.le_refl _)]
def But2 (a l : Addr) (H H' : Hp) : Prop := ∀ c o, c ≠ a -> c ≠ l -> H c = some o -> H' c = some o
end W2
namespace L2
open PySem PySem.Spec PyProof.Rows
theorem ps_setC {X : Cx} {elt tg iter : Expr} {cs : List Expr} {scope : Scope} {cpos pos pos' : Pos} {cl : List (Str × Addr)} {N : List Str} {js : List (Option Nat)} {wi : TI} {g : TG} {tc : TT} {te : TE} {iv : Nat} {x0 : Str}
    (hN0 : X.N.Nodup) (hi0 : X.N[iv]? = some x0) (hx0 : Loc X.env.scope x0)
    (C : CompOk X scope cl N js) (hc : X.calm = true) (hi : PI X tg iter wi)
    (hg : ∀ fp pins s H, PG (compCx X scope cl N fp pins s H fun _ _ => False) tg g)
    (ht : ∀ fp pins s H, PTs (compCx X scope cl N fp pins s H fun _ _ => False) cs tc)
    (he : ∀ fp pins s H, PE (compCx X scope cl N fp pins s H fun _ _ => False) elt te)
    (hsw : swapsWith (.ListComp elt [⟨tg, iter, cs, 0⟩] scope cpos) (some (.Name x0 pos')) pos.line X.env = pure true)
    (hs : ∀ x, foldedSetIterable iter X.env x = pure x := by intro _; rfl) (hf0 : X.fn x0 = true ∨ X.env.scope.names.lookup x0 = some .local := by first | exact .inl rfl | exact .inr rfl | assumption) : PS X (.Assign [.Name x0 pos'] (.ListComp elt [⟨tg, iter, cs, 0⟩] scope cpos) pos) (tAsg (tComp js wi g tc te) (gName iv)) := by
  intro pins s σ H D0 I h
  rw [exec_Assign_Name_used _ _ _ _ hsw]
  refine wpAny_bind (wpAny_standAt (wpAny_bind ?_))
  show wpAny _ X.A (do let _ ← comprehension (.ListComp elt [⟨tg, iter, cs, 0⟩] scope cpos) scope X.env _ (newList []) false (eval iter X.env) (some (assign (.Name x0 pos') X.env))) _ _ s
  refine wpAny_bind (wpAny_mono (wpAny_comprehension_free (use := some (assign (.Name x0 pos') X.env)) (Q := fun _ s' => SP X pins D0 .next s') rfl hs C.clos C.kind C.names (thn (hi pins s σ H _ I h) fun xv s1 h1 => thn h1 fun itv s2 h2 => ?_)) (fun _ s' hq => wpAny_pure (wpAny_pure hq)) fun _ _ e => e)
  obtain ⟨it, fp, tn, J, H2, e, I2, T, st2, f2, h2⟩ := h2
  subst e
  obtain ⟨W, ⟨m0, w0⟩, turn⟩ := h2 s2.heap.objs.size I2.fresh
  refine wpAny_newObj_type (wpAny_newFunctionEnv C.nocell (by intro y hy; simp at hy) (fun h4 ns4 sb4 => ?_) C.kind)
  have I3 : Inv X pins σ (upd H2 s2.heap.objs.size (.lst [])) { s2 with heap := s2.heap.push { cls := .type "list", data := .seq ([] : List Value).toArray } } := I2.lnew (t' := s2.toks) (its := []) .nil (Nat.zero_le _)
  dsimp only at ns4 sb4 ⊢
  generalize e3 : ({ s2 with heap := s2.heap.push { cls := .type "list", data := .seq ([] : List Value).toArray } } : Shared) = s3 at I3
  have e3h : s2.heap.push { cls := .type "list", data := .seq ([] : List Value).toArray } = s3.heap := by rw [← e3]
  have e3g : s2.gens = s3.gens := by rw [← e3]
  have e3o : s2.os = s3.os := by rw [← e3]
  rw [e3h] at ns4 sb4 ⊢
  generalize eH : upd H2 s2.heap.objs.size (.lst []) = H3 at I3 w0
  have hD : s2.heap.objs.size < s3.heap.objs.size := by rw [← e3h, Heap.size_push]; exact Nat.lt_succ_self _
  have up3 : ∀ b o, s2.heap.get? b = some o -> s3.heap.get? b = some o := fun b o q => by rw [← e3h]; exact Heap.get?_push_of_some _ q
  have up4 : ∀ b o, s3.heap.get? b = some o -> h4.get? b = some o := fun b o q => sb4.extBut b o (Nat.ne_of_lt (Heap.lt_size q)) (Heap.get?_push_of_some _ q)
  have fpo : ∀ b ∈ fp, b < s3.heap.objs.size := fun b hb => by
    obtain ⟨o, eo, _⟩ := T.obj 0 _ st2 b hb
    exact Heap.lt_size (up3 b o eo)
  have fst : ∀ b ∈ fp, b ∉ frs X.stack := fun b hb z => by
    rcases List.mem_cons.mp (I3.stkSub b z) with q | q
    · exact (f2 b hb).2.1 q
    · exact (f2 b hb).2.2.1 q
  have okY : (compCx X scope cl N fp pins s3 H3 fun _ _ => False).Ok := by
    refine ⟨I.ok.mod, C.kind, I.ok.glob, I.ok.blt, Nat.le_refl _, fun x y c q1 q2 => I.ok.inj x y c (C.sub _ _ q1) (C.sub _ _ q2), C.has, fun x c z => absurd z Bool.false_ne_true, I.ok.hd, I.ok.frames, .inl rfl, fun b hb => ⟨Nat.ne_of_lt (fpo b hb), fun x c q => (f2 b hb).2.2.2.2.1 x c (C.sub _ _ q)⟩,
      I3.bs, Nat.le_trans I.ok.bsz I3.sz, fun b o q hb => ?_, fst, I3.stack, I3.stkFree⟩
    rcases (f2 b hb).2.2.2.1 with z | z
    · exact I.ok.noex b o q z
    · exact absurd (Nat.lt_of_lt_of_le (Heap.lt_size q) (Nat.le_trans I.ok.bsz z)) (Nat.lt_irrefl _)
  have I4 : Inv (compCx X scope cl N fp pins s3 H3 fun _ _ => False) [] (pick js σ) H3 { s3 with heap := h4, toks := s3.toks + ([] : List (Str × Value)).length } := by
    refine ⟨okY, rfl, I3.bare, Un.kept up4, ⟨_, ns4, fun i x v q1 q2 q3 => ?_⟩, fun x c q => ?_, I3.hok.fresh (Nat.le_refl _), fun x c q => I3.freeC x c (C.sub _ _ q), fun p hp => ?_, I3.hok.kept up4, ?_⟩
    · obtain ⟨j, k1, k2⟩ := pick_get q2
      obtain ⟨z1, z2, z3⟩ := C.seen i j x q1 k1
      obtain ⟨m, hn, hl⟩ := I3.loc
      obtain ⟨u, ru, lk⟩ := hl j x v z1 k2 (.inr (.inl z2))
      refine ⟨u, ru, .inr ⟨z3, ?_⟩⟩
      rcases lk with ⟨k, _⟩ | ⟨_, c, ec, oc, hoc, hdc⟩
      · have k' : X.env.scope.names.lookup x = some .local := k
        rw [z2] at k'; cases k'
      · obtain ⟨c', ec'⟩ := C.has x z3
        have := C.sub _ _ ec'
        rw [ec] at this
        cases this
        exact ⟨c, ec', oc, up4 _ _ hoc, hdc⟩
    · obtain ⟨v, oc, hoc, hdc⟩ := I3.cell x c (C.sub _ _ q)
      exact ⟨v, oc, up4 _ _ hoc, hdc⟩
    · have hp' : p ∈ X.pn ++ pins := by simpa using hp
      obtain ⟨q1, q2, q3, q4, q5⟩ := I3.pin p hp'
      refine ⟨up4 _ _ q1, q2, Nat.ne_of_lt (Heap.lt_size q1), fun z => ?_, q5⟩
      rcases List.mem_cons.mp (I3.stkSub _ z) with q | q
      · exact q3 q
      · exact q4 q
    · show (pick js σ).length = N.length
      unfold pick
      rw [List.length_map, C.len]
  have stat : ∀ {H' : Hp}, (∀ b ∈ fp, H' b = none) -> ∀ b ∈ fp, FpOk (compCx X scope cl N fp pins s3 H3 fun _ _ => False) [] H' b := fun hn b hb =>
    ⟨hn b hb, Nat.ne_of_lt (fpo b hb), fst b hb, .inl hb, fun x c q => (f2 b hb).2.2.2.2.1 x c (C.sub _ _ q), fun p hp => (f2 b hb).2.2.2.2.2 p (by simpa using hp)⟩
  have st4 : tn 0 h4 := T.keep 0 _ _ st2 fun b hb o q => up4 b o (up3 b o q)
  have nx : ∀ e s', (compCx X scope cl N fp pins s3 H3 fun _ _ => False).xe e s' -> False := fun _ _ z => z
  have loop : codeAny (model X.prog X.w) X.A (.compLoop (.ListComp elt [⟨tg, iter, cs, 0⟩] scope cpos) 0 (.ref it) (.ref s2.heap.objs.size) (compEnvC scope cl s3.heap.objs.size X.env))
      (compPost (model X.prog X.w) X.A X.xe (some (assign (.Name x0 pos') X.env)) (fun _ s' => SP X pins D0 .next s') (.ref s2.heap.objs.size) s3.heap.objs.size) { s3 with heap := h4, toks := s3.toks + ([] : List (Str × Value)).length } := by
    refine loop_go (fun n s' => ∃ i σ' H' ys, Inv (compCx X scope cl N fp pins s3 H3 fun _ _ => False) [] σ' H' s' /\ tn i s'.heap /\ (∀ b ∈ fp, H' b = none) /\ W i n σ' H' ys) ?_ m0 ⟨0, _, H3, [], I4, st4, fun b hb => ?_, w0⟩
    · rintro n s5 ⟨i, σ5, H5, ys, I5, st5, fr5, w5⟩
      obtain ⟨hD5, way⟩ := turn i n σ5 H5 ys w5
      rcases way with ⟨stop, qn⟩ | ⟨go, hz, NN, hN, step⟩
      · refine noEx nx (thn (T.done (compCx X scope cl N fp pins s3 H3 fun _ _ => False) rfl rfl rfl hc i [] s5 σ5 H5 _ I5 (stat fr5) st5 stop) fun r s6 ⟨hr, I6⟩ => ?_)
        subst hr
        obtain ⟨m, hn, _⟩ := I6.loc
        have fC : FpOk X pins H5 s3.heap.objs.size := I3.fpOk (Nat.le_refl _) I6.free
        have I7 : Inv X pins σ H5 s6 := ?_
        · refine wpAny_assign_Name (store_ok2 (v := .ref s2.heap.objs.size) I7 hN0 hi0 hx0 rfl (fun s8 I8 hsb => ?_) hf0)
          obtain ⟨a8, sb8, h8⟩ := hsb
          obtain ⟨f0, f1, f2', f3, f4, f5⟩ := fC
          have nC : s3.heap.objs.size ≠ a8 := by
            rcases h8 with z | z
            · rw [z]; exact f1
            · exact (f4 _ _ z).symm
          refine ⟨m, hn.sameBut sb8 nC, fun h' sb => ⟨_, H5, ?_, qn⟩⟩
          exact I8.turned (t' := s8.toks) (fun b o hb e => (sb.2 b hb).trans e) f0 f1 f3 f4 f5
        have low : ∀ b o, s3.heap.get? b = some o -> b ≠ s3.heap.objs.size := fun b o q => Nat.ne_of_lt (Heap.lt_size q)
        have same : ∀ b, b ≠ s3.heap.objs.size -> s6.heap.get? b = s6.heap.get? b := fun b hb => rfl
        have B := I6.base
        refine I3.call' (s' := s6) (H' := H5) (ch := fp) I6.os ⟨fun b o q n0 h1 h2 => ?_, fun b o q n0 h1 h2 => ?_, B.free, fun b o q h2 => ?_, B.tups, B.frzs, B.tbls⟩ (fun a o q => ?_) I6.bare (fun b hb => ⟨(f2 b hb).2.2.2.1, (f2 b hb).2.1, (f2 b hb).2.2.2.2.1, (f2 b hb).2.2.2.2.2⟩)
        · exact (same b (low b o q)).trans (B.keep b o q n0 h1 h2)
        · obtain ⟨sl, z⟩ := B.slot b o q n0 h1 h2
          exact ⟨sl, (same b (low b o q)).trans z⟩
        · obtain ⟨o', z⟩ := B.there b o q h2
          exact ⟨o', (same b (low b o q)).trans z⟩
        · have nC : ∀ c u, H5 c = some u -> c ≠ s3.heap.objs.size := fun c u z y => by
            have := I6.free
            rw [y] at z
            rw [show H5 s3.heap.objs.size = none from this] at z
            cases z
          refine (I6.hok a o q).stay (fun c u hc' z => (same c ?_).trans z) (fun _ z => z) fun _ _ z => z
          rcases hc' with z' | z'
          · rw [z']; exact nC a o q
          · exact nC c _ z'
      · refine noEx nx (thn (T.item (compCx X scope cl N fp pins s3 H3 fun _ _ => False) rfl rfl rfl hc i [] s5 σ5 H5 _ I5 (stat fr5) st5 go) fun r s6 ⟨u, hr, h6⟩ => ?_)
        subst hr
        refine noEx nx (thn h6 fun _ s7 ⟨x, H7, I7, r7, y7, st7, fr7⟩ => ?_)
        have I7' := I7.pinned (stat fr7) (T.obj _ _ st7)
        refine noEx nx (thn (hg fp pins s3 H3 _ s7 σ5 H7 x u _ I7' r7 (step x H7 y7)) fun _ s8 ⟨σ8, H8, I8, q8⟩ => ?_)
        refine noEx nx (thn (ht fp pins s3 H3 _ s8 σ8 H8 _ I8 q8) fun k s9 ⟨H9, I9, q9⟩ => ?_)
        have fin : ∀ {s' : Shared} {σ' : St} {H' : Hp} {ys' : List V}, Inv (compCx X scope cl N fp pins s3 H3 fun _ _ => False) ([] ++ pinsAt fp s7.heap) σ' H' s' -> NN σ' H' ys' ->
            ∃ m', m' < n /\ ∃ i σ' H' ys, Inv (compCx X scope cl N fp pins s3 H3 fun _ _ => False) [] σ' H' s' /\ tn i s'.heap /\ (∀ b ∈ fp, H' b = none) /\ W i m' σ' H' ys := fun {s' σ' H' ys'} Iv nv => by
          obtain ⟨m', hm, wv⟩ := hN σ' H' ys' nv
          refine ⟨m', hm, i + 1, σ', H', ys', Iv.unpinned, T.keep _ _ _ st7 fun b hb o q => (Iv.pin (b, o) (List.mem_append_right _ (List.mem_append_right _ (mem_pinsAt hb q)))).1, fun b hb => ?_, wv⟩
          obtain ⟨o, q, _⟩ := T.obj _ _ st7 b hb
          exact (Iv.pin (b, o) (List.mem_append_right _ (List.mem_append_right _ (mem_pinsAt hb q)))).2.1
        cases k with
        | false =>
          rw [if_neg Bool.false_ne_true] at q9 ⊢
          exact fin I9 q9.2
        | true =>
          rw [if_pos rfl] at q9 ⊢
          refine noEx nx (thn (he fp pins s3 H3 _ s9 σ8 H9 _ I9 q9) fun y sA ⟨yv, HA, IA, rA, hDA, qA⟩ => ?_)
          refine noEx nx (thn (mt_append _ sA σ8 HA (.ref s2.heap.objs.size) [yv] _ [y] (fun _ HB => NN σ8 HB (ys ++ [yv])) IA rfl (.cons rA .nil) ⟨_, ys, yv, rfl, rfl, hDA, hz, qA⟩) fun _ sB ⟨_, HB, IB, _, qB⟩ => ?_)
          exact fin IB qB
    · rw [← eH, upd_ne]
      · exact (f2 b hb).1
      · obtain ⟨o, eo, _⟩ := T.obj 0 _ st2 b hb
        exact Nat.ne_of_lt (Heap.lt_size eo)
  have goal : codeAny (model X.prog X.w) X.A (.compStart (.ListComp elt [⟨tg, iter, cs, 0⟩] scope cpos) 0 (.ref it) (.ref s2.heap.objs.size) (compEnvC scope cl s3.heap.objs.size X.env))
      (compPost (model X.prog X.w) X.A X.xe (some (assign (.Name x0 pos') X.env)) (fun _ s' => SP X pins D0 .next s') (.ref s2.heap.objs.size) s3.heap.objs.size) { s3 with heap := h4, toks := s3.toks + ([] : List (Str × Value)).length } :=
    codeAny_compStart_list loop (T.self _ 0 _ _ _ st4 loop)
  subst e3
  exact goal
theorem qs_setC {X : Cx} {elt tg iter : Expr} {cs : List Expr} {scope : Scope} {cpos pos pos' : Pos} {cl : List (Str × Addr)} {N : List Str} {js : List (Option Nat)} {wi : TI} {g : TG} {tc : TT} {te : TE} {i : Nat} {x0 : Str}
    (hN0 : X.N.Nodup) (hi0 : X.N[i]? = some x0) (hx0 : Loc X.env.scope x0)
    (C : CompOk X scope cl N js) (hc : X.calm = true) (hi : QI X tg iter wi)
    (hg : ∀ fp pins s H, QG (compCx X scope cl N fp pins s H fun _ _ => False) tg g)
    (ht : ∀ fp pins s H, QTs (compCx X scope cl N fp pins s H fun _ _ => False) cs tc)
    (he : ∀ fp pins s H, QE (compCx X scope cl N fp pins s H fun _ _ => False) elt te)
    (hsw : swapsWith (.ListComp elt [⟨tg, iter, cs, 0⟩] scope cpos) (some (.Name x0 pos')) pos.line X.env = pure true := by rfl)
    (hs : ∀ x, foldedSetIterable iter X.env x = pure x := by intro _; rfl) (hf0 : X.fn x0 = true ∨ X.env.scope.names.lookup x0 = some .local := by first | exact .inl rfl | exact .inr rfl | assumption) : QS X (.Assign [.Name x0 pos'] (.ListComp elt [⟨tg, iter, cs, 0⟩] scope cpos) pos) (tAsg (tComp js wi g tc te) (gName i)) :=
  ⟨ps_setC hN0 hi0 hx0 C hc hi.o (fun a b c d => (hg a b c d).o) (fun a b c d => (ht a b c d).o) (fun a b c d => (he a b c d).o) hsw hs hf0⟩
end L2
namespace Z3
open PySem PyProof.Rows Zt
abbrev IsTri (h : Heap) (T : Addr) (a b c : Value) : Prop := h.get? T = some { cls := .type "tuple", data := .seq #[a, b, c] }
theorem nn' {n k m : Nat} (h : k ≠ m) : n + k ≠ n + m := by omega
theorem nk {n k : Nat} (h : 0 < k) : n ≠ n + k := by omega
theorem kn {n k : Nat} (h : 0 < k) : n + k ≠ n := by omega
theorem tl {t n k : Nat} (h : t < n) : t ≠ n + k := by omega
section
variable {prog : Program} {w : World} {A : Around} {E : Value -> Shared -> Prop} {s : Shared}
theorem upd3 {T : Addr} {a b c x : Value} {k : Nat} {Q : Unit -> Shared -> Prop} (hT : IsTri s.heap T a b c)
    (h : ∀ h', h'.get? T = some { cls := .type "tuple", data := .seq ((#[a, b, c] : Array Value).setIfInBounds k x) } -> Heap.SameBut T s.heap h' -> Q () { s with heap := h' }) :
    wpAny (model prog w) A (updateSeq T (·.setIfInBounds k x)) Q E s := by
  refine wpAny_updateSeq hT rfl (h _ ?_ (Heap.SameBut.update ..))
  rw [Heap.get?_update_self _ hT rfl]
  simp [Obj.mapSeq]
theorem zip_item {n t1 t2 t3 : Addr} {k : Nat} {xs ys zs : Array Value} {x y v a b c : Value} {Q : Value -> Shared -> Prop} (L1 : t1 < n) (L2 : t2 < n) (L3 : t3 < n)
    (zz : IsZip s.heap (n + 5) (n + 3) (n + 4) .none) (zI : IsTri s.heap (n + 3) (.ref n) (.ref (n + 1)) (.ref (n + 2))) (zO : IsTri s.heap (n + 4) a b c)
    (i1 : s.heap.IsTupleIter n t1 k) (i2 : s.heap.IsTupleIter (n + 1) t2 k) (i3 : s.heap.IsTupleIter (n + 2) t3 k) (l1 : s.heap.IsTuple t1 xs) (l2 : s.heap.IsTuple t2 ys) (l3 : s.heap.IsTuple t3 zs) (ex : xs[k]? = some x) (ey : ys[k]? = some y) (ez : zs[k]? = some v)
    (q : ∀ g, IsZip g (n + 5) (n + 3) (n + 4) (rawInt s.heap.objs.size) -> IsTri g (n + 4) x y v -> g.IsTupleIter n t1 (k + 1) -> g.IsTupleIter (n + 1) t2 (k + 1) -> g.IsTupleIter (n + 2) t3 (k + 1) -> IsTri g s.heap.objs.size x y v ->
      (∀ c o, c ≠ n + 5 -> c ≠ n + 4 -> c ≠ n -> c ≠ n + 1 -> c ≠ n + 2 -> s.heap.get? c = some o -> g.get? c = some o) -> Q (.ref s.heap.objs.size) { s with heap := g }) :
    wpAny (model prog w) A (Builtin.«zip.__next__» ⟨[.ref (n + 5)], []⟩) (fun fin s' => ∃ v, fin = .done (.ret v) /\ Q v s') E s := by
  show wpAny _ _ (field (.ref (n + 5)) 2 >>= _) _ _ _
  refine wpAny_bind (wpAny_field zz rfl (x := .bool false) rfl ?_)
  show wpAny _ _ (field (.ref (n + 5)) 3 >>= _) _ _ _
  refine wpAny_bind (wpAny_field zz rfl (x := .ref (n + 3)) rfl (wpAny_bind (wpAny_seqItems zI rfl ?_)))
  show wpAny _ _ (Builtin.SmallTypes.ownedTupleIsFree (.ref (n + 5)) >>= _) _ _ _
  refine wpAny_bind ?_
  unfold Builtin.SmallTypes.ownedTupleIsFree
  refine wpAny_bind (wpAny_field zz rfl (x := .none) rfl (wpAny_pure ?_))
  simp only [if_true]
  refine wpAny_bind (wpAny_rule (wpAny_bind (wpAny_field zz rfl (x := .ref (n + 4)) rfl (wpAny_bind (wpAny_setField_rec zz (by simp) fun g1 zz1 s1 => ?_)))))
  replace zz1 : IsZip g1 (n + 5) (n + 3) (n + 4) .ellipsis := zz1
  refine wpAny_bind ?_
  simp only [List.zipIdx_cons, List.zipIdx_nil, List.forIn_cons, List.forIn_nil]
  refine wpAny_bind (wpAny_bind (wpAny_onRaise ?_))
  show wpAny _ _ (Builtin.SmallTypes.nextOf (.ref n) >>= _) _ _ _
  refine wpAny_bind (pull (i1.extBut s1.extBut (nk (by decide))) (l1.extBut s1.extBut (tl L1)) ex fun g2 i1' s2 => wpAny_pure ?_)
  have zO2 : IsTri g2 (n + 4) a b c := s2.extBut _ _ (kn (by decide)) (s1.extBut _ _ (nn' (by decide)) zO)
  refine wpAny_bind (wpAny_seqItems zO2 rfl (wpAny_bind (upd3 zO2 fun g3 zO3 s3 => ?_)))
  replace zO3 : IsTri g3 (n + 4) x b c := zO3
  refine wpAny_bind (wpAny_letGo (wpAny_pure (wpAny_bind (wpAny_bind (wpAny_onRaise ?_)))))
  show wpAny _ _ (Builtin.SmallTypes.nextOf (.ref (n + 1)) >>= _) _ _ _
  have i2' := ((i2.extBut s1.extBut (nn' (by decide))).extBut s2.extBut (kn (by decide))).extBut s3.extBut (nn' (by decide))
  have l2' := ((l2.extBut s1.extBut (tl L2)).extBut s2.extBut (Nat.ne_of_lt L2)).extBut s3.extBut (tl L2)
  refine wpAny_bind (pull i2' l2' ey fun g4 i2'' s4 => wpAny_pure ?_)
  have zO4 : IsTri g4 (n + 4) x b c := s4.extBut _ _ (nn' (by decide)) zO3
  refine wpAny_bind (wpAny_seqItems zO4 rfl (wpAny_bind (upd3 zO4 fun g5 zO5 s5 => ?_)))
  replace zO5 : IsTri g5 (n + 4) x y c := zO5
  refine wpAny_bind (wpAny_letGo (wpAny_pure (wpAny_bind (wpAny_bind (wpAny_onRaise ?_)))))
  show wpAny _ _ (Builtin.SmallTypes.nextOf (.ref (n + 2)) >>= _) _ _ _
  have i3' := ((((i3.extBut s1.extBut (nn' (by decide))).extBut s2.extBut (kn (by decide))).extBut s3.extBut (nn' (by decide))).extBut s4.extBut (nn' (by decide))).extBut s5.extBut (nn' (by decide))
  have l3' := ((((l3.extBut s1.extBut (tl L3)).extBut s2.extBut (Nat.ne_of_lt L3)).extBut s3.extBut (tl L3)).extBut s4.extBut (tl L3)).extBut s5.extBut (tl L3)
  refine wpAny_bind (pull i3' l3' ez fun g6 i3'' s6 => wpAny_pure ?_)
  have zO6 : IsTri g6 (n + 4) x y c := s6.extBut _ _ (nn' (by decide)) zO5
  refine wpAny_bind (wpAny_seqItems zO6 rfl (wpAny_bind (upd3 zO6 fun g7 zO7 s7 => ?_)))
  replace zO7 : IsTri g7 (n + 4) x y v := zO7
  refine wpAny_bind (wpAny_letGo (wpAny_pure (wpAny_pure (wpAny_bind (wpAny_seqItems zO7 rfl (wpAny_bind (wpAny_newTuple ?_)))))))
  have sz : g7.objs.size = s.heap.objs.size := by rw [s7.1, s6.1, s5.1, s4.1, s3.1, s2.1, s1.1]
  have zz7 : IsZip g7 (n + 5) (n + 3) (n + 4) .ellipsis := s7.extBut _ _ (nn' (by decide)) (s6.extBut _ _ (nn' (by decide)) (s5.extBut _ _ (nn' (by decide)) (s4.extBut _ _ (nn' (by decide)) (s3.extBut _ _ (nn' (by decide)) (s2.extBut _ _ (kn (by decide)) zz1)))))
  have up7 : ∀ c o, c ≠ n + 5 -> c ≠ n + 4 -> c ≠ n -> c ≠ n + 1 -> c ≠ n + 2 -> s.heap.get? c = some o -> g7.get? c = some o := fun c o e5 e4 e0 e1 e2 q' =>
    s7.extBut _ _ e4 (s6.extBut _ _ e2 (s5.extBut _ _ e4 (s4.extBut _ _ e1 (s3.extBut _ _ e4 (s2.extBut _ _ e0 (s1.extBut _ _ e5 q'))))))
  have j17 : g7.IsTupleIter n t1 (k + 1) := ((((i1'.extBut s3.extBut (nk (by decide))).extBut s4.extBut (nk (by decide))).extBut s5.extBut (nk (by decide))).extBut s6.extBut (nk (by decide))).extBut s7.extBut (nk (by decide))
  have j27 : g7.IsTupleIter (n + 1) t2 (k + 1) := ((i2''.extBut s5.extBut (nn' (by decide))).extBut s6.extBut (nn' (by decide))).extBut s7.extBut (nn' (by decide))
  have j37 : g7.IsTupleIter (n + 2) t3 (k + 1) := i3''.extBut s7.extBut (nn' (by decide))
  have zlt : n + 5 < g7.objs.size := Heap.lt_size zz7
  show wpAny _ _ (Builtin.SmallTypes.ownedTupleHandOut (.ref (n + 5)) (.ref g7.objs.size) >>= _) _ _ _
  refine wpAny_bind ?_
  unfold Builtin.SmallTypes.ownedTupleHandOut
  have zz8 : IsZip (g7.push { cls := .type "tuple", data := .seq #[x, y, v] }) (n + 5) (n + 3) (n + 4) .ellipsis := Heap.get?_push_of_some _ zz7
  refine wpAny_bind (wpAny_setField_rec zz8 (by simp) fun g9 zz9 s9 => ?_)
  replace zz9 : IsZip g9 (n + 5) (n + 3) (n + 4) (rawInt g7.objs.size) := zz9
  refine wpAny_setField_rec zz9 (by simp) fun gA zzA sA => ?_
  replace zzA : IsZip gA (n + 5) (n + 3) (n + 4) (rawInt g7.objs.size) := zzA
  have upA : ∀ c o, c ≠ n + 5 -> g7.get? c = some o -> gA.get? c = some o := fun c o n1 q' => sA.extBut _ _ n1 (s9.extBut _ _ n1 (Heap.get?_push_of_some _ q'))
  have newA : IsTri gA g7.objs.size x y v := sA.extBut _ _ (Nat.ne_of_gt zlt) (s9.extBut _ _ (Nat.ne_of_gt zlt) (Heap.get?_push_size _ rfl))
  rw [sz] at zzA newA
  refine wpAny_pure ⟨_, rfl, ?_⟩
  show Q (.ref g7.objs.size) _
  rw [sz]
  refine q gA zzA (upA _ _ (nn' (by decide)) zO7) ?_ ?_ ?_ newA fun c o e5 e4 e0 e1 e2 q' => upA c o e5 (up7 c o e5 e4 e0 e1 e2 q')
  · obtain ⟨o, e, r⟩ := j17
    exact ⟨o, upA _ _ (nk (by decide)) e, r⟩
  · obtain ⟨o, e, r⟩ := j27
    exact ⟨o, upA _ _ (nn' (by decide)) e, r⟩
  · obtain ⟨o, e, r⟩ := j37
    exact ⟨o, upA _ _ (nn' (by decide)) e, r⟩
theorem zip_stop {n t1 : Addr} {k : Nat} {xs : Array Value} {a b c : Value} {Q : Fin -> Shared -> Prop} (hd : A.handled = none) (L1 : t1 < n)
    (zz : IsZip s.heap (n + 5) (n + 3) (n + 4) .none) (zI : IsTri s.heap (n + 3) (.ref n) (.ref (n + 1)) (.ref (n + 2)))
    (i1 : s.heap.IsTupleIter n t1 k) (l1 : s.heap.IsTuple t1 xs) (ex : xs[k]? = none)
    (q : ∀ g e, (∀ c o, c ≠ n + 5 -> c ≠ n + 4 -> c ≠ n -> c ≠ n + 1 -> c ≠ n + 2 -> s.heap.get? c = some o -> g.get? c = some o) -> (∃ o, g.get? e = some o /\ o.cls = .type "StopIteration") -> E (.ref e) { s with heap := g }) :
    wpAny (model prog w) A (Builtin.«zip.__next__» ⟨[.ref (n + 5)], []⟩) Q E s := by
  show wpAny _ _ (field (.ref (n + 5)) 2 >>= _) _ _ _
  refine wpAny_bind (wpAny_field zz rfl (x := .bool false) rfl ?_)
  show wpAny _ _ (field (.ref (n + 5)) 3 >>= _) _ _ _
  refine wpAny_bind (wpAny_field zz rfl (x := .ref (n + 3)) rfl (wpAny_bind (wpAny_seqItems zI rfl ?_)))
  show wpAny _ _ (Builtin.SmallTypes.ownedTupleIsFree (.ref (n + 5)) >>= _) _ _ _
  refine wpAny_bind ?_
  unfold Builtin.SmallTypes.ownedTupleIsFree
  refine wpAny_bind (wpAny_field zz rfl (x := .none) rfl (wpAny_pure ?_))
  simp only [if_true]
  refine wpAny_bind (wpAny_rule (wpAny_bind (wpAny_field zz rfl (x := .ref (n + 4)) rfl (wpAny_bind (wpAny_setField_rec zz (by simp) fun g1 zz1 s1 => ?_)))))
  replace zz1 : IsZip g1 (n + 5) (n + 3) (n + 4) .ellipsis := zz1
  refine wpAny_bind ?_
  simp only [List.zipIdx_cons, List.zipIdx_nil, List.forIn_cons, List.forIn_nil]
  refine wpAny_bind (wpAny_bind (wpAny_onRaise ?_))
  show wpAny _ _ (Builtin.SmallTypes.nextOf (.ref n) >>= _) _ _ _
  refine wpAny_bind (pull_end hd (i1.extBut s1.extBut (nk (by decide))) (l1.extBut s1.extBut (tl L1)) ex fun g2 e s2 ⟨oe, goe, coe⟩ => ?_)
  have zz2 : IsZip g2 (n + 5) (n + 3) (n + 4) .ellipsis := s2 _ _ (kn (by decide)) zz1
  have nez : e ≠ n + 5 := fun y => by
    subst y
    rw [zz2] at goe
    cases goe
    simp at coe
  exact wpAny_setField_rec zz2 (by simp) fun g3 _ s3 => q g3 e (fun c o n1 _ n3 _ _ y => s3.extBut _ _ n1 (s2 _ _ n3 (s1.extBut _ _ n1 y))) ⟨oe, s3.extBut _ _ nez goe, coe⟩
theorem next_item {n t1 t2 t3 : Addr} {k : Nat} {xs ys zs : Array Value} {x y v a b c : Value} {Q : Option Value -> Shared -> Prop} (L1 : t1 < n) (L2 : t2 < n) (L3 : t3 < n)
    (zz : IsZip s.heap (n + 5) (n + 3) (n + 4) .none) (zI : IsTri s.heap (n + 3) (.ref n) (.ref (n + 1)) (.ref (n + 2))) (zO : IsTri s.heap (n + 4) a b c)
    (i1 : s.heap.IsTupleIter n t1 k) (i2 : s.heap.IsTupleIter (n + 1) t2 k) (i3 : s.heap.IsTupleIter (n + 2) t3 k) (l1 : s.heap.IsTuple t1 xs) (l2 : s.heap.IsTuple t2 ys) (l3 : s.heap.IsTuple t3 zs) (ex : xs[k]? = some x) (ey : ys[k]? = some y) (ez : zs[k]? = some v)
    (q : ∀ g, IsZip g (n + 5) (n + 3) (n + 4) (rawInt s.heap.objs.size) -> IsTri g (n + 4) x y v -> g.IsTupleIter n t1 (k + 1) -> g.IsTupleIter (n + 1) t2 (k + 1) -> g.IsTupleIter (n + 2) t3 (k + 1) -> IsTri g s.heap.objs.size x y v ->
      (∀ c o, c ≠ n + 5 -> c ≠ n + 4 -> c ≠ n -> c ≠ n + 1 -> c ≠ n + 2 -> s.heap.get? c = some o -> g.get? c = some o) -> Q (some (.ref s.heap.objs.size)) { s with heap := g }) : wpAny (model prog w) A (pyNext (.ref (n + 5))) Q E s := by
  have ty : s.TypeIs (.ref (n + 5)) "zip" := ⟨_, zz, rfl⟩
  unfold pyNext
  refine wpAny_bind (wpAny_attempt (wpAny_callSpecial?_slot (name := Str.ofString "__next__") ty F.slot_zip_next (wpAny_call_entry F.slot_zip_next ty F.entry_zip_next ?_ (F.args_zip_next_1 _))))
  exact zip_item L1 L2 L3 zz zI zO i1 i2 i3 l1 l2 l3 ex ey ez fun g b1 b2 b3 b4 b5 b6 b7 => wpAny_pure (q g b1 b2 b3 b4 b5 b6 b7)
theorem next_stop {n t1 : Addr} {k : Nat} {xs : Array Value} {a b c : Value} {Q : Option Value -> Shared -> Prop} (hd : A.handled = none) (L1 : t1 < n)
    (zz : IsZip s.heap (n + 5) (n + 3) (n + 4) .none) (zI : IsTri s.heap (n + 3) (.ref n) (.ref (n + 1)) (.ref (n + 2)))
    (i1 : s.heap.IsTupleIter n t1 k) (l1 : s.heap.IsTuple t1 xs) (ex : xs[k]? = none)
    (q : ∀ g, (∀ c o, c ≠ n + 5 -> c ≠ n + 4 -> c ≠ n -> c ≠ n + 1 -> c ≠ n + 2 -> s.heap.get? c = some o -> g.get? c = some o) -> Q none { s with heap := g }) : wpAny (model prog w) A (pyNext (.ref (n + 5))) Q E s := by
  have ty : s.TypeIs (.ref (n + 5)) "zip" := ⟨_, zz, rfl⟩
  unfold pyNext
  refine wpAny_bind (wpAny_attempt (wpAny_callSpecial?_slot (name := Str.ofString "__next__") ty F.slot_zip_next (wpAny_call_entry F.slot_zip_next ty F.entry_zip_next ?_ (F.args_zip_next_1 _))))
  refine zip_stop (a := a) (b := b) (c := c) hd L1 zz zI i1 l1 ex fun g e up ⟨oe, goe, coe⟩ => ?_
  exact wpAny_bind (wpAny_isInstance (T := "StopIteration") (b := true) ⟨oe, goe, coe⟩ isSubtype_stop (wpAny_pure (q _ up)))
end
theorem typeCall_zip_3 (a b c : Value) : checkTypeCall "zip" ⟨[a, b, c], []⟩ = pure () := by kernel_rfl
theorem newCall_zip_3 (a b c : Value) : checkBuiltinCall "zip.__new__" ⟨[.type "zip", a, b, c], []⟩ = pure () := by kernel_rfl
theorem args_object_init_4 (a b c d : Value) : argsOk "object.__init__" ⟨[a, b, c, d], []⟩ := by
  unfold argsOk; rw [signature?_of (id := "object.__init__") (n := ['_', '_', 't', 'i', 'n', 'i', '_', '_']) (o := ['t', 'c', 'e', 'j', 'b', 'o']) (by kernel_rfl) F.owner_object]; kernel_rfl
abbrev it1 (h : Heap) (t : Addr) : Heap := h.push { cls := .type "tuple_iterator", data := .fields #[.ref t, .int 0 0] }
abbrev mk3 (h : Heap) (t1 t2 t3 : Addr) : Heap := it1 (it1 (it1 h t1) t2) t3
abbrev mk4 (h : Heap) (t1 t2 t3 : Addr) : Heap := (mk3 h t1 t2 t3).push { cls := .type "tuple", data := .seq #[.ref h.objs.size, .ref (it1 h t1).objs.size, .ref (it1 (it1 h t1) t2).objs.size] }
abbrev mk5 (h : Heap) (t1 t2 t3 : Addr) : Heap := (mk4 h t1 t2 t3).push { cls := .type "tuple", data := .seq #[.none, .none, .none] }
abbrev mk6 (h : Heap) (t1 t2 t3 : Addr) : Heap := (mk5 h t1 t2 t3).push { cls := .type "zip", data := .fields #[.none, .bool false, .bool false, .ref (mk3 h t1 t2 t3).objs.size, .ref (mk4 h t1 t2 t3).objs.size] }
theorem meets_new (t1 t2 t3 : Addr) (xs ys zs : Array Value) : Meets (Builtin.«zip.__new__» ⟨[.type "zip", .ref t1, .ref t2, .ref t3], []⟩) (fun _ R s => s.heap.IsTuple t1 xs /\ s.heap.IsTuple t2 ys /\ s.heap.IsTuple t3 zs /\ R (.ok (.ret (.ref (mk5 s.heap t1 t2 t3).objs.size))) { s with heap := mk6 s.heap t1 t2 t3 }) :=
  .of_wp fun prog w A R s h => by
    obtain ⟨hh, gg, dd, tt, oo⟩ := s
    obtain ⟨a1, a2, a3, h⟩ := h
    have sub := sub_zip
    have b1 : Heap.IsTuple (Shared.heap ⟨hh, gg, dd, tt, oo⟩) t1 xs := a1
    have b2 : Heap.IsTuple (Shared.heap ⟨it1 hh t1, gg, dd, tt, oo⟩) t2 ys := Heap.IsTuple.push a2 _
    have b3 : Heap.IsTuple (Shared.heap ⟨it1 (it1 hh t1) t2, gg, dd, tt, oo⟩) t3 zs := Heap.IsTuple.push (Heap.IsTuple.push a3 _) _
    wp_walk using wpAny_pyIter_tuple b1, wpAny_pyIter_tuple b2, wpAny_pyIter_tuple b3
    exact ⟨_, rfl, h⟩
section
variable {prog : Program} {w : World} {A : Around} {E : Value -> Shared -> Prop} {s : Shared}
theorem make {t1 t2 t3 : Addr} {xs ys zs : Array Value} {Q : Value -> Shared -> Prop} (a1 : s.heap.IsTuple t1 xs) (a2 : s.heap.IsTuple t2 ys) (a3 : s.heap.IsTuple t3 zs)
    (q : ∀ g, IsZip g (s.heap.objs.size + 5) (s.heap.objs.size + 3) (s.heap.objs.size + 4) .none -> IsTri g (s.heap.objs.size + 3) (.ref s.heap.objs.size) (.ref (s.heap.objs.size + 1)) (.ref (s.heap.objs.size + 2)) -> IsTri g (s.heap.objs.size + 4) .none .none .none ->
      g.IsTupleIter s.heap.objs.size t1 0 -> g.IsTupleIter (s.heap.objs.size + 1) t2 0 -> g.IsTupleIter (s.heap.objs.size + 2) t3 0 -> (∀ c o, s.heap.get? c = some o -> g.get? c = some o) -> Q (.ref (s.heap.objs.size + 5)) { s with heap := g }) :
    wpAny (model prog w) A (call (.type "zip") [.ref t1, .ref t2, .ref t3]) Q E s := by
  refine callType_new F.called_zip (by decide) (typeCall_zip_3 _ _ _) (newCall_zip_3 _ _ _) (fun obj => args_object_init_4 obj _ _ _) F.entry_zip_new (meets_new t1 t2 t3 xs ys zs) ⟨a1, a2, a3, ?_⟩
  have n1 : (it1 s.heap t1).objs.size = s.heap.objs.size + 1 := Heap.size_push ..
  have n2 : (it1 (it1 s.heap t1) t2).objs.size = s.heap.objs.size + 2 := by rw [Heap.size_push, n1]
  have n3 : (mk3 s.heap t1 t2 t3).objs.size = s.heap.objs.size + 3 := by rw [Heap.size_push, n2]
  have n4 : (mk4 s.heap t1 t2 t3).objs.size = s.heap.objs.size + 4 := by rw [Heap.size_push, n3]
  have n5 : (mk5 s.heap t1 t2 t3).objs.size = s.heap.objs.size + 5 := by rw [Heap.size_push, n4]
  have p6 : (mk6 s.heap t1 t2 t3).get? (mk5 s.heap t1 t2 t3).objs.size = some _ := Heap.get?_push_size _ rfl
  have p5 : (mk6 s.heap t1 t2 t3).get? (mk4 s.heap t1 t2 t3).objs.size = some _ := Heap.get?_push_of_some _ (Heap.get?_push_size _ rfl)
  have p4 : (mk6 s.heap t1 t2 t3).get? (mk3 s.heap t1 t2 t3).objs.size = some _ := Heap.get?_push_of_some _ (Heap.get?_push_of_some _ (Heap.get?_push_size _ rfl))
  have p3 : (mk6 s.heap t1 t2 t3).get? (it1 (it1 s.heap t1) t2).objs.size = some _ := Heap.get?_push_of_some _ (Heap.get?_push_of_some _ (Heap.get?_push_of_some _ (Heap.get?_push_size _ rfl)))
  have p2 : (mk6 s.heap t1 t2 t3).get? (it1 s.heap t1).objs.size = some _ := Heap.get?_push_of_some _ (Heap.get?_push_of_some _ (Heap.get?_push_of_some _ (Heap.get?_push_of_some _ (Heap.get?_push_size _ rfl))))
  have p1 : (mk6 s.heap t1 t2 t3).get? s.heap.objs.size = some _ := Heap.get?_push_of_some _ (Heap.get?_push_of_some _ (Heap.get?_push_of_some _ (Heap.get?_push_of_some _ (Heap.get?_push_of_some _ (Heap.get?_push_size _ rfl)))))
  show _ /\ _
  rw [n3, n4, n5] at p6
  rw [n1, n2, n3] at p4
  rw [n4] at p5
  rw [n2] at p3
  rw [n1] at p2
  rw [n5]
  exact ⟨⟨_, p6, rfl⟩, q _ p6 p4 p5 ⟨_, p1, rfl, rfl⟩ ⟨_, p2, rfl, rfl⟩ ⟨_, p3, rfl, rfl⟩ fun c o y => Heap.get?_push_of_some _ (Heap.get?_push_of_some _ (Heap.get?_push_of_some _ (Heap.get?_push_of_some _ (Heap.get?_push_of_some _ (Heap.get?_push_of_some _ y)))))⟩
end
end Z3
namespace L2
open PySem PySem.Spec PyProof.Rows Z3
def It3 (K : PySem.W.Frag) (a b c : Addr) : It :=
  ⟨fun i H => ∃ xs ys zs x y v, SqT K H a xs /\ SqT K H b ys /\ SqT K H c zs /\ xs[i]? = some x /\ ys[i]? = some y /\ zs[i]? = some v,
   fun i H w H' => ∃ p, H p = none /\ w = .ref p /\ ∃ x y v, H' = upd H p (.tup [x, y, v]) /\ ∀ xs ys zs, SqT K H a xs -> SqT K H b ys -> SqT K H c zs -> xs[i]? = some x /\ ys[i]? = some y /\ zs[i]? = some v,
   fun i H => ∃ xs, SqT K H a xs /\ xs.length <= i⟩
theorem turn_zip3 {P : Program} {w : World} {K : PySem.W.Frag} {tg : Expr} (htg : tupleTg tg = true) {n a b c : Addr} (L1 : a < n) (L2 : b < n) (L3 : c < n) :
    Turn P w K tg (It3 K a b c) [n + 5, n + 4, n, n + 1, n + 2, n + 3] (n + 5) (fun i h => IsZip h (n + 5) (n + 3) (n + 4) .none /\ IsTri h (n + 3) (.ref n) (.ref (n + 1)) (.ref (n + 2)) /\ (∃ u v w, IsTri h (n + 4) u v w) /\ h.IsTupleIter n a i /\ h.IsTupleIter (n + 1) b i /\ h.IsTupleIter (n + 2) c i) where
  mem := List.mem_cons_self
  obj := fun i h st c' hc => by
    obtain ⟨h1, h2, ⟨u, v, w', h3⟩, ⟨o4, h4, _, d4⟩, ⟨o5, h5, _, d5⟩, ⟨o6, h6, _, d6⟩⟩ := st
    have nof : ∀ {o : Obj} {vs : Array Value}, o.data = .fields vs -> ∀ v, o.data ≠ .cell v := fun e v q => by rw [e] at q; cases q
    have nos : ∀ {o : Obj} {vs : Array Value} {n : Nat}, o.data = .seq vs n -> ∀ v, o.data ≠ .cell v := fun e v q => by rw [e] at q; cases q
    simp only [List.mem_cons, List.not_mem_nil, or_false] at hc
    rcases hc with rfl | rfl | rfl | rfl | rfl | rfl
    · exact ⟨_, h1, nof rfl⟩
    · exact ⟨_, h3, nos rfl⟩
    · exact ⟨_, h4, nof d4⟩
    · exact ⟨_, h5, nof d5⟩
    · exact ⟨_, h6, nof d6⟩
    · exact ⟨_, h2, nos rfl⟩
  keep := fun i h h' st k => by
    obtain ⟨h1, h2, ⟨u, v, w', h3⟩, ⟨o4, h4, r4⟩, ⟨o5, h5, r5⟩, ⟨o6, h6, r6⟩⟩ := st
    exact ⟨k _ (by simp) _ h1, k _ (by simp) _ h2, ⟨u, v, w', k _ (by simp) _ h3⟩, ⟨o4, k _ (by simp) _ h4, r4⟩, ⟨o5, k _ (by simp) _ h5, r5⟩, ⟨o6, k _ (by simp) _ h6, r6⟩⟩
  item := by
    intro X hP hw hK hc i pins s σ H E I hf st hg
    subst hP hw hK
    obtain ⟨h1, h2, ⟨u, v, w', h3⟩, h4, h5, h6⟩ := st
    obtain ⟨xs, ys, zs, x, y, z, qa, qb, qc, hx, hy, hz⟩ := hg
    obtain ⟨its, rv, pa, _⟩ := I.tuple qa
    obtain ⟨jts, rw', pb, _⟩ := I.tuple qb
    obtain ⟨kts, rz', pc, _⟩ := I.tuple qc
    obtain ⟨ux, eux, rux⟩ := rv.get hx
    obtain ⟨uy, euy, ruy⟩ := rw'.get hy
    obtain ⟨uz, euz, ruz⟩ := rz'.get hz
    refine Z3.next_item L1 L2 L3 h1 h2 h3 h4 h5 h6 (show s.heap.IsTuple a its.toArray from pa) (show s.heap.IsTuple b jts.toArray from pb) (show s.heap.IsTuple c kts.toArray from pc) (x := ux) (y := uy) (v := uz) (by simpa using eux) (by simpa using euy) (by simpa using euz) fun g b1 b2 b3 b4 b5 b6 b7 => ?_
    refine ⟨_, rfl, ?_⟩
    have zlt : n + 5 < s.heap.objs.size := Heap.lt_size h1
    cases tg with
    | Tuple es kk pp =>
      refine wpAny_letOwnedTupleGo_zip b1 fun g' c1 sb => ?_
      have new : IsTri g' s.heap.objs.size ux uy uz := sb.extBut _ _ (Nat.ne_of_gt zlt) b6
      have I1 : Inv X pins σ (upd H s.heap.objs.size (.tup [x, y, z])) { s with heap := g' } := by
        refine I.turnedNew (t' := s.toks) (L := [n + 5, n + 4, n, n + 1, n + 2, n + 3]) (fun c o hcn e => ?_) hf (Nat.le_refl _) ⟨by show 3 <= sizeLine; decide, [ux, uy, uz], .cons rux (.cons ruy (.cons ruz .nil)), ⟨_, new, rfl, ⟨0, rfl⟩, rfl⟩⟩
        simp only [List.mem_cons, List.not_mem_nil, or_false, not_or] at hcn
        exact sb.extBut c o hcn.1 (b7 c o hcn.1 hcn.2.1 hcn.2.2.1 hcn.2.2.2.1 hcn.2.2.2.2.1 e)
      have h2' : IsTri g' (n + 3) (.ref n) (.ref (n + 1)) (.ref (n + 2)) := sb.extBut _ _ (nn' (by decide)) (b7 _ _ (nn' (by decide)) (nn' (by decide)) (kn (by decide)) (nn' (by decide)) (nn' (by decide)) h2)
      refine ⟨.ref s.heap.objs.size, _, I1, rfl, ⟨_, I.fresh, rfl, x, y, z, rfl, fun xs' ys' zs' q1 q2 q3 => ⟨by rw [I.tuple_inj q1 qa]; exact hx, by rw [I.tuple_inj q2 qb]; exact hy, by rw [I.tuple_inj q3 qc]; exact hz⟩⟩, ⟨c1, h2', ⟨_, _, _, sb.extBut _ _ (nn' (by decide)) b2⟩, b3.extBut sb.extBut (nk (by decide)), b4.extBut sb.extBut (nn' (by decide)), b5.extBut sb.extBut (nn' (by decide))⟩, fun c hcm => ?_⟩
      obtain ⟨o, eo, _⟩ : ∃ o, s.heap.get? c = some o /\ True := by
        simp only [List.mem_cons, List.not_mem_nil, or_false] at hcm
        rcases hcm with rfl | rfl | rfl | rfl | rfl | rfl
        · exact ⟨_, h1, trivial⟩
        · exact ⟨_, h3, trivial⟩
        · obtain ⟨o4, g4, _⟩ := h4
          exact ⟨_, g4, trivial⟩
        · obtain ⟨o5, g5, _⟩ := h5
          exact ⟨_, g5, trivial⟩
        · obtain ⟨o6, g6, _⟩ := h6
          exact ⟨_, g6, trivial⟩
        · exact ⟨_, h2, trivial⟩
      rw [upd_ne (Nat.ne_of_lt (Heap.lt_size eo))]
      exact (hf c hcm).1
    | _ => exact absurd (show false = true from htg) Bool.false_ne_true
  done := by
    intro X hP hw hK hc i pins s σ H E I hf st hg
    subst hP hw hK
    obtain ⟨h1, h2, ⟨u, v, w', h3⟩, h4, h5, h6⟩ := st
    obtain ⟨xs, qa, hl⟩ := hg
    obtain ⟨its, rv, pa, _⟩ := I.tuple qa
    have e1 := rv.length
    refine Z3.next_stop (a := .none) (b := .none) (c := .none) (I.ok.hd hc) L1 h1 h2 h4 (show s.heap.IsTuple a its.toArray from pa) (by simp; omega) fun g up => ⟨rfl, ?_⟩
    refine I.turnedL (t' := s.toks) (L := [n + 5, n + 4, n, n + 1, n + 2, n + 3]) (fun c o hcn e => ?_) hf
    simp only [List.mem_cons, List.not_mem_nil, or_false, not_or] at hcn
    exact up c o hcn.1 hcn.2.1 hcn.2.2.1 hcn.2.2.2.1 hcn.2.2.2.2.1 e
  self := fun _ _ _ _ _ st h => wpAny_pyIter_zip st.1 h
section
variable {X : Cx} {tg : Expr}
theorem vals3 {x y z : V} {us : List Value} (h : Vals [x, y, z] us) : ∃ u v w, us = [u, v, w] /\ RelV x u /\ RelV y v /\ RelV z w := by
  cases h with
  | cons h1 h =>
    cases h with
    | cons h2 h =>
      cases h with
      | cons h3 h =>
        cases h
        exact ⟨_, _, _, rfl, h1, h2, h3⟩
def iZip3 (K : PySem.W.Frag) (ta : TA) : TI := fun σ H R => ta σ H fun vs H1 => ∃ a b c, vs = [.ref a, .ref b, .ref c] /\ (∃ xs, SqT K H1 a xs) /\ (∃ ys, SqT K H1 b ys) /\ (∃ zs, SqT K H1 c zs) /\ R (It3 K a b c) H1
theorem qi_zip3 {e1 e2 e3 : Expr} {ta : TA} {p pos : Pos} (htg : tupleTg tg = true) (hg : Gl X "zip") (hm : X.mg "zip" = none) (ha : QA X [e1, e2, e3] ta) (hs : starEach [e1, e2, e3] X.env = [(false, eval e1 X.env), (false, eval e2 X.env), (false, eval e3 X.env)] := by rfl) (hs2 : starEach [e2, e3] X.env = [(false, eval e2 X.env), (false, eval e3 X.env)] := by rfl)
    (hb : bootBuiltins "zip" = some (.type "zip") := by decide +kernel) : QI X tg (.Call (.Name "zip" p) [e1, e2, e3] [] pos) (iZip3 X.K ta) := ⟨by
  intro pins s σ H R I h
  refine Call_ (ld_blt I hg hm hb (PyProof.Rows.callWith_type1 (thn (ha.o pos pins s σ H _ I h) fun us s1 ⟨vs, H1, I1, r1, q1⟩ => ?_) (by rw [hs, hs2]) (by rw [hs2]; rfl)))
  obtain ⟨a, b, c, e, ⟨xs, qa⟩, ⟨ys, qb⟩, ⟨zs, qc⟩, q⟩ := q1
  subst e
  obtain ⟨u1, u2, u3, rfl, ra, rb, rc⟩ := vals3 r1
  cases ra
  cases rb
  cases rc
  obtain ⟨its, rv, pa, _⟩ := I1.tuple qa
  obtain ⟨jts, rw', pb, _⟩ := I1.tuple qb
  obtain ⟨kts, rz', pc, _⟩ := I1.tuple qc
  have la : a < s1.heap.objs.size := by obtain ⟨o, e, _⟩ := pa; exact Heap.lt_size e
  have lb : b < s1.heap.objs.size := by obtain ⟨o, e, _⟩ := pb; exact Heap.lt_size e
  have lc : c < s1.heap.objs.size := by obtain ⟨o, e, _⟩ := pc; exact Heap.lt_size e
  refine Z3.make (show s1.heap.IsTuple a its.toArray from pa) (show s1.heap.IsTuple b jts.toArray from pb) (show s1.heap.IsTuple c kts.toArray from pc) fun g z1 z2 z3 z4 z5 z6 up => ?_
  refine wpAny_pyIter_zip z1 ?_
  have I2 : Inv X pins σ H1 { s1 with heap := g } := I1.kept (t' := s1.toks) up
  refine ⟨_, [s1.heap.objs.size + 5, s1.heap.objs.size + 4, s1.heap.objs.size, s1.heap.objs.size + 1, s1.heap.objs.size + 2, s1.heap.objs.size + 3], _, _, H1, rfl, I2, turn_zip3 htg la lb lc, ⟨z1, z2, ⟨_, _, _, z3⟩, z4, z5, z6⟩, fun c hc => ?_, q⟩
  have big : s1.heap.objs.size <= c := by
    simp only [List.mem_cons, List.not_mem_nil, or_false] at hc
    rcases hc with rfl | rfl | rfl | rfl | rfl | rfl
    · exact Nat.le_add_right _ _
    · exact Nat.le_add_right _ _
    · exact Nat.le_refl _
    · exact Nat.le_add_right _ _
    · exact Nat.le_add_right _ _
    · exact Nat.le_add_right _ _
  exact I1.fpOk big (I1.hok.fresh big)⟩
end
end L2
namespace MinD
open PySem PyProof.Rows
end MinD
namespace L2
open PySem PySem.Spec PyProof.Rows
end L2
namespace W2
open PySem L2 Mth
theorem comp_list_if {K : PySem.W.Frag} {a D : Addr} {js : List (Option Nat)} {tc : TT} {te : TE} {σ : St} {H1 : Hp} {Q : VK} {xs : List V} {σ0 : St} {t : V -> Bool} (hn : xs.length <= sizeLine) (hp : ∃ u, pick js σ = u :: σ0) (hD : H1 D = none)
    (ha : H1 a = some (.lst xs))
    (ht : ∀ (x : V) (H' : Hp) (R : Bool -> Hp -> Prop), Same H1 H' -> x ∈ xs -> R (t x) H' -> tc (some x :: σ0) H' R)
    (hs : ∀ (x : V) (H' : Hp) (R : VK), Same H1 H' -> x ∈ xs -> t x = true -> R x H' -> te (some x :: σ0) H' R)
    (q : ∀ H', Same H1 H' -> H' D = some (.lst (xs.filter t)) -> Q (.ref D) H') : CompW (Itl K a) D js (gName 0) tc te σ H1 Q := by
  obtain ⟨u0, hp⟩ := hp
  refine comp_gen (n := xs.length) hn (fun i σ' H' zs => (∃ u : Option V, σ' = u :: σ0) /\ Same H1 H' /\ H' D = some (.lst zs) /\ zs.length <= i /\ zs = (xs.take i).filter t) ⟨⟨u0, hp⟩, Same.new hD, upd_same, Nat.le_refl _, rfl⟩ (fun i σ' H' zs _ ⟨_, _, h3, h4, _⟩ => ⟨h3, h4⟩) (fun i σ' H' zs hi ⟨_, s', _⟩ => ⟨_, xs[i], SqL.of (s' _ _ ha), List.getElem?_eq_getElem hi⟩) (fun σ' H' zs ⟨_, s', h3, _, e⟩ => ⟨⟨_, SqL.of (s' _ _ ha), Nat.le_refl _⟩, ?_⟩) ?_
  · refine q H' s' ?_
    rw [h3, e, List.take_length]
  · rintro i σ' H' zs x H2 hi ⟨⟨u, rfl⟩, s', h3, h4, e⟩ ⟨rfl, hx⟩
    have hx' := hx _ (SqL.of (s' _ _ ha))
    have hsn : (xs.take (i + 1)).filter t = (xs.take i).filter t ++ (if t x = true then [x] else []) := by
      rw [List.take_add_one, hx']
      simp only [Option.toList_some, List.filter_append]
      congr 1
      by_cases z : t x = true
      · simp [z]
      · simp [z]
    refine ht x _ _ s' (List.mem_of_getElem? hx') ?_
    cases hb' : t x with
    | true =>
      refine hs x _ _ s' (List.mem_of_getElem? hx') hb' ⟨h3, ⟨_, rfl⟩, ?_, upd_same, ?_, ?_⟩
      · intro c o e'
        rw [upd_ne (ne_of_none e' hD)]
        exact s' c o e'
      · rw [List.length_append]; show zs.length + 1 <= i + 1; omega
      · rw [hsn, e]
        simp [hb']
    | false =>
      refine ⟨h3, ⟨_, rfl⟩, s', h3, by omega, ?_⟩
      rw [hsn, e]
      simp [hb']
end W2
namespace Mth
theorem cnt_40 {p n : Nat} (hp : 2 <= p) (hn : 1 <= n) (hb : n <= 1000000000000) : cnt p n < 40 := by
  have e := cnt_spec hp n hn
  have h1 : p ^ cnt p n <= n := by
    have hs := strip_pos hp n hn
    calc p ^ cnt p n <= p ^ cnt p n * strip p n := Nat.le_mul_of_pos_right _ hs
      _ = n := e.symm
  have h2 : 2 ^ cnt p n <= p ^ cnt p n := Nat.pow_le_pow_left hp _
  have h3 : 2 ^ cnt p n < 2 ^ 40 := by
    have : (1000000000000 : Nat) < 2 ^ 40 := by decide
    omega
  exact (Nat.pow_lt_pow_iff_right (by decide)).mp h3
theorem chg_40 {i j : Nat} (hi : 1 <= i) (hj : 1 <= j) (bi : i <= 1000000000000) (bj : j <= 1000000000000) {x : Int} (h : x ∈ chg i j) : -40 < x /\ x < 40 := by
  obtain ⟨k, hk⟩ := List.getElem?_of_mem h
  unfold chg at hk
  rw [List.getElem?_zipWith_eq_some] at hk
  obtain ⟨a, b, ha, hb, rfl⟩ := hk
  have hm := List.mem_of_getElem? ha
  have hm' := List.mem_of_getElem? hb
  unfold powsOf at hm hm'
  obtain ⟨p, hp, rfl⟩ := List.mem_map.mp hm
  obtain ⟨p', hp', rfl⟩ := List.mem_map.mp hm'
  have := cnt_40 (two_le p hp) hi bi
  have := cnt_40 (two_le p' hp') hj bj
  omega
def FitI (p c a : List Int) (i : Nat) (m : Int) : Prop := 0 <= m /\ m <= 1000 /\ (∀ j, j < i -> ∀ x y z : Int, p[j]? = some x -> c[j]? = some y -> a[j]? = some z -> 0 < -z - x -> 0 < y /\ -z - x <= m * y) /\ (m = 0 ∨ ∃ (j : Nat) (x y z : Int), p[j]? = some x /\ c[j]? = some y /\ a[j]? = some z /\ 0 < y /\ (m - 1) * y < -z - x)
theorem FitI.start {p c a : List Int} : FitI p c a 0 0 := ⟨Int.le_refl _, by decide, fun j h => absurd h (by omega), .inl rfl⟩
theorem fstI_ahead : ∀ {rows : List (List Int)} {p : List Int} {i : Nat}, fstI rows p = some i -> ∀ j, j < i -> ∀ a, rows[j]? = some a -> fitsB a p = false
  | [], _, _, h => by cases h
  | c :: r, p, i, h => by
    unfold fstI at h
    by_cases hc : fitsB c p = true
    · rw [if_pos hc] at h
      cases h
      intro j hj
      omega
    · rw [if_neg hc] at h
      cases e : fstI r p with
      | none => rw [e] at h; cases h
      | some i' =>
        rw [e] at h
        have hi : i' + 1 = i := Option.some.inj h
        subst hi
        intro j hj a ha
        cases j with
        | zero => cases ha; exact Bool.eq_false_iff.mpr hc
        | succ j => exact fstI_ahead e j (by omega) a (by simpa using ha)
end Mth
namespace L2
open PySem PySem.Spec PyProof.Rows
end L2
namespace L2
open PySem
end L2
namespace L2
open PySem
theorem ix_listN {X : Cx} {K : PySem.W.Frag} (hK : X.K = K) : IxR X (rIxL K) := by
  subst hK
  exact ix_list
end L2
namespace Mth
end Mth
namespace Mth
theorem termB_prod7 {es : List Nat} (h : es.sum <= 7) : termB (prod es : Nat) = true := by
  unfold termB
  have h1 := prod_pos es
  have h2 := prod_le es
  have h3 : 29 ^ es.sum <= 29 ^ 7 := Nat.pow_le_pow_right (by decide) h
  have h4 : (29 : Nat) ^ 7 = 17249876309 := by decide
  rw [Bool.and_eq_true, Bool.and_eq_true, decide_eq_true_iff, decide_eq_true_iff, decide_eq_true_iff]
  refine ⟨⟨by omega, by omega⟩, ?_⟩
  rw [Int.toNat_natCast]
  exact stripAll_prod es
theorem fracB_prod7 {es fs : List Nat} (h1 : es.sum <= 7) (h2 : fs.sum <= 7) (h : ∀ k, es.getD k 0 = 0 ∨ fs.getD k 0 = 0) : fracB (prod es : Nat) (prod fs : Nat) = true := by
  unfold fracB
  rw [termB_prod7 h1, termB_prod7 h2, Int.toNat_natCast, Int.toNat_natCast, noShare_prod h]
  rfl
end Mth
namespace L2
open PySem PySem.Spec PyProof.Rows
end L2
namespace Itm
open PySem PyProof.Rows
end Itm
namespace L2
open PySem PySem.Spec PyProof.Rows
end L2
namespace Rev
open PySem PyProof.Rows
end Rev
namespace L2
open PySem PySem.Spec PyProof.Rows
end L2
namespace MinT
open PySem PyProof.Rows
open PySem.SeqAt
open PySem.AutoSeq1 (wpAny_loadPart')
open PySem.MeetsSeq PySem.MeetsSeq2 PySem.MeetsSeq3
def lt2 (a b : Int × Int) : Bool := decide (a.1 < b.1 ∨ (a.1 = b.1 /\ a.2 < b.2))
abbrev tupO (items : Array Value) (n : Nat) (dd : Option Addr) (sl : Array (Option Value)) : Obj := { cls := .type "tuple", dict := dd, data := .seq items n, slots := sl }
theorem tup_lt2 (l b : Addr) (items items2 : Array Value) (n n2 : Nat) (dd dd2 : Option Addr) (sl sl2 : Array (Option Value)) {a1 a2 b1 b2 : Int} {t1 t2 u1 u2 : Tok} {r1 r2 : List Value} (hi : items.toList = .int a1 t1 :: .int a2 t2 :: r1) (hj : items2.toList = .int b1 u1 :: .int b2 u2 :: r2) (hne : ¬ (a1 = b1 /\ a2 = b2)) :
    Meets (Builtin.«tuple.__lt__» ⟨[.ref l, .ref b], []⟩) (fun _ R s => s.heap.get? l = some (tupO items n dd sl) /\ s.heap.get? b = some (tupO items2 n2 dd2 sl2) /\ R (.ok (.ret (.bool (lt2 (a1, a2) (b1, b2))))) s) :=
  .of_wp fun prog w A R s h => by
    obtain ⟨hp, g, d, tk, os⟩ := s
    obtain ⟨hl, hb, h⟩ := h
    have f2 := AutoSeq1.sub_tuple_tuple
    wp_walk using wpAny_loadPart' hl, wpAny_loadPart' hb, wpAny_forIn_list _ (fun rest b s' => b.1 = none /\ s' = ⟨hp, g, d, tk, os⟩ /\ (rest = (Value.int a1 t1, Value.int b1 u1) :: (Value.int a2 t2, Value.int b2 u2) :: r1.zip r2 ∨ (a1 = b1 /\ rest = (Value.int a2 t2, Value.int b2 u2) :: r1.zip r2))) _
    case turn =>
      rintro ⟨y, x⟩ rest b s' ⟨hb', rfl, hz⟩
      rcases hz with hz | ⟨e1, hz⟩
      · injection hz with hyx hrest
        injection hyx with hy hx
        subst hy hx
        obtain ⟨e, he, hiff⟩ := HT.eqAt_int A.in1 ⟨hp, g, d, tk, os⟩ a1 t1 b1 u1
        refine wpAny_bind (he prog w _ _ ?_)
        cases e with
        | true =>
          wp_walk
          exact ⟨rfl, rfl, .inr ⟨hiff.mp rfl, hrest⟩⟩
        | false =>
          have hn : a1 ≠ b1 := fun q => absurd (hiff.mpr q) Bool.false_ne_true
          have hri := HT.rcLt_int A.in1 ⟨hp, g, d, tk, os⟩ a1 t1 b1 u1 prog w
          have el : lt2 (a1, a2) (b1, b2) = decide (a1 < b1) := by
            unfold lt2
            simp [hn]
          rw [el] at h
          wp_walk using hri
          exact ⟨_, rfl, by simpa using h⟩
      · injection hz with hyx hrest
        injection hyx with hy hx
        subst hy hx
        obtain ⟨e, he, hiff⟩ := HT.eqAt_int A.in1 ⟨hp, g, d, tk, os⟩ a2 t2 b2 u2
        refine wpAny_bind (he prog w _ _ ?_)
        cases e with
        | true => exact absurd ⟨e1, hiff.mp rfl⟩ hne
        | false =>
          have hri := HT.rcLt_int A.in1 ⟨hp, g, d, tk, os⟩ a2 t2 b2 u2 prog w
          have el : lt2 (a1, a2) (b1, b2) = decide (a2 < b2) := by
            unfold lt2
            simp [e1]
          rw [el] at h
          wp_walk using hri
          exact ⟨_, rfl, by simpa using h⟩
    case fin =>
      rintro ⟨b1', b2'⟩ s' ⟨hb', rfl, hz⟩
      rcases hz with hz | ⟨_, hz⟩ <;> cases hz
    case h =>
      refine ⟨rfl, rfl, .inl ?_⟩
      rw [hi, hj]
      rfl
section
variable {prog : Program} {w : World} {A : Around} {E : Value -> Shared -> Prop} {s : Shared}
def Beg (h : Heap) (v : Value) (p : Int × Int) : Prop := ∃ a items t u r, v = .ref a /\ h.IsTuple a items /\ items.toList = .int p.1 t :: .int p.2 u :: r
theorem cmp2 {v v' : Value} {p q : Int × Int} {Q : Value -> Shared -> Prop} (hv : Beg s.heap v p) (hv' : Beg s.heap v' q) (hne : p ≠ q) (hu : A.units < cLine) (h : Q (.bool (lt2 p q)) s) : wpAny (model prog w) A (richCompare .Lt v v') Q E s := by
  obtain ⟨a, items, t, u, r, rfl, ht, hi⟩ := hv
  obtain ⟨b, items2, t', u', r', rfl, ht', hj⟩ := hv'
  obtain ⟨⟨cls, dd, data, sl⟩, ho, hc, n, hd⟩ := id ht
  obtain ⟨⟨cls2, dd2, data2, sl2⟩, ho2, hc2, n2, hd2⟩ := id ht'
  simp only at hc hd hc2 hd2
  subst hc hd hc2 hd2
  exact richCompare_meets_room (op := .Lt) ⟨_, ho, rfl⟩ ⟨_, ho2, rfl⟩ PySem.F.slot_tuple_lt PySem.F.entry_tuple_lt (PySem.F.args_tuple_lt_2 _ _) (tup_lt2 a b items items2 n n2 dd dd2 sl sl2 hi hj fun z => hne (Prod.ext z.1 z.2)) ⟨ho, ho2, show Value.bool (lt2 p q) ≠ Value.notImplemented /\ Q (.bool (lt2 p q)) s from ⟨(fun x => nomatch x), h⟩⟩ hu
end
theorem best_le (bt : Nat -> Nat -> Bool) : ∀ k, argBest bt k <= k
  | 0 => Nat.le_refl _
  | k + 1 => by
    simp only [argBest]
    split
    · exact Nat.le_refl _
    · exact Nat.le_succ_of_le (best_le bt k)
section
variable {prog : Program} {w : World} {A : Around} {R : Result -> Shared -> Prop} {I : Addr} {fp wr : List Addr} {n : Nat} {P : Nat -> Value -> Prop} {St : Nat -> Heap -> Prop}
theorem more (W : Walks prog w A.in1 I fp wr n P St) (bt : Nat -> Nat -> Bool) (hcmp : ∀ i j vi vj (s : Shared) (k : Nat) (Q : Value -> Shared -> Prop) (E : Value -> Shared -> Prop), P i vi -> P j vj -> i ≠ j -> St k s.heap -> Q (.bool (bt i j)) s -> wpAny (model prog w) A.in1 (richCompare .Lt vi vj) Q E s) (S : Addr) (hSf : S ∉ fp) (kw : List (Str × Value)) :
    ∀ (k j : Nat) (s : Shared) (vb : Value) (c : Nat), n - (j + 1) = k -> j + 1 <= n -> St (j + 1) s.heap -> P (argBest bt j) vb ->
    s.heap.get? S = some { cls := .type "list", dict := none, data := .seq #[vb, vb] c, slots := #[] } ->
    (∀ v h' tk, P (argBest bt (n - 1)) v -> (∀ b o, b ∉ wr -> b ≠ S -> s.heap.get? b = some o -> h'.get? b = some o) -> R (.ok (.ret v)) { s with heap := h', toks := tk }) ->
    codeAny (model prog w) A (.builtin "min.loop" ⟨[.ref I, .none, .ref S], kw⟩) R s := by
  have hSw : S ∉ wr := fun h => hSf (W.sub _ h)
  have hname : (toString "min" ++ toString ".loop" : String) = "min.loop" := by decide
  intro k
  induction k with
  | zero =>
    intro j s vb c hk hj hst hPb hS hR
    have hin : j + 1 = n := by omega
    refine codeAny_builtin F.entry_min_loop ?_
    rw [Around.under_plainId F.plain_min_loop _]
    show wpAny _ A.in1 (seqItems? (.ref S) >>= _) _ _ s
    refine wpAny_bind (wpAny_seqItems hS rfl ?_)
    show wpAny _ A.in1 (tryCatch (pyNext (.ref I)) _ >>= _) _ _ s
    refine wpAny_bind (wpAny_tryCatch (W.done s _ _ (hin ▸ hst) fun h' tk hk' => ?_))
    have hS' := hk' S _ hSw hS
    show wpAny _ A.in1 (updateSeq S (fun _ => #[]) >>= _) _ _ _
    refine wpAny_bind ?_
    refine wpAny_updateSeq hS' rfl (wpAny_bind (wpAny_letGo (wpAny_pure ?_)))
    refine hR vb _ tk (by rw [← hin]; exact hPb) fun b o hbw hbS e => (Heap.get?_update_other _ _ (Ne.symm hbS)).trans (hk' b o hbw e)
  | succ k ih =>
    intro j s vb c hk hj hst hPb hS hR
    have hlt : j + 1 < n := by omega
    refine codeAny_builtin F.entry_min_loop ?_
    rw [Around.under_plainId F.plain_min_loop _]
    show wpAny _ A.in1 (seqItems? (.ref S) >>= _) _ _ s
    refine wpAny_bind (wpAny_seqItems hS rfl ?_)
    show wpAny _ A.in1 (tryCatch (pyNext (.ref I)) _ >>= _) _ _ s
    refine wpAny_bind (wpAny_tryCatch (W.item (j + 1) s _ _ hlt hst fun v h' tk hP hst' hk' => ?_))
    have hS' := hk' S _ hSw hS
    show wpAny _ A.in1 (tryCatch (holding [v, v] (richCompare .Lt v vb >>= _)) _ >>= _) _ _ _
    refine wpAny_bind (wpAny_tryCatch (wpAny_holding (wpAny_bind (hcmp (j + 1) (argBest bt j) v vb _ _ _ _ hP hPb (Nat.ne_of_gt (Nat.lt_succ_of_le (best_le bt j))) hst' ?_))))
    refine wpAny_bind (wpAny_holding (wpAny_truthy_bool ?_))
    refine wpAny_bind (wpAny_letGo (wpAny_pure ?_))
    cases hb : bt (j + 1) (argBest bt j) with
    | true =>
      simp only [if_true]
      refine wpAny_bind ?_
      refine wpAny_updateSeq hS' rfl (wpAny_bind (wpAny_letGo ?_))
      rw [hname]
      refine wpAny_pure ⟨plainId_quiet F.plain_min_loop _, ih (j + 1) _ v _ (by omega) hlt (W.frame _ _ _ hst' fun b hbf o e => ?_) (by simp only [argBest, hb, if_true]; exact hP) (Heap.get?_update_self _ hS' rfl)
        fun v' h'' tk'' hP' hk'' => ?_⟩
      · exact (Heap.get?_update_other _ _ (fun h : S = b => hSf (by rw [h]; exact hbf))).trans e
      · exact hR v' h'' tk'' hP' fun b o hbw hbS e => hk'' b o hbw hbS ((Heap.get?_update_other _ _ (Ne.symm hbS)).trans (hk' b o hbw e))
    | false =>
      simp only [Bool.false_eq_true, if_false]
      refine wpAny_bind (wpAny_letGo ?_)
      rw [hname]
      refine wpAny_pure ⟨plainId_quiet F.plain_min_loop _, ih (j + 1) _ vb c (by omega) hlt hst' (by simp only [argBest, hb, Bool.false_eq_true, if_false]; exact hPb) hS' fun v' h'' tk'' hP' hk'' => ?_⟩
      exact hR v' h'' tk'' hP' fun b o hbw hbS e => hk'' b o hbw hbS (hk' b o hbw e)
theorem first (W : Walks prog w A.in1 I fp wr n P St) (bt : Nat -> Nat -> Bool) (hcmp : ∀ i j vi vj (s : Shared) (k : Nat) (Q : Value -> Shared -> Prop) (E : Value -> Shared -> Prop), P i vi -> P j vj -> i ≠ j -> St k s.heap -> Q (.bool (bt i j)) s -> wpAny (model prog w) A.in1 (richCompare .Lt vi vj) Q E s) (S : Addr) (hSf : S ∉ fp) (kw : List (Str × Value)) (hn : 0 < n) {s : Shared} {c : Nat} (hst : St 0 s.heap)
    (hS : s.heap.get? S = some { cls := .type "list", dict := none, data := .seq #[] c, slots := #[] })
    (hR : ∀ v h' tk, P (argBest bt (n - 1)) v -> (∀ b o, b ∉ wr -> b ≠ S -> s.heap.get? b = some o -> h'.get? b = some o) -> R (.ok (.ret v)) { s with heap := h', toks := tk }) :
    codeAny (model prog w) A (.builtin "min.loop" ⟨[.ref I, .none, .ref S], kw⟩) R s := by
  have hSw : S ∉ wr := fun h => hSf (W.sub _ h)
  have hname : (toString "min" ++ toString ".loop" : String) = "min.loop" := by decide
  refine codeAny_builtin F.entry_min_loop ?_
  rw [Around.under_plainId F.plain_min_loop _]
  show wpAny _ A.in1 (seqItems? (.ref S) >>= _) _ _ s
  refine wpAny_bind (wpAny_seqItems hS rfl ?_)
  show wpAny _ A.in1 (tryCatch (pyNext (.ref I)) _ >>= _) _ _ s
  refine wpAny_bind (wpAny_tryCatch (W.item 0 s _ _ hn hst fun v h' tk hP hst' hk' => ?_))
  have hS' := hk' S _ hSw hS
  show wpAny _ A.in1 (updateSeq S (fun _ => #[v, v]) >>= _) _ _ _
  refine wpAny_bind ?_
  refine wpAny_updateSeq hS' rfl ?_
  rw [hname]
  refine wpAny_pure ⟨plainId_quiet F.plain_min_loop _, more W bt hcmp S hSf kw _ 0 _ v _ rfl hn (W.frame _ _ _ hst' fun b hbf o e => ?_) hP (Heap.get?_update_self _ hS' rfl) fun v' h'' tk'' hP' hk'' => ?_⟩
  · exact (Heap.get?_update_other _ _ (fun h : S = b => hSf (by rw [h]; exact hbf))).trans e
  · exact hR v' h'' tk'' hP' fun b o hbw hbS e => hk'' b o hbw hbS ((Heap.get?_update_other _ _ (Ne.symm hbS)).trans (hk' b o hbw e))
end
section
variable {prog : Program} {w : World} {A : Around} {E : Value -> Shared -> Prop} {s : Shared}
theorem call_walk {x : Value} {Q : Value -> Shared -> Prop}
    (h : wpAny (model prog w) A.in1 (pyIter x) (fun it s₂ => ∃ I fp wr n P St bt, it = .ref I /\ Walks prog w A.in1 I fp wr n P St /\ St 0 s₂.heap /\ (∀ b ∈ fp, b < s₂.heap.objs.size) /\ 0 < n /\ (∀ i j vi vj (s : Shared) (k : Nat) (Q : Value -> Shared -> Prop) (E : Value -> Shared -> Prop), P i vi -> P j vj -> i ≠ j -> St k s.heap -> Q (.bool (bt i j)) s -> wpAny (model prog w) A.in1 (richCompare .Lt vi vj) Q E s) /\
      ∀ v h' tk, P (argBest bt (n - 1)) v -> (∀ b o, b ∉ wr -> s₂.heap.get? b = some o -> h'.get? b = some o) -> Q v { s₂ with heap := h', toks := tk }) E s) : wpAny (model prog w) A (call (.builtin "min") [x]) Q E s := by
  have hname : (toString "min" ++ toString ".loop" : String) = "min.loop" := by decide
  refine call_function_tree F.kind_min F.plain_min F.entry_min (F.args_min1 x) ?_
  show wpAny _ A.in1 (Builtin.Builtins.bindParams "min" ["key", "default"] 0 ⟨[], []⟩ >>= _) _ _ s
  refine wpAny_bind (wpAny_of_eq (show Builtin.Builtins.bindParams "min" ["key", "default"] 0 ⟨[], []⟩ = pure [none, none] from rfl) (wpAny_bind (wpAny_pure ?_)))
  refine wpAny_bind (wpAny_mono h (fun it s₂ h₂ => ?_) fun _ _ e => e)
  obtain ⟨I, fp, wr, n, P, St, bt, rfl, W, hst, hfp, hn, hcmp, hQ⟩ := h₂
  refine wpAny_bind (wpAny_newObj_type ?_)
  have hSf : s₂.heap.objs.size ∉ fp := fun hm => Nat.lt_irrefl _ (hfp _ hm)
  rw [hname]
  refine wpAny_pure ⟨plainId_quiet F.plain_min_loop _, first W bt hcmp s₂.heap.objs.size hSf _ hn (W.frame _ _ _ hst fun b _ o e => Heap.get?_push_of_some _ e) (Heap.get?_push_size _ rfl) fun v h' tk hP hk => ?_⟩
  exact hQ v h' tk hP fun b o hbw e => hk b o hbw (Nat.ne_of_lt (Heap.lt_size e)) (Heap.get?_push_of_some _ e)
theorem walk {I l : Addr} {items : Array Value} {ps : List (Int × Int)} {tv : List Addr} (hd : A.handled = none) (hne : l ≠ I) (hI : I ∉ tv) : Walks prog w A I (I :: l :: tv) [I] items.size (fun i v => items[i]? = some v) (fun i h => (h.IsListIter I l i /\ h.IsList l items) /\ ∀ (k : Nat) v, items[k]? = some v -> ∃ a ∈ tv, v = .ref a /\ ∃ p, ps[k]? = some p /\ Beg h v p) := by
  have W := Walks.list (prog := prog) (w := w) (A := A) hd I l hne items
  have keep : ∀ {h h' : Heap}, (∀ b ∈ tv, ∀ o, h.get? b = some o -> h'.get? b = some o) -> (∀ (k : Nat) v, items[k]? = some v -> ∃ a ∈ tv, v = .ref a /\ ∃ p, ps[k]? = some p /\ Beg h v p) -> ∀ (k : Nat) v, items[k]? = some v -> ∃ a ∈ tv, v = .ref a /\ ∃ p, ps[k]? = some p /\ Beg h' v p := fun {h h'} kk hb k v hv => by
    obtain ⟨a, ha, e, p, hp, a', its, t, u, r, e', ⟨o, ho, rest⟩, hit⟩ := hb k v hv
    refine ⟨a, ha, e, p, hp, a', its, t, u, r, e', ⟨o, kk _ ?_ _ ho, rest⟩, hit⟩
    rw [e] at e'
    cases e'
    exact ha
  refine ⟨fun b hb => ?_, fun i h h' st hk => ⟨W.frame i h h' st.1 fun b hb o e => hk b ?_ o e, keep (fun b hb o e => hk b (by simp [hb]) o e) st.2⟩, fun i s Q E hi st hQ => ?_, fun s Q E st hQ => ?_, fun i s Q E st hQ => W.self i s Q E st.1 hQ⟩
  · rw [List.mem_singleton] at hb
    rw [hb]
    exact List.mem_cons_self
  · simp only [List.mem_cons, List.not_mem_nil, or_false] at hb
    rcases hb with rfl | rfl <;> simp
  · refine W.item i s Q E hi st.1 fun v h' tk hv st' kk => hQ v h' tk hv ⟨st', keep (fun b hb o e => kk b o (fun z => ?_) e) st.2⟩ kk
    rw [List.mem_singleton] at z
    exact hI (z ▸ hb)
  · exact W.done s Q E st.1 hQ
end
end MinT
namespace MinT
theorem lt2_iff {a b : Int × Int} : lt2 a b = true ↔ (a.1 < b.1 ∨ (a.1 = b.1 /\ a.2 < b.2)) := by
  unfold lt2
  rw [decide_eq_true_eq]
theorem best2 (num : Nat -> Int × Int) : ∀ k, ∀ j, j <= k -> num (PySem.argBest (fun i j => lt2 (num i) (num j)) k) = num j ∨ lt2 (num (PySem.argBest (fun i j => lt2 (num i) (num j)) k)) (num j) = true
  | 0, j, h => by
    have : j = 0 := by omega
    subst this
    exact .inl rfl
  | k + 1, j, h => by
    have ih := best2 num k
    simp only [PySem.argBest]
    generalize PySem.argBest (fun i j => lt2 (num i) (num j)) k = m at *
    by_cases hc : lt2 (num (k + 1)) (num m) = true
    · rw [if_pos hc]
      by_cases e : j = k + 1
      · exact .inl (by rw [e])
      · refine .inr ?_
        rcases ih j (by omega) with z | z
        · rw [← z]; exact hc
        · rw [lt2_iff] at *
          omega
    · rw [if_neg hc]
      by_cases e : j = k + 1
      · subst e
        rw [lt2_iff] at hc
        by_cases z : num m = num (k + 1)
        · exact .inl z
        · refine .inr ?_
          rw [lt2_iff]
          have : ¬ ((num m).1 = (num (k + 1)).1 /\ (num m).2 = (num (k + 1)).2) := fun y => z (Prod.ext y.1 y.2)
          omega
      · exact ih j (by omega)
end MinT
namespace L2
open PySem PySem.Spec PyProof.Rows
def PrsV (H : Hp) (xs : List V) (ps : List (Int × Int)) : Prop := xs.length = ps.length /\ ∀ (k : Nat) x, xs[k]? = some x -> ∃ a i j r, x = .ref a /\ ps[k]? = some (i, j) /\ H a = some (.tup (.int i :: .int j :: r))
section
variable {X : Cx}
theorem call_min2T (hu : X.A.units + 1 < cLine) (hc : X.calm = true) : CallR X (.builtin "min") (fun vs H Q => ∃ l xs ps, vs = [.ref l] /\ H l = some (.lst xs) /\ 0 < xs.length /\ PrsV H xs ps /\ ps.Nodup /\ ∀ (k : Nat) v p, xs[k]? = some v -> ps[k]? = some p -> (∀ q ∈ ps, p = q ∨ MinT.lt2 p q = true) -> Q v H) := by
  intro pins s σ H xs us Q I r h
  obtain ⟨l, xs, ps, rfl, hl, h0, ⟨hlen, hP⟩, hnd, q⟩ := h
  obtain ⟨u, rfl, rx⟩ := vals1 r
  cases rx
  obtain ⟨z, its, n, rv, _, e0⟩ := I.lstM hl
  have hL : s.heap.IsList l its.toArray := ⟨_, e0, rfl, n, rfl⟩
  have ll : l < s.heap.objs.size := Heap.lt_size e0
  have e1 := rv.length
  let tv : List Addr := its.filterMap fun v => match v with | .ref a => some a | _ => none
  have beg : ∀ (k : Nat) v, its.toArray[k]? = some v -> ∃ a ∈ tv, v = .ref a /\ a < s.heap.objs.size /\ ∃ p, ps[k]? = some p /\ MinT.Beg s.heap v p := fun k v hv => by
    have hv' : its[k]? = some v := by simpa using hv
    have hk : k < xs.length := by rw [e1]; exact (List.getElem?_eq_some_iff.mp hv').1
    obtain ⟨u, hu', ru⟩ := rv.get (List.getElem?_eq_getElem hk)
    rw [hv'] at hu'
    cases hu'
    obtain ⟨a, i, j, r, ex, hp, ha⟩ := hP k _ (List.getElem?_eq_getElem hk)
    rw [ex] at ru
    cases ru
    obtain ⟨ts, rt, pt, _⟩ := I.tuple (SqT.of ha)
    have pt' : s.heap.IsTuple a ts.toArray := pt
    refine ⟨a, List.mem_filterMap.mpr ⟨.ref a, List.mem_of_getElem? hv', rfl⟩, rfl, ?_, (i, j), hp, ?_⟩
    · obtain ⟨o, e, _⟩ := pt'
      exact Heap.lt_size e
    · cases rt with
      | cons x1 rt =>
        cases rt with
        | cons x2 rt =>
          obtain ⟨t, rfl⟩ := x1
          obtain ⟨t', rfl⟩ := x2
          exact ⟨a, _, t, t', _, rfl, pt', rfl⟩
  have tvl : ∀ a ∈ tv, a < s.heap.objs.size := fun a ha => by
    obtain ⟨v, hv, e⟩ := List.mem_filterMap.mp ha
    obtain ⟨k, hk⟩ := List.getElem?_of_mem hv
    obtain ⟨a', _, rfl, ha', _⟩ := beg k v (by simpa using hk)
    cases e
    exact ha'
  have sz : its.toArray.size = ps.length := by rw [List.size_toArray, ← e1, hlen]
  refine MinT.call_walk (wpAny_pyIter_list hL ?_)
  refine ⟨s.heap.objs.size, s.heap.objs.size :: l :: tv, [s.heap.objs.size], its.toArray.size, _, _, fun i j => MinT.lt2 (ps.getD i (0, 0)) (ps.getD j (0, 0)), rfl, MinT.walk (ps := ps) (tv := tv) (A := X.A.in1) (I.ok.hd hc) (Nat.ne_of_lt ll) (fun y => Nat.lt_irrefl _ (tvl _ y)), ⟨⟨⟨_, Heap.get?_push_size _ rfl, rfl, rfl⟩, hL.push _⟩, fun k v hv => ?_⟩, fun b hb => ?_, by rw [List.size_toArray, ← e1]; exact h0, fun i j vi vj s' k Q' E' hi hj hij st hq => ?_, fun v h' tk hv hk => ?_⟩
  · obtain ⟨a, ha, e, _, p, hp, a', ts, t, u, r, e', ht, hit⟩ := beg k v hv
    exact ⟨a, ha, e, p, hp, a', ts, t, u, r, e', ht.push _, hit⟩
  · show b < (s.heap.push _).objs.size
    rw [Heap.size_push]
    rcases List.mem_cons.mp hb with rfl | hb
    · exact Nat.lt_succ_self _
    · rcases List.mem_cons.mp hb with rfl | hb
      · exact Nat.lt_succ_of_lt ll
      · exact Nat.lt_succ_of_lt (tvl b hb)
  · obtain ⟨_, _, _, p, hp, bp⟩ := st.2 i vi hi
    obtain ⟨_, _, _, p', hp', bp'⟩ := st.2 j vj hj
    have g1 : ps.getD i (0, 0) = p := by rw [List.getD_eq_getElem?_getD, hp]; rfl
    have g2 : ps.getD j (0, 0) = p' := by rw [List.getD_eq_getElem?_getD, hp']; rfl
    have hq' : Q' (.bool (MinT.lt2 (ps.getD i (0, 0)) (ps.getD j (0, 0)))) s' := hq
    rw [g1, g2] at hq'
    refine MinT.cmp2 bp bp' (fun z => hij ?_) hu hq'
    subst z
    exact (List.getElem?_inj (List.getElem?_eq_some_iff.mp hp).1 hnd).mp (by rw [hp, hp'])
  · have up : ∀ b o, s.heap.get? b = some o -> h'.get? b = some o := fun b o y => hk b o (fun z => by
      rw [List.mem_singleton] at z
      exact Nat.lt_irrefl _ (z ▸ Heap.lt_size y)) (Heap.get?_push_of_some _ y)
    have hm : PySem.argBest (fun i j => MinT.lt2 (ps.getD i (0, 0)) (ps.getD j (0, 0))) (its.toArray.size - 1) <= its.toArray.size - 1 := MinT.best_le _ _
    have hb := MinT.best2 (fun i => ps.getD i (0, 0)) (its.toArray.size - 1)
    generalize PySem.argBest (fun i j => MinT.lt2 (ps.getD i (0, 0)) (ps.getD j (0, 0))) (its.toArray.size - 1) = m at *
    have hmx : m < xs.length := by omega
    have hmp : m < ps.length := by omega
    have hv' : its[m]? = some v := by simpa using hv
    obtain ⟨u, hu', ru⟩ := rv.get (List.getElem?_eq_getElem hmx)
    rw [hv'] at hu'
    cases hu'
    refine ⟨xs[m], H, I.kept (t' := tk) up, ru, q m _ ps[m] (List.getElem?_eq_getElem hmx) (List.getElem?_eq_getElem hmp) fun p hp => ?_⟩
    obtain ⟨j, hj⟩ := List.getElem?_of_mem hp
    have hjl := (List.getElem?_eq_some_iff.mp hj).1
    have := hb j (by omega)
    have g1 : ps.getD m (0, 0) = ps[m] := by rw [List.getD_eq_getElem?_getD, List.getElem?_eq_getElem hmp]; rfl
    have g2 : ps.getD j (0, 0) = p := by rw [List.getD_eq_getElem?_getD, hj]; rfl
    rw [g1, g2] at this
    exact this
end
end L2
namespace Mth
end Mth
namespace L2
open PySem PySem.Spec PyProof.Rows
theorem comp_genW {J : It} {n : Nat} {D : Addr} {js : List (Option Nat)} {g : TG} {tc : TT} {te : TE} {σ : St} {H1 : Hp} {Q : VK} (hn : n <= sizeLine) (Pv : Nat -> St -> Hp -> List V -> Prop) (h0 : Pv 0 (pick js σ) (upd H1 D (.lst [])) [])
    (hp : ∀ i σ' H' ys, i <= n -> Pv i σ' H' ys -> H' D = some (.lst ys) /\ ys.length <= i) (hgo : ∀ i σ' H' ys, i < n -> Pv i σ' H' ys -> J.go i H') (hst : ∀ σ' H' ys, Pv n σ' H' ys -> J.stop n H' /\ Q (.ref D) H')
    (hs : ∀ i σ' H' ys x H2, i < n -> Pv i σ' H' ys -> J.yld i H' x H2 -> g x σ' H2 fun σ2 H3 => tc σ2 H3 fun k H5 =>
      if k = true then te σ2 H5 fun y H4 => H4 D = some (.lst ys) /\ Pv (i + 1) σ2 (upd H4 D (.lst (ys ++ [y]))) (ys ++ [y]) else H5 D = some (.lst ys) /\ Pv (i + 1) σ2 H5 ys) : CompW J D js g tc te σ H1 Q := comp_gen hn Pv h0 hp hgo hst hs
end L2
namespace L2
open PySem PySem.Spec PyProof.Rows
end L2
namespace Mth
end Mth
namespace L2
open PySem PySem.Spec PyProof.Rows
theorem ix_tupN {X : Cx} {K : PySem.W.Frag} (hK : X.K = K) : IxR X (rIxT K) := by
  subst hK
  exact ix_tup
end L2
namespace L2
open PySem PySem.Spec PyProof.Rows
section
variable {X : Cx}
theorem any_range (bs : List Bool) : ((List.range bs.length).any fun i => bs.getD i true) = bs.any id := by
  rw [Bool.eq_iff_iff, List.any_eq_true, List.any_eq_true]
  constructor
  · rintro ⟨i, hi, h⟩
    have hi' := List.mem_range.mp hi
    rw [List.getD_eq_getElem?_getD, List.getElem?_eq_getElem hi'] at h
    exact ⟨_, List.getElem_mem hi', h⟩
  · rintro ⟨b, hb, h⟩
    obtain ⟨i, hi, rfl⟩ := List.getElem_of_mem hb
    refine ⟨i, List.mem_range.mpr hi, ?_⟩
    rw [List.getD_eq_getElem?_getD, List.getElem?_eq_getElem hi]
    exact h
theorem b_any : bootBuiltins "any" = some (.builtin "any") := by decide +kernel
theorem call_any (hc : X.calm = true) : CallR X (.builtin "any") (fun xs H Q => ∃ (p : Addr) (bs : List Bool), xs = [.ref p] /\ SqL X.K H p (bs.map V.bl) /\ Q (.bl (bs.any id)) H) := by
  intro pins s σ H xs us Q I r h
  obtain ⟨p, bs, rfl, hq, q⟩ := h
  obtain ⟨u, rfl, ru⟩ := vals1 r
  cases ru
  obtain ⟨its, rv, pl, hz⟩ := I.list hq
  have ei := vals_bl rv
  subst ei
  have hp : p < s.heap.objs.size := by obtain ⟨_, _, e, _⟩ := pl; exact Heap.lt_size e
  have hd : X.A.in1.handled = none := I.ok.hd hc
  refine call_any_walk (wpAny_pyIter_list pl.isList ?_)
  refine ⟨s.heap.objs.size, _, _, _, _, _, (fun i => bs.getD i true), rfl, Walks.list hd s.heap.objs.size p (Nat.ne_of_lt hp) (bs.map Value.bool).toArray, ⟨⟨_, Heap.get?_push_size _ rfl, rfl, rfl⟩, pl.isList.push _⟩, ?_, ?_⟩
  · intro i v s' Q' E' hv hQ
    have hv' : (bs.map Value.bool)[i]? = some v := by simpa using hv
    rw [List.getElem?_map] at hv'
    cases e : bs[i]? with
    | none => rw [e] at hv'; cases hv'
    | some b =>
      rw [e] at hv'
      cases hv'
      have hQ' : Q' (bs.getD i true) s' := hQ
      rw [List.getD_eq_getElem?_getD, e] at hQ'
      exact wpAny_truthy_bool hQ'
  · intro h' tk hk
    refine ⟨.bl (bs.any id), H, I.kept fun b o e => hk b o ?_ (Heap.get?_push_of_some _ e), ?_, q⟩
    · intro z
      rw [List.mem_singleton.mp z] at e
      exact absurd (Heap.lt_size e) (Nat.lt_irrefl _)
    · show Value.bool _ = Value.bool _
      rw [← any_range bs]
      simp
end
theorem for_zipL {a b : Addr} {xs ys : List V} {g : TG} {tb : TS} {D : Ends} {σ : St} {H : Hp} (Pv : Nat -> St -> Hp -> Prop) (h0 : Pv 0 σ H) (hl : ∀ i σ H, i <= min xs.length ys.length -> Pv i σ H -> H a = some (.lst xs) /\ H b = some (.lst ys))
    (hs : ∀ i x y p σ H, xs[i]? = some x -> ys[i]? = some y -> H p = none -> Pv i σ H -> g (.ref p) σ (upd H p (.tup [x, y])) fun σ2 H2 => tb { D with nx := Pv (i + 1), ct := Pv (i + 1), bk := D.nx } σ2 H2) (hd : ∀ σ H, Pv (min xs.length ys.length) σ H -> D.nx σ H) :
    ∃ W : Nat -> Nat -> St -> Hp -> Prop, (∃ m, W 0 m σ H) /\ ∀ i m σ H, W i m σ H ->
      ((Itzl a b).stop i H /\ D.nx σ H) ∨ ((Itzl a b).go i H /\ ∃ N : St -> Hp -> Prop, (∀ σ' H', N σ' H' -> ∃ m', m' < m /\ W (i + 1) m' σ' H') /\ ∀ x H', (Itzl a b).yld i H x H' -> g x σ H' fun σ2 H2 => tb { D with nx := N, ct := N, bk := D.nx } σ2 H2) := by
  refine ⟨fun i m σ H => m = min xs.length ys.length - i /\ i <= min xs.length ys.length /\ Pv i σ H, ⟨_, rfl, Nat.zero_le _, h0⟩, ?_⟩
  rintro i m σ H ⟨rfl, hi, p⟩
  obtain ⟨qa, qb⟩ := hl i σ H hi p
  by_cases hlt : i < min xs.length ys.length
  · have h1 : i < xs.length := by omega
    have h2 : i < ys.length := by omega
    refine .inr ⟨⟨xs, ys, xs[i], ys[i], qa, qb, by simp [h1], by simp [h2]⟩, Pv (i + 1), fun σ' H' p' => ⟨min xs.length ys.length - (i + 1), by omega, rfl, hlt, p'⟩, fun v H' yv => ?_⟩
    obtain ⟨q, hq, rfl, x, y, rfl, hxy⟩ := yv
    obtain ⟨ex, ey⟩ := hxy xs ys qa qb
    exact hs i x y q σ H ex ey hq p
  · have e : i = min xs.length ys.length := by omega
    exact .inl ⟨⟨xs, ys, qa, qb, by omega⟩, hd σ H (e ▸ p)⟩
theorem comp_zipM {K : PySem.W.Frag} {a b D : Addr} {js : List (Option Nat)} {g : TG} {te : TE} {σ : St} {H1 : Hp} {Q : VK} {xs ys : List V} (hn : min xs.length ys.length <= sizeLine) (Pv : Nat -> St -> Hp -> List V -> Prop) (h0 : Pv 0 (pick js σ) (upd H1 D (.lst [])) [])
    (hl : ∀ i σ' H' zs, H' D = some (.lst zs) -> Pv i σ' H' zs -> SqT K H' a xs /\ SqL K H' b ys)
    (hs : ∀ i x y p σ' H' zs (R : St -> V -> Hp -> Prop), xs[i]? = some x -> ys[i]? = some y -> H' p = none -> H' D = some (.lst zs) -> zs.length = i -> Pv i σ' H' zs -> (∀ σ2 z H4, H4 D = some (.lst zs) -> Pv (i + 1) σ2 (upd H4 D (.lst (zs ++ [z]))) (zs ++ [z]) -> R σ2 z H4) ->
      g (.ref p) σ' (upd H' p (.tup [x, y])) fun σ2 H3 => te σ2 H3 fun z H4 => R σ2 z H4)
    (hst : ∀ σ' H' zs, H' D = some (.lst zs) -> zs.length = min xs.length ys.length -> Pv (min xs.length ys.length) σ' H' zs -> Q (.ref D) H') : CompW (Itm K a b) D js g tNoTest te σ H1 Q := by
  refine comp_plain hn Pv h0 (fun i σ' H' zs hi hD p => ?_) (fun σ' H' zs hD b' c => ⟨?_, hst σ' H' zs hD b' c⟩) fun i σ' H' zs x H2 R hi hD hz p hx k => ?_
  · obtain ⟨qa, qb⟩ := hl i σ' H' zs hD p
    have h1 : i < xs.length := by omega
    have h2 : i < ys.length := by omega
    exact ⟨xs, ys, xs[i], ys[i], qa, qb, by simp [h1], by simp [h2]⟩
  · obtain ⟨qa, qb⟩ := hl _ σ' H' zs hD c
    exact ⟨xs, ys, qa, qb, by omega⟩
  · obtain ⟨qa, qb⟩ := hl i σ' H' zs hD p
    obtain ⟨q, hq, rfl, x', y', rfl, hxy⟩ := hx
    obtain ⟨ex, ey⟩ := hxy xs ys qa qb
    exact hs i x' y' q σ' H' zs R ex ey hq hD hz p k
theorem comp_zip3 {K : PySem.W.Frag} {a b c D : Addr} {js : List (Option Nat)} {g : TG} {te : TE} {σ : St} {H1 : Hp} {Q : VK} {xs ys ws : List V} (hxy : xs.length = ys.length) (hxw : xs.length = ws.length) (hn : xs.length <= sizeLine) (Pv : Nat -> St -> Hp -> List V -> Prop) (h0 : Pv 0 (pick js σ) (upd H1 D (.lst [])) [])
    (hl : ∀ i σ' H' zs, H' D = some (.lst zs) -> Pv i σ' H' zs -> SqT K H' a xs /\ SqT K H' b ys /\ SqT K H' c ws)
    (hs : ∀ i x y v p σ' H' zs (R : St -> V -> Hp -> Prop), xs[i]? = some x -> ys[i]? = some y -> ws[i]? = some v -> H' p = none -> H' D = some (.lst zs) -> zs.length = i -> Pv i σ' H' zs -> (∀ σ2 z H4, H4 D = some (.lst zs) -> Pv (i + 1) σ2 (upd H4 D (.lst (zs ++ [z]))) (zs ++ [z]) -> R σ2 z H4) ->
      g (.ref p) σ' (upd H' p (.tup [x, y, v])) fun σ2 H3 => te σ2 H3 fun z H4 => R σ2 z H4)
    (hst : ∀ σ' H' zs, H' D = some (.lst zs) -> zs.length = xs.length -> Pv xs.length σ' H' zs -> Q (.ref D) H') : CompW (It3 K a b c) D js g tNoTest te σ H1 Q := by
  refine comp_plain hn Pv h0 (fun i σ' H' zs hi hD p => ?_) (fun σ' H' zs hD b' c => ⟨?_, hst σ' H' zs hD b' c⟩) fun i σ' H' zs x H2 R hi hD hz p hx k => ?_
  · obtain ⟨qa, qb, qc⟩ := hl i σ' H' zs hD p
    have h2 : i < ys.length := by omega
    have h3 : i < ws.length := by omega
    exact ⟨xs, ys, ws, xs[i], ys[i], ws[i], qa, qb, qc, by simp [hi], by simp [h2], by simp [h3]⟩
  · obtain ⟨qa, qb, qc⟩ := hl _ σ' H' zs hD c
    exact ⟨xs, qa, by omega⟩
  · obtain ⟨qa, qb, qc⟩ := hl i σ' H' zs hD p
    obtain ⟨q, hq, rfl, x', y', v', rfl, hxy⟩ := hx
    obtain ⟨ex, ey, ez⟩ := hxy xs ys ws qa qb qc
    exact hs i x' y' v' q σ' H' zs R ex ey ez hq hD hz p k
end L2
namespace L2
open PySem PySem.Spec PySem.SeqAt PyProof.Rows
section
variable {X : Cx}
theorem max_tup {prog : Program} {w : World} {A : Around} {E : Value -> Shared -> Prop} {s : Shared} {l : Addr} {vs : List Value} {ns : List Int} {Q : Value -> Shared -> Prop} (hh : A.handled = none)
    (hl : s.heap.IsTuple l vs.toArray) (hi : IntsAre vs ns) (hne : 0 < ns.length)
    (h : ∀ h' M (t : Tok) tk, (∀ b o, s.heap.get? b = some o -> h'.get? b = some o) -> M ∈ ns -> (∀ a, a ∈ ns -> a <= M) -> Q (.int M t) { s with heap := h', toks := tk }) :
    wpAny (model prog w) A (call (.builtin "max") [.ref l]) Q E s := by
  obtain ⟨xs, e⟩ := hi.allInts.items
  have hns : ns = xs.toList.map (·.1) := by rw [← hi.numsOf, ← nums_intItems, ← e]
  have hsz : 0 < xs.size := by
    have h3 := hne; rw [hns, List.length_map, Array.length_toList] at h3; exact h3
  rw [e] at hl
  have hlt : l < s.heap.objs.size := by obtain ⟨_, e, _⟩ := hl; exact Heap.lt_size e
  refine call_max_walk (wpAny_pyIter_tuple hl ?_)
  refine ⟨_, _, _, _, _, _, _, rfl, Walks.tuple (A := A.in1) hh _ l (Nat.ne_of_lt hlt) (intItems xs), ⟨⟨_, Heap.get?_push_size _ rfl, rfl, rfl⟩, hl.push _⟩, fun c hc => ?_, by simpa [intItems] using hsz, CmpOf.ints_gt (numAt xs) (fun _ _ => intItems_at), fun v h' tk hP hk => ?_⟩
  · show c < (s.heap.push _).objs.size
    rw [Heap.size_push]
    rcases List.mem_cons.mp hc with rfl | hc
    · exact Nat.lt_succ_self _
    · rcases List.mem_cons.mp hc with rfl | hc
      · exact Nat.lt_succ_of_lt hlt
      · cases hc
  · have hv : (intItems xs)[argBest (fun i j => decide (numAt xs i > numAt xs j)) (xs.size - 1)]? = some v := by simpa [intItems] using hP
    obtain ⟨t, rfl⟩ := intItems_at hv
    obtain ⟨h1, h2⟩ := argBest_gt (numAt xs) (xs.size - 1)
    refine h _ _ t tk (fun b o eb => hk b o (fun hm => ?_) (Heap.get?_push_of_some _ eb)) ?_ fun a ha => ?_
    · rcases List.mem_cons.mp hm with e1 | hm
      · exact absurd (e1 ▸ Heap.lt_size eb) (Nat.lt_irrefl _)
      · cases hm
    · rw [hns, numAt_eq]; exact getD_mem (by rw [List.length_map, Array.length_toList]; omega)
    · rw [hns] at ha
      obtain ⟨j, hj, rfl⟩ := mem_getD ha
      rw [List.length_map, Array.length_toList] at hj
      rw [← numAt_eq]; exact h2 j (by omega)
theorem call_maxT (hc : X.calm = true) : CallR X (.builtin "max") (fun xs H Q => ∃ (p : Addr) (ns : List Int), xs = [.ref p] /\ SqT X.K H p (ns.map V.int) /\ ns ≠ [] /\ ∀ M, M ∈ ns -> (∀ a, a ∈ ns -> a <= M) -> Q (.int M) H) := by
  intro pins s σ H xs us Q I r h
  obtain ⟨p, ns, rfl, hq, hne, q⟩ := h
  obtain ⟨u, rfl, rx⟩ := vals1 r
  cases rx
  obtain ⟨its, r', pl, hz⟩ := I.tuple hq
  refine max_tup (I.ok.hd hc) pl (intsAre_of r') (by cases ns with | nil => exact absurd rfl hne | cons => simp) fun h' M t tk k m1 m2 => ?_
  exact ⟨.int M, H, I.kept k, ⟨_, rfl⟩, q M m1 m2⟩
theorem call_maxL (hc : X.calm = true) : CallR X (.builtin "max") (fun xs H Q => ∃ (p : Addr) (ns : List Int), xs = [.ref p] /\ SqL X.K H p (ns.map V.int) /\ ns ≠ [] /\ ∀ M, M ∈ ns -> (∀ a, a ∈ ns -> a <= M) -> Q (.int M) H) := by
  intro pins s σ H xs us Q I r h
  obtain ⟨p, ns, rfl, hq, hne, q⟩ := h
  obtain ⟨u, rfl, rx⟩ := vals1 r
  cases rx
  obtain ⟨its, r', pl, hz⟩ := I.list hq
  have hl := pl.isList
  have hi := intsAre_of r'
  obtain ⟨xs, e⟩ := hi.allInts.items
  have hns : ns = xs.toList.map (·.1) := by rw [← hi.numsOf, ← nums_intItems, ← e]
  have hsz : 0 < xs.size := by
    have h3 : 0 < ns.length := by cases ns with | nil => exact absurd rfl hne | cons => simp
    rw [hns, List.length_map, Array.length_toList] at h3; exact h3
  rw [e] at hl
  refine max_intList (I.ok.hd hc) hl hsz fun v h' tk hv hk => ?_
  obtain ⟨t, rfl⟩ := intItems_at hv
  obtain ⟨h1, h2⟩ := argBest_gt (numAt xs) (xs.size - 1)
  refine ⟨.int _, H, I.kept hk, ⟨_, rfl⟩, q _ ?_ fun a ha => ?_⟩
  · rw [hns, numAt_eq]; exact getD_mem (by rw [List.length_map, Array.length_toList]; omega)
  · rw [hns] at ha
    obtain ⟨j, hj, rfl⟩ := mem_getD ha
    rw [List.length_map, Array.length_toList] at hj
    rw [← numAt_eq]; exact h2 j (by omega)
def isIntOf (k : Int) : Value -> Bool
  | .int i _ => i == k
  | _ => false
def rIndexI : V -> List V -> Hp -> VK -> Prop := fun x vs H Q => ∃ (l : Addr) (ns : List Int) (k : Int), x = .ref l /\ vs = [.int k] /\ H l = some (.lst (ns.map V.int)) /\ k ∈ ns /\ ns.length <= 1000 /\ ∀ j : Nat, ns[j]? = some k -> Q (.int (j : Nat)) H
theorem first_at {ns : List Int} {k : Int} (h : k ∈ ns) : ∃ j : Nat, ns[j]? = some k /\ ∀ m : Nat, m < j -> ns[m]? ≠ some k := by
  induction ns with
  | nil => cases h
  | cons x r ih =>
    by_cases e : x = k
    · exact ⟨0, by rw [e]; rfl, fun m hm => absurd hm (Nat.not_lt_zero _)⟩
    · rcases List.mem_cons.mp h with z | z
      · exact absurd z.symm e
      · obtain ⟨j, h1, h2⟩ := ih z
        refine ⟨j + 1, h1, fun m hm => ?_⟩
        cases m with
        | zero => intro z; exact e (Option.some.inj z)
        | succ m => exact h2 m (by omega)
theorem mt_indexI : MtM X "list.index" rIndexI := by
  intro pins s σ H x vs v us Q I rx rv h
  obtain ⟨l, ns, k, rfl, rfl, hH, hk, hz, q⟩ := h
  cases rx
  obtain ⟨u, rfl, ru⟩ := rv.one
  obtain ⟨t, rfl⟩ := ru
  obtain ⟨z, its, n, r, hl, e⟩ := I.lstM hH
  obtain ⟨j, hj, hb⟩ := first_at hk
  have hlen := r.length
  rw [List.length_map] at hlen
  have hjl : j < ns.length := (List.getElem?_eq_some_iff.mp hj).1
  have at_ : ∀ m : Nat, (hm : m < its.length) -> ∃ i t', its[m] = .int i t' /\ ns[m]? = some i := by
    intro m hm
    have hmn : m < ns.length := by omega
    obtain ⟨u, hu, ru⟩ := r.get (i := m) (x := .int ns[m]) (by rw [List.getElem?_map, List.getElem?_eq_getElem hmn]; rfl)
    obtain ⟨t', rfl⟩ := ru
    refine ⟨ns[m], t', ?_, List.getElem?_eq_getElem hmn⟩
    rw [List.getElem?_eq_getElem hm] at hu
    exact Option.some.inj hu
  refine call_meets PySem.F.slot_list_index ⟨_, e, rfl⟩ PySem.F.entry_list_index (PySem.F.args_list_index_2 _ _)
    (list_indexAt l _ n none #[] (.int k t) (isIntOf k) j (by simp; omega) (by omega) ?_ ?_) ⟨e, fun y hy => ?_, ⟨.int (j : Nat), H, I.tok _, ⟨s.toks, rfl⟩, q j hj⟩⟩
  · obtain ⟨i, t', h1, h2⟩ := at_ j (by omega)
    rw [hj] at h2
    cases h2
    show isIntOf k its.toArray[j] = true
    rw [show its.toArray[j]'(by simp; omega) = its[j]'(by omega) by simp, h1]
    simp [isIntOf]
  · intro m hm hlt
    obtain ⟨i, t', h1, h2⟩ := at_ m (by simpa using hm)
    rw [show its.toArray[m] = its[m]'(by simpa using hm) by simp, h1]
    have := hb m hlt
    show (i == k) = false
    rw [beq_eq_false_iff_ne]
    intro z
    rw [h2, z] at this
    exact this rfl
  · have hy' : y ∈ its := by simpa using hy
    obtain ⟨m, hm, rfl⟩ := List.getElem_of_mem hy'
    obtain ⟨i, t', h1, _⟩ := at_ m hm
    rw [h1]
    exact EqAt.int_int i t' k t
end
end L2
namespace Mth
def shutB (c p d : List Int) : Bool := (List.range 10).any fun i => decide (p.getD i 0 + c.getD i 0 < 0) && decide (d.getD i 0 = 0)
theorem gD {l : List Int} {k : Nat} (h : k < l.length) : l[k]? = some (l.getD k 0) := by
  rw [List.getD_eq_getElem?_getD, List.getElem?_eq_getElem h]
  rfl
def loopB (R P : List (List Int)) (U : List Nat) (d : List Int) : Bool := (List.range U.length).all fun k => (R.take (U.getD k 0)).all fun c => shutB c (P.getD k []) d
def addD (P : List (List Int)) (n : Nat) : List Int := mvd (P.getD n []) (P.getD 0 []) (-1)
def addL (R P : List (List Int)) (U : List Nat) : Option (List Int) := if nn (addD P U.length) = true /\ loopB R P U (addD P U.length) = true then some (addD P U.length) else none
theorem addL_some {R P : List (List Int)} {U : List Nat} (h1 : nn (addD P U.length) = true) (h2 : loopB R P U (addD P U.length) = true) : addL R P U = some (addD P U.length) := if_pos ⟨h1, h2⟩
theorem addL_neg {R P : List (List Int)} {U : List Nat} (h1 : nn (addD P U.length) = false) : addL R P U = none := if_neg (by rw [h1]; intro z; cases z.1)
theorem addL_no {R P : List (List Int)} {U : List Nat} {k : Nat} {u : Nat} {c p : List Int} (hk : U[k]? = some u) (hc : c ∈ R.take u) (hp : P[k]? = some p) (hs : shutB c p (addD P U.length) = false) : addL R P U = none := by
  refine if_neg fun ⟨_, h⟩ => ?_
  unfold loopB at h
  rw [List.all_eq_true] at h
  have h1 := h k (List.mem_range.mpr (List.getElem?_eq_some_iff.mp hk).1)
  rw [List.all_eq_true] at h1
  rw [List.getD_eq_getElem?_getD, hk, List.getD_eq_getElem?_getD, hp] at h1
  have h2 := h1 c hc
  rw [show (some p).getD [] = p from rfl, hs] at h2
  cases h2
theorem loopB_of {R P : List (List Int)} {U : List Nat} {d : List Int} (h : ∀ (k u : Nat) (p : List Int), U[k]? = some u -> P[k]? = some p -> ∀ c ∈ R.take u, shutB c p d = true) (hl : U.length <= P.length) : loopB R P U d = true := by
  unfold loopB
  rw [List.all_eq_true]
  intro k hk
  have hk' := List.mem_range.mp hk
  rw [List.all_eq_true]
  intro c hc
  have e1 : U[k]? = some U[k] := List.getElem?_eq_getElem hk'
  have e2 : P[k]? = some (P[k]'(by omega)) := List.getElem?_eq_getElem (by omega)
  rw [List.getD_eq_getElem?_getD, e1] at hc
  rw [List.getD_eq_getElem?_getD, e2]
  exact h k _ _ e1 e2 c hc
def cutL {α : Type} (l : List α) (s e : Nat) : List α := (l.drop s).take (e - s)
theorem cutL_get {α : Type} {l : List α} {s e i : Nat} (hi : i < e - s) : (cutL l s e)[i]? = l[s + i]? := by
  unfold cutL
  rw [List.getElem?_take_of_lt hi, List.getElem?_drop]
theorem cutL_none {α : Type} {l : List α} {s e i : Nat} (hi : e - s <= i) : (cutL l s e)[i]? = none := by
  unfold cutL
  rw [List.getElem?_take_eq_none hi]
theorem cutL_len {α : Type} {l : List α} {s e : Nat} (he : e <= l.length) : (cutL l s e).length = e - s := by
  unfold cutL
  rw [List.length_take, List.length_drop]
  omega
def partL (R P : List (List Int)) (U : List Nat) (s e : Nat) : Option (List Int) := addL R (cutL P s (e + 1)) (cutL U s e)
def InB (n s e : Nat) : Prop := s < e /\ e <= n /\ e <= s + 40
def FL (R P : List (List Int)) (U : List Nat) : Option (Nat × Nat × List Int) -> Prop
  | some (s, e, d) => InB U.length s e /\ partL R P U s e = some d /\ ∀ s' e', InB U.length s' e' -> (s' < s ∨ (s' = s /\ e' < e)) -> partL R P U s' e' = none
  | none => ∀ s' e', InB U.length s' e' -> partL R P U s' e' = none
theorem addD_len {P : List (List Int)} {n : Nat} {p q : List Int} (hp : P[n]? = some p) (hq : P[0]? = some q) (lp : p.length = 10) (lq : q.length = 10) : (addD P n).length = 10 := by
  unfold addD
  rw [List.getD_eq_getElem?_getD, hp, List.getD_eq_getElem?_getD, hq]
  exact mvd_length lp lq
end Mth
namespace L2
open PySem PySem.Spec PyProof.Rows
def Its (lo st : Int) (n : Nat) : It := ⟨fun i _ => i < n, fun i H x H' => H' = H /\ x = .int (lo + i * st), fun i _ => n <= i⟩
theorem turn_range3 {P : Program} {w : World} {K : PySem.W.Frag} {tg : Expr} (it : Addr) (lo st : Int) (n : Nat) : Turn P w K tg (Its lo st n) [it] it (fun i h => IsRangeIter h it (lo + (i : Nat) * st) ((n : Int) - (i : Nat)) st) where
  mem := by simp
  obj := fun i h st b hb => by
    have e : b = it := by simpa using hb
    subst e
    exact ⟨_, st, fun v z => by
      have z' : Data.fields _ = Data.cell v := z
      cases z'⟩
  keep := fun i h h' st k => k it (by simp) _ st
  item := by
    intro X hP hw hK hc i pins s σ H E I hf st' hg
    subst hP hw hK
    obtain ⟨f0, f1, f2, f3, f4, f5⟩ := hf it (by simp)
    have W := Walks.range (prog := X.prog) (w := X.w) (I.ok.hd hc) it lo st n
    refine W.item i s _ _ hg st' fun v h' tk hv st'' kk => ?_
    obtain ⟨t, rfl⟩ := hv
    have I1 : Inv X pins σ H { s with heap := h', toks := tk } := I.turned (fun b o hb e => kk b o (by simpa using hb) e) f0 f1 f3 f4 f5
    exact ⟨_, rfl, go_of (s := { s with heap := h', toks := tk }) (n := "range_iterator") st'' rfl rfl (by decide) ⟨.int (lo + i * st), H, I1, ⟨t, rfl⟩, ⟨rfl, rfl⟩, st'', fun b hb => (hf b hb).1⟩⟩
  done := by
    intro X hP hw hK hc i pins s σ H E I hf st' hg
    subst hP hw hK
    obtain ⟨f0, f1, f2, f3, f4, f5⟩ := hf it (by simp)
    exact wpAny_pyNext_range_end (I.ok.hd hc) st' (by have : n <= i := hg; omega) fun h' eb => ⟨rfl, I.turned (t' := s.toks) (fun b o hb e => eb b o hb e) f0 f1 f3 f4 f5⟩
  self := fun _ _ _ _ _ st h => wpAny_pyIter_rangeiter st h
section
variable {X : Cx} {tg : Expr}
theorem range_it3 {pins : List (Addr × Obj)} {σ : St} {H : Hp} {s : Shared} {R : It -> Hp -> Prop} {E : Value -> Shared -> Prop} {lo hi st : Int} {n : Nat} {t u v : Tok} {tk : Nat} (I : Inv X pins σ H s) (hs : Builtin.Range.small lo hi st = true) (hn : Builtin.Range.rangeSize lo hi st = (n : Int))
    (q : R (Its lo st n) H) : wpAny (model X.prog X.w) X.A (pyIter (.ref s.heap.objs.size)) (PIE X pins σ tg R) E { s with heap := s.heap.push { cls := .type "range", data := .fields #[.int lo t, .int hi u, .int st v] }, toks := tk } := by
  refine wpAny_pyIter_range (IsRange.new ..) hs ?_
  have I1 : Inv X pins σ H { s with heap := s.heap.push { cls := .type "range", data := .fields #[.int lo t, .int hi u, .int st v] }, toks := tk } := I.kept fun b o e => Heap.get?_push_of_some _ e
  refine ⟨(s.heap.push { cls := .type "range", data := .fields #[.int lo t, .int hi u, .int st v] }).objs.size, [(s.heap.push { cls := .type "range", data := .fields #[.int lo t, .int hi u, .int st v] }).objs.size], _, _, H, rfl,
    I1.kept (t' := tk) fun b o e => Heap.get?_push_of_some _ e, turn_range3 _ lo st n, ?_, fun b hb => ?_, q⟩
  · have e1 : lo + ((0 : Nat) : Int) * st = lo := by simp
    have e2 : ((n : Nat) : Int) - ((0 : Nat) : Int) = Builtin.Range.rangeSize lo hi st := by rw [hn]; omega
    show IsRangeIter _ _ (lo + ((0 : Nat) : Int) * st) (((n : Nat) : Int) - ((0 : Nat) : Int)) st
    rw [e1, e2]
    exact Heap.get?_push_size _ rfl
  · have e : b = (s.heap.push { cls := .type "range", data := .fields #[.int lo t, .int hi u, .int st v] }).objs.size := by simpa using hb
    subst e
    exact I1.fpOk (Nat.le_refl _) (I1.hok.fresh (Nat.le_refl _))
def iRng3 (ta : TA) : TI := fun σ H R => ta σ H fun vs H1 => ∃ (i j k : Int) (n : Nat), vs = [.int i, .int j, .int k] /\ (0 < k /\ k < 1000) /\ Builtin.Range.small i j k = true /\ Builtin.Range.rangeSize i j k = (n : Int) /\ R (Its i k n) H1
theorem pi_range3 {a b c : Expr} {ta : TA} {p pos : Pos} (hg : Gl X "range") (hm : X.mg "range" = none) (ha : PA X [a, b, c] ta) (hs : starEach [a, b, c] X.env = [(false, eval a X.env), (false, eval b X.env), (false, eval c X.env)] := by rfl) (hs2 : starEach [b, c] X.env = [(false, eval b X.env), (false, eval c X.env)] := by rfl) :
    PI X tg (.Call (.Name "range" p) [a, b, c] [] pos) (iRng3 ta) := by
  intro pins s σ H R I h
  refine Call_ (ld_blt I hg hm boot_range (PyProof.Rows.callWith_type1 (thn (ha pos pins s σ H _ I h) fun us s1 ⟨vs, H1, I1, r1, q1⟩ => ?_) (by rw [hs, hs2]) (by rw [hs2]; rfl)))
  obtain ⟨i, j, k, n, e, ⟨k0, k1⟩, q1, q2, q⟩ := q1
  subst e
  cases r1 with
  | cons r rr =>
    cases rr with
    | cons r' rr =>
      cases rr with
      | cons r'' rr =>
        cases rr
        obtain ⟨t, rfl⟩ := r
        obtain ⟨t', rfl⟩ := r'
        obtain ⟨t'', rfl⟩ := r''
        exact call_range_3 (by omega) (range_it3 I1 q1 q2 q) (.inl (PyProof.noPylong_small (by omega)))
theorem qi_range3 {a b c : Expr} {ta : TA} {p pos : Pos} (hg : Gl X "range") (hm : X.mg "range" = none) (ha : QA X [a, b, c] ta) (hs : starEach [a, b, c] X.env = [(false, eval a X.env), (false, eval b X.env), (false, eval c X.env)] := by rfl) (hs2 : starEach [b, c] X.env = [(false, eval b X.env), (false, eval c X.env)] := by rfl) :
    QI X tg (.Call (.Name "range" p) [a, b, c] [] pos) (iRng3 ta) := ⟨pi_range3 hg hm ha.o hs hs2⟩
end
theorem for_range3 {lo st : Int} {n : Nat} {g : TG} {tb : TS} {D : Ends} {σ : St} {H : Hp} (Pv : Nat -> St -> Hp -> Prop) (h0 : Pv 0 σ H)
    (hs : ∀ i σ H, i < n -> Pv i σ H -> g (.int (lo + i * st)) σ H fun σ2 H2 => tb { D with nx := Pv (i + 1), ct := Pv (i + 1), bk := D.nx } σ2 H2) (hd : ∀ σ H, Pv n σ H -> D.nx σ H) :
    ∃ W : Nat -> Nat -> St -> Hp -> Prop, (∃ m, W 0 m σ H) /\ ∀ i m σ H, W i m σ H ->
      ((Its lo st n).stop i H /\ D.nx σ H) ∨ ((Its lo st n).go i H /\ ∃ N : St -> Hp -> Prop, (∀ σ' H', N σ' H' -> ∃ m', m' < m /\ W (i + 1) m' σ' H') /\ ∀ x H', (Its lo st n).yld i H x H' -> g x σ H' fun σ2 H2 => tb { D with nx := N, ct := N, bk := D.nx } σ2 H2) := by
  refine ⟨fun i m σ H => m = n - i /\ i <= n /\ Pv i σ H, ⟨_, rfl, Nat.zero_le _, h0⟩, ?_⟩
  rintro i m σ H ⟨rfl, hi, p⟩
  by_cases hlt : i < n
  · refine .inr ⟨hlt, Pv (i + 1), fun σ' H' p' => ⟨n - (i + 1), by omega, rfl, hlt, p'⟩, fun x H' yv => ?_⟩
    obtain ⟨rfl, rfl⟩ := yv
    exact hs i σ H' hlt p
  · have e : i = n := by omega
    exact .inl ⟨by show n <= i; omega, hd σ H (e ▸ p)⟩
end L2
namespace Mth
theorem ext10 {p q : List Int} (hp : p.length = 10) (hq : q.length = 10) (h : ∀ i, i < 10 -> p.getD i 0 = q.getD i 0) : p = q := by
  refine List.ext_getElem? fun i => ?_
  by_cases hi : i < 10
  · rw [gD (by omega), gD (l := q) (by omega), h i hi]
  · rw [List.getElem?_eq_none (by omega), List.getElem?_eq_none (by omega)]
theorem mvd_D {p c : List Int} {m : Int} {i : Nat} (hp : p.length = 10) (hc : c.length = 10) (hi : i < 10) : (mvd p c m).getD i 0 = p.getD i 0 + m * c.getD i 0 := by
  have h1 := gD (l := p) (k := i) (by omega)
  have h2 := gD (l := c) (k := i) (by omega)
  have : (mvd p c m)[i]? = some (p.getD i 0 + m * c.getD i 0) := by
    unfold mvd
    rw [List.getElem?_zipWith_eq_some]
    exact ⟨_, _, h1, h2, rfl⟩
  rw [List.getD_eq_getElem?_getD, this]
  rfl
theorem mvd_comm {p c d : List Int} {m k : Int} (hp : p.length = 10) (hc : c.length = 10) (hd : d.length = 10) : mvd (mvd p c m) d k = mvd (mvd p d k) c m := by
  refine ext10 (mvd_length (mvd_length hp hc) hd) (mvd_length (mvd_length hp hd) hc) fun i hi => ?_
  rw [mvd_D (mvd_length hp hc) hd hi, mvd_D hp hc hi, mvd_D (mvd_length hp hd) hc hi, mvd_D hp hd hi]
  omega
theorem mvd_nought {p d : List Int} (hp : p.length = 10) (hd : d.length = 10) : mvd p d 0 = p := by
  refine ext10 (mvd_length hp hd) hp fun i hi => ?_
  rw [mvd_D hp hd hi]
  omega
theorem fitsB_D {c p : List Int} (hc : c.length = 10) (hp : p.length = 10) : fitsB c p = true ↔ ∀ i, i < 10 -> 0 <= p.getD i 0 + c.getD i 0 := by
  rw [fitsB_iff]
  constructor
  · intro h i hi
    exact h i _ _ (gD (by omega)) (gD (by omega))
  · intro h i a b h1 h2
    have hi : i < 10 := by rw [← hc]; exact (List.getElem?_eq_some_iff.mp h1).1
    have := h i hi
    rw [List.getD_eq_getElem?_getD, h2, List.getD_eq_getElem?_getD, h1] at this
    exact this
theorem goN_sumB (R : List (List Int)) (a : Nat) (p : List Int) : ∀ b, goN R (a + b) p = (goN R a p).bind (goN R b)
  | 0 => by
    show goN R a p = _
    cases goN R a p <;> rfl
  | b + 1 => by
    show (goN R (a + b) p).bind (stp R) = _
    rw [goN_sumB R a p b]
    cases goN R a p <;> rfl
theorem trl_get (R : List (List Int)) : ∀ (m : Nat) (p : List Int) (i : Nat), (trl R m p)[i]? = if i < m then (goN R i p).bind (fstI R) else none
  | 0, p, i => by rw [if_neg (Nat.not_lt_zero _)]; rfl
  | m + 1, p, i => by
    cases hf : fstI R p with
    | none =>
      rw [trl_none hf]
      show none = _
      cases i with
      | zero => rw [if_pos (Nat.succ_pos _)]; exact hf.symm
      | succ i =>
        rw [goN_first, stp_none hf]
        split <;> rfl
    | some k =>
      obtain ⟨c, hc, _, _⟩ := fstI_lt hf
      rw [trl_some hf hc]
      cases i with
      | zero => rw [if_pos (Nat.succ_pos _)]; exact hf.symm
      | succ i =>
        show (trl R m (mvd p c 1))[i]? = _
        rw [trl_get R m (mvd p c 1) i, goN_first, stp_of hf hc]
        by_cases hi : i < m
        · rw [if_pos hi, if_pos (by omega)]; rfl
        · rw [if_neg hi, if_neg (by omega)]
def PathR (R : List (List Int)) (m : Nat) (ps : List Int) (P : List (List Int)) : Prop := P.length = (trl R m ps).length + 1 /\ ∀ i, i < P.length -> P[i]? = goN R i ps
theorem PathR.get {R : List (List Int)} {m : Nat} {ps : List Int} {P : List (List Int)} (h : PathR R m ps P) {s : Nat} (hs : s <= (trl R m ps).length) : ∃ p, P[s]? = some p /\ goN R s ps = some p := by
  have hl : s < P.length := by rw [h.1]; omega
  exact ⟨P[s], List.getElem?_eq_getElem hl, by rw [← h.2 s hl]; exact List.getElem?_eq_getElem hl⟩
theorem PathR.cut {R : List (List Int)} {m : Nat} {ps : List Int} {P : List (List Int)} (h : PathR R m ps P) {s e : Nat} (hs : s < e) (he : e <= (trl R m ps).length) {b : List Int} (hb : goN R s ps = some b) :
    trl R (e - s) b = cutL (trl R m ps) s e /\ PathR R (e - s) b (cutL P s (e + 1)) := by
  have hm := trl_len R m ps
  have ew : trl R (e - s) b = cutL (trl R m ps) s e := by
    refine List.ext_getElem? fun i => ?_
    rw [trl_get]
    by_cases hi : i < e - s
    · rw [if_pos hi, cutL_get hi, trl_get, if_pos (by omega), goN_sumB, hb]
      rfl
    · rw [if_neg hi, cutL_none (by omega)]
  refine ⟨ew, ?_, fun i hi => ?_⟩
  · rw [ew, cutL_len he, cutL_len (by rw [h.1]; omega)]
    omega
  · rw [cutL_len (by rw [h.1]; omega)] at hi
    rw [cutL_get hi, h.2 (s + i) (by rw [h.1]; omega), goN_sumB, hb]
    rfl
theorem PathR.ten {R : List (List Int)} {m : Nat} {ps : List Int} {P : List (List Int)} (h : PathR R m ps P) (hR : R10 R) (hp : ps.length = 10) (hn : nn ps = true) : ∀ p ∈ P, p.length = 10 /\ nn p = true := by
  intro p hm
  obtain ⟨i, hi⟩ := List.getElem?_of_mem hm
  have hl := (List.getElem?_eq_some_iff.mp hi).1
  rw [h.2 i hl] at hi
  exact goN_ok hR hp hn hi
structure LoopR (R P : List (List Int)) (W : List Nat) (p d : List Int) : Prop where
  r10 : R10 R
  p10 : p.length = 10
  pn : nn p = true
  path : PathR R W.length p P
  wt : trl R W.length p = W
  w1 : 1 <= W.length
  add : addL R P W = some d
section
variable {R P : List (List Int)} {W : List Nat} {p d : List Int} (h : LoopR R P W p d)
include h
theorem LoopR.at {r : Nat} (hr : r <= W.length) : ∃ q, P[r]? = some q /\ goN R r p = some q /\ q.length = 10 /\ nn q = true := by
  obtain ⟨q, h1, h2⟩ := h.path.get (s := r) (by rw [h.wt]; exact hr)
  obtain ⟨h3, h4⟩ := goN_ok h.r10 h.p10 h.pn h2
  exact ⟨q, h1, h2, h3, h4⟩
theorem LoopR.dd : d = addD P W.length /\ nn d = true /\ loopB R P W d = true := by
  have ha := h.add
  unfold addL at ha
  split at ha
  · rename_i hc
    have e : addD P W.length = d := Option.some.inj ha
    rw [e] at hc
    exact ⟨e.symm, hc.1, hc.2⟩
  · cases ha
theorem LoopR.d10 : d.length = 10 := by
  obtain ⟨q, h1, _, h3, _⟩ := h.at (r := W.length) (Nat.le_refl _)
  obtain ⟨q0, g1, _, g3, _⟩ := h.at (r := 0) (Nat.zero_le _)
  rw [h.dd.1]
  exact addD_len h1 g1 h3 g3
theorem LoopR.end_ {q : List Int} (hq : P[W.length]? = some q) {i : Nat} (hi : i < 10) : q.getD i 0 = p.getD i 0 + d.getD i 0 := by
  obtain ⟨q', h1, _, h3, _⟩ := h.at (r := W.length) (Nat.le_refl _)
  obtain ⟨q0, g1, g2, g3, _⟩ := h.at (r := 0) (Nat.zero_le _)
  rw [hq] at h1
  cases h1
  have e0 : q0 = p := (Option.some.inj g2).symm
  subst e0
  rw [h.dd.1]
  unfold addD
  rw [List.getD_eq_getElem?_getD (l := P), hq, List.getD_eq_getElem?_getD (l := P), g1]
  show _ = _ + (mvd q q0 (-1)).getD i 0
  rw [mvd_D h3 g3 hi]
  omega
theorem LoopR.first {r : Nat} (hr : r < W.length) (k : Nat) : ∃ q u c, P[r]? = some q /\ W[r]? = some u /\ R[u]? = some c /\ c.length = 10 /\ q.length = 10 /\ P[r + 1]? = some (mvd q c 1) /\ fstI R (mvd q d k) = some u := by
  obtain ⟨q, h1, h2, h3, h4⟩ := h.at (r := r) (by omega)
  obtain ⟨q', g1, g2, g3, g4⟩ := h.at (r := r + 1) (by omega)
  have hw : W[r]? = fstI R q := by
    have := trl_get R W.length p r
    rw [h.wt, if_pos hr, h2] at this
    exact this
  have hst : stp R q = some q' := by
    have e : (goN R r p).bind (stp R) = some q' := g2
    rw [h2] at e
    exact e
  obtain ⟨u, c, hu, hc, hfit, rfl⟩ := stp_some hst
  have c10 := h.r10 c (List.mem_of_getElem? hc)
  have d10 := h.d10
  obtain ⟨_, dn, dl⟩ := h.dd
  have hwu : W[r]? = some u := by rw [hw, hu]
  refine ⟨q, u, c, h1, hwu, hc, c10, h3, g1, fstI_at R (mvd q d k) u (fun j hj c' hc' => ?_) (fun c' hc' => ?_) (List.getElem?_eq_some_iff.mp hc).1⟩
  · have c10' := h.r10 c' (List.mem_of_getElem? hc')
    have hs : shutB c' q d = true := by
      unfold loopB at dl
      rw [List.all_eq_true] at dl
      have e1 := dl r (List.mem_range.mpr hr)
      rw [List.getD_eq_getElem?_getD, hwu, List.getD_eq_getElem?_getD, h1, List.all_eq_true] at e1
      exact e1 c' (List.mem_of_getElem? (i := j) (by
        show (R.take u)[j]? = some c'
        rw [List.getElem?_take_of_lt hj]; exact hc'))
    unfold shutB at hs
    rw [List.any_eq_true] at hs
    obtain ⟨i, hi, hv⟩ := hs
    have hi' := List.mem_range.mp hi
    rw [Bool.and_eq_true, decide_eq_true_iff, decide_eq_true_iff] at hv
    rw [Bool.eq_false_iff]
    intro z
    have := (fitsB_D c10' (mvd_length h3 d10)).mp z i hi'
    rw [mvd_D h3 d10 hi', hv.2] at this
    omega
  · rw [hc] at hc'
    cases hc'
    refine (fitsB_D c10 (mvd_length h3 d10)).mpr fun i hi => ?_
    have e1 := (fitsB_D c10 h3).mp hfit i hi
    rw [mvd_D h3 d10 hi]
    have e2 : 0 <= d.getD i 0 := nn_iff.mp dn _ (List.mem_of_getElem? (gD (by omega)))
    have e3 : 0 <= (k : Int) * d.getD i 0 := Int.mul_nonneg (Int.natCast_nonneg k) e2
    omega
theorem LoopR.go (k : Nat) : ∀ r, r <= W.length -> ∃ q, P[r]? = some q /\ goN R (k * W.length + r) p = some (mvd q d k) := by
  have d10 := h.d10
  induction k with
  | zero =>
    intro r hr
    obtain ⟨q, h1, h2, h3, _⟩ := h.at hr
    refine ⟨q, h1, ?_⟩
    rw [Nat.zero_mul, Nat.zero_add, h2]
    congr 1
    exact (mvd_nought h3 d10).symm
  | succ k ih =>
    intro r
    induction r with
    | zero =>
      intro _
      obtain ⟨q, h1, h2⟩ := ih W.length (Nat.le_refl _)
      obtain ⟨q0, g1, g2, g3, _⟩ := h.at (r := 0) (Nat.zero_le _)
      obtain ⟨_, h1', _, h3, _⟩ := h.at (r := W.length) (Nat.le_refl _)
      rw [h1] at h1'
      cases h1'
      have e0 : q0 = p := (Option.some.inj g2).symm
      subst e0
      refine ⟨q0, g1, ?_⟩
      rw [Nat.add_zero, show (k + 1) * W.length = k * W.length + W.length from Nat.succ_mul _ _, h2]
      congr 1
      refine ext10 (mvd_length h3 d10) (mvd_length g3 d10) fun i hi => ?_
      rw [mvd_D h3 d10 hi, mvd_D g3 d10 hi, h.end_ h1 hi, Int.natCast_add, Int.add_mul]
      omega
    | succ r ihr =>
      intro hr
      obtain ⟨q, h1, h2⟩ := ihr (by omega)
      obtain ⟨q', u, c, g1, _, g3, c10, q10, g5, g6⟩ := h.first (r := r) (by omega) (k + 1)
      rw [h1] at g1
      cases g1
      refine ⟨_, g5, ?_⟩
      show (goN R ((k + 1) * W.length + r) p).bind (stp R) = _
      rw [h2]
      show stp R _ = _
      rw [stp_of g6 g3]
      congr 1
      exact mvd_comm q10 d10 c10
theorem LoopR.ever (N : Nat) : ∃ q, P[N % W.length]? = some q /\ goN R N p = some (mvd q d ((N / W.length : Nat) : Int)) := by
  have hw := h.w1
  have hlt : N % W.length < W.length := Nat.mod_lt _ (by omega)
  obtain ⟨q, h1, h2⟩ := h.go (N / W.length) (N % W.length) (by omega)
  refine ⟨q, h1, ?_⟩
  rw [Nat.mul_comm, Nat.div_add_mod] at h2
  exact h2
theorem LoopR.fold (k : Int) : ∀ r, r <= W.length -> ∃ q, P[r]? = some q /\ (W.take r).foldl (fun x u => mvd x (R.getD u []) 1) (mvd p d k) = mvd q d k := by
  have d10 := h.d10
  intro r
  induction r with
  | zero =>
    intro _
    obtain ⟨q0, g1, g2, g3, _⟩ := h.at (r := 0) (Nat.zero_le _)
    have e0 : q0 = p := (Option.some.inj g2).symm
    subst e0
    exact ⟨q0, g1, rfl⟩
  | succ r ih =>
    intro hr
    obtain ⟨q, h1, h2⟩ := ih (by omega)
    obtain ⟨q', u, c, g1, gw, g3, c10, q10, g5, g6⟩ := h.first (r := r) (by omega) 0
    rw [h1] at g1
    cases g1
    refine ⟨_, g5, ?_⟩
    rw [List.take_add_one, gw, List.foldl_append, h2]
    show mvd (mvd q d k) (R.getD u []) 1 = _
    rw [getD_of g3]
    exact mvd_comm q10 d10 c10
end
end Mth
namespace L2
open PySem PySem.Spec PyProof.Rows
end L2
namespace Mth
section
variable {R P : List (List Int)} {W : List Nat} {p d : List Int} (h : LoopR R P W p d)
include h
theorem LoopR.p0 : P[0]? = some p := by
  obtain ⟨q0, g1, g2, _, _⟩ := h.at (r := 0) (Nat.zero_le _)
  have e0 : q0 = p := (Option.some.inj g2).symm
  rw [← e0]
  exact g1
end
end Mth
namespace L2
open PySem PySem.Spec PyProof.Rows
namespace HT
end HT
end L2
namespace L2
open PySem PySem.Spec PyProof.Rows
end L2
namespace L2
open PySem PySem.Spec PyProof.Rows
end L2
namespace Enk
open PySem PyProof.Rows
end Enk
namespace L2
open PySem PySem.Spec PyProof.Rows
end L2
namespace Rvl
open PySem PyProof.Rows
end Rvl
namespace L2
open PySem PySem.Spec PyProof.Rows
end L2
namespace Enk
open PySem PyProof.Rows
end Enk
namespace L2
open PySem PySem.Spec PyProof.Rows
end L2
namespace Enk
open PySem PyProof.Rows
end Enk
namespace L2
open PySem PySem.Spec PyProof.Rows
end L2
namespace Mth
def dotI (r p : List Int) : Int := (List.zipWith (fun a b : Int => a * b) r p).sum
theorem dotI_nil (p : List Int) : dotI [] p = 0 := rfl
theorem dotI_cons (a b : Int) (r p : List Int) : dotI (a :: r) (b :: p) = a * b + dotI r p := by
  show (a * b :: List.zipWith _ r p).sum = _
  rw [List.sum_cons]
  rfl
def gcdL (ns : List Int) : Nat := ns.foldl (fun g n => Nat.gcd g n.natAbs) 0
theorem gcdF_dvd : ∀ (ns : List Int) (g : Nat), (ns.foldl (fun g n => Nat.gcd g n.natAbs) g ∣ g) /\ ∀ n ∈ ns, ((ns.foldl (fun g n => Nat.gcd g n.natAbs) g : Nat) : Int) ∣ n
  | [], g => ⟨Nat.dvd_refl g, fun n h => by cases h⟩
  | a :: ns, g => by
    obtain ⟨h1, h2⟩ := gcdF_dvd ns (Nat.gcd g a.natAbs)
    refine ⟨Nat.dvd_trans h1 (Nat.gcd_dvd_left _ _), fun n hn => ?_⟩
    rcases List.mem_cons.mp hn with z | z
    · rw [z]
      exact Int.dvd_natAbs.mp (Int.natCast_dvd_natCast.mpr (Nat.dvd_trans h1 (Nat.gcd_dvd_right _ _)))
    · exact h2 n z
theorem gcdL_dvd {ns : List Int} {n : Int} (h : n ∈ ns) : ((gcdL ns : Nat) : Int) ∣ n := (gcdF_dvd ns 0).2 n h
theorem gcdL_pos {ns : List Int} {n : Int} (h : n ∈ ns) (h0 : n ≠ 0) : 0 < gcdL ns := by
  rcases Nat.eq_zero_or_pos (gcdL ns) with z | z
  · have := gcdL_dvd h
    rw [z] at this
    exact absurd (Int.zero_dvd.mp this) h0
  · exact z
def sgnL (ns : List Int) : Int := match ns.filter (fun n => decide (n ≠ 0)) with
  | [] => 1
  | n :: _ => if n < 0 then -1 else 1
theorem sgnL_is (ns : List Int) : sgnL ns = 1 ∨ sgnL ns = -1 := by
  unfold sgnL
  split
  · exact .inl rfl
  · split
    · exact .inr rfl
    · exact .inl rfl
def lowI (ns : List Int) : List Int := ns.map fun n => n / (sgnL ns * (gcdL ns : Int))
theorem low_fac {ns : List Int} (h : ∃ n ∈ ns, n ≠ 0) : sgnL ns * (gcdL ns : Int) ≠ 0 := by
  obtain ⟨n, hn, h0⟩ := h
  have hp := gcdL_pos hn h0
  rcases sgnL_is ns with z | z <;> rw [z] <;> omega
def BdI (b : Nat) (r : List Int) : Prop := ∀ n ∈ r, n.natAbs <= 2 ^ b
def unitI (k : Nat) : List Int := (List.range 10).map fun j => if j = k then 1 else 0
end Mth
namespace L2
open PySem PySem.Spec PyProof.Rows
section
variable {X : Cx}
def CDivL (i j : Int) : Prop := j ≠ 0 /\ ∃ m : Nat, j.natAbs <= 2 ^ m /\ m <= 8000
theorem op_fdivL : OpR X (binaryOp .FloorDiv) (rI CDivL fun i j => .int (i.fdiv j)) := opI fun i j _ _ _ _ _ ⟨h0, m, h1, h2⟩ q => by
  refine floordiv_int h0 q (.inl (PyProof.noPylong_of_log2 ?_))
  have h3 : j.natAbs ≠ 0 := by omega
  have h4 : j.natAbs < 2 ^ (m + 1) := by rw [Nat.pow_succ]; have := Nat.two_pow_pos m; omega
  have h5 : j.natAbs.log2 < m + 1 := (Nat.log2_lt h3).mpr h4
  omega
end
end L2
namespace W2
open PySem L2 Mth
end W2
namespace L2
open PySem PySem.Spec PyProof.Rows
end L2
namespace Mth
end Mth
namespace L2
open PySem PySem.Spec PyProof.Rows
section
variable {X : Cx}
def CMulX (i j : Int) : Prop := ∃ m n : Nat, i.natAbs <= 2 ^ m /\ j.natAbs <= 2 ^ n /\ m <= 20000 /\ n <= 20000
theorem bits_leX {i : Int} {m : Nat} (h : i.natAbs <= 2 ^ m) (hm : m <= 20000) : Builtin.Int.intBits i <= 2 ^ 20 := by
  unfold Builtin.Int.intBits
  split
  · exact Nat.zero_le _
  · next hz =>
    have h0 : i.natAbs ≠ 0 := fun z => hz (by simpa using z)
    have h1 : i.natAbs < 2 ^ (m + 1) := by rw [Nat.pow_succ]; have := Nat.two_pow_pos m; omega
    have h2 : i.natAbs.log2 < m + 1 := (Nat.log2_lt h0).mpr h1
    have h3 : (2 : Nat) ^ 20 = 1048576 := by decide
    omega
theorem op_mulX : OpR X (binaryOp .Mult) (rI CMulX fun i j => .int (i * j)) := opI fun _ _ _ _ _ _ _ ⟨m, n, h1, h2, h3, h4⟩ q => mul_int q (IntMulOk.of_bits (bits_leX h1 h3) (bits_leX h2 h4))
end
end L2
namespace PySem
end PySem
namespace PySem
end PySem
namespace L2
open PySem PySem.Spec PyProof.Rows W2
end L2
namespace Mth
end Mth
namespace Srt
open PySem PySem.W PyProof.Rows L2
end Srt
namespace W2
open PySem PySem.W L2 Srt
end W2
namespace W2
end W2
namespace L2
open PySem PySem.Spec PyProof.Rows
end L2
namespace Mth
theorem getD_mem {ns : List Int} {l : Nat} (h : ns.getD l 0 ≠ 0) : ns.getD l 0 ∈ ns := by
  rw [List.getD_eq_getElem?_getD] at h ⊢
  cases hx : ns[l]? with
  | none => rw [hx] at h; exact absurd rfl h
  | some a => exact List.mem_of_getElem? hx
theorem dotI_zero : ∀ (x c : List Int), (∀ k, x.getD k 0 = 0) -> dotI x c = 0
  | [], c, _ => rfl
  | a :: x, [], _ => rfl
  | a :: x, b :: c, h => by
    have h0 : a = 0 := h 0
    rw [dotI_cons, h0, Int.zero_mul, Int.zero_add]
    exact dotI_zero x c fun k => h (k + 1)
end Mth
namespace Mth
theorem dotI_comm : ∀ (a b : List Int), dotI a b = dotI b a
  | [], [] => rfl
  | [], b :: bs => rfl
  | a :: as, [] => rfl
  | a :: as, b :: bs => by rw [dotI_cons, dotI_cons, dotI_comm as bs, Int.mul_comm]
end Mth
namespace W2
open PySem L2 Mth
end W2
namespace L2
open PySem PySem.Spec PyProof.Rows
end L2
namespace L2
open PySem
end L2
namespace Mth
open W2
end Mth
namespace L2
open PySem PySem.Spec PyProof.Rows
end L2
namespace W2
open PySem L2 Mth
end W2
namespace Mth
open W2
end Mth
namespace L2
open PySem PySem.Spec PyProof.Rows
def ownC (sc : Scope) : List Str := (sc.names.filter (fun p => p.2 == .cell)).map (·.1)
theorem cellsFrom_app : ∀ (names : List (Str × NameKind)) (n : Nat) (acc : List (Str × Addr)), cellsFrom n names acc = cellsFrom n names [] ++ acc
  | [], _, _ => rfl
  | (name, kind) :: r, n, acc => by
    unfold cellsFrom
    split
    · rw [cellsFrom_app r (n + 1) ((name, n) :: acc), cellsFrom_app r (n + 1) [(name, n)], List.append_assoc]
      rfl
    · exact cellsFrom_app r n acc
theorem mem_cellsFrom : ∀ {names : List (Str × NameKind)} {n : Nat} {x : Str} {c : Addr}, (x, c) ∈ cellsFrom n names [] -> (x, NameKind.cell) ∈ names
  | [], _, _, _, h => by cases h
  | (name, kind) :: r, n, x, c, h => by
    unfold cellsFrom at h
    split at h
    · next hk =>
      rw [cellsFrom_app] at h
      rcases List.mem_append.mp h with z | z
      · exact List.mem_cons_of_mem _ (mem_cellsFrom z)
      · rw [List.mem_singleton] at z
        cases z
        rw [eq_of_beq hk]
        exact List.mem_cons_self
    · exact List.mem_cons_of_mem _ (mem_cellsFrom h)
theorem of_mem_cells : ∀ {names : List (Str × NameKind)} {n : Nat} {x : Str}, (x, NameKind.cell) ∈ names -> ∃ c, (x, c) ∈ cellsFrom n names []
  | [], _, _, h => by cases h
  | (name, kind) :: r, n, x, h => by
    unfold cellsFrom
    rcases List.mem_cons.mp h with z | z
    · cases z
      rw [if_pos (show (NameKind.cell == NameKind.cell) = true from rfl), cellsFrom_app]
      exact ⟨n, List.mem_append_right _ (List.mem_singleton.mpr rfl)⟩
    · split
      · obtain ⟨c, hc⟩ := of_mem_cells (n := n + 1) z
        rw [cellsFrom_app]
        exact ⟨c, List.mem_append_left _ hc⟩
      · exact of_mem_cells z
theorem mem_own {sc : Scope} {x : Str} : x ∈ ownC sc ↔ (x, NameKind.cell) ∈ sc.names := by
  unfold ownC
  rw [List.mem_map]
  constructor
  · rintro ⟨⟨y, k⟩, h, rfl⟩
    obtain ⟨h1, h2⟩ := List.mem_filter.mp h
    have : k = .cell := eq_of_beq h2
    subst this
    exact h1
  · intro h
    exact ⟨(x, .cell), List.mem_filter.mpr ⟨h, rfl⟩, rfl⟩
theorem lookup_app {α β : Type} [BEq α] : ∀ (l m : List (α × β)) (x : α), (l ++ m).lookup x = (l.lookup x).or (m.lookup x)
  | [], _, _ => rfl
  | (y, d) :: l, m, x => by
    rw [List.cons_append, List.lookup_cons, List.lookup_cons]
    cases (x == y) with
    | true => rfl
    | false => exact lookup_app l m x
theorem newEnv_comp {M : Model} {A : Around} {E : Value -> Shared -> Prop} {s : Shared} {scope : Scope} {globals : Addr} {cl : List (Str × Addr)} {qual : Str} {func : Option Addr} {code : Value} {env : Env} {builtins : Addr} {Q : Env -> Shared -> Prop}
    (hQ : Q (newEnv scope s.heap.objs.size globals (cellsFrom (s.heap.objs.size + 1) scope.names cl) qual func code (some env) builtins) { s with heap := pushCells (s.heap.push { cls := .type "dict", data := .dict #[] }) scope.names }) :
    wpAny M A (newFunctionEnv scope globals cl [] qual func code (some env) builtins) Q E s := by
  simp only [newFunctionEnv, Option.isSome_some, if_true]
  refine wpAny_bind (wpAny_alloc ?_)
  refine wpAny_bind (wpAny_layCells _ (fun name kind cells => by cases hkc : kind == NameKind.cell <;> simp [hkc]) _ _ _ _ ?_)
  rw [show ({ s with heap := s.heap.push { cls := .type "dict", data := .dict #[] } } : Shared).heap.objs.size = s.heap.objs.size + 1 from Heap.size_push ..]
  rw [List.forIn_nil]
  exact wpAny_bind (wpAny_pure (wpAny_pure hQ))
structure CompOkC (X : Cx) (scope : Scope) (cl : List (Str × Addr)) (N : List Str) (js : List (Option Nat)) : Prop where
  clos : closureFor scope X.env = pure cl
  dis : ∀ x ∈ ownC scope, cl.lookup x = none
  kind : scope.kind = .function
  names : ∀ y ∈ scope.names, y.2 = .local -> scope.names.lookup y.1 = some .local
  sub : ∀ x c, cl.lookup x = some c -> X.env.cells.lookup x = some c
  has : ∀ x, ((relabel scope X.env).names.lookup x = some .cell ∨ (relabel scope X.env).names.lookup x = some .free) -> (∃ c, cl.lookup x = some c) ∨ x ∈ ownC scope
  len : js.length = N.length
  seen : ∀ (i j : Nat) (x : Str), N[i]? = some x -> js[i]? = some (some j) -> X.N[j]? = some x /\ x ∉ ownC scope /\ X.env.scope.names.lookup x = some .cell /\ ((relabel scope X.env).names.lookup x = some .cell ∨ (relabel scope X.env).names.lookup x = some .free)
abbrev compCxC (X : Cx) (scope : Scope) (cl : List (Str × Addr)) (N : List Str) (fp : List Addr) (pins : List (Addr × Obj)) (s : Shared) (H : Hp) (E : Value -> Shared -> Prop) : Cx :=
  { X with N := N, s₀ := s, H₀ := H, env := compEnvC scope (cellsFrom (s.heap.objs.size + 1) scope.names cl) s.heap.objs.size X.env, outer := X.stack, ex := fp, fn := fun x => (ownC scope).contains x, pn := X.pn ++ pins, xe := E }
theorem pe_compC {X : Cx} {elt tg iter : Expr} {cs : List Expr} {scope : Scope} {pos : Pos} {cl : List (Str × Addr)} {N : List Str} {js : List (Option Nat)} {wi : TI} {g : TG} {tc : TT} {te : TE}
    (C : CompOkC X scope cl N js) (hc : X.calm = true) (hi : PI X tg iter wi)
    (hg : ∀ fp pins s H, PG (compCxC X scope cl N fp pins s H fun _ _ => False) tg g)
    (ht : ∀ fp pins s H, PTs (compCxC X scope cl N fp pins s H fun _ _ => False) cs tc)
    (he : ∀ fp pins s H, PE (compCxC X scope cl N fp pins s H fun _ _ => False) elt te)
    (hs : ∀ x, foldedSetIterable iter X.env x = pure x := by intro _; rfl) : PE X (.ListComp elt [⟨tg, iter, cs, 0⟩] scope pos) (tComp js wi g tc te) := by
  intro pins s σ H Q I h
  rw [eval_ListComp]
  refine wpAny_comprehension_free (use := none) rfl hs C.clos C.kind C.names (thn (hi pins s σ H _ I h) fun xv s1 h1 => thn h1 fun itv s2 h2 => ?_)
  obtain ⟨it, fp, tn, J, H2, e, I2, T, st2, f2, h2⟩ := h2
  subst e
  obtain ⟨W, ⟨m0, w0⟩, turn⟩ := h2 s2.heap.objs.size I2.fresh
  refine wpAny_newObj_type (newEnv_comp ?_)
  have I3 : Inv X pins σ (upd H2 s2.heap.objs.size (.lst [])) { s2 with heap := s2.heap.push { cls := .type "list", data := .seq ([] : List Value).toArray } } := I2.lnew (t' := s2.toks) (its := []) .nil (Nat.zero_le _)
  dsimp only
  generalize e3 : ({ s2 with heap := s2.heap.push { cls := .type "list", data := .seq ([] : List Value).toArray } } : Shared) = s3 at I3
  have e3h : s2.heap.push { cls := .type "list", data := .seq ([] : List Value).toArray } = s3.heap := by rw [← e3]
  have e3g : s2.gens = s3.gens := by rw [← e3]
  have e3o : s2.os = s3.os := by rw [← e3]
  rw [e3h]
  have ns4 : (pushCells (s3.heap.push { cls := .type "dict", data := .dict #[] }) scope.names).Ns s3.heap.objs.size (fun _ => none) := (Heap.Ns.new s3.heap (.type "dict")).keeps (pushCells_keeps _ _)
  have up4 : ∀ b o, s3.heap.get? b = some o -> (pushCells (s3.heap.push { cls := .type "dict", data := .dict #[] }) scope.names).get? b = some o := fun b o q => pushCells_keeps _ _ b o (Heap.get?_push_of_some _ q)
  have cok := cellsFrom_ok scope.names (s3.heap.push { cls := .type "dict", data := .dict #[] }) (s3.heap.objs.size + 1) [] ⟨fun _ _ hm => (nomatch hm), List.Pairwise.nil⟩ (by rw [Heap.size_push]; exact Nat.le_refl _)
  rw [Heap.size_push] at cok
  generalize pushCells (s3.heap.push { cls := .type "dict", data := .dict #[] }) scope.names = h4 at ns4 up4 cok ⊢
  generalize eH : upd H2 s2.heap.objs.size (.lst []) = H3 at I3 w0
  have hD : s2.heap.objs.size < s3.heap.objs.size := by rw [← e3h, Heap.size_push]; exact Nat.lt_succ_self _
  have up3 : ∀ b o, s2.heap.get? b = some o -> s3.heap.get? b = some o := fun b o q => by rw [← e3h]; exact Heap.get?_push_of_some _ q
  have clt : ∀ x c, cl.lookup x = some c -> c < s3.heap.objs.size := fun x c q => by
    obtain ⟨v, oc, hoc, _⟩ := I3.cell x c (C.sub _ _ q)
    exact Heap.lt_size hoc
  have cas : ∀ x c, (cellsFrom (s3.heap.objs.size + 1) scope.names cl).lookup x = some c -> (cl.lookup x = some c /\ x ∉ ownC scope) ∨ (x ∈ ownC scope /\ (x, c) ∈ cellsFrom (s3.heap.objs.size + 1) scope.names []) := fun x c q => by
    rw [cellsFrom_app, lookup_app] at q
    cases e : (cellsFrom (s3.heap.objs.size + 1) scope.names []).lookup x with
    | some c' =>
      rw [e] at q
      cases q
      have m := mem_of_lookup e
      exact .inr ⟨mem_own.mpr (mem_cellsFrom m), m⟩
    | none =>
      rw [e] at q
      have q' : cl.lookup x = some c := q
      refine .inl ⟨q', fun z => ?_⟩
      rw [C.dis x z] at q'
      cases q'
  have csub : ∀ x c, cl.lookup x = some c -> (cellsFrom (s3.heap.objs.size + 1) scope.names cl).lookup x = some c := fun x c q => by
    rw [cellsFrom_app, lookup_app]
    cases e : (cellsFrom (s3.heap.objs.size + 1) scope.names []).lookup x with
    | none => exact q
    | some c' =>
      have := C.dis x (mem_own.mpr (mem_cellsFrom (mem_of_lookup e)))
      rw [q] at this
      cases this
  have cnew : ∀ x c, (x, c) ∈ cellsFrom (s3.heap.objs.size + 1) scope.names [] -> h4.IsCell c none /\ s3.heap.objs.size + 1 <= c := fun x c m => cok.empty x c m
  have fpo : ∀ b ∈ fp, b < s3.heap.objs.size := fun b hb => by
    obtain ⟨o, eo, _⟩ := T.obj 0 _ st2 b hb
    exact Heap.lt_size (up3 b o eo)
  have fst : ∀ b ∈ fp, b ∉ frs X.stack := fun b hb z => by
    rcases List.mem_cons.mp (I3.stkSub b z) with q | q
    · exact (f2 b hb).2.1 q
    · exact (f2 b hb).2.2.1 q
  have okY : (compCxC X scope cl N fp pins s3 H3 fun _ _ => False).Ok := by
    refine ⟨I.ok.mod, C.kind, I.ok.glob, I.ok.blt, Nat.le_refl _, fun x y c q1 q2 => ?_, fun x z => ?_, fun x c z q => ?_, I.ok.hd, I.ok.frames, .inl rfl, fun b hb => ⟨Nat.ne_of_lt (fpo b hb), fun x c q => ?_⟩,
      I3.bs, Nat.le_trans I.ok.bsz I3.sz, fun b o q hb => ?_, fst, I3.stack, I3.stkFree⟩
    · rcases cas x c q1 with ⟨a1, _⟩ | ⟨_, a1⟩
      · rcases cas y c q2 with ⟨a2, _⟩ | ⟨_, a2⟩
        · exact I.ok.inj x y c (C.sub _ _ a1) (C.sub _ _ a2)
        · exact absurd (clt x c a1) (Nat.not_lt.mpr (Nat.le_trans (Nat.le_succ _) (cnew y c a2).2))
      · rcases cas y c q2 with ⟨a2, _⟩ | ⟨_, a2⟩
        · exact absurd (clt y c a2) (Nat.not_lt.mpr (Nat.le_trans (Nat.le_succ _) (cnew x c a1).2))
        · exact name_of_addr cok.apart a1 a2
    · rcases C.has x z with ⟨c, h'⟩ | h'
      · exact ⟨c, csub x c h'⟩
      · obtain ⟨c, m⟩ := of_mem_cells (n := s3.heap.objs.size + 1) (mem_own.mp h')
        obtain ⟨c', e'⟩ := lookup_of_key (List.mem_map.mpr ⟨(x, c), m, rfl⟩)
        refine ⟨c', ?_⟩
        show (cellsFrom (s3.heap.objs.size + 1) scope.names cl).lookup x = some c'
        rw [cellsFrom_app, lookup_app, e']
        rfl
    · rcases cas x c q with ⟨_, a1⟩ | ⟨_, a1⟩
      · exact absurd (List.contains_iff_mem.mp z) a1
      · exact Nat.le_trans (Nat.le_succ _) (cnew x c a1).2
    · rcases cas x c q with ⟨a1, _⟩ | ⟨_, a1⟩
      · exact (f2 b hb).2.2.2.2.1 x c (C.sub _ _ a1)
      · exact Nat.ne_of_gt (Nat.lt_of_lt_of_le (fpo b hb) (Nat.le_trans (Nat.le_succ _) (cnew x c a1).2))
    rcases (f2 b hb).2.2.2.1 with z | z
    · exact I.ok.noex b o q z
    · exact absurd (Nat.lt_of_lt_of_le (Heap.lt_size q) (Nat.le_trans I.ok.bsz z)) (Nat.lt_irrefl _)
  have I4 : Inv (compCxC X scope cl N fp pins s3 H3 fun _ _ => False) [] (pick js σ) H3 { s3 with heap := h4 } := by
    refine ⟨okY, rfl, I3.bare, Un.kept up4, ⟨_, ns4, fun i x v q1 q2 q3 => ?_⟩, fun x c q => ?_, I3.hok.fresh (Nat.le_refl _), fun x c q => ?_, fun p hp => ?_, I3.hok.kept up4, ?_⟩
    · obtain ⟨j, k1, k2⟩ := pick_get q2
      obtain ⟨z1, z0, z2, z3⟩ := C.seen i j x q1 k1
      obtain ⟨m, hn, hl⟩ := I3.loc
      obtain ⟨u, ru, lk⟩ := hl j x v z1 k2 (.inr (.inl z2))
      refine ⟨u, ru, .inr ⟨z3, ?_⟩⟩
      rcases lk with ⟨k, _⟩ | ⟨_, c, ec, oc, hoc, hdc⟩
      · have k' : X.env.scope.names.lookup x = some .local := k
        rw [z2] at k'; cases k'
      · obtain ⟨c', ec'⟩ := (C.has x z3).resolve_right z0
        have := C.sub _ _ ec'
        rw [ec] at this
        cases this
        exact ⟨c, csub x c ec', oc, up4 _ _ hoc, hdc⟩
    · rcases cas x c q with ⟨a1, _⟩ | ⟨_, a1⟩
      · obtain ⟨v, oc, hoc, hdc⟩ := I3.cell x c (C.sub _ _ a1)
        exact ⟨v, oc, up4 _ _ hoc, hdc⟩
      · exact ⟨none, (cnew x c a1).1⟩
    · rcases cas x c q with ⟨a1, _⟩ | ⟨_, a1⟩
      · exact I3.freeC x c (C.sub _ _ a1)
      · exact I3.hok.fresh (Nat.le_trans (Nat.le_succ _) (cnew x c a1).2)
    · have hp' : p ∈ X.pn ++ pins := by simpa using hp
      obtain ⟨q1, q2, q3, q4, q5⟩ := I3.pin p hp'
      refine ⟨up4 _ _ q1, q2, Nat.ne_of_lt (Heap.lt_size q1), fun z => ?_, q5⟩
      rcases List.mem_cons.mp (I3.stkSub _ z) with q | q
      · exact q3 q
      · exact q4 q
    · show (pick js σ).length = N.length
      unfold pick
      rw [List.length_map, C.len]
  have stat : ∀ {H' : Hp}, (∀ b ∈ fp, H' b = none) -> ∀ b ∈ fp, FpOk (compCxC X scope cl N fp pins s3 H3 fun _ _ => False) [] H' b := fun hn b hb =>
    ⟨hn b hb, Nat.ne_of_lt (fpo b hb), fst b hb, .inl hb, fun x c q => by
      rcases cas x c q with ⟨a1, _⟩ | ⟨_, a1⟩
      · exact (f2 b hb).2.2.2.2.1 x c (C.sub _ _ a1)
      · exact Nat.ne_of_gt (Nat.lt_of_lt_of_le (fpo b hb) (Nat.le_trans (Nat.le_succ _) (cnew x c a1).2)), fun p hp => (f2 b hb).2.2.2.2.2 p (by simpa using hp)⟩
  have st4 : tn 0 h4 := T.keep 0 _ _ st2 fun b hb o q => up4 b o (up3 b o q)
  have nx : ∀ e s', (compCxC X scope cl N fp pins s3 H3 fun _ _ => False).xe e s' -> False := fun _ _ z => z
  have loop : codeAny (model X.prog X.w) X.A (.compLoop (.ListComp elt [⟨tg, iter, cs, 0⟩] scope pos) 0 (.ref it) (.ref s2.heap.objs.size) (compEnvC scope (cellsFrom (s3.heap.objs.size + 1) scope.names cl) s3.heap.objs.size X.env))
      (compPost (model X.prog X.w) X.A X.xe none (EP X pins σ Q) (.ref s2.heap.objs.size) s3.heap.objs.size) { s3 with heap := h4 } := by
    refine loop_go (fun n s' => ∃ i σ' H' ys, Inv (compCxC X scope cl N fp pins s3 H3 fun _ _ => False) [] σ' H' s' /\ tn i s'.heap /\ (∀ b ∈ fp, H' b = none) /\ W i n σ' H' ys) ?_ m0 ⟨0, _, H3, [], I4, st4, fun b hb => ?_, w0⟩
    · rintro n s5 ⟨i, σ5, H5, ys, I5, st5, fr5, w5⟩
      obtain ⟨hD5, way⟩ := turn i n σ5 H5 ys w5
      rcases way with ⟨stop, qn⟩ | ⟨go, hz, NN, hN, step⟩
      · refine noEx nx (thn (T.done (compCxC X scope cl N fp pins s3 H3 fun _ _ => False) rfl rfl rfl hc i [] s5 σ5 H5 _ I5 (stat fr5) st5 stop) fun r s6 ⟨hr, I6⟩ => ?_)
        subst hr
        obtain ⟨m, hn, _⟩ := I6.loc
        refine ⟨m, hn, fun h' sb => ⟨.ref s2.heap.objs.size, H5, ?_, rfl, qn⟩⟩
        have low : ∀ b o, s3.heap.get? b = some o -> b ≠ s3.heap.objs.size := fun b o q => Nat.ne_of_lt (Heap.lt_size q)
        have same : ∀ b, b ≠ s3.heap.objs.size -> h'.get? b = s6.heap.get? b := fun b hb => sb.2 b hb
        have B := I6.base
        refine I3.call' (s' := { s6 with heap := h' }) (H' := H5) (ch := fp) I6.os ⟨fun b o q n0 h1 h2 => ?_, fun b o q n0 h1 h2 => ?_, B.free, fun b o q h2 => ?_, B.tups, B.frzs, B.tbls⟩ (fun a o q => ?_) I6.bare (fun b hb => ⟨(f2 b hb).2.2.2.1, (f2 b hb).2.1, (f2 b hb).2.2.2.2.1, (f2 b hb).2.2.2.2.2⟩)
        · exact (same b (low b o q)).trans (B.keep b o q n0 h1 h2)
        · obtain ⟨sl, z⟩ := B.slot b o q n0 h1 h2
          exact ⟨sl, (same b (low b o q)).trans z⟩
        · obtain ⟨o', z⟩ := B.there b o q h2
          exact ⟨o', (same b (low b o q)).trans z⟩
        · have nC : ∀ c u, H5 c = some u -> c ≠ s3.heap.objs.size := fun c u z y => by
            have := I6.free
            rw [y] at z
            rw [show H5 s3.heap.objs.size = none from this] at z
            cases z
          refine (I6.hok a o q).stay (fun c u hc' z => (same c ?_).trans z) (fun _ z => z) fun _ _ z => z
          rcases hc' with z' | z'
          · rw [z']; exact nC a o q
          · exact nC c _ z'
      · refine noEx nx (thn (T.item (compCxC X scope cl N fp pins s3 H3 fun _ _ => False) rfl rfl rfl hc i [] s5 σ5 H5 _ I5 (stat fr5) st5 go) fun r s6 ⟨u, hr, h6⟩ => ?_)
        subst hr
        refine noEx nx (thn h6 fun _ s7 ⟨x, H7, I7, r7, y7, st7, fr7⟩ => ?_)
        have I7' := I7.pinned (stat fr7) (T.obj _ _ st7)
        refine noEx nx (thn (hg fp pins s3 H3 _ s7 σ5 H7 x u _ I7' r7 (step x H7 y7)) fun _ s8 ⟨σ8, H8, I8, q8⟩ => ?_)
        refine noEx nx (thn (ht fp pins s3 H3 _ s8 σ8 H8 _ I8 q8) fun k s9 ⟨H9, I9, q9⟩ => ?_)
        have fin : ∀ {s' : Shared} {σ' : St} {H' : Hp} {ys' : List V}, Inv (compCxC X scope cl N fp pins s3 H3 fun _ _ => False) ([] ++ pinsAt fp s7.heap) σ' H' s' -> NN σ' H' ys' ->
            ∃ m', m' < n /\ ∃ i σ' H' ys, Inv (compCxC X scope cl N fp pins s3 H3 fun _ _ => False) [] σ' H' s' /\ tn i s'.heap /\ (∀ b ∈ fp, H' b = none) /\ W i m' σ' H' ys := fun {s' σ' H' ys'} Iv nv => by
          obtain ⟨m', hm, wv⟩ := hN σ' H' ys' nv
          refine ⟨m', hm, i + 1, σ', H', ys', Iv.unpinned, T.keep _ _ _ st7 fun b hb o q => (Iv.pin (b, o) (List.mem_append_right _ (List.mem_append_right _ (mem_pinsAt hb q)))).1, fun b hb => ?_, wv⟩
          obtain ⟨o, q, _⟩ := T.obj _ _ st7 b hb
          exact (Iv.pin (b, o) (List.mem_append_right _ (List.mem_append_right _ (mem_pinsAt hb q)))).2.1
        cases k with
        | false =>
          rw [if_neg Bool.false_ne_true] at q9 ⊢
          exact fin I9 q9.2
        | true =>
          rw [if_pos rfl] at q9 ⊢
          refine noEx nx (thn (he fp pins s3 H3 _ s9 σ8 H9 _ I9 q9) fun y sA ⟨yv, HA, IA, rA, hDA, qA⟩ => ?_)
          refine noEx nx (thn (mt_append _ sA σ8 HA (.ref s2.heap.objs.size) [yv] _ [y] (fun _ HB => NN σ8 HB (ys ++ [yv])) IA rfl (.cons rA .nil) ⟨_, ys, yv, rfl, rfl, hDA, hz, qA⟩) fun _ sB ⟨_, HB, IB, _, qB⟩ => ?_)
          exact fin IB qB
    · rw [← eH, upd_ne]
      · exact (f2 b hb).1
      · obtain ⟨o, eo, _⟩ := T.obj 0 _ st2 b hb
        exact Nat.ne_of_lt (Heap.lt_size eo)
  have goal : codeAny (model X.prog X.w) X.A (.compStart (.ListComp elt [⟨tg, iter, cs, 0⟩] scope pos) 0 (.ref it) (.ref s2.heap.objs.size) (compEnvC scope (cellsFrom (s3.heap.objs.size + 1) scope.names cl) s3.heap.objs.size X.env))
      (compPost (model X.prog X.w) X.A X.xe none (EP X pins σ Q) (.ref s2.heap.objs.size) s3.heap.objs.size) { s3 with heap := h4 } :=
    codeAny_compStart_list loop (T.self _ 0 _ _ _ st4 loop)
  subst e3
  exact goal
theorem qe_compC {X : Cx} {elt tg iter : Expr} {cs : List Expr} {scope : Scope} {pos : Pos} {cl : List (Str × Addr)} {N : List Str} {js : List (Option Nat)} {wi : TI} {g : TG} {tc : TT} {te : TE}
    (C : CompOkC X scope cl N js) (hc : X.calm = true) (hi : QI X tg iter wi)
    (hg : ∀ fp pins s H, QG (compCxC X scope cl N fp pins s H fun _ _ => False) tg g)
    (ht : ∀ fp pins s H, QTs (compCxC X scope cl N fp pins s H fun _ _ => False) cs tc)
    (he : ∀ fp pins s H, QE (compCxC X scope cl N fp pins s H fun _ _ => False) elt te)
    (hs : ∀ x, foldedSetIterable iter X.env x = pure x := by intro _; rfl) : QE X (.ListComp elt [⟨tg, iter, cs, 0⟩] scope pos) (tComp js wi g tc te) :=
  ⟨pe_compC C hc hi.o (fun fp pins s H => (hg fp pins s H).o) (fun fp pins s H => (ht fp pins s H).o) (fun fp pins s H => (he fp pins s H).o) hs⟩
def relS (sc osc : Scope) : Scope := { sc with names := relN sc osc }
def compChkC (sc osc : Scope) (N XN : List Str) (js : List (Option Nat)) : Bool :=
  decide (sc.kind = .function) && sc.names.all (fun y => y.2 != .local || sc.names.lookup y.1 == some .local) &&
  (relN sc osc).all (fun p => !(p.2 == .cell || p.2 == .free) || (ksOf sc).contains p.1 || (ownC sc).contains p.1) && js.length == N.length && (ownC sc).all (fun x => !(ksOf sc).contains x) &&
  (List.range N.length).all fun i => match js[i]?, N[i]? with
    | some (some j), some x => XN[j]? == some x && !(ownC sc).contains x && osc.names.lookup x == some .cell && ((relN sc osc).lookup x == some .cell || (relN sc osc).lookup x == some .free)
    | _, _ => true
theorem compOkC_of {X : Cx} {sc osc : Scope} {cl : List (Str × Addr)} {N XN : List Str} {js : List (Option Nat)} (ho : X.env.scope = osc) (clos : closureFor sc X.env = pure cl) (hk : cl.map (·.1) = ksOf sc)
    (hsub : ∀ p ∈ cl, X.env.cells.lookup p.1 = some p.2) (chk : compChkC sc osc N XN js = true) (hN : X.N = XN) : CompOkC X sc cl N js := by
  unfold compChkC at chk
  simp only [Bool.and_eq_true] at chk
  obtain ⟨⟨⟨⟨⟨h2, h3⟩, h4⟩, h5⟩, h7⟩, h6⟩ := chk
  have er : (relabel sc X.env).names = relN sc osc := by
    unfold relabel relN Env.kindOf
    rw [ho]
  refine ⟨clos, fun x hx => ?_, of_decide_eq_true h2, ?_, ?_, ?_, eq_of_beq h5, ?_⟩
  · have := List.all_eq_true.mp h7 x hx
    cases e : cl.lookup x with
    | none => rfl
    | some c =>
      have m : x ∈ ksOf sc := by
        rw [← hk]
        exact List.mem_map.mpr ⟨(x, c), mem_of_lookup e, rfl⟩
      simp [m] at this
  · intro y hy hl
    have := List.all_eq_true.mp h3 y hy
    rw [hl] at this
    simpa using this
  · intro x c h
    exact hsub (x, c) (mem_of_lookup h)
  · intro x h
    rw [er] at h
    have : (ksOf sc).contains x = true ∨ (ownC sc).contains x = true := by
      rcases h with h | h
      all_goals
        have := List.all_eq_true.mp h4 _ (mem_of_lookup h)
        simpa using this
    rcases this with z | z
    · refine .inl (lookup_of_key ?_)
      rw [hk]
      exact List.contains_iff_mem.mp z
    · exact .inr (List.contains_iff_mem.mp z)
  · intro i j x hNi hj
    have hi : i < N.length := (List.getElem?_eq_some_iff.mp hNi).1
    have := List.all_eq_true.mp h6 i (List.mem_range.mpr hi)
    rw [hj, hNi] at this
    simp only [Bool.and_eq_true, Bool.or_eq_true] at this
    obtain ⟨⟨⟨a, d⟩, b⟩, c⟩ := this
    refine ⟨?_, ?_, ?_, ?_⟩
    · rw [hN]; exact eq_of_beq a
    · intro z
      have := List.contains_iff_mem.mpr z
      rw [this] at d
      cases d
    · rw [ho]; exact eq_of_beq b
    · rw [er]
      rcases c with c | c
      · exact .inl (eq_of_beq c)
      · exact .inr (eq_of_beq c)
theorem compOkC_in {X : Cx} {sc sc0 osc : Scope} {cl0 cl : List (Str × Addr)} {N N0 : List Str} {js : List (Option Nat)} {fp : List Addr} {pins : List (Addr × Obj)} {s : Shared} {H : Hp} {E : Value -> Shared -> Prop} (ho : X.env.scope = osc)
    (clos : closureFor sc (compCxC X sc0 cl0 N0 fp pins s H E).env = pure cl) (hk : cl.map (·.1) = ksOf sc)
    (hsub : ∀ p ∈ cl, (compCxC X sc0 cl0 N0 fp pins s H E).env.cells.lookup p.1 = some p.2) (chk : compChkC sc (relS sc0 osc) N N0 js = true) : CompOkC (compCxC X sc0 cl0 N0 fp pins s H E) sc cl N js := by
  refine compOkC_of (osc := relS sc0 osc) ?_ clos hk hsub chk rfl
  show relabel sc0 X.env = relS sc0 osc
  unfold relabel relS relN Env.kindOf
  rw [ho]
section
variable {X : Cx} {tg : Expr}
theorem qi_tupN {K : PySem.W.Frag} (hK : X.K = K) {l : Expr} {tl : TE} (hl : QE X l tl) : QI X tg l (iTup K tl) := by
  subst hK
  exact qi_tup hl
theorem qi_listN {K : PySem.W.Frag} (hK : X.K = K) {l : Expr} {tl : TE} (hl : QE X l tl) : QI X tg l (iList K tl) := by
  subst hK
  exact qi_list hl
end
end L2
namespace Mth
open W2
end Mth
namespace Srt
open PySem PySem.W PyProof.Rows
end Srt
namespace L2
open PySem PySem.Spec PyProof.Rows
end L2
namespace Xn
open PySem PyProof.Rows
end Xn
namespace L2
open PySem PySem.Spec PyProof.Rows Xn
end L2
namespace Tpi
open PySem PyProof.Rows
end Tpi
namespace L2
open PySem PySem.Spec PyProof.Rows
end L2
namespace L2
open PySem PySem.Spec PyProof.Rows
end L2
namespace Mth
open W2
end Mth
namespace L2
open PySem PySem.Spec PyProof.Rows
end L2
namespace W2
open PySem L2 Mth
end W2
namespace L2
open PySem PySem.Spec PyProof.Rows W2
end L2
namespace Srt
open PySem PySem.W PyProof.Rows L2
end Srt
namespace W2
open PySem PySem.W L2 Srt
end W2
namespace Mth
open W2
end Mth
namespace L2
open PySem PySem.Spec PyProof.Rows
end L2
namespace W2
open PySem L2 Mth
theorem comp_listG {K : PySem.W.Frag} {a D : Addr} {js : List (Option Nat)} {te : TE} {σ : St} {H1 : Hp} {Q : VK} {xs : List V} {σ0 : St} (hn : xs.length <= sizeLine) (hp : ∃ u, pick js σ = u :: σ0) (hD : H1 D = none)
    (ha : H1 a = some (.lst xs)) (Rv : Nat -> Hp -> List V -> Prop) (h0 : Rv 0 (upd H1 D (.lst [])) [])
    (hk : ∀ i H' H2 zs ys, H' D = some (.lst ys) -> Rv i H' zs -> But D H' H2 -> Rv i H2 zs)
    (hs : ∀ (i : Nat) (x : V) (H' : Hp) (zs : List V) (R : VK), Same H1 H' -> xs[i]? = some x -> H' D = some (.lst zs) -> zs.length = i -> Rv i H' zs -> (∀ z H4, Same H' H4 -> Rv (i + 1) H4 (zs ++ [z]) -> R z H4) -> te (some x :: σ0) H' R)
    (q : ∀ H' zs, Same H1 H' -> H' D = some (.lst zs) -> zs.length = xs.length -> Rv xs.length H' zs -> Q (.ref D) H') : CompW (Itl K a) D js (gName 0) tNoTest te σ H1 Q := by
  obtain ⟨u0, hp⟩ := hp
  refine comp_genW (n := xs.length) hn (fun i σ' H' zs => (∃ u : Option V, σ' = u :: σ0) /\ Same H1 H' /\ H' D = some (.lst zs) /\ zs.length = i /\ Rv i H' zs) ⟨⟨u0, hp⟩, Same.new hD, upd_same, rfl, h0⟩ (fun i σ' H' zs _ ⟨_, _, h3, h4, _⟩ => ⟨h3, Nat.le_of_eq h4⟩) (fun i σ' H' zs hi ⟨_, s', _⟩ => ⟨_, xs[i], SqL.of (s' _ _ ha), List.getElem?_eq_getElem hi⟩) (fun σ' H' zs ⟨_, s', h3, h4, e⟩ => ⟨⟨_, SqL.of (s' _ _ ha), Nat.le_refl _⟩, q H' zs s' h3 h4 e⟩) ?_
  rintro i σ' H' zs x H2 hi ⟨⟨u, rfl⟩, s', h3, h4, e⟩ ⟨rfl, hx⟩
  have hx' := hx _ (SqL.of (s' _ _ ha))
  refine hs i x _ zs _ s' hx' h3 h4 e fun z H4 s4 r4 => ⟨s4 _ _ h3, ⟨_, rfl⟩, ?_, upd_same, by rw [List.length_append, h4]; rfl, hk _ _ _ _ _ (s4 _ _ h3) r4 But.upd⟩
  intro c o e'
  rw [upd_ne (ne_of_none e' hD)]
  exact s4 _ _ (s' c o e')
end W2
namespace Mth
open W2
end Mth
namespace Hnd
open PySem PySem.Spec PyProof.Rows
end Hnd
namespace Mth
open PySem PySem.NumText
end Mth
namespace Rvl
open PySem PyProof.Rows
end Rvl
namespace L2
open PySem PySem.Spec PyProof.Rows W2
end L2
namespace W2
open PySem L2 Mth
end W2
namespace L2
open PySem PySem.Spec PyProof.Rows W2
end L2
namespace Mth
open PySem PySem.NumText
instance (x : List Nat) : Decidable (AllDigits x) := by unfold AllDigits; infer_instance
end Mth
namespace Mth
open PySem PySem.NumText
end Mth
namespace Mth
open PySem PySem.NumText
end Mth
namespace Mth
open W2
end Mth
namespace Mth
open W2
end Mth
namespace Mth
theorem getD_rep (n k : Nat) : (List.replicate n (0 : Int)).getD k 0 = 0 := by
  rw [List.getD_eq_getElem?_getD, List.getElem?_replicate]
  split <;> rfl
theorem getD_far {x : List Int} {k : Nat} (h : x.length <= k) : x.getD k 0 = 0 := by
  rw [List.getD_eq_getElem?_getD, List.getElem?_eq_none h]
  rfl
theorem dot_one : ∀ (y l : List Int) (i : Nat), (∀ j, j ≠ i -> l.getD j 0 = 0) -> dotI y l = y.getD i 0 * l.getD i 0
  | [], l, i, _ => by
    rw [dotI_nil, getD_far (Nat.zero_le _), Int.zero_mul]
  | a :: y, [], i, _ => by
    rw [getD_far (x := []) (Nat.zero_le _), Int.mul_zero]
    rfl
  | a :: y, b :: l, 0, h => by
    rw [dotI_cons, dotI_comm, dotI_zero l y fun k => h (k + 1) (by omega), Int.add_zero]
    rfl
  | a :: y, b :: l, i + 1, h => by
    have h0 : b = 0 := h 0 (by omega)
    rw [dotI_cons, h0, Int.mul_zero, Int.zero_add, dot_one y l i fun j hj => h (j + 1) (by omega)]
    rfl
theorem unit_len (l : Nat) : (unitI l).length = 10 := by
  unfold unitI
  rw [List.length_map, List.length_range]
theorem dotI_app : ∀ (a b c d : List Int), a.length = c.length -> dotI (a ++ b) (c ++ d) = dotI a c + dotI b d
  | [], b, [], d, _ => by rw [dotI_nil, Int.zero_add]; rfl
  | x :: a, b, y :: c, d, h => by
    rw [List.cons_append, List.cons_append, dotI_cons, dotI_cons, dotI_app a b c d (by simpa using h)]
    omega
theorem all_getD {l : List Int} (h : ∀ v ∈ l, v = 0) (k : Nat) : l.getD k 0 = 0 := by
  rw [List.getD_eq_getElem?_getD]
  cases hk : l[k]? with
  | none => rfl
  | some v => exact h v (List.mem_of_getElem? hk)
end Mth
namespace Mth
theorem zero_or_not (r : List Int) : (∃ n ∈ r, n ≠ 0) ∨ ∀ n ∈ r, n = 0 := by
  rcases Classical.em (∃ n ∈ r, n ≠ 0) with h | h
  · exact .inl h
  · exact .inr fun n hn => Classical.byContradiction fun z => h ⟨n, hn, z⟩
theorem BdI.at {b : Nat} {r : List Int} (h : BdI b r) (k : Nat) : (r.getD k 0).natAbs <= 2 ^ b := by
  rcases Classical.em (r.getD k 0 = 0) with z | z
  · rw [z]; exact Nat.zero_le _
  · exact h _ (getD_mem z)
end Mth
namespace Mth
theorem pigeon : ∀ (M N : Nat) (f : Nat -> Nat), M < N -> (∀ m, m < N -> f m < M) -> ∃ a b, a < b /\ b < N /\ f a = f b
  | 0, N, f, h, hf => absurd (hf 0 h) (Nat.not_lt_zero _)
  | M + 1, N, f, h, hf => by
    rcases Classical.em (∃ m, m < N - 1 /\ f m = f (N - 1)) with ⟨m, h1, h2⟩ | hn
    · exact ⟨m, N - 1, h1, by omega, h2⟩
    · have hne : ∀ m, m < N - 1 -> f m ≠ f (N - 1) := fun m hm e => hn ⟨m, hm, e⟩
      obtain ⟨a, b, h1, h2, h3⟩ := pigeon M (N - 1) (fun m => if f m = M then f (N - 1) else f m) (by omega) (fun m hm => by
        show (if f m = M then f (N - 1) else f m) < M
        have a1 := hf m (by omega)
        have a2 := hf (N - 1) (by omega)
        have a3 := hne m hm
        split <;> omega)
      have b1 := hne a (by omega)
      have b2 := hne b h2
      refine ⟨a, b, h1, by omega, ?_⟩
      revert h3
      show (if f a = M then f (N - 1) else f a) = (if f b = M then f (N - 1) else f b) -> _
      intro h3
      split at h3 <;> split at h3 <;> omega
def codeN (b : Nat) : List Nat -> Nat
  | [] => 0
  | d :: l => d + b * codeN b l
theorem code_lt {b : Nat} : ∀ {l : List Nat}, (∀ d ∈ l, d < b) -> codeN b l < b ^ l.length
  | [], _ => by show 0 < b ^ 0; rw [Nat.pow_zero]; decide
  | d :: l, h => by
    have h1 := h d List.mem_cons_self
    have h2 := code_lt (l := l) fun x hx => h x (List.mem_cons_of_mem _ hx)
    show d + b * codeN b l < b ^ (l.length + 1)
    have h3 : b * (codeN b l + 1) <= b * b ^ l.length := Nat.mul_le_mul_left _ h2
    rw [Nat.mul_add, Nat.mul_one] at h3
    rw [Nat.pow_succ, Nat.mul_comm (b ^ l.length)]
    omega
theorem code_inj {b : Nat} : ∀ {l l' : List Nat}, l.length = l'.length -> (∀ d ∈ l, d < b) -> (∀ d ∈ l', d < b) -> codeN b l = codeN b l' -> l = l'
  | [], [], _, _, _, _ => rfl
  | d :: l, d' :: l', hl, h, h', e => by
    have h1 := h d List.mem_cons_self
    have h2 := h' d' List.mem_cons_self
    have e' : d + b * codeN b l = d' + b * codeN b l' := e
    have hb : 0 < b := by omega
    have ed : d = d' := by
      have := congrArg (· % b) e'
      simp only [Nat.add_mul_mod_self_left] at this
      rwa [Nat.mod_eq_of_lt h1, Nat.mod_eq_of_lt h2] at this
    have ec : codeN b l = codeN b l' := Nat.eq_of_mul_eq_mul_left hb (by omega)
    rw [ed, code_inj (by simpa using hl) (fun x hx => h x (List.mem_cons_of_mem _ hx)) (fun x hx => h' x (List.mem_cons_of_mem _ hx)) ec]
end Mth
namespace Mth
theorem unit_get (l j : Nat) : (unitI l).getD j 0 = if j < 10 then (if j = l then 1 else 0) else 0 := by
  unfold unitI
  rw [List.getD_eq_getElem?_getD, List.getElem?_map]
  by_cases hj : j < 10
  · rw [List.getElem?_range hj, if_pos hj]
    rfl
  · rw [List.getElem?_eq_none (by rw [List.length_range]; omega), if_neg hj]
    rfl
end Mth
namespace Mth
end Mth
namespace Mth
theorem get_set (row : List Int) (i j : Nat) (v : Int) : (row.set i v).getD j 0 = if i = j /\ i < row.length then v else row.getD j 0 := by
  rw [List.getD_eq_getElem?_getD, List.getD_eq_getElem?_getD, List.getElem?_set]
  by_cases e : i = j
  · subst e
    by_cases h : i < row.length
    · rw [if_pos rfl, if_pos h, if_pos ⟨rfl, h⟩]
      rfl
    · rw [if_pos rfl, if_neg h, if_neg (fun z => h z.2), List.getElem?_eq_none (by omega)]
  · rw [if_neg e, if_neg (fun z => e z.1)]
end Mth
namespace Mth
def sumN (f : Nat -> Int) : Nat -> Int
  | 0 => 0
  | n + 1 => sumN f n + f n
theorem sumN_congr {f g : Nat -> Int} : ∀ {n : Nat}, (∀ i, i < n -> f i = g i) -> sumN f n = sumN g n
  | 0, _ => rfl
  | n + 1, h => by
    show sumN f n + f n = sumN g n + g n
    rw [sumN_congr fun i hi => h i (by omega), h n (by omega)]
theorem sumN_lin (f g : Nat -> Int) (a b : Int) : ∀ n, sumN (fun i => a * f i + b * g i) n = a * sumN f n + b * sumN g n
  | 0 => by show (0 : Int) = a * 0 + b * 0; omega
  | n + 1 => by
    show sumN (fun i => a * f i + b * g i) n + (a * f n + b * g n) = a * (sumN f n + f n) + b * (sumN g n + g n)
    rw [sumN_lin f g a b n, Int.mul_add, Int.mul_add]
    omega
theorem sumN_zero {f : Nat -> Int} : ∀ {n : Nat}, (∀ i, i < n -> f i = 0) -> sumN f n = 0
  | 0, _ => rfl
  | n + 1, h => by
    show sumN f n + f n = 0
    rw [sumN_zero fun i hi => h i (by omega), h n (by omega)]
    rfl
theorem sumN_one {f : Nat -> Int} {i : Nat} : ∀ {n : Nat}, i < n -> (∀ j, j < n -> j ≠ i -> f j = 0) -> sumN f n = f i
  | 0, h, _ => absurd h (Nat.not_lt_zero _)
  | n + 1, h, hz => by
    show sumN f n + f n = f i
    by_cases e : i = n
    · subst e
      rw [sumN_zero fun j hj => hz j (by omega) (by omega), Int.zero_add]
    · rw [sumN_one (show i < n by omega) fun j hj => hz j (by omega), hz n (by omega) fun z => e z.symm, Int.add_zero]
theorem sumN_two {f : Nat -> Int} {i : Nat} : ∀ {n : Nat}, i + 1 < n -> (∀ j, j < n -> j ≠ i -> j ≠ i + 1 -> f j = 0) -> f i + f (i + 1) = 0 -> sumN f n = 0
  | 0, h, _, _ => absurd h (Nat.not_lt_zero _)
  | n + 1, h, hz, h2 => by
    show sumN f n + f n = 0
    by_cases e : i + 1 = n
    · subst e
      show sumN f i + f i + f (i + 1) = 0
      rw [sumN_zero fun j hj => hz j (by omega) (by omega) (by omega)]
      omega
    · rw [sumN_two (show i + 1 < n by omega) (fun j hj => hz j (by omega)) h2, hz n (by omega) (by omega) fun z => e z.symm]
      rfl
abbrev Mat := Nat -> Nat -> Int
def sgn (i : Nat) : Int := if i % 2 = 0 then 1 else -1
def del (M : Mat) (i : Nat) : Mat := fun k p => M (if k < i then k else k + 1) (p + 1)
def det : Nat -> Mat -> Int
  | 0, _ => 1
  | n + 1, M => sumN (fun i => sgn i * M i 0 * det n (del M i)) (n + 1)
def put (M : Mat) (i : Nat) (v : Nat -> Int) : Mat := fun k => if k = i then v else M k
theorem det_congr : ∀ (n : Nat) {M N : Mat}, (∀ i p, i < n -> p < n -> M i p = N i p) -> det n M = det n N
  | 0, _, _, _ => rfl
  | n + 1, M, N, h => by
    refine sumN_congr fun i hi => ?_
    rw [h i 0 hi (by omega), det_congr n fun k p hk hp => ?_]
    unfold del
    exact h _ _ (by split <;> omega) (by omega)
theorem put_same (M : Mat) (i : Nat) (v : Nat -> Int) : put M i v i = v := by unfold put; rw [if_pos rfl]
theorem put_ne (M : Mat) {i k : Nat} (v : Nat -> Int) (h : k ≠ i) : put M i v k = M k := by unfold put; rw [if_neg h]
theorem del_put {M : Mat} {i k : Nat} {v : Nat -> Int} (h : k ≠ i) : del (put M i v) k = put (del M k) (if i < k then i else i - 1) (fun p => v (p + 1)) := by
  funext j p
  unfold del put
  by_cases hjk : j < k
  · rw [if_pos hjk]
    by_cases hik : i < k
    · rw [if_pos hik]
      by_cases e : j = i
      · rw [if_pos e, if_pos e]
      · rw [if_neg e, if_neg e]
        simp only [if_pos hjk]
    · rw [if_neg hik, if_neg (show ¬ j = i by omega), if_neg (show ¬ j = i - 1 by omega)]
      simp only [if_pos hjk]
  · rw [if_neg hjk]
    by_cases hik : i < k
    · rw [if_pos hik, if_neg (show ¬ j + 1 = i by omega), if_neg (show ¬ j = i by omega)]
      simp only [if_neg hjk]
    · rw [if_neg hik]
      by_cases e : j + 1 = i
      · rw [if_pos e, if_pos (show j = i - 1 by omega)]
      · rw [if_neg e, if_neg (show ¬ j = i - 1 by omega)]
        simp only [if_neg hjk]
theorem del_put_self (M : Mat) (i : Nat) (v : Nat -> Int) : del (put M i v) i = del M i := by
  funext j p
  unfold del put
  by_cases h : j < i
  · simp only [if_pos h, if_neg (show ¬ j = i by omega)]
  · simp only [if_neg h, if_neg (show ¬ j + 1 = i by omega)]
theorem det_lin : ∀ (n : Nat) (M : Mat) (i : Nat) (a b : Int) (v w : Nat -> Int), i < n -> det n (put M i fun p => a * v p + b * w p) = a * det n (put M i v) + b * det n (put M i w)
  | 0, _, _, _, _, _, _, h => absurd h (Nat.not_lt_zero _)
  | n + 1, M, i, a, b, v, w, hi => by
    show sumN _ (n + 1) = a * sumN _ (n + 1) + b * sumN _ (n + 1)
    rw [← sumN_lin]
    refine sumN_congr fun k hk => ?_
    by_cases e : k = i
    · subst e
      rw [del_put_self, del_put_self, del_put_self, put_same, put_same, put_same]
      rw [Int.mul_add, Int.add_mul]
      congr 1 <;> ac_rfl
    · rw [put_ne _ _ e, put_ne _ _ e, put_ne _ _ e, del_put e, del_put e, del_put e, det_lin n _ _ a b _ _ (by split <;> omega), Int.mul_add]
      congr 1 <;> ac_rfl
theorem sgn_succ (i : Nat) : sgn (i + 1) = - sgn i := by
  unfold sgn
  by_cases h : i % 2 = 0
  · rw [if_pos h, if_neg (by omega)]
  · rw [if_neg h, if_pos (by omega)]
    rfl
theorem det_adj : ∀ (n : Nat) {M : Mat} {i : Nat}, i + 1 < n -> (∀ p, p < n -> M i p = M (i + 1) p) -> det n M = 0
  | 0, _, _, h, _ => absurd h (Nat.not_lt_zero _)
  | n + 1, M, i, hi, he => by
    refine sumN_two hi (fun k hk k1 k2 => ?_) ?_
    · have : det n (del M k) = 0 := by
        by_cases h : k < i
        · refine det_adj n (i := i - 1) (by omega) fun p hp => ?_
          unfold del
          rw [if_neg (by omega), if_neg (by omega), show i - 1 + 1 = i by omega]
          exact he (p + 1) (by omega)
        · refine det_adj n (i := i) (by omega) fun p hp => ?_
          unfold del
          rw [if_pos (by omega), if_pos (by omega)]
          exact he (p + 1) (by omega)
      rw [this, Int.mul_zero]
    · have e : det n (del M i) = det n (del M (i + 1)) := det_congr n fun k p hk hp => by
        unfold del
        by_cases h1 : k < i
        · rw [if_pos h1, if_pos (by omega)]
        · by_cases h2 : k = i
          · subst h2
            rw [if_neg (by omega), if_pos (by omega)]
            exact (he (p + 1) (by omega)).symm
          · rw [if_neg h1, if_neg (by omega)]
      rw [e, he 0 (by omega), sgn_succ, Int.neg_mul, Int.neg_mul]
      omega
def swp (M : Mat) (i : Nat) : Mat := put (put M i (M (i + 1))) (i + 1) (M i)
theorem det_swp (n : Nat) {M : Mat} {i : Nat} (hi : i + 1 < n) : det n (swp M i) = - det n M := by
  have ne : i + 1 ≠ i := by omega
  have key : ∀ v w : Nat -> Int, det n (put (put M i v) (i + 1) w) + det n (put (put M i w) (i + 1) v) = 0 := fun v w => by
    have z : ∀ x : Nat -> Int, det n (put (put M i x) (i + 1) x) = 0 := fun x => det_adj n hi fun p _ => by
      rw [put_ne _ _ (show i ≠ i + 1 by omega), put_same, put_same]
    have h1 := z fun p => 1 * v p + 1 * w p
    rw [det_lin n _ (i + 1) 1 1 v w hi] at h1
    have comm : ∀ (x y : Nat -> Int), put (put M i x) (i + 1) y = put (put M (i + 1) y) i x := fun x y => by
      funext k
      unfold put
      by_cases e : k = i + 1
      · rw [if_pos e, if_neg (by omega), if_pos e]
      · by_cases e2 : k = i
        · rw [if_neg e, if_pos e2, if_pos e2]
        · rw [if_neg e, if_neg e2, if_neg e2, if_neg e]
    have h2 : ∀ y : Nat -> Int, det n (put (put M i fun p => 1 * v p + 1 * w p) (i + 1) y) = det n (put (put M i v) (i + 1) y) + det n (put (put M i w) (i + 1) y) := fun y => by
      rw [comm, det_lin n _ i 1 1 v w (by omega), ← comm, ← comm]
      omega
    rw [h2, h2, z v, z w] at h1
    omega
  have h := key (M i) (M (i + 1))
  have e : det n (put (put M i (M i)) (i + 1) (M (i + 1))) = det n M := det_congr n fun k p _ _ => by
    unfold put
    by_cases e : k = i + 1
    · rw [if_pos e, e]
    · by_cases e2 : k = i
      · rw [if_neg e, if_pos e2, e2]
      · rw [if_neg e, if_neg e2]
  rw [e] at h
  show det n (put (put M i (M (i + 1))) (i + 1) (M i)) = _
  omega
theorem det_alt (n : Nat) : ∀ (d : Nat) {M : Mat} {i : Nat}, i + 1 + d < n -> (∀ p, p < n -> M i p = M (i + 1 + d) p) -> det n M = 0
  | 0, M, i, hi, he => det_adj n hi he
  | d + 1, M, i, hi, he => by
    have h := det_swp n (M := M) (i := i + 1 + d) (by omega)
    have h0 : det n (swp M (i + 1 + d)) = 0 := det_alt n d (M := swp M (i + 1 + d)) (i := i) (by omega) fun p hp => by
      unfold swp
      rw [put_ne _ _ (by omega), put_ne _ _ (by omega), put_ne _ _ (by omega), put_same]
      exact he p hp
    omega
theorem det_eq0 (n : Nat) {M : Mat} {i j : Nat} (hi : i < n) (hj : j < n) (ne : i ≠ j) (he : ∀ p, p < n -> M i p = M j p) : det n M = 0 := by
  rcases Nat.lt_or_gt_of_ne ne with h | h
  · exact det_alt n (j - i - 1) (i := i) (by omega) fun p hp => by rw [show i + 1 + (j - i - 1) = j by omega]; exact he p hp
  · exact det_alt n (i - j - 1) (i := j) (by omega) fun p hp => by rw [show j + 1 + (i - j - 1) = i by omega]; exact (he p hp).symm
def bdet (A : Nat) : Nat -> Nat
  | 0 => 1
  | n + 1 => (n + 1) * (A * bdet A n)
theorem sumN_bd {f : Nat -> Int} {B : Nat} : ∀ {n : Nat}, (∀ i, i < n -> (f i).natAbs <= B) -> (sumN f n).natAbs <= n * B
  | 0, _ => Nat.zero_le _
  | n + 1, h => by
    have h1 := sumN_bd (n := n) fun i hi => h i (by omega)
    have h2 := h n (by omega)
    have h3 := Int.natAbs_add_le (sumN f n) (f n)
    show (sumN f n + f n).natAbs <= _
    rw [Nat.add_mul, Nat.one_mul]
    omega
theorem det_bd {A : Nat} : ∀ (n : Nat) {M : Mat}, (∀ i p, i < n -> p < n -> (M i p).natAbs <= A) -> (det n M).natAbs <= bdet A n
  | 0, _, _ => Nat.le_refl 1
  | n + 1, M, h => sumN_bd fun i hi => by
    rw [Int.natAbs_mul, Int.natAbs_mul]
    have hs : (sgn i).natAbs = 1 := by unfold sgn; split <;> rfl
    rw [hs, Nat.one_mul]
    exact Nat.mul_le_mul (h i 0 hi (by omega)) (det_bd n fun k p hk hp => h _ _ (by split <;> omega) (by omega))
theorem det_sum (n : Nat) (M : Mat) (i : Nat) (hi : i < n) (x : Nat -> Int) (V : Nat -> Nat -> Int) : ∀ k, det n (put M i fun p => sumN (fun q => x q * V q p) k) = sumN (fun q => x q * det n (put M i (V q))) k
  | 0 => by
    have h := det_lin n M i 0 0 (fun _ => 0) (fun _ => 0) hi
    have e : (fun p : Nat => (0 : Int) * (0 : Int) + 0 * 0) = fun p => sumN (fun q => x q * V q p) 0 := rfl
    rw [e] at h
    rw [h]
    show (0 : Int) * _ + 0 * _ = 0
    omega
  | k + 1 => by
    have h := det_lin n M i 1 (x k) (fun p => sumN (fun q => x q * V q p) k) (V k) hi
    have e : (fun p => 1 * sumN (fun q => x q * V q p) k + x k * V k p) = fun p => sumN (fun q => x q * V q p) (k + 1) := by
      funext p
      show 1 * sumN (fun q => x q * V q p) k + x k * V k p = sumN (fun q => x q * V q p) k + x k * V k p
      rw [Int.one_mul]
    rw [e] at h
    rw [h, det_sum n M i hi x V k, Int.one_mul]
    rfl
theorem put_congr {n : Nat} {M : Mat} {i : Nat} {v w : Nat -> Int} (h : ∀ p, p < n -> v p = w p) : det n (put M i v) = det n (put M i w) := det_congr n fun k p _ hp => by
  unfold put
  by_cases e : k = i
  · rw [if_pos e, if_pos e]; exact h p hp
  · rw [if_neg e, if_neg e]
theorem cramer (n : Nat) (M : Mat) {α : Int} {v : Nat -> Int} {x : Nat -> Int} (h : ∀ p, p < n -> α * v p = sumN (fun q => x q * M q p) n) {i : Nat} (hi : i < n) : α * det n (put M i v) = x i * det n M := by
  have h1 := det_lin n M i α 0 v (fun _ => 0) hi
  have h1 : det n (put M i fun p => α * v p + 0 * 0) = α * det n (put M i v) := by rw [h1, Int.zero_mul, Int.add_zero]
  rw [← h1, put_congr (w := fun p => sumN (fun q => x q * M q p) n) fun p hp => by rw [← h p hp]; omega, det_sum n M i hi x M n]
  refine (sumN_one hi fun j hj ne => ?_).trans ?_
  · have : det n (put M i (M j)) = 0 := det_eq0 n hi hj (fun z => ne z.symm) fun p _ => by rw [put_same, put_ne _ _ ne]
    rw [this, Int.mul_zero]
  · have : det n (put M i (M i)) = det n M := det_congr n fun k p _ _ => by
      unfold put
      by_cases e : k = i
      · rw [if_pos e, e]
      · rw [if_neg e]
    rw [this]
end Mth
namespace Mth
theorem sumN_change {f g : Nat -> Int} {p : Nat} : ∀ {n : Nat}, p < n -> (∀ q, q < n -> q ≠ p -> f q = g q) -> sumN f n = sumN g n + (f p - g p)
  | 0, h, _ => absurd h (Nat.not_lt_zero _)
  | n + 1, h, he => by
    show sumN f n + f n = sumN g n + g n + (f p - g p)
    by_cases e : p = n
    · subst e
      rw [sumN_congr fun i hi => he i (by omega) (by omega)]
      omega
    · rw [sumN_change (show p < n by omega) fun q hq => he q (by omega), he n (by omega) fun z => e z.symm]
      omega
theorem sumN_mul (a : Int) (f : Nat -> Int) (n : Nat) : sumN (fun i => a * f i) n = a * sumN f n := by
  have := sumN_lin f f a 0 n
  rw [Int.zero_mul, Int.add_zero] at this
  rw [← this]
  exact sumN_congr fun i _ => by omega
theorem sumN_neg {f : Nat -> Int} : ∀ {n : Nat}, sumN f n < 0 -> ∃ i, i < n /\ f i < 0
  | 0, h => absurd h (Int.lt_irrefl 0)
  | n + 1, h => by
    have h' : sumN f n + f n < 0 := h
    by_cases e : f n < 0
    · exact ⟨n, by omega, e⟩
    · obtain ⟨i, h1, h2⟩ := sumN_neg (f := f) (n := n) (by omega)
      exact ⟨i, by omega, h2⟩
structure SxI (n : Nat) (A : Mat) (T : Nat -> Nat -> Int) (b : Nat -> Nat) (u : Int) : Prop where
  pos : 0 < u
  b10 : b 10 = n
  blt : ∀ q, q < 10 -> b q < n
  dt : det 11 (fun q => A (b q)) = u
  rel : ∀ j, j < n -> ∀ p, p < 11 -> u * A j p = sumN (fun q => T q j * A (b q) p) 11
section
variable {n : Nat} {A : Mat} {T : Nat -> Nat -> Int} {b : Nat -> Nat} {u : Int}
theorem SxI.cr (h : SxI n A T b u) {p j : Nat} (hp : p < 11) (hj : j < n) : T p j = det 11 (put (fun q => A (b q)) p (A j)) := by
  have := cramer 11 (fun q => A (b q)) (α := u) (v := A j) (x := fun q => T q j) (h.rel j hj) hp
  rw [h.dt, Int.mul_comm (T p j)] at this
  exact (Int.eq_of_mul_eq_mul_left (Int.ne_of_gt h.pos) this).symm
theorem SxI.un (h : SxI n A T b u) {p q : Nat} (hp : p < 11) (hq : q < 10) : T p (b q) = if p = q then u else 0 := by
  rw [h.cr hp (h.blt q hq)]
  by_cases e : p = q
  · subst e
    rw [if_pos rfl, ← h.dt]
    refine det_congr 11 fun k c _ _ => ?_
    unfold put
    by_cases e : k = p
    · rw [if_pos e, e]
    · rw [if_neg e]
  · rw [if_neg e]
    exact det_eq0 11 hp (show q < 11 by omega) e fun c _ => by rw [put_same, put_ne _ _ fun z => e z.symm]
theorem SxI.inj (h : SxI n A T b u) {p q : Nat} (hp : p < 10) (hq : q < 10) (e : b p = b q) : p = q := by
  have h1 := h.un (p := p) (q := p) (by omega) hp
  have h2 := h.un (p := p) (q := q) (by omega) hq
  rw [if_pos rfl] at h1
  rw [← e, h1] at h2
  by_cases z : p = q
  · exact z
  · rw [if_neg z] at h2
    exact absurd h2 (Int.ne_of_gt h.pos)
theorem SxI.bd (h : SxI n A T b u) (hA : ∀ j p, j <= n -> p < 11 -> (A j p).natAbs <= 64) {p j : Nat} (hp : p < 11) (hj : j < n) : (T p j).natAbs <= 2 ^ 92 /\ u.natAbs <= 2 ^ 92 := by
  have hb : ∀ q, q < 11 -> b q <= n := fun q hq => by
    by_cases e : q = 10
    · rw [e, h.b10]; exact Nat.le_refl _
    · exact Nat.le_of_lt (h.blt q (by omega))
  have h0 : bdet 64 11 <= 2 ^ 92 := by decide
  constructor
  · rw [h.cr hp hj]
    refine Nat.le_trans (det_bd (A := 64) 11 fun i c hi hc => ?_) h0
    unfold put
    by_cases e : i = p
    · rw [if_pos e]; exact hA j c (by omega) hc
    · rw [if_neg e]; exact hA _ c (hb i hi) hc
  · rw [← h.dt]
    exact Nat.le_trans (det_bd (A := 64) 11 fun i c hi hc => hA _ c (hb i hi) hc) h0
def exB (b : Nat -> Nat) (p c : Nat) : Nat -> Nat := fun q => if q = p then c else b q
def exT (T : Nat -> Nat -> Int) (u : Int) (p c : Nat) : Nat -> Nat -> Int := fun q j => if q = p then T p j else (T q j * T p c - T q c * T p j).fdiv u
theorem SxI.exch (h : SxI n A T b u) {p c : Nat} (hp : p < 10) (hc : c < n) (ht : 0 < T p c) : SxI n A (exT T u p c) (exB b p c) (T p c) := by
  have hB : (fun q => A (exB b p c q)) = put (fun q => A (b q)) p (A c) := by
    funext q
    unfold exB put
    by_cases e : q = p
    · rw [if_pos e, if_pos e]
    · rw [if_neg e, if_neg e]
  have dt' : det 11 (fun q => A (exB b p c q)) = T p c := by rw [hB, ← h.cr (by omega) hc]
  have hE : ∀ j, j < n -> ∀ k, k < 11 -> (T p c * u) * A j k = sumN (fun q => (if q = p then u * T p j else T p c * T q j - T p j * T q c) * A (exB b p c q) k) 11 := fun j hj k hk => by
    have e1 : sumN (fun q => (if q = p then u * T p j else T p c * T q j - T p j * T q c) * A (exB b p c q) k) 11 = sumN (fun q => (T p c * T q j - T p j * T q c) * A (b q) k) 11 + ((if p = p then u * T p j else T p c * T p j - T p j * T p c) * A (exB b p c p) k - (T p c * T p j - T p j * T p c) * A (b p) k) := sumN_change (show p < 11 by omega) fun q _ ne => by
      unfold exB
      rw [if_neg ne, if_neg ne]
    rw [e1, if_pos rfl]
    have e2 : sumN (fun q => (T p c * T q j - T p j * T q c) * A (b q) k) 11 = T p c * sumN (fun q => T q j * A (b q) k) 11 + (-T p j) * sumN (fun q => T q c * A (b q) k) 11 := by
      rw [← sumN_lin]
      refine sumN_congr fun q _ => ?_
      rw [Int.sub_mul, Int.neg_mul, Int.mul_assoc, Int.mul_assoc]
      omega
    rw [e2, ← h.rel j hj k hk, ← h.rel c hc k hk]
    have e3 : exB b p c p = c := by unfold exB; rw [if_pos rfl]
    rw [e3]
    have a1 : T p c * (u * A j k) = T p c * u * A j k := (Int.mul_assoc _ _ _).symm
    have a2 : (-T p j) * (u * A c k) = -(u * T p j * A c k) := by rw [Int.neg_mul, ← Int.mul_assoc, Int.mul_comm (T p j) u]
    have a3 : (T p c * T p j - T p j * T p c) * A (b p) k = 0 := by rw [Int.mul_comm (T p j), Int.sub_self, Int.zero_mul]
    rw [a1, a2, a3]
    omega
  have hX : ∀ j, j < n -> ∀ q, q < 11 -> (if q = p then u * T p j else T p c * T q j - T p j * T q c) = u * exT T u p c q j := fun j hj q hq => by
    have := cramer 11 (fun q => A (exB b p c q)) (α := T p c * u) (v := A j) (x := fun q => if q = p then u * T p j else T p c * T q j - T p j * T q c) (hE j hj) hq
    rw [dt', Int.mul_assoc, Int.mul_comm _ (T p c)] at this
    have h2 := Int.eq_of_mul_eq_mul_left (Int.ne_of_gt ht) this
    unfold exT
    by_cases e : q = p
    · rw [if_pos e, if_pos e]
    · rw [if_neg e, if_neg e]
      rw [if_neg e] at h2
      have e4 : T q j * T p c - T q c * T p j = T p c * T q j - T p j * T q c := by rw [Int.mul_comm (T q j), Int.mul_comm (T q c)]
      rw [e4, ← h2, Int.mul_fdiv_cancel_left _ (Int.ne_of_gt h.pos)]
  refine ⟨ht, ?_, fun q hq => ?_, dt', fun j hj k hk => ?_⟩
  · unfold exB
    rw [if_neg (by omega)]
    exact h.b10
  · unfold exB
    by_cases e : q = p
    · rw [if_pos e]; exact hc
    · rw [if_neg e]; exact h.blt q hq
  · have h1 := hE j hj k hk
    have e5 : sumN (fun q => (if q = p then u * T p j else T p c * T q j - T p j * T q c) * A (exB b p c q) k) 11 = u * sumN (fun q => exT T u p c q j * A (exB b p c q) k) 11 := by
      rw [← sumN_mul]
      refine sumN_congr fun q hq => ?_
      rw [hX j hj q hq, Int.mul_assoc]
    rw [e5, Int.mul_comm (T p c), Int.mul_assoc] at h1
    exact Int.eq_of_mul_eq_mul_left (Int.ne_of_gt h.pos) h1
theorem SxI.two (h : SxI n A T b u) {T' : Nat -> Nat -> Int} {b' : Nat -> Nat} {u' : Int} (h' : SxI n A T' b' u') {s : Nat} (hs : s < n) : u * T' 10 s = sumN (fun q => T q s * T' 10 (b q)) 10 + T 10 s * u' := by
  have h1 := det_lin 11 (fun q => A (b' q)) 10 u 0 (A s) (fun _ => 0) (by decide)
  have h1 : det 11 (put (fun q => A (b' q)) 10 fun p => u * A s p + 0 * 0) = u * T' 10 s := by rw [h1, Int.zero_mul, Int.add_zero, ← h'.cr (by decide) hs]
  rw [← h1, put_congr (w := fun p => sumN (fun q => T q s * A (b q) p) 11) fun p hp => by rw [← h.rel s hs p hp]; omega, det_sum 11 _ 10 (by decide) (fun q => T q s) (fun q => A (b q)) 11]
  show sumN _ 10 + _ = _
  congr 1
  · exact sumN_congr fun q hq => by rw [← h'.cr (by decide) (h.blt q hq)]
  · show T 10 s * det 11 (put (fun q => A (b' q)) 10 (A (b 10))) = T 10 s * u'
    have e0 : det 11 (put (fun q => A (b' q)) 10 (A (b 10))) = u' := by
      rw [← h'.dt]
      refine det_congr 11 fun k c _ _ => ?_
      unfold put
      by_cases e : k = 10
      · rw [if_pos e, e, h.b10, h'.b10]
      · rw [if_neg e]
    rw [e0]
end
end Mth
namespace Mth
structure SxS (n : Nat) (T : Nat -> Nat -> Int) (b : Nat -> Nat) (p s : Nat) : Prop where
  hp : p < 10
  hs : s < n
  up : 0 < T 10 s
  fst : ∀ j, j < s -> T 10 j <= 0
  piv : 0 < T p s
  low : ∀ q, q < 10 -> 0 < T q s -> b p <= b q
section
variable {n : Nat} {A : Mat} {T : Nat -> Nat -> Nat -> Int} {b : Nat -> Nat -> Nat} {u : Nat -> Int} {p s : Nat -> Nat} {i j : Nat}
theorem max_of {f : Nat -> Nat} : ∀ (j i : Nat), i < j -> ∃ k, i <= k /\ k < j /\ ∀ k', i <= k' -> k' < j -> f k' <= f k
  | 0, i, h => absurd h (Nat.not_lt_zero _)
  | j + 1, i, h => by
    by_cases e : i = j
    · subst e
      exact ⟨i, Nat.le_refl _, by omega, fun k' h1 h2 => by rw [show k' = i by omega]; exact Nat.le_refl _⟩
    · obtain ⟨k, h1, h2, h3⟩ := max_of (f := f) j i (by omega)
      by_cases g : f k <= f j
      · refine ⟨j, by omega, by omega, fun k' h4 h5 => ?_⟩
        by_cases e' : k' = j
        · rw [e']; exact Nat.le_refl _
        · exact Nat.le_trans (h3 k' h4 (by omega)) g
      · refine ⟨k, h1, by omega, fun k' h4 h5 => ?_⟩
        by_cases e' : k' = j
        · rw [e']; omega
        · exact h3 k' h4 (by omega)
theorem go_up {P : Nat -> Prop} {i j : Nat} (h : ∀ k, i <= k -> k < j -> P k -> P (k + 1)) : ∀ d, i + d <= j -> P i -> P (i + d)
  | 0, _, hi => hi
  | d + 1, hd, hi => h (i + d) (by omega) (by omega) (go_up h d (by omega) hi)
theorem go_to {P : Nat -> Prop} {i j a c : Nat} (h : ∀ k, i <= k -> k < j -> P k -> P (k + 1)) (ha : i <= a) (hac : a <= c) (hc : c <= j) (hP : P a) : P c := by
  have := go_up (P := P) (i := a) (j := j) (fun k h1 h2 => h k (by omega) h2) (c - a) (by omega) hP
  rwa [show a + (c - a) = c by omega] at this
theorem bland (hI : ∀ k, i <= k -> k <= j -> SxI n A (T k) (b k) (u k)) (hS : ∀ k, i <= k -> k < j -> SxS n (T k) (b k) (p k) (s k)) (hb : ∀ k, i <= k -> k < j -> ∀ q, q < 10 -> b (k + 1) q = exB (b k) (p k) (s k) q) (hij : i < j) : ¬ ∀ q, q < 10 -> b i q = b j q := fun heq => by
  obtain ⟨ks, k1, k2, k3⟩ := max_of (f := s) j i hij
  have Ss := hS ks k1 k2
  have Is := hI ks k1 (by omega)
  let mem : Nat -> Nat -> Prop := fun v k => ∃ q, q < 10 /\ b k q = v
  have stay : ∀ v k, i <= k -> k < j -> mem v k -> v ≠ b k (p k) -> mem v (k + 1) := fun v k h1 h2 ⟨q, q1, q2⟩ ne => ⟨q, q1, by
    rw [hb k h1 h2 q q1]
    unfold exB
    rw [if_neg fun z => ne (by rw [← q2, z])]
    exact q2⟩
  have come : ∀ k, i <= k -> k < j -> mem (s k) (k + 1) := fun k h1 h2 => ⟨p k, (hS k h1 h2).hp, by
    rw [hb k h1 h2 _ (hS k h1 h2).hp]
    unfold exB
    rw [if_pos rfl]⟩
  have back : ∀ v k, i <= k -> k < j -> mem v (k + 1) -> v ≠ s k -> mem v k := fun v k h1 h2 ⟨q, q1, q2⟩ ne => by
    rw [hb k h1 h2 q q1] at q2
    unfold exB at q2
    by_cases e : q = p k
    · rw [if_pos e] at q2
      exact absurd q2.symm ne
    · rw [if_neg e] at q2
      exact ⟨q, q1, q2⟩
  have ends : ∀ v, mem v i ↔ mem v j := fun v => ⟨fun ⟨q, q1, q2⟩ => ⟨q, q1, by rw [← heq q q1]; exact q2⟩, fun ⟨q, q1, q2⟩ => ⟨q, q1, by rw [heq q q1]; exact q2⟩⟩
  have out : ∀ v k, i <= k -> k <= j -> T k 10 v ≠ 0 -> ¬ mem v k := fun v k h1 h2 hz ⟨q, q1, q2⟩ => by
    have := (hI k h1 h2).un (p := 10) (by decide) q1
    rw [q2, if_neg (by omega)] at this
    exact hz this
  have tout : ¬ mem (s ks) ks := out _ ks k1 (by omega) (Int.ne_of_gt Ss.up)
  have hleave : ∃ k, i <= k /\ k < j /\ b k (p k) = s ks := Classical.byContradiction fun hn => by
    have hst : ∀ k, i <= k -> k < j -> mem (s ks) k -> mem (s ks) (k + 1) := fun k h1 h2 hm => stay _ k h1 h2 hm fun z => hn ⟨k, h1, h2, z.symm⟩
    have hj := go_to (P := mem (s ks)) hst (show i <= ks + 1 by omega) (show ks + 1 <= j by omega) (Nat.le_refl _) (come ks k1 k2)
    have hi := (ends _).mpr hj
    exact tout (go_to (P := mem (s ks)) hst (Nat.le_refl _) k1 (by omega) hi)
  obtain ⟨k, h1, h2, ht⟩ := hleave
  have Sk := hS k h1 h2
  have Ik := hI k h1 (by omega)
  have hts : mem (s ks) k := ⟨p k, Sk.hp, ht⟩
  have sout : ¬ mem (s k) k := out _ k h1 (by omega) (Int.ne_of_gt Sk.up)
  have hlt : s k < s ks := by
    have h3 := k3 k h1 h2
    have : s k ≠ s ks := fun e => sout (by rw [e]; exact hts)
    omega
  have hneg := Ss.fst (s k) hlt
  have K := Ik.two Is Sk.hs
  have hsum : sumN (fun q => T k q (s k) * T ks 10 (b k q)) 10 < 0 := by
    have a1 : u k * T ks 10 (s k) <= 0 := Int.mul_nonpos_of_nonneg_of_nonpos (Int.le_of_lt Ik.pos) hneg
    have a2 : 0 < T k 10 (s k) * u ks := Int.mul_pos Sk.up Is.pos
    omega
  obtain ⟨q, q1, q2⟩ := sumN_neg hsum
  have hrm : mem (b k q) k := ⟨q, q1, rfl⟩
  have hr0 : T ks 10 (b k q) ≠ 0 := fun z => by rw [z, Int.mul_zero] at q2; exact absurd q2 (Int.lt_irrefl 0)
  have hrout : ¬ mem (b k q) ks := out _ ks k1 (by omega) hr0
  have hrt : b k q ≠ s ks := fun e => by
    have eq : q = p k := Ik.inj q1 Sk.hp (by rw [e, ht])
    rw [e, eq] at q2
    have := Int.mul_pos Sk.piv Ss.up
    omega
  have hent : ∃ k', i <= k' /\ k' < j /\ b k q = s k' := Classical.byContradiction fun hn => by
    have hbk : ∀ k', i <= k' -> k' < j -> ¬ mem (b k q) k' -> ¬ mem (b k q) (k' + 1) := fun k' g1 g2 hm hm' => hm (back _ k' g1 g2 hm' fun z => hn ⟨k', g1, g2, z⟩)
    have hj : ¬ mem (b k q) j := go_to (P := fun k' => ¬ mem (b k q) k') hbk k1 (by omega) (Nat.le_refl _) hrout
    have hi : ¬ mem (b k q) i := fun z => hj ((ends _).mp z)
    exact go_to (P := fun k' => ¬ mem (b k q) k') hbk (Nat.le_refl _) h1 (by omega) hi hrm
  obtain ⟨k', g1, g2, g3⟩ := hent
  have hle : b k q <= s ks := by rw [g3]; exact k3 k' g1 g2
  have hlt2 : b k q < s ks := by omega
  have hneg2 := Ss.fst (b k q) hlt2
  have hTq : 0 < T k q (s k) := by
    rcases Int.lt_or_le 0 (T k q (s k)) with z | z
    · exact z
    · have : 0 <= T k q (s k) * T ks 10 (b k q) := Int.mul_nonneg_of_nonpos_of_nonpos z hneg2
      omega
  have := Sk.low q q1 hTq
  rw [ht] at this
  omega
theorem sx_few (N : Nat) (hI : ∀ k, k <= N -> SxI n A (T k) (b k) (u k)) (hS : ∀ k, k < N -> SxS n (T k) (b k) (p k) (s k)) (hb : ∀ k, k < N -> ∀ q, q < 10 -> b (k + 1) q = exB (b k) (p k) (s k) q) : N < n ^ 10 := by
  rcases Nat.lt_or_ge N (n ^ 10) with z | z
  · exact z
  · exfalso
    have hd : ∀ k, k <= N -> ∀ d ∈ (List.range 10).map (b k), d < n := fun k hk d hd => by
      obtain ⟨q, hq, rfl⟩ := List.mem_map.mp hd
      exact (hI k hk).blt q (List.mem_range.mp hq)
    obtain ⟨i, j, h1, h2, h3⟩ := pigeon (n ^ 10) (n ^ 10 + 1) (fun k => codeN n ((List.range 10).map (b k))) (by omega) fun k hk => by
      have := code_lt (hd k (by omega))
      rwa [List.length_map, List.length_range] at this
    have he := code_inj (by rw [List.length_map, List.length_map]) (hd i (by omega)) (hd j (by omega)) h3
    refine bland (i := i) (j := j) (fun k _ hk => hI k (by omega)) (fun k _ hk => hS k (by omega)) (fun k _ hk => hb k (by omega)) h1 fun q hq => ?_
    have := congrArg (·[q]?) he
    simp only [List.getElem?_map, List.getElem?_range hq, Option.map_some] at this
    exact Option.some.inj this
end
end Mth
namespace Mth
def colA (cs : List (List Int)) : Mat := fun j p => if j < cs.length then (if p < 10 then -((cs.getD j []).getD p 0) else if p = 10 then 1 else 0) else if p = j - cs.length then 1 else 0
theorem colA_unit (cs : List (List Int)) (q p : Nat) : colA cs (cs.length + q) p = if p = q then 1 else 0 := by
  unfold colA
  rw [if_neg (by omega), show cs.length + q - cs.length = q by omega]
theorem det_id : ∀ n, det n (fun q p => if p = q then 1 else 0) = 1
  | 0 => rfl
  | n + 1 => by
    refine (sumN_one (i := 0) (by omega) fun j _ ne => ?_).trans ?_
    · show sgn j * (if 0 = j then (1 : Int) else 0) * _ = 0
      rw [if_neg (show ¬ 0 = j from fun z => ne z.symm), Int.mul_zero, Int.zero_mul]
    · have : det n (del (fun q p => if p = q then (1 : Int) else 0) 0) = 1 := by
        refine Eq.trans (det_congr n fun k p _ _ => ?_) (det_id n)
        show (if p + 1 = (if k < 0 then k else k + 1) then (1 : Int) else 0) = if p = k then 1 else 0
        rw [if_neg (Nat.not_lt_zero k)]
        by_cases e : p = k
        · rw [if_pos e, if_pos (by omega)]
        · rw [if_neg e, if_neg (by omega)]
      show sgn 0 * 1 * det n (del (fun q p => if p = q then (1 : Int) else 0) 0) = 1
      rw [this]
      rfl
theorem sx_start (cs : List (List Int)) : SxI (cs.length + 10) (colA cs) (fun p j => colA cs j p) (fun q => cs.length + q) 1 := by
  refine ⟨by decide, rfl, fun q hq => by omega, ?_, fun j hj p hp => ?_⟩
  · rw [← det_id 11]
    exact det_congr 11 fun q p _ _ => colA_unit cs q p
  · rw [Int.one_mul]
    refine ((sumN_one hp fun q _ ne => ?_).trans ?_).symm
    · rw [colA_unit, if_neg fun z => ne z.symm, Int.mul_zero]
    · rw [colA_unit, if_pos rfl, Int.mul_one]
theorem colA_bd {cs : List (List Int)} (h : ∀ c ∈ cs, BdI 6 c) (j p : Nat) : (colA cs j p).natAbs <= 64 := by
  unfold colA
  by_cases hj : j < cs.length
  · rw [if_pos hj]
    by_cases hp : p < 10
    · rw [if_pos hp, Int.natAbs_neg]
      have hm : cs.getD j [] ∈ cs := by rw [List.getD_eq_getElem?_getD, List.getElem?_eq_getElem hj]; exact List.getElem_mem hj
      exact (h _ hm).at p
    · rw [if_neg hp]
      split <;> decide
  · rw [if_neg hj]
    split <;> decide
theorem SxI.congr {n : Nat} {A : Mat} {T T' : Nat -> Nat -> Int} {b b' : Nat -> Nat} {u : Int} (h : SxI n A T b u) (hT : ∀ q j, q < 11 -> j < n -> T' q j = T q j) (hb : ∀ q, q < 11 -> b' q = b q) : SxI n A T' b' u := by
  refine ⟨h.pos, by rw [hb 10 (by decide)]; exact h.b10, fun q hq => by rw [hb q (by omega)]; exact h.blt q hq, ?_, fun j hj p hp => ?_⟩
  · rw [← h.dt]
    exact det_congr 11 fun q p hq _ => by rw [hb q hq]
  · rw [h.rel j hj p hp]
    exact sumN_congr fun q hq => by rw [hT q j hq hj, hb q hq]
def Hist (n : Nat) (A : Mat) (k : Nat) (T : Nat -> Nat -> Int) (b : Nat -> Nat) (u : Int) : Prop := ∃ (Ts : Nat -> Nat -> Nat -> Int) (bs : Nat -> Nat -> Nat) (us : Nat -> Int) (ps ss : Nat -> Nat), (∀ i, i <= k -> SxI n A (Ts i) (bs i) (us i)) /\ (∀ i, i < k -> SxS n (Ts i) (bs i) (ps i) (ss i)) /\ (∀ i, i < k -> ∀ q, q < 10 -> bs (i + 1) q = exB (bs i) (ps i) (ss i) q) /\ Ts k = T /\ bs k = b /\ us k = u
theorem Hist.start {n : Nat} {A : Mat} {T : Nat -> Nat -> Int} {b : Nat -> Nat} {u : Int} (h : SxI n A T b u) : Hist n A 0 T b u := ⟨fun _ => T, fun _ => b, fun _ => u, fun _ => 0, fun _ => 0, fun _ _ => h, fun i hi => absurd hi (Nat.not_lt_zero _), fun i hi => absurd hi (Nat.not_lt_zero _), rfl, rfl, rfl⟩
theorem Hist.at {n : Nat} {A : Mat} {k : Nat} {T : Nat -> Nat -> Int} {b : Nat -> Nat} {u : Int} (h : Hist n A k T b u) : SxI n A T b u := by
  obtain ⟨Ts, bs, us, ps, ss, h1, _, _, rfl, rfl, rfl⟩ := h
  exact h1 k (Nat.le_refl _)
theorem Hist.few {n : Nat} {A : Mat} {k : Nat} {T : Nat -> Nat -> Int} {b : Nat -> Nat} {u : Int} (h : Hist n A k T b u) : k < n ^ 10 := by
  obtain ⟨Ts, bs, us, ps, ss, h1, h2, h3, _⟩ := h
  exact sx_few k h1 h2 h3
theorem Hist.step {n : Nat} {A : Mat} {k : Nat} {T T' : Nat -> Nat -> Int} {b b' : Nat -> Nat} {u : Int} (h : Hist n A k T b u) {p s : Nat} (hS : SxS n T b p s) (hT : ∀ q j, q < 11 -> j < n -> T' q j = exT T u p s q j) (hb : ∀ q, q < 11 -> b' q = exB b p s q) : Hist n A (k + 1) T' b' (T p s) := by
  obtain ⟨Ts, bs, us, ps, ss, h1, h2, h3, rfl, rfl, rfl⟩ := h
  have I' : SxI n A T' b' (Ts k p s) := ((h1 k (Nat.le_refl _)).exch hS.hp hS.hs hS.piv).congr hT hb
  refine ⟨fun i => if i = k + 1 then T' else Ts i, fun i => if i = k + 1 then b' else bs i, fun i => if i = k + 1 then Ts k p s else us i, fun i => if i = k then p else ps i, fun i => if i = k then s else ss i, fun i hi => ?_, fun i hi => ?_, fun i hi q hq => ?_, by simp only [if_pos], by simp only [if_pos], by simp only [if_pos]⟩
  · by_cases e : i = k + 1
    · simp only [if_pos e]; exact I'
    · simp only [if_neg e]; exact h1 i (by omega)
  · by_cases e : i = k
    · subst e
      simp only [if_neg (show ¬ i = i + 1 by omega), if_pos]
      exact hS
    · simp only [if_neg e, if_neg (show ¬ i = k + 1 by omega)]
      exact h2 i (by omega)
  · by_cases e : i = k
    · subst e
      simp only [if_neg (show ¬ i = i + 1 by omega), if_pos]
      exact hb q (by omega)
    · simp only [if_neg e, if_neg (show ¬ i = k + 1 by omega), if_neg (show ¬ i + 1 = k + 1 by omega)]
      exact h3 i (by omega) q hq
theorem sx_weights {cs : List (List Int)} {T : Nat -> Nat -> Int} {b : Nat -> Nat} {u : Int} (h : SxI (cs.length + 10) (colA cs) T b u) (hz : ∀ j, j < cs.length + 10 -> T 10 j <= 0) : (∀ p, p < 10 -> 0 <= -T 10 (cs.length + p)) /\ ∀ k, k < cs.length -> sumN (fun p => (-T 10 (cs.length + p)) * (cs.getD k []).getD p 0) 10 < 0 := by
  refine ⟨fun p hp => by have := hz (cs.length + p) (by omega); omega, fun k hk => ?_⟩
  have h1 := hz k (by omega)
  have h2 := h.cr (p := 10) (j := k) (by decide) (by omega)
  have e1 : det 11 (put (fun q => colA cs (b q)) 10 (colA cs k)) = sumN (fun q => colA cs k q * det 11 (put (fun q => colA cs (b q)) 10 (colA cs (cs.length + q)))) 11 := by
    rw [← det_sum 11 _ 10 (by decide) (fun q => colA cs k q) (fun q => colA cs (cs.length + q)) 11]
    refine put_congr fun p hp => ((sumN_one hp fun q _ ne => ?_).trans ?_).symm
    · rw [colA_unit, if_neg fun z => ne z.symm, Int.mul_zero]
    · rw [colA_unit, if_pos rfl, Int.mul_one]
  have e2 : sumN (fun q => colA cs k q * det 11 (put (fun q => colA cs (b q)) 10 (colA cs (cs.length + q)))) 11 = sumN (fun p => (-T 10 (cs.length + p)) * (cs.getD k []).getD p 0) 10 + u := by
    show sumN _ 10 + _ = _
    congr 1
    · refine sumN_congr fun q hq => ?_
      rw [← h.cr (by decide) (by omega)]
      unfold colA
      rw [if_pos hk, if_pos hq, Int.neg_mul, Int.neg_mul, Int.mul_comm]
    · have e3 : det 11 (put (fun q => colA cs (b q)) 10 (colA cs (cs.length + 10))) = u := by
        rw [← h.dt]
        refine det_congr 11 fun q p _ _ => ?_
        unfold put
        by_cases e : q = 10
        · rw [if_pos e, e, h.b10]
        · rw [if_neg e]
      show colA cs k 10 * det 11 (put (fun q => colA cs (b q)) 10 (colA cs (cs.length + 10))) = u
      rw [e3]
      unfold colA
      rw [if_pos hk, if_neg (by decide), if_pos rfl, Int.one_mul]
  rw [h2, e1, e2] at h1
  have := h.pos
  omega
theorem sx_balance {cs : List (List Int)} {T : Nat -> Nat -> Int} {b : Nat -> Nat} {u : Int} (h : SxI (cs.length + 10) (colA cs) T b u) {c : Nat} (hc : c < cs.length + 10) (p : Nat) (hp : p < 11) : u * colA cs c p - sumN (fun q => T q c * colA cs (b q) p) 10 = if p = 10 then T 10 c else 0 := by
  have h1 := h.rel c hc p hp
  have h2 : sumN (fun q => T q c * colA cs (b q) p) 11 = sumN (fun q => T q c * colA cs (b q) p) 10 + T 10 c * colA cs (b 10) p := rfl
  rw [h.b10, colA_unit] at h2
  rw [h1, h2]
  by_cases e : p = 10
  · rw [if_pos e, if_pos e]; omega
  · rw [if_neg e, if_neg e]; omega
end Mth
namespace L2
open PySem PySem.Spec PyProof.Rows
section
variable {X : Cx}
def CDivQ (i j : Int) : Prop := j ≠ 0 /\ ((∃ m : Nat, j.natAbs <= 2 ^ m /\ m <= 8000) ∨ i.natAbs <= 2 ^ 4000 * j.natAbs)
theorem quot_small {x y : Int} (hy : y ≠ 0) (h : x.natAbs <= 2 ^ 4000 * y.natAbs) : Builtin.divisionGoesByPylong x y = false := by
  have y0 : y.natAbs ≠ 0 := by omega
  have hyb : (y == 0) = false := by simpa using hy
  have key : ¬ (if (x == 0) = true then 0 else x.natAbs.log2 / 30 + 1) > (if (y == 0) = true then 0 else y.natAbs.log2 / 30 + 1) + 150 := by
    rw [hyb, if_neg Bool.false_ne_true]
    by_cases hx : (x == 0) = true
    · rw [if_pos hx]; omega
    · rw [if_neg hx]
      have x0 : x.natAbs ≠ 0 := fun z => hx (by simpa using z)
      have h1 : y.natAbs < 2 ^ (y.natAbs.log2 + 1) := Nat.lt_log2_self
      have h2 : x.natAbs < 2 ^ (4000 + (y.natAbs.log2 + 1)) := by
        refine Nat.lt_of_le_of_lt h ?_
        rw [Nat.pow_add]
        exact Nat.mul_lt_mul_of_pos_left h1 (Nat.two_pow_pos _)
      have h3 : x.natAbs.log2 < 4000 + (y.natAbs.log2 + 1) := (Nat.log2_lt x0).mpr h2
      omega
  show (_ && decide ((if (x == 0) = true then 0 else x.natAbs.log2 / 30 + 1) > (if (y == 0) = true then 0 else y.natAbs.log2 / 30 + 1) + 150)) = false
  rw [decide_eq_false key, Bool.and_false]
theorem op_fdivQ : OpR X (binaryOp .FloorDiv) (rI CDivQ fun i j => .int (i.fdiv j)) := opI fun i j _ _ _ _ _ ⟨h0, hc⟩ q => by
  rcases hc with ⟨m, h1, h2⟩ | h1
  · refine floordiv_int h0 q (.inl (PyProof.noPylong_of_log2 ?_))
    have h3 : j.natAbs ≠ 0 := by omega
    have h4 : j.natAbs < 2 ^ (m + 1) := by rw [Nat.pow_succ]; have := Nat.two_pow_pos m; omega
    have h5 : j.natAbs.log2 < m + 1 := (Nat.log2_lt h3).mpr h4
    omega
  · exact floordiv_int h0 q (.inl (quot_small h0 h1))
theorem call_tuple_ofN {X : Cx} {K : PySem.W.Frag} (hK : X.K = K) : CallR X (.type "tuple") (fun xs H Q => ∃ p ys, xs = [.ref p] /\ SqL K H p ys /\ NewA (.tup ys) H Q) := by
  subst hK
  exact call_tuple_ofA
end
end L2
namespace L2
open PySem PySem.Spec PyProof.Rows W2
end L2
namespace W2
open PySem L2
theorem comp_enum_ifG {K : PySem.W.Frag} {a D : Addr} {js : List (Option Nat)} {tc : TT} {te : TE} {σ : St} {H1 : Hp} {Q : VK} {xs : List V} {σ0 : St} (hn : xs.length <= sizeLine) (hp : ∃ u v, pick js σ = u :: v :: σ0) (hD : H1 D = none)
    (ha : H1 a = some (.lst xs)) (t : Nat -> Bool) (Rv : Nat -> Hp -> List V -> Prop) (h0 : Rv 0 (upd H1 D (.lst [])) [])
    (hk : ∀ i H' H2 zs, Rv i H' zs -> (∀ c o, c ≠ D -> H' c = some o -> H2 c = some o) -> Rv i H2 zs)
    (ht : ∀ (i : Nat) (x : V) (H' : Hp) (R : Bool -> Hp -> Prop), Same H1 H' -> xs[i]? = some x -> R (t i) H' -> tc (some (.int (i : Int)) :: some x :: σ0) H' R)
    (hf : ∀ (i : Nat) (x : V) (H' : Hp) (zs : List V), Same H1 H' -> xs[i]? = some x -> t i = false -> Rv i H' zs -> Rv (i + 1) H' zs)
    (hs : ∀ (i : Nat) (x : V) (H' : Hp) (zs : List V) (R : VK), Same H1 H' -> xs[i]? = some x -> t i = true -> H' D = some (.lst zs) -> Rv i H' zs -> (∀ z H4, Same H' H4 -> Rv (i + 1) H4 (zs ++ [z]) -> R z H4) -> te (some (.int (i : Int)) :: some x :: σ0) H' R)
    (q : ∀ H' zs, Same H1 H' -> H' D = some (.lst zs) -> Rv xs.length H' zs -> Q (.ref D) H') : CompW (Ite a) D js (gTup K 2 (gCons (gName 0) (gCons (gName 1) gNil))) tc te σ H1 Q := by
  obtain ⟨u0, v0, hp⟩ := hp
  refine comp_genW (n := xs.length) hn (fun i σ' H' zs => (∃ u v : Option V, σ' = u :: v :: σ0) /\ Same H1 H' /\ H' D = some (.lst zs) /\ zs.length <= i /\ Rv i H' zs) ⟨⟨u0, v0, hp⟩, Same.new hD, upd_same, Nat.le_refl _, h0⟩ (fun i σ' H' zs _ ⟨_, _, h3, h4, _⟩ => ⟨h3, h4⟩) (fun i σ' H' zs hi ⟨_, s', _⟩ => ⟨_, xs[i], s' _ _ ha, List.getElem?_eq_getElem hi⟩) (fun σ' H' zs ⟨_, s', h3, _, e⟩ => ⟨⟨_, s' _ _ ha, Nat.le_refl _⟩, q H' zs s' h3 e⟩) ?_
  rintro i σ' H' zs v H2 hi ⟨⟨u, v, rfl⟩, s', h3, h4, e⟩ ⟨p, hp', rfl, x, rfl, hx⟩
  have hx' := hx _ (s' _ _ ha)
  refine ⟨p, _, rfl, SqT.of upd_same, rfl, _, _, rfl, _, _, rfl, rfl, ?_⟩
  have hD2 : (upd H' p (.tup [.int (i : Int), x])) D = some (.lst zs) := by rw [upd_ne (ne_of_none h3 hp')]; exact h3
  have s2 : Same H1 (upd H' p (.tup [.int (i : Int), x])) := Same.more s' hp'
  have e2 : Rv i (upd H' p (.tup [.int (i : Int), x])) zs := hk i _ _ zs e fun c o _ h => Same.new hp' _ _ h
  refine ht i x _ _ s2 hx' ?_
  cases hb' : t i with
  | true =>
    refine hs i x _ zs _ s2 hx' hb' hD2 e2 fun z H4 s4 e4 => ⟨s4 _ _ hD2, ⟨_, _, rfl⟩, ?_, upd_same, ?_, ?_⟩
    · intro c o e'
      rw [upd_ne (ne_of_none e' hD)]
      exact s4 _ _ (s2 c o e')
    · rw [List.length_append]; show zs.length + 1 <= i + 1; omega
    · exact hk _ _ _ _ e4 fun c o n h => by rw [upd_ne n]; exact h
  | false => exact ⟨hD2, ⟨_, _, rfl⟩, s2, hD2, by omega, hf i x _ zs s2 hx' hb' e2⟩
end W2
namespace L2
open PySem
theorem call_list_ofN {X : Cx} {K : PySem.W.Frag} (hK : X.K = K) : CallR X (.type "list") (fun xs H Q => ∃ p ys, xs = [.ref p] /\ (SqL K H p ys ∨ SqT K H p ys) /\ NewA (.lst ys) H Q) := by
  subst hK
  exact call_list_ofA
end L2
namespace L2
open PySem PySem.Spec PyProof.Rows W2
theorem ps_setCC {X : Cx} {elt tg iter : Expr} {cs : List Expr} {scope : Scope} {cpos pos pos' : Pos} {cl : List (Str × Addr)} {N : List Str} {js : List (Option Nat)} {wi : TI} {g : TG} {tc : TT} {te : TE} {iv : Nat} {x0 : Str}
    (hN0 : X.N.Nodup) (hi0 : X.N[iv]? = some x0) (hx0 : Loc X.env.scope x0)
    (C : CompOkC X scope cl N js) (hc : X.calm = true) (hi : PI X tg iter wi)
    (hg : ∀ fp pins s H, PG (compCxC X scope cl N fp pins s H fun _ _ => False) tg g)
    (ht : ∀ fp pins s H, PTs (compCxC X scope cl N fp pins s H fun _ _ => False) cs tc)
    (he : ∀ fp pins s H, PE (compCxC X scope cl N fp pins s H fun _ _ => False) elt te)
    (hsw : swapsWith (.ListComp elt [⟨tg, iter, cs, 0⟩] scope cpos) (some (.Name x0 pos')) pos.line X.env = pure true)
    (hs : ∀ x, foldedSetIterable iter X.env x = pure x := by intro _; rfl) (hf0 : X.fn x0 = true ∨ X.env.scope.names.lookup x0 = some .local := by first | exact .inl rfl | exact .inr rfl | assumption) : PS X (.Assign [.Name x0 pos'] (.ListComp elt [⟨tg, iter, cs, 0⟩] scope cpos) pos) (tAsg (tComp js wi g tc te) (gName iv)) := by
  intro pins s σ H D0 I h
  rw [exec_Assign_Name_used _ _ _ _ hsw]
  refine wpAny_bind (wpAny_standAt (wpAny_bind ?_))
  show wpAny _ X.A (do let _ ← comprehension (.ListComp elt [⟨tg, iter, cs, 0⟩] scope cpos) scope X.env _ (newList []) false (eval iter X.env) (some (assign (.Name x0 pos') X.env))) _ _ s
  refine wpAny_bind (wpAny_mono (wpAny_comprehension_free (use := some (assign (.Name x0 pos') X.env)) (Q := fun _ s' => SP X pins D0 .next s') rfl hs C.clos C.kind C.names (thn (hi pins s σ H _ I h) fun xv s1 h1 => thn h1 fun itv s2 h2 => ?_)) (fun _ s' hq => wpAny_pure (wpAny_pure hq)) fun _ _ e => e)
  obtain ⟨it, fp, tn, J, H2, e, I2, T, st2, f2, h2⟩ := h2
  subst e
  obtain ⟨W, ⟨m0, w0⟩, turn⟩ := h2 s2.heap.objs.size I2.fresh
  refine wpAny_newObj_type (newEnv_comp ?_)
  have I3 : Inv X pins σ (upd H2 s2.heap.objs.size (.lst [])) { s2 with heap := s2.heap.push { cls := .type "list", data := .seq ([] : List Value).toArray } } := I2.lnew (t' := s2.toks) (its := []) .nil (Nat.zero_le _)
  dsimp only
  generalize e3 : ({ s2 with heap := s2.heap.push { cls := .type "list", data := .seq ([] : List Value).toArray } } : Shared) = s3 at I3
  have e3h : s2.heap.push { cls := .type "list", data := .seq ([] : List Value).toArray } = s3.heap := by rw [← e3]
  have e3g : s2.gens = s3.gens := by rw [← e3]
  have e3o : s2.os = s3.os := by rw [← e3]
  rw [e3h]
  have ns4 : (pushCells (s3.heap.push { cls := .type "dict", data := .dict #[] }) scope.names).Ns s3.heap.objs.size (fun _ => none) := (Heap.Ns.new s3.heap (.type "dict")).keeps (pushCells_keeps _ _)
  have up4 : ∀ b o, s3.heap.get? b = some o -> (pushCells (s3.heap.push { cls := .type "dict", data := .dict #[] }) scope.names).get? b = some o := fun b o q => pushCells_keeps _ _ b o (Heap.get?_push_of_some _ q)
  have cok := cellsFrom_ok scope.names (s3.heap.push { cls := .type "dict", data := .dict #[] }) (s3.heap.objs.size + 1) [] ⟨fun _ _ hm => (nomatch hm), List.Pairwise.nil⟩ (by rw [Heap.size_push]; exact Nat.le_refl _)
  rw [Heap.size_push] at cok
  generalize pushCells (s3.heap.push { cls := .type "dict", data := .dict #[] }) scope.names = h4 at ns4 up4 cok ⊢
  generalize eH : upd H2 s2.heap.objs.size (.lst []) = H3 at I3 w0
  have hD : s2.heap.objs.size < s3.heap.objs.size := by rw [← e3h, Heap.size_push]; exact Nat.lt_succ_self _
  have up3 : ∀ b o, s2.heap.get? b = some o -> s3.heap.get? b = some o := fun b o q => by rw [← e3h]; exact Heap.get?_push_of_some _ q
  have clt : ∀ x c, cl.lookup x = some c -> c < s3.heap.objs.size := fun x c q => by
    obtain ⟨v, oc, hoc, _⟩ := I3.cell x c (C.sub _ _ q)
    exact Heap.lt_size hoc
  have cas : ∀ x c, (cellsFrom (s3.heap.objs.size + 1) scope.names cl).lookup x = some c -> (cl.lookup x = some c /\ x ∉ ownC scope) ∨ (x ∈ ownC scope /\ (x, c) ∈ cellsFrom (s3.heap.objs.size + 1) scope.names []) := fun x c q => by
    rw [cellsFrom_app, lookup_app] at q
    cases e : (cellsFrom (s3.heap.objs.size + 1) scope.names []).lookup x with
    | some c' =>
      rw [e] at q
      cases q
      have m := mem_of_lookup e
      exact .inr ⟨mem_own.mpr (mem_cellsFrom m), m⟩
    | none =>
      rw [e] at q
      have q' : cl.lookup x = some c := q
      refine .inl ⟨q', fun z => ?_⟩
      rw [C.dis x z] at q'
      cases q'
  have csub : ∀ x c, cl.lookup x = some c -> (cellsFrom (s3.heap.objs.size + 1) scope.names cl).lookup x = some c := fun x c q => by
    rw [cellsFrom_app, lookup_app]
    cases e : (cellsFrom (s3.heap.objs.size + 1) scope.names []).lookup x with
    | none => exact q
    | some c' =>
      have := C.dis x (mem_own.mpr (mem_cellsFrom (mem_of_lookup e)))
      rw [q] at this
      cases this
  have cnew : ∀ x c, (x, c) ∈ cellsFrom (s3.heap.objs.size + 1) scope.names [] -> h4.IsCell c none /\ s3.heap.objs.size + 1 <= c := fun x c m => cok.empty x c m
  have fpo : ∀ b ∈ fp, b < s3.heap.objs.size := fun b hb => by
    obtain ⟨o, eo, _⟩ := T.obj 0 _ st2 b hb
    exact Heap.lt_size (up3 b o eo)
  have fst : ∀ b ∈ fp, b ∉ frs X.stack := fun b hb z => by
    rcases List.mem_cons.mp (I3.stkSub b z) with q | q
    · exact (f2 b hb).2.1 q
    · exact (f2 b hb).2.2.1 q
  have okY : (compCxC X scope cl N fp pins s3 H3 fun _ _ => False).Ok := by
    refine ⟨I.ok.mod, C.kind, I.ok.glob, I.ok.blt, Nat.le_refl _, fun x y c q1 q2 => ?_, fun x z => ?_, fun x c z q => ?_, I.ok.hd, I.ok.frames, .inl rfl, fun b hb => ⟨Nat.ne_of_lt (fpo b hb), fun x c q => ?_⟩,
      I3.bs, Nat.le_trans I.ok.bsz I3.sz, fun b o q hb => ?_, fst, I3.stack, I3.stkFree⟩
    · rcases cas x c q1 with ⟨a1, _⟩ | ⟨_, a1⟩
      · rcases cas y c q2 with ⟨a2, _⟩ | ⟨_, a2⟩
        · exact I.ok.inj x y c (C.sub _ _ a1) (C.sub _ _ a2)
        · exact absurd (clt x c a1) (Nat.not_lt.mpr (Nat.le_trans (Nat.le_succ _) (cnew y c a2).2))
      · rcases cas y c q2 with ⟨a2, _⟩ | ⟨_, a2⟩
        · exact absurd (clt y c a2) (Nat.not_lt.mpr (Nat.le_trans (Nat.le_succ _) (cnew x c a1).2))
        · exact name_of_addr cok.apart a1 a2
    · rcases C.has x z with ⟨c, h'⟩ | h'
      · exact ⟨c, csub x c h'⟩
      · obtain ⟨c, m⟩ := of_mem_cells (n := s3.heap.objs.size + 1) (mem_own.mp h')
        obtain ⟨c', e'⟩ := lookup_of_key (List.mem_map.mpr ⟨(x, c), m, rfl⟩)
        refine ⟨c', ?_⟩
        show (cellsFrom (s3.heap.objs.size + 1) scope.names cl).lookup x = some c'
        rw [cellsFrom_app, lookup_app, e']
        rfl
    · rcases cas x c q with ⟨_, a1⟩ | ⟨_, a1⟩
      · exact absurd (List.contains_iff_mem.mp z) a1
      · exact Nat.le_trans (Nat.le_succ _) (cnew x c a1).2
    · rcases cas x c q with ⟨a1, _⟩ | ⟨_, a1⟩
      · exact (f2 b hb).2.2.2.2.1 x c (C.sub _ _ a1)
      · exact Nat.ne_of_gt (Nat.lt_of_lt_of_le (fpo b hb) (Nat.le_trans (Nat.le_succ _) (cnew x c a1).2))
    rcases (f2 b hb).2.2.2.1 with z | z
    · exact I.ok.noex b o q z
    · exact absurd (Nat.lt_of_lt_of_le (Heap.lt_size q) (Nat.le_trans I.ok.bsz z)) (Nat.lt_irrefl _)
  have I4 : Inv (compCxC X scope cl N fp pins s3 H3 fun _ _ => False) [] (pick js σ) H3 { s3 with heap := h4 } := by
    refine ⟨okY, rfl, I3.bare, Un.kept up4, ⟨_, ns4, fun i x v q1 q2 q3 => ?_⟩, fun x c q => ?_, I3.hok.fresh (Nat.le_refl _), fun x c q => ?_, fun p hp => ?_, I3.hok.kept up4, ?_⟩
    · obtain ⟨j, k1, k2⟩ := pick_get q2
      obtain ⟨z1, z0, z2, z3⟩ := C.seen i j x q1 k1
      obtain ⟨m, hn, hl⟩ := I3.loc
      obtain ⟨u, ru, lk⟩ := hl j x v z1 k2 (.inr (.inl z2))
      refine ⟨u, ru, .inr ⟨z3, ?_⟩⟩
      rcases lk with ⟨k, _⟩ | ⟨_, c, ec, oc, hoc, hdc⟩
      · have k' : X.env.scope.names.lookup x = some .local := k
        rw [z2] at k'; cases k'
      · obtain ⟨c', ec'⟩ := (C.has x z3).resolve_right z0
        have := C.sub _ _ ec'
        rw [ec] at this
        cases this
        exact ⟨c, csub x c ec', oc, up4 _ _ hoc, hdc⟩
    · rcases cas x c q with ⟨a1, _⟩ | ⟨_, a1⟩
      · obtain ⟨v, oc, hoc, hdc⟩ := I3.cell x c (C.sub _ _ a1)
        exact ⟨v, oc, up4 _ _ hoc, hdc⟩
      · exact ⟨none, (cnew x c a1).1⟩
    · rcases cas x c q with ⟨a1, _⟩ | ⟨_, a1⟩
      · exact I3.freeC x c (C.sub _ _ a1)
      · exact I3.hok.fresh (Nat.le_trans (Nat.le_succ _) (cnew x c a1).2)
    · have hp' : p ∈ X.pn ++ pins := by simpa using hp
      obtain ⟨q1, q2, q3, q4, q5⟩ := I3.pin p hp'
      refine ⟨up4 _ _ q1, q2, Nat.ne_of_lt (Heap.lt_size q1), fun z => ?_, q5⟩
      rcases List.mem_cons.mp (I3.stkSub _ z) with q | q
      · exact q3 q
      · exact q4 q
    · show (pick js σ).length = N.length
      unfold pick
      rw [List.length_map, C.len]
  have stat : ∀ {H' : Hp}, (∀ b ∈ fp, H' b = none) -> ∀ b ∈ fp, FpOk (compCxC X scope cl N fp pins s3 H3 fun _ _ => False) [] H' b := fun hn b hb =>
    ⟨hn b hb, Nat.ne_of_lt (fpo b hb), fst b hb, .inl hb, fun x c q => by
      rcases cas x c q with ⟨a1, _⟩ | ⟨_, a1⟩
      · exact (f2 b hb).2.2.2.2.1 x c (C.sub _ _ a1)
      · exact Nat.ne_of_gt (Nat.lt_of_lt_of_le (fpo b hb) (Nat.le_trans (Nat.le_succ _) (cnew x c a1).2)), fun p hp => (f2 b hb).2.2.2.2.2 p (by simpa using hp)⟩
  have st4 : tn 0 h4 := T.keep 0 _ _ st2 fun b hb o q => up4 b o (up3 b o q)
  have nx : ∀ e s', (compCxC X scope cl N fp pins s3 H3 fun _ _ => False).xe e s' -> False := fun _ _ z => z
  have loop : codeAny (model X.prog X.w) X.A (.compLoop (.ListComp elt [⟨tg, iter, cs, 0⟩] scope cpos) 0 (.ref it) (.ref s2.heap.objs.size) (compEnvC scope (cellsFrom (s3.heap.objs.size + 1) scope.names cl) s3.heap.objs.size X.env))
      (compPost (model X.prog X.w) X.A X.xe (some (assign (.Name x0 pos') X.env)) (fun _ s' => SP X pins D0 .next s') (.ref s2.heap.objs.size) s3.heap.objs.size) { s3 with heap := h4 } := by
    refine loop_go (fun n s' => ∃ i σ' H' ys, Inv (compCxC X scope cl N fp pins s3 H3 fun _ _ => False) [] σ' H' s' /\ tn i s'.heap /\ (∀ b ∈ fp, H' b = none) /\ W i n σ' H' ys) ?_ m0 ⟨0, _, H3, [], I4, st4, fun b hb => ?_, w0⟩
    · rintro n s5 ⟨i, σ5, H5, ys, I5, st5, fr5, w5⟩
      obtain ⟨hD5, way⟩ := turn i n σ5 H5 ys w5
      rcases way with ⟨stop, qn⟩ | ⟨go, hz, NN, hN, step⟩
      · refine noEx nx (thn (T.done (compCxC X scope cl N fp pins s3 H3 fun _ _ => False) rfl rfl rfl hc i [] s5 σ5 H5 _ I5 (stat fr5) st5 stop) fun r s6 ⟨hr, I6⟩ => ?_)
        subst hr
        obtain ⟨m, hn, _⟩ := I6.loc
        have fC : FpOk X pins H5 s3.heap.objs.size := I3.fpOk (Nat.le_refl _) I6.free
        have I7 : Inv X pins σ H5 s6 := ?_
        · refine wpAny_assign_Name (store_ok2 (v := .ref s2.heap.objs.size) I7 hN0 hi0 hx0 rfl (fun s8 I8 hsb => ?_) hf0)
          obtain ⟨a8, sb8, h8⟩ := hsb
          obtain ⟨f0, f1, f2', f3, f4, f5⟩ := fC
          have nC : s3.heap.objs.size ≠ a8 := by
            rcases h8 with z | z
            · rw [z]; exact f1
            · exact (f4 _ _ z).symm
          refine ⟨m, hn.sameBut sb8 nC, fun h' sb => ⟨_, H5, ?_, qn⟩⟩
          exact I8.turned (t' := s8.toks) (fun b o hb e => (sb.2 b hb).trans e) f0 f1 f3 f4 f5
        have low : ∀ b o, s3.heap.get? b = some o -> b ≠ s3.heap.objs.size := fun b o q => Nat.ne_of_lt (Heap.lt_size q)
        have same : ∀ b, b ≠ s3.heap.objs.size -> s6.heap.get? b = s6.heap.get? b := fun b hb => rfl
        have B := I6.base
        refine I3.call' (s' := s6) (H' := H5) (ch := fp) I6.os ⟨fun b o q n0 h1 h2 => ?_, fun b o q n0 h1 h2 => ?_, B.free, fun b o q h2 => ?_, B.tups, B.frzs, B.tbls⟩ (fun a o q => ?_) I6.bare (fun b hb => ⟨(f2 b hb).2.2.2.1, (f2 b hb).2.1, (f2 b hb).2.2.2.2.1, (f2 b hb).2.2.2.2.2⟩)
        · exact (same b (low b o q)).trans (B.keep b o q n0 h1 h2)
        · obtain ⟨sl, z⟩ := B.slot b o q n0 h1 h2
          exact ⟨sl, (same b (low b o q)).trans z⟩
        · obtain ⟨o', z⟩ := B.there b o q h2
          exact ⟨o', (same b (low b o q)).trans z⟩
        · have nC : ∀ c u, H5 c = some u -> c ≠ s3.heap.objs.size := fun c u z y => by
            have := I6.free
            rw [y] at z
            rw [show H5 s3.heap.objs.size = none from this] at z
            cases z
          refine (I6.hok a o q).stay (fun c u hc' z => (same c ?_).trans z) (fun _ z => z) fun _ _ z => z
          rcases hc' with z' | z'
          · rw [z']; exact nC a o q
          · exact nC c _ z'
      · refine noEx nx (thn (T.item (compCxC X scope cl N fp pins s3 H3 fun _ _ => False) rfl rfl rfl hc i [] s5 σ5 H5 _ I5 (stat fr5) st5 go) fun r s6 ⟨u, hr, h6⟩ => ?_)
        subst hr
        refine noEx nx (thn h6 fun _ s7 ⟨x, H7, I7, r7, y7, st7, fr7⟩ => ?_)
        have I7' := I7.pinned (stat fr7) (T.obj _ _ st7)
        refine noEx nx (thn (hg fp pins s3 H3 _ s7 σ5 H7 x u _ I7' r7 (step x H7 y7)) fun _ s8 ⟨σ8, H8, I8, q8⟩ => ?_)
        refine noEx nx (thn (ht fp pins s3 H3 _ s8 σ8 H8 _ I8 q8) fun k s9 ⟨H9, I9, q9⟩ => ?_)
        have fin : ∀ {s' : Shared} {σ' : St} {H' : Hp} {ys' : List V}, Inv (compCxC X scope cl N fp pins s3 H3 fun _ _ => False) ([] ++ pinsAt fp s7.heap) σ' H' s' -> NN σ' H' ys' ->
            ∃ m', m' < n /\ ∃ i σ' H' ys, Inv (compCxC X scope cl N fp pins s3 H3 fun _ _ => False) [] σ' H' s' /\ tn i s'.heap /\ (∀ b ∈ fp, H' b = none) /\ W i m' σ' H' ys := fun {s' σ' H' ys'} Iv nv => by
          obtain ⟨m', hm, wv⟩ := hN σ' H' ys' nv
          refine ⟨m', hm, i + 1, σ', H', ys', Iv.unpinned, T.keep _ _ _ st7 fun b hb o q => (Iv.pin (b, o) (List.mem_append_right _ (List.mem_append_right _ (mem_pinsAt hb q)))).1, fun b hb => ?_, wv⟩
          obtain ⟨o, q, _⟩ := T.obj _ _ st7 b hb
          exact (Iv.pin (b, o) (List.mem_append_right _ (List.mem_append_right _ (mem_pinsAt hb q)))).2.1
        cases k with
        | false =>
          rw [if_neg Bool.false_ne_true] at q9 ⊢
          exact fin I9 q9.2
        | true =>
          rw [if_pos rfl] at q9 ⊢
          refine noEx nx (thn (he fp pins s3 H3 _ s9 σ8 H9 _ I9 q9) fun y sA ⟨yv, HA, IA, rA, hDA, qA⟩ => ?_)
          refine noEx nx (thn (mt_append _ sA σ8 HA (.ref s2.heap.objs.size) [yv] _ [y] (fun _ HB => NN σ8 HB (ys ++ [yv])) IA rfl (.cons rA .nil) ⟨_, ys, yv, rfl, rfl, hDA, hz, qA⟩) fun _ sB ⟨_, HB, IB, _, qB⟩ => ?_)
          exact fin IB qB
    · rw [← eH, upd_ne]
      · exact (f2 b hb).1
      · obtain ⟨o, eo, _⟩ := T.obj 0 _ st2 b hb
        exact Nat.ne_of_lt (Heap.lt_size eo)
  have goal : codeAny (model X.prog X.w) X.A (.compStart (.ListComp elt [⟨tg, iter, cs, 0⟩] scope cpos) 0 (.ref it) (.ref s2.heap.objs.size) (compEnvC scope (cellsFrom (s3.heap.objs.size + 1) scope.names cl) s3.heap.objs.size X.env))
      (compPost (model X.prog X.w) X.A X.xe (some (assign (.Name x0 pos') X.env)) (fun _ s' => SP X pins D0 .next s') (.ref s2.heap.objs.size) s3.heap.objs.size) { s3 with heap := h4 } :=
    codeAny_compStart_list loop (T.self _ 0 _ _ _ st4 loop)
  subst e3
  exact goal
theorem qs_setCC {X : Cx} {elt tg iter : Expr} {cs : List Expr} {scope : Scope} {cpos pos pos' : Pos} {cl : List (Str × Addr)} {N : List Str} {js : List (Option Nat)} {wi : TI} {g : TG} {tc : TT} {te : TE} {i : Nat} {x0 : Str}
    (hN0 : X.N.Nodup) (hi0 : X.N[i]? = some x0) (hx0 : Loc X.env.scope x0)
    (C : CompOkC X scope cl N js) (hc : X.calm = true) (hi : QI X tg iter wi)
    (hg : ∀ fp pins s H, QG (compCxC X scope cl N fp pins s H fun _ _ => False) tg g)
    (ht : ∀ fp pins s H, QTs (compCxC X scope cl N fp pins s H fun _ _ => False) cs tc)
    (he : ∀ fp pins s H, QE (compCxC X scope cl N fp pins s H fun _ _ => False) elt te)
    (hsw : swapsWith (.ListComp elt [⟨tg, iter, cs, 0⟩] scope cpos) (some (.Name x0 pos')) pos.line X.env = pure true := by rfl)
    (hs : ∀ x, foldedSetIterable iter X.env x = pure x := by intro _; rfl) (hf0 : X.fn x0 = true ∨ X.env.scope.names.lookup x0 = some .local := by first | exact .inl rfl | exact .inr rfl | assumption) : QS X (.Assign [.Name x0 pos'] (.ListComp elt [⟨tg, iter, cs, 0⟩] scope cpos) pos) (tAsg (tComp js wi g tc te) (gName i)) :=
  ⟨ps_setCC hN0 hi0 hx0 C hc hi.o (fun a b c d => (hg a b c d).o) (fun a b c d => (ht a b c d).o) (fun a b c d => (he a b c d).o) hsw hs hf0⟩
end L2
namespace Zn
open PySem PyProof.Rows Zt
end Zn
namespace L2
open PySem PySem.Spec PyProof.Rows
end L2
namespace L2
open PySem PySem.Spec PyProof.Rows
end L2
namespace Tp
open PySem PyProof.Rows
open AutoSeq1 (wpAny_loadPart')
end Tp
namespace W2
open L2 PySem PySem.Spec PyProof.Rows
end W2
namespace Mth
theorem dot_linW (w : Int) : ∀ (ys : List Int) (cs : List (List Int)) (f : List Int -> Int), dotI ys (cs.map fun c => w * c.getD 0 0 + f c.tail) = w * dotI ys (cs.map fun c => c.getD 0 0) + dotI ys ((cs.map List.tail).map f)
  | [], cs, f => by rw [dotI_nil, dotI_nil, dotI_nil]; omega
  | y :: ys, [], f => by
    show (0 : Int) = w * 0 + 0
    omega
  | y :: ys, c :: cs, f => by
    rw [List.map_cons, List.map_cons, List.map_cons, List.map_cons, dotI_cons, dotI_cons, dotI_cons, dot_linW w ys cs f, Int.mul_add, Int.mul_add, ← Int.mul_assoc, ← Int.mul_assoc, Int.mul_comm y w]
    omega
theorem tail_get (c : List Int) (p : Nat) : c.tail.getD p 0 = c.getD (p + 1) 0 := by
  cases c with
  | nil => rfl
  | cons a c => rfl
theorem dot_head (w : Int) (ws c : List Int) : dotI (w :: ws) c = w * c.getD 0 0 + dotI ws c.tail := by
  cases c with
  | nil =>
    show (0 : Int) = w * 0 + dotI ws []
    cases ws with
    | nil => rw [dotI_nil]; omega
    | cons a ws => show (0 : Int) = w * 0 + 0; omega
  | cons a c => rw [dotI_cons]; rfl
theorem rows_nn : ∀ (ws : List Int) (cs : List (List Int)) (ys : List Int), (∀ x ∈ ws, 0 <= x) -> (∀ p, p < ws.length -> 0 <= dotI ys (cs.map fun c => c.getD p 0)) -> 0 <= dotI ys (cs.map fun c => dotI ws c)
  | [], cs, ys, _, _ => by
    have : dotI ys (cs.map fun c => dotI [] c) = 0 := by
      rw [dotI_comm]
      refine dotI_zero _ _ fun k => ?_
      rw [List.getD_eq_getElem?_getD, List.getElem?_map]
      cases cs[k]? with
      | none => rfl
      | some c => rfl
    omega
  | w :: ws, cs, ys, hw, hp => by
    have e : (cs.map fun c => dotI (w :: ws) c) = cs.map fun c => w * c.getD 0 0 + dotI ws c.tail := List.map_congr_left fun c _ => dot_head w ws c
    rw [e, dot_linW w ys cs (fun c => dotI ws c)]
    have h1 := Int.mul_nonneg (hw w (List.mem_cons_self ..)) (hp 0 (Nat.zero_lt_succ _))
    have h2 := rows_nn ws (cs.map List.tail) ys (fun x hx => hw x (List.mem_cons_of_mem _ hx)) fun p hq => by
      have := hp (p + 1) (Nat.succ_lt_succ hq)
      rw [List.map_map]
      have e2 : ((fun c : List Int => c.getD p 0) ∘ List.tail) = fun c => c.getD (p + 1) 0 := funext fun c => tail_get c p
      rw [e2]
      exact this
    omega
theorem neg_dot : ∀ (ys ds : List Int), ys.length = ds.length -> (∀ y ∈ ys, 0 <= y) -> (∀ d ∈ ds, d < 0) -> dotI ys ds <= 0 /\ ((∃ y ∈ ys, y ≠ 0) -> dotI ys ds < 0)
  | [], [], _, _, _ => ⟨Int.le_refl 0, fun ⟨y, hy, _⟩ => by cases hy⟩
  | y :: ys, d :: ds, h, hy, hd => by
    obtain ⟨h1, h2⟩ := neg_dot ys ds (by simpa using h) (fun x hx => hy x (List.mem_cons_of_mem _ hx)) fun x hx => hd x (List.mem_cons_of_mem _ hx)
    have y0 := hy y (List.mem_cons_self ..)
    have d0 := hd d (List.mem_cons_self ..)
    rw [dotI_cons]
    have h3 : y * d <= 0 := by
      have := Int.mul_nonneg y0 (show 0 <= -d by omega)
      rw [Int.mul_neg] at this
      omega
    refine ⟨by omega, fun ⟨x, hx, hx0⟩ => ?_⟩
    rcases List.mem_cons.mp hx with rfl | hx
    · have := Int.mul_pos (show 0 < x by omega) (show 0 < -d by omega)
      rw [Int.mul_neg] at this
      omega
    · have := h2 ⟨x, hx, hx0⟩
      omega
theorem never_both {ws ys : List Int} {cs : List (List Int)} (hw : ∀ x ∈ ws, 0 <= x) (hwl : ws.length <= 10) (hc : ∀ c ∈ cs, dotI ws c < 0) (hy : ∀ x ∈ ys, 0 <= x) (hl : ys.length = cs.length) (hz : ∃ y ∈ ys, y ≠ 0) (hp : ∀ p, p < 10 -> 0 <= dotI ys (cs.map fun c => c.getD p 0)) : False := by
  have h1 := rows_nn ws cs ys hw fun p hq => hp p (by omega)
  have h2 := (neg_dot ys (cs.map fun c => dotI ws c) (by rw [List.length_map]; exact hl) hy fun d hd => by
    obtain ⟨c, hc', rfl⟩ := List.mem_map.mp hd
    exact hc c hc').2 hz
  omega
theorem sum_pos_some {ns : List Int} (h : 0 < ns.sum) : ∃ n ∈ ns, n ≠ 0 := by
  rcases zero_or_not ns with z | z
  · exact z
  · exfalso
    have : ∀ l : List Int, (∀ n ∈ l, n = 0) -> l.sum = 0 := fun l => by
      induction l with
      | nil => intro _; rfl
      | cons a l ih => intro h; rw [List.sum_cons, h a (List.mem_cons_self ..), ih fun n hn => h n (List.mem_cons_of_mem _ hn)]; rfl
    rw [this ns z] at h
    exact absurd h (by decide)
end Mth
namespace W2
open PySem L2
end W2
namespace Mth
open W2
theorem dot_maps {α : Type} (g h : α -> Int) : ∀ l : List α, dotI (l.map g) (l.map h) = (l.map fun k => g k * h k).sum
  | [] => rfl
  | a :: l => by rw [List.map_cons, List.map_cons, List.map_cons, dotI_cons, List.sum_cons, dot_maps g h l]
theorem byP_map (cs : List (List Int)) (p : Nat) : (cs.map fun c => c.getD p 0) = (List.range cs.length).map fun k => (cs.getD k []).getD p 0 := by
  apply List.ext_getElem (by simp)
  intro i h1 h2
  rw [List.length_map] at h1
  rw [List.getElem_map, List.getElem_map, List.getElem_range, List.getD_eq_getElem?_getD (l := cs), List.getElem?_eq_getElem h1]
  rfl
end Mth
namespace Mth
open W2
def cntN (W : List Nat) (n : Nat) : List Int := (List.range n).map fun j => ((W.count j : Nat) : Int)
theorem sum_one (h : Nat -> Int) (u : Nat) : ∀ n, ((List.range n).map fun k => (if u = k then (1 : Int) else 0) * h k).sum = if u < n then h u else 0
  | 0 => rfl
  | n + 1 => by
    rw [List.range_succ, List.map_append, List.sum_append, sum_one h u n]
    show _ + ((if u = n then (1 : Int) else 0) * h n + 0) = _
    by_cases e : u = n
    · subst e
      rw [if_neg (by omega), if_pos rfl, if_pos (by omega)]
      omega
    · rw [if_neg e]
      by_cases l : u < n
      · rw [if_pos l, if_pos (by omega)]; omega
      · rw [if_neg l, if_neg (by omega)]; omega
theorem sum_add (f g : Nat -> Int) : ∀ l : List Nat, (l.map fun k => f k + g k).sum = (l.map f).sum + (l.map g).sum
  | [] => rfl
  | a :: l => by rw [List.map_cons, List.map_cons, List.map_cons, List.sum_cons, List.sum_cons, List.sum_cons, sum_add f g l]; omega
theorem sum_cnt (h : Nat -> Int) (n : Nat) : ∀ W : List Nat, (∀ u ∈ W, u < n) -> ((List.range n).map fun k => ((W.count k : Nat) : Int) * h k).sum = (W.map h).sum
  | [], _ => by
    have : ∀ l : List Nat, (l.map fun k => ((([] : List Nat).count k : Nat) : Int) * h k).sum = 0 := fun l => by
      induction l with
      | nil => rfl
      | cons a l ih => rw [List.map_cons, List.sum_cons, ih, List.count_nil]; omega
    rw [this]
    rfl
  | u :: W, hW => by
    have ih := sum_cnt h n W fun v hv => hW v (List.mem_cons_of_mem _ hv)
    have e : ((List.range n).map fun k => (((u :: W).count k : Nat) : Int) * h k) = (List.range n).map fun k => (fun k => ((W.count k : Nat) : Int) * h k) k + (fun k => (if u = k then (1 : Int) else 0) * h k) k := List.map_congr_left fun k _ => by
      rw [List.count_cons]
      show ((W.count k + (if (u == k) = true then 1 else 0) : Nat) : Int) * h k = ((W.count k : Nat) : Int) * h k + (if u = k then (1 : Int) else 0) * h k
      by_cases z : u = k
      · subst z
        rw [if_pos (beq_self_eq_true u), if_pos rfl, Int.natCast_add, Int.add_mul]
        rfl
      · rw [if_neg (by simpa using z), if_neg z, Nat.add_zero, Int.zero_mul, Int.add_zero]
    rw [e, sum_add, ih, sum_one, if_pos (hW u (List.mem_cons_self ..)), List.map_cons, List.sum_cons]
    omega
theorem fold_mvd {R : List (List Int)} (hR : R10 R) {i : Nat} (hi : i < 10) : ∀ (W : List Nat) (p : List Int), p.length = 10 -> (∀ u ∈ W, u < R.length) -> (W.foldl (fun x u => mvd x (R.getD u []) 1) p).getD i 0 = p.getD i 0 + (W.map fun u => (R.getD u []).getD i 0).sum /\ (W.foldl (fun x u => mvd x (R.getD u []) 1) p).length = 10
  | [], p, hp, _ => ⟨by show p.getD i 0 = p.getD i 0 + 0; omega, hp⟩
  | u :: W, p, hp, hW => by
    have hu := hW u (List.mem_cons_self ..)
    have hc : (R.getD u []).length = 10 := hR _ (by rw [List.getD_eq_getElem?_getD, List.getElem?_eq_getElem hu]; exact List.getElem_mem _)
    have hl : (mvd p (R.getD u []) 1).length = 10 := by unfold mvd; rw [List.length_zipWith, hp, hc]; rfl
    obtain ⟨h1, h2⟩ := fold_mvd hR hi W (mvd p (R.getD u []) 1) hl fun v hv => hW v (List.mem_cons_of_mem _ hv)
    refine ⟨?_, h2⟩
    rw [List.foldl_cons, h1, mvd_D hp hc hi, List.map_cons, List.sum_cons]
    omega
theorem LoopR.bal {R P : List (List Int)} {W : List Nat} {p d : List Int} (h : LoopR R P W p d) : (cntN W R.length).length = R.length /\ (∀ x ∈ cntN W R.length, 0 <= x) /\ (∃ y ∈ cntN W R.length, y ≠ 0) /\ ∀ i, i < 10 -> 0 <= dotI (cntN W R.length) (R.map fun c => c.getD i 0) := by
  have hW : ∀ u ∈ W, u < R.length := fun u hu => by
    obtain ⟨r, hr⟩ := List.getElem?_of_mem hu
    obtain ⟨q, u', c, _, g2, g3, _⟩ := h.first (r := r) (List.getElem?_eq_some_iff.mp hr).1 0
    rw [hr] at g2
    cases g2
    exact (List.getElem?_eq_some_iff.mp g3).1
  refine ⟨by simp [cntN], fun x hx => ?_, ?_, fun i hi => ?_⟩
  · obtain ⟨j, _, rfl⟩ := List.mem_map.mp hx
    exact Int.natCast_nonneg _
  · cases hWW : W with
    | nil => have := h.w1; rw [hWW] at this; exact absurd this (by decide)
    | cons u W' =>
      have hu : u ∈ W := by rw [hWW]; exact List.mem_cons_self ..
      refine ⟨((W.count u : Nat) : Int), by rw [← hWW]; exact List.mem_map.mpr ⟨u, List.mem_range.mpr (hW u hu), rfl⟩, ?_⟩
      have := List.count_pos_iff.mpr hu
      omega
  · unfold cntN
    rw [byP_map R i, dot_maps, sum_cnt (fun k => (R.getD k []).getD i 0) R.length W hW]
    obtain ⟨q, hq, hf⟩ := h.fold 0 W.length (Nat.le_refl _)
    obtain ⟨q', g1, _, q10, _⟩ := h.at (r := W.length) (Nat.le_refl _)
    rw [hq] at g1
    cases g1
    rw [List.take_of_length_le (Nat.le_refl _), mvd_nought h.p10 h.d10, mvd_nought q10 h.d10] at hf
    have h1 := (fold_mvd h.r10 hi W p h.p10 hW).1
    rw [hf, h.end_ hq hi] at h1
    have h2 : 0 <= d.getD i 0 := by
      rw [List.getD_eq_getElem?_getD]
      cases hz : d[i]? with
      | none => exact Int.le_refl 0
      | some x => exact nn_iff.mp h.dd.2.1 x (List.mem_of_getElem? hz)
    omega
theorem LoopR.mul {R P : List (List Int)} {W : List Nat} {p d : List Int} (h : LoopR R P W p d) (m : Nat) : goN R (m * W.length) p = some (mvd p d (m : Int)) := by
  obtain ⟨q, hq, hg⟩ := h.go m 0 (Nat.zero_le _)
  have := h.p0
  rw [hq] at this
  cases this
  exact hg
theorem loop_round {R P : List (List Int)} {W : List Nat} {ps b d : List Int} {s r l : Nat} (h : LoopR R P W b d) (hs : goN R s ps = some b) (hl : 1 <= l) (hr : goN R r ps = goN R (r + l) ps) : ∀ i, i < 10 -> d.getD i 0 = 0 := by
  have hsh : ∀ k, goN R (r + k) ps = goN R (r + l + k) ps := goN_shift hr
  have hn : ∀ n, r <= n -> goN R (n + l) ps = goN R n ps := fun n hn => by
    have := hsh (n - r)
    rw [show r + (n - r) = n by omega, show r + l + (n - r) = n + l by omega] at this
    exact this.symm
  have hj : ∀ j n, r <= n -> goN R (n + j * l) ps = goN R n ps := fun j => by
    induction j with
    | zero => intro n _; rw [Nat.zero_mul, Nat.add_zero]
    | succ j ih => intro n hn'; rw [Nat.succ_mul, ← Nat.add_assoc, hn _ (by omega), ih n hn']
  have w1 := h.w1
  have hge : r <= s + r * W.length := Nat.le_trans (Nat.le_mul_of_pos_right r w1) (Nat.le_add_left _ _)
  have e := hj W.length (s + r * W.length) hge
  rw [show s + r * W.length + W.length * l = s + (r + l) * W.length by rw [Nat.add_mul, Nat.mul_comm W.length l]; omega, goN_sumB, hs, goN_sumB, hs] at e
  have e2 : goN R ((r + l) * W.length) b = goN R (r * W.length) b := e
  rw [h.mul, h.mul] at e2
  have e3 := Option.some.inj e2
  intro i hi
  have e4 : (mvd b d ((r + l : Nat) : Int)).getD i 0 = (mvd b d ((r : Nat) : Int)).getD i 0 := by rw [e3]
  rw [mvd_D h.p10 h.d10 hi, mvd_D h.p10 h.d10 hi, Int.natCast_add, Int.add_mul] at e4
  have e5 : (l : Int) * d.getD i 0 = 0 := by omega
  rcases Int.mul_eq_zero.mp e5 with z | z
  · omega
  · exact z
theorem loop_same {R P : List (List Int)} {W : List Nat} {ps b d : List Int} {s : Nat} (h : LoopR R P W b d) (hs : goN R s ps = some b) (hd : ∀ i, i < 10 -> d.getD i 0 = 0) : goN R (s + W.length) ps = goN R s ps := by
  rw [goN_sumB, hs]
  show goN R W.length b = some b
  have := h.mul 1
  rw [Nat.one_mul] at this
  rw [this]
  congr 1
  have hl : (mvd b d ((1 : Nat) : Int)).length = 10 := by unfold mvd; rw [List.length_zipWith, h.p10, h.d10]; rfl
  refine ext10 hl h.p10 fun i hi => ?_
  rw [mvd_D h.p10 h.d10 hi, hd i hi]
  omega
theorem round_loop {R P : List (List Int)} {ps : List Int} {m r l : Nat} {c : List Int} (hR : R10 R) (hp : ps.length = 10) (hn : nn ps = true) (hP : PathR R m ps P) (hl : 1 <= l) (hl40 : l <= 40) (hm : r + l <= m) (hg : goN R r ps = some c) (hg2 : goN R (r + l) ps = some c) : InB (trl R m ps).length r (r + l) /\ ∃ d, partL R P (trl R m ps) r (r + l) = some d := by
  have hpre : ∀ i, i <= r + l -> ∃ q, goN R i ps = some q := fun i hi => by
    have h1 : goN R (i + (r + l - i)) ps = some c := by rw [show i + (r + l - i) = r + l by omega]; exact hg2
    rw [goN_sumB] at h1
    cases hz : goN R i ps with
    | none => rw [hz] at h1; cases h1
    | some q => exact ⟨q, rfl⟩
  have hU : ∀ i, i < r + l -> ∃ q u, goN R i ps = some q /\ (trl R m ps)[i]? = some u /\ fstI R q = some u := fun i hi => by
    obtain ⟨q, hq⟩ := hpre i (by omega)
    obtain ⟨q2, hq2⟩ := hpre (i + 1) (by omega)
    have h1 : (goN R i ps).bind (stp R) = some q2 := hq2
    rw [hq] at h1
    obtain ⟨u, c', h2, _⟩ := stp_some (show stp R q = some q2 from h1)
    refine ⟨q, u, hq, ?_, h2⟩
    rw [trl_get, if_pos (by omega), hq]
    exact h2
  have hlen : r + l <= (trl R m ps).length := by
    obtain ⟨q, u, _, h2, _⟩ := hU (r + l - 1) (by omega)
    have := (List.getElem?_eq_some_iff.mp h2).1
    omega
  refine ⟨⟨by omega, hlen, by omega⟩, ?_⟩
  have hPi : ∀ i, i <= r + l -> P[i]? = goN R i ps := fun i hi => hP.2 i (by rw [hP.1]; omega)
  have cl : (cutL (trl R m ps) r (r + l)).length = l := by rw [cutL_len hlen]; omega
  have c10 := (goN_ok hR hp hn hg).1
  have hP0 : (cutL P r (r + l + 1)).getD 0 [] = c := by
    rw [List.getD_eq_getElem?_getD, cutL_get (by omega), Nat.add_zero, hPi r (by omega), hg]; rfl
  have hPl : (cutL P r (r + l + 1)).getD l [] = c := by
    rw [List.getD_eq_getElem?_getD, cutL_get (by omega), hPi (r + l) (by omega), hg2]; rfl
  have hD : ∀ i, i < 10 -> (addD (cutL P r (r + l + 1)) l).getD i 0 = 0 := fun i hi => by
    unfold addD
    rw [hP0, hPl, mvd_D c10 c10 hi]
    omega
  have hDn : nn (addD (cutL P r (r + l + 1)) l) = true := nn_iff.mpr fun x hx => by
    obtain ⟨i, hi⟩ := List.getElem?_of_mem hx
    have hl' : i < 10 := by
      have h1 := (List.getElem?_eq_some_iff.mp hi).1
      unfold addD at h1
      rw [hP0, hPl] at h1
      unfold mvd at h1
      rw [List.length_zipWith, c10] at h1
      omega
    have := hD i hl'
    rw [List.getD_eq_getElem?_getD, hi] at this
    have : x = 0 := this
    omega
  refine ⟨addD (cutL P r (r + l + 1)) (cutL (trl R m ps) r (r + l)).length, ?_⟩
  unfold partL
  refine addL_some (by rw [cl]; exact hDn) ?_
  rw [cl]
  refine loopB_of (fun k u p hk hpk c' hc' => ?_) (by rw [cl, cutL_len (by rw [hP.1]; omega)]; omega)
  have hkl : k < l := by have := (List.getElem?_eq_some_iff.mp hk).1; rw [cl] at this; exact this
  rw [cutL_get (by omega)] at hk hpk
  obtain ⟨q, u', h1, h2, h3⟩ := hU (r + k) (by omega)
  rw [hk] at h2
  cases h2
  rw [hPi (r + k) (by omega), h1] at hpk
  cases hpk
  obtain ⟨q10, _⟩ := goN_ok hR hp hn h1
  have hcm : c' ∈ R := List.mem_of_mem_take hc'
  have hnf : fitsB c' p = false := by
    obtain ⟨j, hj⟩ := List.getElem?_of_mem hc'
    rw [List.getElem?_take] at hj
    split at hj
    · next hju => exact fstI_ahead h3 j hju c' hj
    · cases hj
  unfold shutB
  rw [List.any_eq_true]
  apply Classical.byContradiction
  intro hno
  have : fitsB c' p = true := (fitsB_D (hR c' hcm) q10).mpr fun i hi => by
    rcases Int.lt_or_le (p.getD i 0 + c'.getD i 0) 0 with z | z
    · exact absurd ⟨i, List.mem_range.mpr hi, by rw [decide_eq_true z, decide_eq_true (hD i hi)]; rfl⟩ hno
    · exact z
  rw [hnf] at this
  cases this
end Mth
namespace W2
open PySem L2 Mth
def top (i : Nat) : Stmt := PySem.Challenge.pw_wholefract_k66_whole_loops_never_stop.main.body.getD i (.Pass ⟨0, 0, 0, 0⟩)
abbrev s_is_whole : Stmt := top 5
abbrev s_powers_of : Stmt := top 6
abbrev s_how_often : Stmt := top 7
abbrev s_without_primes : Stmt := top 8
abbrev s_changes_of : Stmt := top 10
abbrev s_fraction_changes : Stmt := top 11
abbrev s_fits : Stmt := top 12
abbrev s_first_of : Stmt := top 13
abbrev s_moved : Stmt := top 14
abbrev s_places_of : Stmt := top 17
abbrev s_used_at : Stmt := top 18
abbrev s_added_along : Stmt := top 19
abbrev s_stays_shut : Stmt := top 20
abbrev s_first_loop : Stmt := top 21
abbrev s_fate : Stmt := top 23
abbrev s_unit_row : Stmt := top 25
abbrev s_lowest : Stmt := top 26
abbrev s_common_divisor : Stmt := top 27
abbrev s_by_primes : Stmt := top 29
abbrev s_weighed : Stmt := top 30
abbrev s_first_table : Stmt := top 31
abbrev s_first_above : Stmt := top 32
abbrev s_leaving : Stmt := top 33
abbrev s_exchanged : Stmt := top 34
abbrev s_endless : Stmt := top 35
abbrev s_l_cell_at : Stmt := top 37
abbrev s_l_pot : Stmt := top 38
abbrev s_l_take : Stmt := top 39
abbrev s_l_primes : Stmt := top 40
abbrev s_l_number : Stmt := top 41
abbrev s_l_fraction : Stmt := top 42
abbrev s_l_some : Stmt := top 43
abbrev s_l_any_program : Stmt := top 44
abbrev s_l_sinking : Stmt := top 45
abbrev s_l_ringing : Stmt := top 46
abbrev s_l_program : Stmt := top 47
abbrev s_l_powers : Stmt := top 48
abbrev s_law : Stmt := top 49
theorem sc_is_whole : FnScope ["thing"] ["thing"] (defScope s_is_whole) := ⟨rfl, rfl, rfl, by decide +kernel, rfl, by decide +kernel, by decide +kernel⟩
theorem sc_powers_of : FnScope ["number"] ["number"] (defScope s_powers_of) := ⟨rfl, rfl, rfl, by decide +kernel, rfl, by decide +kernel, by decide +kernel⟩
theorem sc_how_often : FnScope ["prime", "number", "times", "rest"] ["prime", "number"] (defScope s_how_often) := ⟨rfl, rfl, rfl, by decide +kernel, rfl, by decide +kernel, by decide +kernel⟩
theorem sc_without_primes : FnScope ["number", "rest", "prime"] ["number"] (defScope s_without_primes) := ⟨rfl, rfl, rfl, by decide +kernel, rfl, by decide +kernel, by decide +kernel⟩
theorem sc_changes_of : FnScope ["program"] ["program"] (defScope s_changes_of) := ⟨rfl, rfl, rfl, by decide +kernel, rfl, by decide +kernel, by decide +kernel⟩
theorem sc_fraction_changes : FnScope ["fraction", "tops", "bottoms"] ["fraction"] (defScope s_fraction_changes) := ⟨rfl, rfl, rfl, by decide +kernel, rfl, by decide +kernel, by decide +kernel⟩
theorem sc_fits : FnScope ["changes", "powers", "change", "power"] ["changes", "powers"] (defScope s_fits) := ⟨rfl, rfl, rfl, by decide +kernel, rfl, by decide +kernel, by decide +kernel⟩
theorem sc_first_of : FnScope ["rows", "powers", "number", "changes"] ["rows", "powers"] (defScope s_first_of) := ⟨rfl, rfl, rfl, by decide +kernel, rfl, by decide +kernel, by decide +kernel⟩
theorem sc_moved : FnScope ["powers", "changes", "many"] ["powers", "changes", "many"] (defScope s_moved) := ⟨rfl, rfl, rfl, by decide +kernel, rfl, by decide +kernel, by decide +kernel⟩
theorem sc_places_of : FnScope ["rows", "powers", "many", "places", "reached", "number"] ["rows", "powers", "many"] (defScope s_places_of) := ⟨rfl, rfl, rfl, by decide +kernel, rfl, by decide +kernel, by decide +kernel⟩
theorem sc_used_at : FnScope ["places"] ["places"] (defScope s_used_at) := ⟨rfl, rfl, rfl, by decide +kernel, rfl, by decide +kernel, by decide +kernel⟩
theorem sc_added_along : FnScope ["rows", "places", "added", "powers", "number"] ["rows", "places"] (defScope s_added_along) := ⟨rfl, rfl, rfl, by decide +kernel, rfl, by decide +kernel, by decide +kernel⟩
theorem sc_stays_shut : FnScope ["changes", "powers", "added"] ["changes", "powers", "added"] (defScope s_stays_shut) := ⟨rfl, rfl, rfl, by decide +kernel, rfl, by decide +kernel, by decide +kernel⟩
theorem sc_first_loop : FnScope ["program", "powers", "most", "rows", "places", "many", "steps", "end", "part", "added"] ["program", "powers", "most"] (defScope s_first_loop) := ⟨rfl, rfl, rfl, by decide +kernel, rfl, by decide +kernel, by decide +kernel⟩
theorem sc_fate : FnScope ["program", "powers", "most", "rows", "seen", "reached", "done", "number"] ["program", "powers", "most"] (defScope s_fate) := ⟨rfl, rfl, rfl, by decide +kernel, rfl, by decide +kernel, by decide +kernel⟩
theorem sc_unit_row : FnScope ["prime"] ["prime"] (defScope s_unit_row) := ⟨rfl, rfl, rfl, by decide +kernel, rfl, by decide +kernel, by decide +kernel⟩
theorem sc_lowest : FnScope ["numbers", "shared", "number"] ["numbers"] (defScope s_lowest) := ⟨rfl, rfl, rfl, by decide +kernel, rfl, by decide +kernel, by decide +kernel⟩
theorem sc_common_divisor : FnScope ["one", "other", "rest"] ["one", "other"] (defScope s_common_divisor) := ⟨rfl, rfl, rfl, by decide +kernel, rfl, by decide +kernel, by decide +kernel⟩
theorem sc_by_primes : FnScope ["rows"] ["rows"] (defScope s_by_primes) := ⟨rfl, rfl, rfl, by decide +kernel, rfl, by decide +kernel, by decide +kernel⟩
theorem sc_weighed : FnScope ["program", "rows", "many", "table", "basis", "unit", "column", "place", "pivot"] ["program"] (defScope s_weighed) := ⟨rfl, rfl, rfl, by decide +kernel, rfl, by decide +kernel, by decide +kernel⟩
theorem sc_first_table : FnScope ["rows", "table"] ["rows"] (defScope s_first_table) := ⟨rfl, rfl, rfl, by decide +kernel, rfl, by decide +kernel, by decide +kernel⟩
theorem sc_first_above : FnScope ["numbers", "column", "number"] ["numbers"] (defScope s_first_above) := ⟨rfl, rfl, rfl, by decide +kernel, rfl, by decide +kernel, by decide +kernel⟩
theorem sc_leaving : FnScope ["table", "basis", "column", "found"] ["table", "basis", "column"] (defScope s_leaving) := ⟨rfl, rfl, rfl, by decide +kernel, rfl, by decide +kernel, by decide +kernel⟩
theorem sc_exchanged : FnScope ["table", "place", "column", "unit", "used", "pivot", "others"] ["table", "place", "column", "unit"] (defScope s_exchanged) := ⟨rfl, rfl, rfl, by decide +kernel, rfl, by decide +kernel, by decide +kernel⟩
theorem sc_endless : FnScope ["table", "basis", "column", "unit", "numbers", "place", "taken"] ["table", "basis", "column", "unit"] (defScope s_endless) := ⟨rfl, rfl, rfl, by decide +kernel, rfl, by decide +kernel, by decide +kernel⟩
theorem sc_l_cell_at : FnScope ["script", "k"] ["script", "k"] (defScope s_l_cell_at) := ⟨rfl, rfl, rfl, by decide +kernel, rfl, by decide +kernel, by decide +kernel⟩
theorem sc_l_pot : FnScope ["cell", "number", "j", "more"] ["cell"] (defScope s_l_pot) := ⟨rfl, rfl, rfl, by decide +kernel, rfl, by decide +kernel, by decide +kernel⟩
theorem sc_l_take : FnScope ["pot", "far", "found"] ["pot", "far"] (defScope s_l_take) := ⟨rfl, rfl, rfl, by decide +kernel, rfl, by decide +kernel, by decide +kernel⟩
theorem sc_l_primes : FnScope [] [] (defScope s_l_primes) := ⟨rfl, rfl, rfl, by decide +kernel, rfl, by decide +kernel, by decide +kernel⟩
theorem sc_l_number : FnScope ["powers", "found", "prime", "often", "turn"] ["powers"] (defScope s_l_number) := ⟨rfl, rfl, rfl, by decide +kernel, rfl, by decide +kernel, by decide +kernel⟩
theorem sc_l_fraction : FnScope ["top", "bottom", "early"] ["top", "bottom"] (defScope s_l_fraction) := ⟨rfl, rfl, rfl, by decide +kernel, rfl, by decide +kernel, by decide +kernel⟩
theorem sc_l_some : FnScope ["pot", "wide", "most", "found", "turn", "place"] ["pot", "wide", "most"] (defScope s_l_some) := ⟨rfl, rfl, rfl, by decide +kernel, rfl, by decide +kernel, by decide +kernel⟩
theorem sc_l_any_program : FnScope ["pot", "most", "wide", "found", "k", "top"] ["pot", "most"] (defScope s_l_any_program) := ⟨rfl, rfl, rfl, by decide +kernel, rfl, by decide +kernel, by decide +kernel⟩
theorem sc_l_sinking : FnScope ["pot", "most", "wide", "weights", "found", "k", "top", "bottom", "loses", "heavy"] ["pot", "most"] (defScope s_l_sinking) := ⟨rfl, rfl, rfl, by decide +kernel, rfl, by decide +kernel, by decide +kernel⟩
theorem sc_l_ringing : FnScope ["pot", "size", "found", "k", "top", "bottom"] ["pot"] (defScope s_l_ringing) := ⟨rfl, rfl, rfl, by decide +kernel, rfl, by decide +kernel, by decide +kernel⟩
theorem sc_l_program : FnScope ["pot", "most", "way"] ["pot", "most"] (defScope s_l_program) := ⟨rfl, rfl, rfl, by decide +kernel, rfl, by decide +kernel, by decide +kernel⟩
theorem sc_l_powers : FnScope ["pot", "far", "found"] ["pot", "far"] (defScope s_l_powers) := ⟨rfl, rfl, rfl, by decide +kernel, rfl, by decide +kernel, by decide +kernel⟩
theorem sc_law : FnScope ["script", "k", "program", "powers", "told", "found"] ["script"] (defScope s_law) := ⟨rfl, rfl, rfl, by decide +kernel, rfl, by decide +kernel, by decide +kernel⟩
structure Tx (K : PySem.W.Frag) (mg : Str -> Option Value) where
  f_is_whole : Addr
  fd_is_whole : FuncData
  D_is_whole : Df K mg "is_whole" s_is_whole ["thing"] f_is_whole fd_is_whole
  f_powers_of : Addr
  fd_powers_of : FuncData
  D_powers_of : Df K mg "powers_of" s_powers_of ["number"] f_powers_of fd_powers_of
  f_how_often : Addr
  fd_how_often : FuncData
  D_how_often : Df K mg "how_often" s_how_often ["prime", "number"] f_how_often fd_how_often
  f_without_primes : Addr
  fd_without_primes : FuncData
  D_without_primes : Df K mg "without_primes" s_without_primes ["number"] f_without_primes fd_without_primes
  f_changes_of : Addr
  fd_changes_of : FuncData
  D_changes_of : Df K mg "changes_of" s_changes_of ["program"] f_changes_of fd_changes_of
  f_fraction_changes : Addr
  fd_fraction_changes : FuncData
  D_fraction_changes : Df K mg "fraction_changes" s_fraction_changes ["fraction"] f_fraction_changes fd_fraction_changes
  f_fits : Addr
  fd_fits : FuncData
  D_fits : Df K mg "fits" s_fits ["changes", "powers"] f_fits fd_fits
  f_first_of : Addr
  fd_first_of : FuncData
  D_first_of : Df K mg "first_of" s_first_of ["rows", "powers"] f_first_of fd_first_of
  f_moved : Addr
  fd_moved : FuncData
  D_moved : Df K mg "moved" s_moved ["powers", "changes", "many"] f_moved fd_moved
  f_places_of : Addr
  fd_places_of : FuncData
  D_places_of : Df K mg "places_of" s_places_of ["rows", "powers", "many"] f_places_of fd_places_of
  f_used_at : Addr
  fd_used_at : FuncData
  D_used_at : Df K mg "used_at" s_used_at ["places"] f_used_at fd_used_at
  f_added_along : Addr
  fd_added_along : FuncData
  D_added_along : Df K mg "added_along" s_added_along ["rows", "places"] f_added_along fd_added_along
  f_stays_shut : Addr
  fd_stays_shut : FuncData
  D_stays_shut : Df K mg "stays_shut" s_stays_shut ["changes", "powers", "added"] f_stays_shut fd_stays_shut
  f_first_loop : Addr
  fd_first_loop : FuncData
  D_first_loop : Df K mg "first_loop" s_first_loop ["program", "powers", "most"] f_first_loop fd_first_loop
  f_fate : Addr
  fd_fate : FuncData
  D_fate : Df K mg "fate" s_fate ["program", "powers", "most"] f_fate fd_fate
  f_unit_row : Addr
  fd_unit_row : FuncData
  D_unit_row : Df K mg "unit_row" s_unit_row ["prime"] f_unit_row fd_unit_row
  f_lowest : Addr
  fd_lowest : FuncData
  D_lowest : Df K mg "lowest" s_lowest ["numbers"] f_lowest fd_lowest
  f_common_divisor : Addr
  fd_common_divisor : FuncData
  D_common_divisor : Df K mg "common_divisor" s_common_divisor ["one", "other"] f_common_divisor fd_common_divisor
  f_by_primes : Addr
  fd_by_primes : FuncData
  D_by_primes : Df K mg "by_primes" s_by_primes ["rows"] f_by_primes fd_by_primes
  f_weighed : Addr
  fd_weighed : FuncData
  D_weighed : Df K mg "weighed" s_weighed ["program"] f_weighed fd_weighed
  f_first_table : Addr
  fd_first_table : FuncData
  D_first_table : Df K mg "first_table" s_first_table ["rows"] f_first_table fd_first_table
  f_first_above : Addr
  fd_first_above : FuncData
  D_first_above : Df K mg "first_above" s_first_above ["numbers"] f_first_above fd_first_above
  f_leaving : Addr
  fd_leaving : FuncData
  D_leaving : Df K mg "leaving" s_leaving ["table", "basis", "column"] f_leaving fd_leaving
  f_exchanged : Addr
  fd_exchanged : FuncData
  D_exchanged : Df K mg "exchanged" s_exchanged ["table", "place", "column", "unit"] f_exchanged fd_exchanged
  f_endless : Addr
  fd_endless : FuncData
  D_endless : Df K mg "endless" s_endless ["table", "basis", "column", "unit"] f_endless fd_endless
  f_l_cell_at : Addr
  fd_l_cell_at : FuncData
  D_l_cell_at : Df K mg "_law_cell_at" s_l_cell_at ["script", "k"] f_l_cell_at fd_l_cell_at
  f_l_pot : Addr
  fd_l_pot : FuncData
  D_l_pot : Df K mg "_law_pot" s_l_pot ["cell"] f_l_pot fd_l_pot
  f_l_take : Addr
  fd_l_take : FuncData
  D_l_take : Df K mg "_law_take" s_l_take ["pot", "far"] f_l_take fd_l_take
  f_l_primes : Addr
  fd_l_primes : FuncData
  D_l_primes : Df K mg "_law_primes" s_l_primes [] f_l_primes fd_l_primes
  f_l_number : Addr
  fd_l_number : FuncData
  D_l_number : Df K mg "_law_number" s_l_number ["powers"] f_l_number fd_l_number
  f_l_fraction : Addr
  fd_l_fraction : FuncData
  D_l_fraction : Df K mg "_law_fraction" s_l_fraction ["top", "bottom"] f_l_fraction fd_l_fraction
  f_l_some : Addr
  fd_l_some : FuncData
  D_l_some : Df K mg "_law_some" s_l_some ["pot", "wide", "most"] f_l_some fd_l_some
  f_l_any_program : Addr
  fd_l_any_program : FuncData
  D_l_any_program : Df K mg "_law_any_program" s_l_any_program ["pot", "most"] f_l_any_program fd_l_any_program
  f_l_sinking : Addr
  fd_l_sinking : FuncData
  D_l_sinking : Df K mg "_law_sinking" s_l_sinking ["pot", "most"] f_l_sinking fd_l_sinking
  f_l_ringing : Addr
  fd_l_ringing : FuncData
  D_l_ringing : Df K mg "_law_ringing" s_l_ringing ["pot"] f_l_ringing fd_l_ringing
  f_l_program : Addr
  fd_l_program : FuncData
  D_l_program : Df K mg "_law_program" s_l_program ["pot", "most"] f_l_program fd_l_program
  f_l_powers : Addr
  fd_l_powers : FuncData
  D_l_powers : Df K mg "_law_powers" s_l_powers ["pot", "far"] f_l_powers fd_l_powers
  c_FractError : Addr
  k_FractError : mg "FractError" = some (.ref c_FractError)
  c_NoNumber : Addr
  k_NoNumber : mg "NoNumber" = some (.ref c_NoNumber)
  m_len : mg "len" = none
  m_isinstance : mg "isinstance" = none
  m_int : mg "int" = none
  m_bool : mg "bool" = none
  m_tuple : mg "tuple" = none
  m_list : mg "list" = none
  m_range : mg "range" = none
  m_max : mg "max" = none
  m_min : mg "min" = none
  m_all : mg "all" = none
  m_zip : mg "zip" = none
  m_any : mg "any" = none
  m_sum : mg "sum" = none
  m_enumerate : mg "enumerate" = none
  m_abs : mg "abs" = none
  m_ValueError : mg "ValueError" = none
  a_PRIMES : Addr
  g_PRIMES : mg "PRIMES" = some (.ref a_PRIMES)
  t_PRIMES : ∀ H, SqT K H a_PRIMES [.int 2, .int 3, .int 5, .int 7, .int 11, .int 13, .int 17, .int 19, .int 23, .int 29]
  g_MOST_PLACES : ∃ t, mg "MOST_PLACES" = some (.int 40 t)
section
variable {P : Program} {w : World} {K : PySem.W.Frag} {mg : Str -> Option Value} {base : Heap}
def sp_l_take : Sp := fun vs H Q _ => ∃ (a : Addr) (n far : Int), vs = [.ref a, .int far] /\ H a = some (.lst [.int n]) /\ 0 < far /\ far < 1073741824 /\ Q (.int (n % far)) (upd H a (.lst [.int (n / far)]))
theorem ok_l_take (T : Tx K mg) : FnOk P w K mg base CX0 1 T.f_l_take T.fd_l_take ["pot", "far"] sp_l_take := by
  refine T.D_l_take.fn.okQ sc_l_take (fun vs H Q E h => ?_) (fun cdv A outer s H vs Q E hr h => ?_)
  · obtain ⟨a, n, far, rfl, _⟩ := h
    rfl
  · obtain ⟨a, n, far, rfl, ha, h0, h1, q⟩ := h
    refine ⟨_, (qss_cons (qs_set (i := 2) sc_l_take.nd rfl (Or.inl rfl) (qe_op op_mod (qe_ix ix_list (qv 0) qe_int (fun _ _ => rfl)) (qv 1)))
      (qss_cons (qs_asg (qe_op op_fdiv (qe_ix ix_list (qv 0) qe_int (fun _ _ => rfl)) (qv 1)) (qg_sub (qv 0) qe_int set_list))
      (qss_one (qs_ret (qv 2))))), ?_⟩
    refine ⟨_, rfl, a, _, _, _, rfl, rfl, SqL.of ha, rfl, _, rfl, _, _, rfl, rfl, h0, ?_⟩
    refine ⟨_, rfl, a, _, _, _, rfl, rfl, SqL.of ha, rfl, _, rfl, _, _, rfl, rfl, ⟨h0, h1⟩, _, rfl, a, _, _, 0, rfl, rfl, ha, rfl, ?_⟩
    exact ⟨_, rfl, q⟩
def sp_l_cell_at (K : PySem.W.Frag) : Sp := fun vs H Q _ => ∃ (a : Addr) (ns : List Int) (k : Int), vs = [.ref a, .int k] /\ SqL K H a (ns.map V.int) /\ 0 <= k /\ ∀ c : Int, Q (.int c) H
theorem ok_l_cell_at (T : Tx K mg) : FnOk P w K mg base CX0 1 T.f_l_cell_at T.fd_l_cell_at ["script", "k"] (sp_l_cell_at K) := by
  refine T.D_l_cell_at.fn.okQ sc_l_cell_at (fun vs H Q E h => ?_) (fun cdv A outer s H vs Q E hr h => ?_)
  · obtain ⟨a, ns, k, rfl, _⟩ := h
    rfl
  · obtain ⟨a, ns, k, rfl, hS, h0, q⟩ := h
    refine ⟨_, (qss_cons (qs_if (qt_cmpR op_lt (qv 1) (qe_callB call_len_seq (by rfl) T.m_len b_len (qa_c (qv 0) qa_nil)) (nomark _))
        (qss_one (qs_ret (qe_ix ix_list (qv 0) (qv 1) (fun _ _ => rfl))))
        qss_nil)
      (qss_one (qs_ret qe_int))), ?_⟩
    refine ⟨_, rfl, _, rfl, a, _, rfl, .inl hS, _, _, rfl, rfl, _, rfl, ?_⟩
    refine ite2 (fun hlt => ?_) (fun _ => q 0)
    have hlt' : k < ((ns.map V.int).length : Int) := by simpa using hlt
    rw [List.length_map] at hlt'
    have hk : k.toNat < ns.length := by omega
    have e : (ns.map V.int)[k.toNat]? = some (V.int ns[k.toNat]) := by rw [List.getElem?_map, List.getElem?_eq_getElem hk]; rfl
    exact ⟨_, rfl, _, rfl, a, _, _, _, rfl, rfl, hS, atI_of h0 e, q _⟩
def sp_l_pot : Sp := fun vs H Q _ => ∃ c : Int, vs = [.int c] /\ ∀ (n : Int) (p : Addr), H p = none -> Q (.ref p) (upd H p (.lst [.int n]))
theorem ok_l_pot (T : Tx K mg) : FnOk P w K mg base CX0 1 T.f_l_pot T.fd_l_pot ["cell"] sp_l_pot := by
  refine T.D_l_pot.fn.okQ sc_l_pot (fun vs H Q E h => ?_) (fun cdv A outer s H vs Q E hr h => ?_)
  · obtain ⟨c, rfl, _⟩ := h
    rfl
  · obtain ⟨c, rfl, q⟩ := h
    refine ⟨_, (qss_cons (qs_if (qt_cmpR op_ge (qv 0) (qe_op op_pow qe_int qe_int) (nomark _))
        (qss_one (qs_ret (qe_lst (qa_c (qe_op op_sub (qv 0) (qe_op op_pow qe_int qe_int)) qa_nil))))
        qss_nil)
      (qss_cons (qs_set (i := 1) sc_l_pot.nd rfl (Or.inl rfl) qe_int)
      (qss_cons (qs_for PassesOwn.never rfl (qi_range1 rfl T.m_range (qa_c qe_int qa_nil)) (qg_name (i := 2) sc_l_pot.nd rfl (Or.inl rfl))
        (qss_cons (qs_set (i := 3) sc_l_pot.nd rfl (Or.inl rfl) (qe_op op_mod (qe_op op_mul (qe_op op_add (qe_op op_add (qe_op op_mod (qv 0) qe_int) (qe_op op_mul qe_int (qv 2))) qe_int) qe_int) qe_int))
      (qss_cons (qs_set (i := 3) sc_l_pot.nd rfl (Or.inl rfl) (qe_op op_mod (qe_op op_add (qe_op op_add (qe_op op_mul (qv 3) (qv 3)) (qe_op op_mul qe_int (qv 2))) qe_int) qe_int))
      (qss_one (qs_set (i := 1) sc_l_pot.nd rfl (Or.inl rfl) (qe_op op_add (qe_op op_mul (qv 1) qe_int) (qv 3)))))))
      (qss_one (qs_ret (qe_lst (qa_c (qv 1) qa_nil))))))), ?_⟩
    refine ⟨_, rfl, _, _, rfl, rfl, ⟨by decide, by decide, by decide⟩, _, _, rfl, rfl, _, rfl, ?_⟩
    refine ite2 (fun _ => ?_) (fun _ => ?_)
    · refine ⟨_, rfl, _, _, rfl, rfl, ⟨by decide, by decide, by decide⟩, _, _, rfl, rfl, (by show 1 <= sizeLine; decide), fun p hp => ?_⟩
      exact q _ p hp
    · refine ⟨64, rfl, by decide, by decide, for_range (n := 64) (fun i σ H2 => ∃ (n : Int) (u v : Option V), σ = [some (.int c), some (.int n), u, v] /\ H2 = H) ⟨0, none, none, rfl, rfl⟩ ?_ ?_⟩
      · rintro i σ H2 hi ⟨n, u, v, rfl, rfl⟩
        refine ⟨_, rfl, _, _, rfl, rfl, (by show (0 : Int) < 2147483629; decide), _, rfl, _, _, rfl, rfl, .inl ⟨by decide, by decide⟩, _, _, rfl, rfl, _, _, rfl, rfl, _, _, rfl, rfl, .inr ⟨by decide, by decide⟩, _, _, rfl, rfl, (by show (0 : Int) < 2147483647; decide), ?_⟩
        refine ⟨_, rfl, _, rfl, _, _, rfl, rfl, .inl ?_, _, rfl, _, _, rfl, rfl, .inl ⟨by decide, by decide⟩, _, _, rfl, rfl, _, _, rfl, rfl, _, _, rfl, rfl, (by show (0 : Int) < 2147483587; decide), ?_⟩
        · have h1 := Int.emod_nonneg ((c % 2147483629 + 7919 * (0 + (i : Int)) + 1) * 48271) (show (2147483647 : Int) ≠ 0 by decide)
          have h2 := Int.emod_lt_of_pos ((c % 2147483629 + 7919 * (0 + (i : Int)) + 1) * 48271) (show (0 : Int) < 2147483647 by decide)
          exact ⟨by omega, by omega⟩
        refine ⟨_, rfl, _, _, rfl, rfl, .inr ⟨by decide, by decide⟩, _, rfl, _, _, rfl, rfl, ?_⟩
        exact ⟨_, _, _, rfl, rfl⟩
      · rintro σ H2 ⟨n, u, v, rfl, rfl⟩
        exact ⟨_, rfl, (by show 1 <= sizeLine; decide), fun p hp => q n p hp⟩
def sp_l_takeA : Sp := fun vs H Q _ => ∃ (a : Addr) (n far : Int), vs = [.ref a, .int far] /\ H a = some (.lst [.int n]) /\ 0 < far /\ far < 1073741824 /\
  ∀ (r n' : Int) (H' : Hp), 0 <= r -> r < far -> But a H H' -> H' a = some (.lst [.int n']) -> Q (.int r) H'
theorem ok_l_takeA (T : Tx K mg) : FnOk P w K mg base CX0 1 T.f_l_take T.fd_l_take ["pot", "far"] sp_l_takeA :=
  (ok_l_take T).imp fun vs H Q E ⟨a, n, far, e, ha, h0, h1, q⟩ => ⟨a, n, far, e, ha, h0, h1, q _ (n / far) _ (Int.emod_nonneg n (by omega)) (Int.emod_lt_of_pos n h0) But.upd upd_same⟩
def primesV : List V := [.int 2, .int 3, .int 5, .int 7, .int 11, .int 13, .int 17, .int 19, .int 23, .int 29]
theorem primesV_get {i : Nat} {x : V} (h : primesV[i]? = some x) : ∃ p : Nat, x = .int (p : Int) /\ primes[i]? = some p /\ p < 30 := by
  match i, h with
  | 0, h => cases h; exact ⟨2, rfl, rfl, by decide⟩
  | 1, h => cases h; exact ⟨3, rfl, rfl, by decide⟩
  | 2, h => cases h; exact ⟨5, rfl, rfl, by decide⟩
  | 3, h => cases h; exact ⟨7, rfl, rfl, by decide⟩
  | 4, h => cases h; exact ⟨11, rfl, rfl, by decide⟩
  | 5, h => cases h; exact ⟨13, rfl, rfl, by decide⟩
  | 6, h => cases h; exact ⟨17, rfl, rfl, by decide⟩
  | 7, h => cases h; exact ⟨19, rfl, rfl, by decide⟩
  | 8, h => cases h; exact ⟨23, rfl, rfl, by decide⟩
  | 9, h => cases h; exact ⟨29, rfl, rfl, by decide⟩
  | (k + 10), h => cases h
def sp_l_primesL : Sp := fun vs H Q _ => vs = [] /\ ∀ p H', H p = none -> Same H H' -> H' p = some (.lst primesV) -> Q (.ref p) H'
theorem ok_l_primes (T : Tx K mg) : FnOk P w K mg base CX0 1 T.f_l_primes T.fd_l_primes [] sp_l_primesL := by
  refine T.D_l_primes.fn.okQ sc_l_primes (fun vs H Q E h => ?_) (fun cdv A outer s H vs Q E hr h => ?_)
  · obtain ⟨rfl, _⟩ := h
    rfl
  · obtain ⟨rfl, q⟩ := h
    refine ⟨_, (qss_one (qs_ret (qe_lstA (qa_c qe_int (qa_c qe_int (qa_c qe_int (qa_c qe_int (qa_c qe_int (qa_c qe_int (qa_c qe_int (qa_c qe_int (qa_c qe_int (qa_c qe_int qa_nil))))))))))))), ?_⟩
    exact ⟨(by show 10 <= sizeLine; decide), fun p H' f s hp => q p H' f s hp⟩
def sp_whole : Sp := fun vs H Q _ => ∃ v, vs = [v] /\ kindV H v /\ Q (.bl (isW v)) H
theorem ok_is_whole (T : Tx K mg) : FnOk P w K mg base CX0 1 T.f_is_whole T.fd_is_whole ["thing"] sp_whole := by
  refine T.D_is_whole.fn.okQ sc_is_whole (fun vs H Q E h => ?_) (fun cdv A outer s H vs Q E hr h => ?_)
  · obtain ⟨v, rfl, _⟩ := h
    rfl
  · obtain ⟨v, rfl, k, q⟩ := h
    refine ⟨_, (qss_one (qs_ret (qe_and (qe_callB call_isi (by rfl) T.m_isinstance b_isinstance (qa_c (qv 0) (qa_c (qe_ty (by rfl) T.m_int b_int) qa_nil))) (qe_one (qe_not (qe_callB call_isi (by rfl) T.m_isinstance b_isinstance (qa_c (qv 0) (qa_c (qe_ty (by rfl) T.m_bool b_bool) qa_nil)))))))), ?_⟩
    obtain ⟨t, ty, e⟩ := isi_I (K := K) k
    obtain ⟨t', ty', e'⟩ := isi_B (K := K) k
    rw [← isW_eq] at q
    refine ⟨v, rfl, v, "int", t, _, rfl, ty, e, _, rfl, ?_⟩
    cases hi : isI v with
    | false =>
      rw [hi] at q
      exact iteF q
    | true =>
      rw [hi] at q
      exact iteT ⟨v, rfl, v, "bool", t', _, rfl, ty', e', _, rfl, q⟩
def natAt (σ : St) (i : Nat) : Nat := match σ[i]? with
  | some (some (.int r)) => r.toNat
  | _ => 0
theorem int_eq0 {i j : Int} (h : decide (V.int i = V.int j) = true) : i = j := by
  have := of_decide_eq_true h
  injection this
theorem int_ne0 {i j : Int} (h : ¬ decide (V.int i = V.int j) = true) : i ≠ j := fun z => h (decide_eq_true (by rw [z]))
theorem stripL_snoc : ∀ (ps : List Nat) (i p n : Nat), ps[i]? = some p -> stripL (ps.take (i + 1)) n = strip p (stripL (ps.take i) n) := by
  intro ps i p n h
  unfold stripL
  rw [List.take_add_one, h, List.foldl_append]
  rfl
def sp_without_primes : Sp := fun vs H Q _ => ∃ m : Int, vs = [.int m] /\ 1 <= m /\ Q (.int (stripAll m.toNat : Nat)) H
theorem ok_without_primes (T : Tx K mg) : FnOk P w K mg base CX0 1 T.f_without_primes T.fd_without_primes ["number"] sp_without_primes := by
  refine T.D_without_primes.fn.okQ sc_without_primes (fun vs H Q E h => ?_) (fun cdv A outer s H vs Q E hr h => ?_)
  · obtain ⟨m, rfl, _⟩ := h
    rfl
  · obtain ⟨m, rfl, hm, q⟩ := h
    refine ⟨_, (qss_cons (qs_set (i := 1) sc_without_primes.nd rfl (Or.inl rfl) (qv 0))
      (qss_cons (qs_for PassesOwn.never rfl (qi_tup (qe_glob (v := .ref T.a_PRIMES) (by rfl) T.g_PRIMES rfl)) (qg_name (i := 2) sc_without_primes.nd rfl (Or.inl rfl))
        (qss_one (qs_while PassesOwn.never (qt_cmpR op_eq (qe_op op_mod (qv 1) (qv 2)) qe_int (nomark _))
        (qss_one (qs_set (i := 1) sc_without_primes.nd rfl (Or.inl rfl) (qe_op op_fdiv (qv 1) (qv 2)))))))
      (qss_one (qs_ret (qv 1))))), ?_⟩
    refine ⟨_, rfl, T.a_PRIMES, rfl, ⟨primesV, T.t_PRIMES H⟩, for_tup (xs := primesV) (fun i σ H2 => (∃ u : Option V, σ = [some (.int m), some (.int (stripL (primes.take i) m.toNat : Nat)), u]) /\ H2 = H) ⟨⟨none, ?_⟩, rfl⟩ (fun i σ H2 _ _ => T.t_PRIMES H2) ?_ ?_⟩
    · show [some (V.int m), some (V.int m), none] = _
      rw [show stripL (primes.take 0) m.toNat = m.toNat from rfl, Int.toNat_of_nonneg (by omega)]
    · rintro i x σ H2 hx ⟨⟨u, rfl⟩, rfl⟩
      obtain ⟨p, rfl, hp, hp30⟩ := primesV_get hx
      have hp2 : 2 <= p := two_le p (List.mem_of_getElem? hp)
      have hpos : 1 <= stripL (primes.take i) m.toNat := stripL_pos _ (fun r hr => two_le r (List.mem_of_mem_take hr)) _ (by omega)
      refine while_own (fun σ H3 => ∃ r : Nat, σ = [some (.int m), some (.int (r : Int)), some (.int (p : Int))] /\ 1 <= r /\ strip p r = strip p (stripL (primes.take i) m.toNat) /\ H3 = H2) (fun σ _ => natAt σ 1) ⟨_, rfl, hpos, rfl, rfl⟩ ?_
      rintro σ H3 ⟨r, rfl, hr1, hrs, rfl⟩
      refine ⟨_, rfl, _, rfl, _, _, rfl, rfl, (by show (0 : Int) < p; omega), rfl, _, rfl, ite2 (fun h => ?_) (fun h => ?_)⟩
      · have h0 : (r : Int) % (p : Int) = 0 := int_eq0 h
        have h0' : r % p = 0 := by omega
        refine whN ⟨_, rfl, _, rfl, _, _, rfl, rfl, ⟨by omega, by omega⟩, ?_⟩
        refine ⟨⟨r / p, ?_, div_pos_of hr1 h0', by rw [← strip_div hp2 hr1 h0']; exact hrs, rfl⟩, ?_⟩
        · rw [Int.natCast_ediv]; rfl
        · show ((r : Int) / (p : Int)).toNat < ((r : Int)).toNat
          rw [← Int.natCast_ediv, Int.toNat_natCast, Int.toNat_natCast]
          exact Nat.div_lt_self hr1 hp2
      · have h0 : ¬ (r : Int) % (p : Int) = 0 := int_ne0 h
        have h0' : r % p ≠ 0 := by omega
        refine ⟨⟨some (.int (p : Int)), ?_⟩, rfl⟩
        rw [stripL_snoc primes i p _ hp, ← hrs, strip_not h0']
    · rintro σ H2 ⟨⟨u, rfl⟩, rfl⟩
      exact ⟨_, rfl, q⟩
theorem prodR_snoc : ∀ (ps es : List Nat) (i p e : Nat), ps[i]? = some p -> es[i]? = some e -> prodR (ps.take (i + 1)) (es.take (i + 1)) = prodR (ps.take i) (es.take i) * p ^ e
  | [], _, _, _, _, h, _ => by cases h
  | _, [], _, _, _, _, h => by cases h
  | p0 :: ps, e0 :: es, 0, p, e, h, h' => by
    have z : p0 = p := Option.some.inj h
    have z' : e0 = e := Option.some.inj h'
    subst z; subst z'
    show p0 ^ e0 * 1 = 1 * p0 ^ e0
    omega
  | p0 :: ps, e0 :: es, i + 1, p, e, h, h' => by
    show p0 ^ e0 * prodR (ps.take (i + 1)) (es.take (i + 1)) = p0 ^ e0 * prodR (ps.take i) (es.take i) * p ^ e
    rw [prodR_snoc ps es i p e h h', Nat.mul_assoc]
def sp_l_number : Sp := fun vs H Q _ => ∃ (b : Addr) (es : List Int), vs = [.ref b] /\ H b = some (.lst (es.map V.int)) /\ es.length = 10 /\ (∀ e ∈ es, 0 <= e /\ e < 2 ^ 62) /\ ∀ H', Same H H' -> Q (.int (prod (es.map Int.toNat) : Nat)) H'
theorem ok_l_number (T : Tx K mg) : FnOk P w K mg base CX0 2 T.f_l_number T.fd_l_number ["powers"] sp_l_number := by
  refine T.D_l_number.fn.okQ sc_l_number (fun vs H Q E h => ?_) (fun cdv A outer s H vs Q E hr h => ?_)
  · obtain ⟨b, es, rfl, _⟩ := h
    rfl
  · obtain ⟨b, es, rfl, hb, he, hm, q⟩ := h
    refine ⟨_, (qss_cons (qs_set (i := 1) sc_l_number.nd rfl (Or.inl rfl) qe_int)
      (qss_cons (qs_for PassesOwn.never rfl (qi_zipL rfl rfl T.m_zip (qa_c (qe_call0 (ok_l_primes T) (hr.mono (by decide)) rfl T.D_l_primes.at_ T.D_l_primes.fn.kp T.D_l_primes.bd .nil pass0) (qa_c (qv 0) qa_nil))) (qg_tup rfl (qgs_cons (qg_name (i := 2) sc_l_number.nd rfl (Or.inl rfl)) (qgs_cons (qg_name (i := 3) sc_l_number.nd rfl (Or.inl rfl)) qgs_nil)))
        (qss_one (qs_for PassesOwn.never rfl (qi_range1 rfl T.m_range (qa_c (qv 3) qa_nil)) (qg_name (i := 4) sc_l_number.nd rfl (Or.inl rfl))
        (qss_one (qs_set (i := 1) sc_l_number.nd rfl (Or.inl rfl) (qe_op op_mul (qv 1) (qv 2)))))))
      (qss_one (qs_ret (qv 1))))), ?_⟩
    refine ⟨rfl, fun t H1 f1 s1 ht => ⟨_, rfl, t, b, _, _, rfl, ht, s1 _ _ hb, ?_⟩⟩
    have hpl : primesV.length = 10 := rfl
    have hel : (es.map V.int).length = 10 := by rw [List.length_map]; exact he
    refine for_zipL (xs := primesV) (ys := es.map V.int) (fun i σ H2 => (∃ u v x : Option V, σ = [some (.ref b), some (.int (prodR (primes.take i) ((es.map Int.toNat).take i) : Nat)), u, v, x]) /\ Same H1 H2) ⟨⟨none, none, none, rfl⟩, Same.refl _⟩ ?_ ?_ ?_
    · rintro i σ H2 hi ⟨_, s2⟩
      exact ⟨s2 _ _ ht, s2 _ _ (s1 _ _ hb)⟩
    · rintro i x y z σ H2 hx hy hz ⟨⟨u, v, x', rfl⟩, s2⟩
      obtain ⟨p, rfl, hp, hp30⟩ := primesV_get hx
      obtain ⟨e, rfl, hee⟩ := map_int_get hy
      obtain ⟨e0, e1⟩ := hm e (List.mem_of_getElem? hee)
      refine ⟨z, _, rfl, SqT.of upd_same, rfl, _, _, rfl, _, _, rfl, rfl, ?_⟩
      refine ⟨_, rfl, e, rfl, by omega, e1, for_range (n := e.toNat) (fun j σ H3 => (∃ x : Option V, σ = [some (.ref b), some (.int ((prodR (primes.take i) ((es.map Int.toNat).take i) * p ^ j : Nat) : Int)), some (.int p), some (.int e), x]) /\ Same H1 H3) ⟨⟨x', by rw [Nat.pow_zero, Nat.mul_one]; rfl⟩, Same.more s2 hz⟩ ?_ ?_⟩
      · rintro j σ H3 hj ⟨⟨x2, rfl⟩, s3⟩
        refine ⟨_, rfl, _, rfl, _, _, rfl, rfl, .inr ⟨by omega, by omega⟩, ⟨some (.int (0 + (j : Int))), ?_⟩, s3⟩
        rw [Nat.pow_succ, ← Nat.mul_assoc, Int.natCast_mul _ p]
        rfl
      · rintro σ H3 ⟨⟨x2, rfl⟩, s3⟩
        refine ⟨⟨some (.int p), some (.int e), x2, ?_⟩, s3⟩
        have hee' : (es.map Int.toNat)[i]? = some e.toNat := by rw [List.getElem?_map, hee]; rfl
        rw [prodR_snoc primes (es.map Int.toNat) i p e.toNat hp hee']
    · rintro σ H2 ⟨⟨u, v, x, rfl⟩, s2⟩
      have e2 : min primesV.length (es.map V.int).length = 10 := by rw [hpl, hel]; rfl
      refine ⟨_, rfl, ?_⟩
      rw [e2]
      have z1 : primes.take 10 = primes := rfl
      have z2 : (es.map Int.toNat).take 10 = es.map Int.toNat := List.take_of_length_le (by rw [List.length_map, he]; exact Nat.le_refl _)
      rw [z1, z2]
      exact q H2 (s1.trans s2)
def lstI (es : List Int) : HO := .lst (es.map V.int)
end
end W2
namespace W2
open PySem L2 Mth
section
variable {P : Program} {w : World} {K : PySem.W.Frag} {mg : Str -> Option Value} {base : Heap}
theorem mx_ups : ∀ (ts bs : List Int), (List.zipWith (fun x y : Int => if x - y > 0 then x - y else 0) ts bs).map Int.toNat = ups (List.zipWith (fun x y : Int => x - y) ts bs)
  | [], _ => rfl
  | _ :: _, [] => rfl
  | x :: ts, y :: bs => by
    show (if x - y > 0 then x - y else 0).toNat :: (List.zipWith _ ts bs).map Int.toNat = (x - y).toNat :: ups (List.zipWith _ ts bs)
    rw [mx_ups ts bs]
    congr 1
    split <;> omega
theorem mx_downs : ∀ (ts bs : List Int), (List.zipWith (fun x y : Int => if y - x > 0 then y - x else 0) ts bs).map Int.toNat = downs (List.zipWith (fun x y : Int => x - y) ts bs)
  | [], _ => rfl
  | _ :: _, [] => rfl
  | x :: ts, y :: bs => by
    show (if y - x > 0 then y - x else 0).toNat :: (List.zipWith _ ts bs).map Int.toNat = (-(x - y)).toNat :: downs (List.zipWith _ ts bs)
    rw [mx_downs ts bs]
    congr 1
    split <;> omega
theorem ups_sub : ∀ (ts bs : List Int), (∀ b ∈ bs, 0 <= b) -> (ups (List.zipWith (fun x y : Int => x - y) ts bs)).sum <= (ups ts).sum
  | [], _, _ => Nat.le_refl _
  | _ :: _, [], _ => Nat.zero_le _
  | x :: ts, y :: bs, h => by
    show (x - y).toNat + (ups (List.zipWith _ ts bs)).sum <= x.toNat + (ups ts).sum
    have := ups_sub ts bs fun b hb => h b (List.mem_cons_of_mem _ hb)
    have := h y List.mem_cons_self
    omega
theorem downs_sub : ∀ (ts bs : List Int), (∀ b ∈ ts, 0 <= b) -> (downs (List.zipWith (fun x y : Int => x - y) ts bs)).sum <= (ups bs).sum
  | [], _, _ => Nat.zero_le _
  | _ :: _, [], _ => Nat.zero_le _
  | x :: ts, y :: bs, h => by
    show (-(x - y)).toNat + (downs (List.zipWith _ ts bs)).sum <= y.toNat + (ups bs).sum
    have := downs_sub ts bs fun b hb => h b (List.mem_cons_of_mem _ hb)
    have := h x List.mem_cons_self
    omega
theorem mem_le_sum : ∀ {l : List Nat} {x : Nat}, x ∈ l -> x <= l.sum
  | [], _, h => by cases h
  | y :: r, x, h => by
    rw [List.sum_cons]
    rcases List.mem_cons.mp h with z | z
    · omega
    · have := mem_le_sum z; omega
theorem ups_mem {es : List Int} {e : Int} (h : e ∈ es) : e <= ((ups es).sum : Nat) := by
  have : e.toNat <= (ups es).sum := mem_le_sum (List.mem_map.mpr ⟨e, h, rfl⟩)
  omega
theorem zipWith_mem {α β γ : Type} {f : α -> β -> γ} {xs : List α} {ys : List β} {z : γ} (h : z ∈ List.zipWith f xs ys) : ∃ x y, x ∈ xs /\ y ∈ ys /\ z = f x y := by
  obtain ⟨i, hi⟩ := List.getElem?_of_mem h
  obtain ⟨x, y, h1, h2, h3⟩ := List.getElem?_zipWith_eq_some.mp hi
  exact ⟨x, y, List.mem_of_getElem? h1, List.mem_of_getElem? h2, h3.symm⟩
def sp_l_fraction : Sp := fun vs H Q _ => ∃ (t b : Addr) (ts bs : List Int), vs = [.ref t, .ref b] /\ H t = some (lstI ts) /\ H b = some (lstI bs) /\ ts.length = 10 /\ bs.length = 10 /\ (∀ e ∈ ts, 0 <= e) /\ (∀ e ∈ bs, 0 <= e) /\ (ups ts).sum <= 7 /\ (ups bs).sum <= 7 /\
  ∀ (p : Addr) (H' : Hp) (i j : Int), Same H H' -> H' p = some (.tup [.int i, .int j]) -> fracB i j = true -> Q (.ref p) H'
theorem ok_l_fraction (T : Tx K mg) : FnOk P w K mg base CX0 3 T.f_l_fraction T.fd_l_fraction ["top", "bottom"] sp_l_fraction := by
  refine T.D_l_fraction.fn.okQ sc_l_fraction (fun vs H Q E h => ?_) (fun cdv A outer s H vs Q E hr h => ?_)
  · obtain ⟨t, b, ts, bs, rfl, _⟩ := h
    rfl
  · obtain ⟨t, b, ts, bs, rfl, ht, hb, tl, bl, t0, b0, t7, b7, q⟩ := h
    refine ⟨_, (qss_cons (qs_set (i := 2) sc_l_fraction.nd rfl (Or.inl rfl) (qe_call (ok_l_number T) (hr.mono (by decide)) rfl T.D_l_number.at_ T.D_l_number.fn.kp T.D_l_number.bd .nil pass0 (qa_c (qe_comp (compOk_of (osc := defScope s_l_fraction) (XN := ["top", "bottom", "early"]) (N := ["one", "other"]) (js := [none, none]) rfl rfl rfl (List.forall_mem_nil _) (by decide +kernel) rfl) rfl (qi_zipL rfl rfl T.m_zip (qa_c (qv 0) (qa_c (qv 1) qa_nil))) (fun _ _ _ _ => (qg_tupN (K := K) (n := 2) rfl rfl (qgs_cons (qg_name (i := 0) (show List.Nodup (["one", "other"] : List Str) from by decide +kernel) rfl (Or.inl rfl) (Or.inr rfl)) (qgs_cons (qg_name (i := 1) (show List.Nodup (["one", "other"] : List Str) from by decide +kernel) rfl (Or.inl rfl) (Or.inr rfl)) qgs_nil)))) (fun _ _ _ _ => qts_nil)
          (fun _ _ _ _ => (qe_callB (call_max2 rfl) (by rfl) T.m_max b_max (qa_c qe_int (qa_c (qe_op op_sub (qv 0) (qv 1)) qa_nil))))) qa_nil)))
      (qss_one (qs_ret (qe_tupA (qa_c (qv 2) (qa_c (qe_call (ok_l_number T) (hr.mono (by decide)) rfl T.D_l_number.at_ T.D_l_number.fn.kp T.D_l_number.bd .nil pass0 (qa_c (qe_comp (compOk_of (osc := defScope s_l_fraction) (XN := ["top", "bottom", "early"]) (N := ["one", "other"]) (js := [none, none]) rfl rfl rfl (List.forall_mem_nil _) (by decide +kernel) rfl) rfl (qi_zipL rfl rfl T.m_zip (qa_c (qv 0) (qa_c (qv 1) qa_nil))) (fun _ _ _ _ => (qg_tupN (K := K) (n := 2) rfl rfl (qgs_cons (qg_name (i := 0) (show List.Nodup (["one", "other"] : List Str) from by decide +kernel) rfl (Or.inl rfl) (Or.inr rfl)) (qgs_cons (qg_name (i := 1) (show List.Nodup (["one", "other"] : List Str) from by decide +kernel) rfl (Or.inl rfl) (Or.inr rfl)) qgs_nil)))) (fun _ _ _ _ => qts_nil)
          (fun _ _ _ _ => (qe_callB (call_max2 rfl) (by rfl) T.m_max b_max (qa_c qe_int (qa_c (qe_op op_sub (qv 1) (qv 0)) qa_nil))))) qa_nil)) qa_nil)))))), ?_⟩
    have hmin : min ts.length bs.length <= sizeLine := by rw [tl, bl, sizeLine_eq]; decide
    refine ⟨_, rfl, _, rfl, t, b, _, _, rfl, ht, hb, fun D hD => ?_⟩
    refine comp_zipL_ints (K := K) (f := fun x y => if x - y > 0 then x - y else 0) (σ0 := []) (xs := ts) (ys := bs) hmin ⟨_, _, rfl⟩ hD ht hb (fun x y H' R _ _ r => ⟨_, rfl, _, rfl, _, _, rfl, rfl, _, _, rfl, r⟩) fun H1 s1 h1 => ?_
    have l1 : (List.zipWith (fun x y : Int => if x - y > 0 then x - y else 0) ts bs).length = 10 := by rw [List.length_zipWith, tl, bl]; rfl
    refine ⟨D, _, rfl, h1, l1, ?_, fun H2 s2 => ?_⟩
    · intro e he
      obtain ⟨x, y, hx, hy, rfl⟩ := zipWith_mem he
      have := ups_mem hx
      have := b0 y hy
      split <;> omega
    have s12 := s1.trans s2
    refine ⟨_, rfl, _, rfl, _, rfl, t, b, _, _, rfl, s12 _ _ ht, s12 _ _ hb, fun D2 hD2 => ?_⟩
    refine comp_zipL_ints (K := K) (f := fun x y => if y - x > 0 then y - x else 0) (σ0 := []) (xs := ts) (ys := bs) hmin ⟨_, _, rfl⟩ hD2 (s12 _ _ ht) (s12 _ _ hb) (fun x y H' R _ _ r => ⟨_, rfl, _, rfl, _, _, rfl, rfl, _, _, rfl, r⟩) fun H3 s3 h3 => ?_
    have l2 : (List.zipWith (fun x y : Int => if y - x > 0 then y - x else 0) ts bs).length = 10 := by rw [List.length_zipWith, tl, bl]; rfl
    refine ⟨D2, _, rfl, h3, l2, ?_, fun H4 s4 => ⟨(by show 2 <= sizeLine; decide), fun p H5 f5 s5 hp => q p H5 _ _ (((s12.trans s3).trans s4).trans s5) hp ?_⟩⟩
    · intro e he
      obtain ⟨x, y, hx, hy, rfl⟩ := zipWith_mem he
      have := ups_mem hy
      have := t0 x hx
      split <;> omega
    · rw [mx_ups, mx_downs]
      exact fracB_prod7 (Nat.le_trans (ups_sub ts bs b0) t7) (Nat.le_trans (downs_sub ts bs t0) b7) (ups_or_downs _)
def sp_l_some : Sp := fun vs H Q _ => ∃ (a : Addr) (n wide most : Int), vs = [.ref a, .int wide, .int most] /\ H a = some (.lst [.int n]) /\ 0 < wide /\ wide <= 10 /\ 0 < most /\ most <= 10 /\
  ∀ (l : Addr) (H' : Hp) (n' : Int) (es : List Int), H l = none -> But a H H' -> H' a = some (.lst [.int n']) -> H' l = some (lstI es) -> es.length = 10 -> (∀ e ∈ es, 0 <= e) -> ((ups es).sum : Int) < most -> Q (.ref l) H'
theorem ok_l_some (T : Tx K mg) : FnOk P w K mg base CX0 2 T.f_l_some T.fd_l_some ["pot", "wide", "most"] sp_l_some := by
  refine T.D_l_some.fn.okQ sc_l_some (fun vs H Q E h => ?_) (fun cdv A outer s H vs Q E hr h => ?_)
  · obtain ⟨a, n, wide, most, rfl, _⟩ := h
    rfl
  · obtain ⟨a, n, wide, most, rfl, ha, w0, w10, m0, m10, q⟩ := h
    refine ⟨_, (qss_cons (qs_set (i := 3) sc_l_some.nd rfl (Or.inl rfl) (qe_op op_repLA (qe_lstA (qa_c qe_int qa_nil)) qe_int))
      (qss_cons (qs_for PassesOwn.never rfl (qi_range1 rfl T.m_range (qa_c (qe_call (ok_l_takeA T) (hr.mono (by decide)) rfl T.D_l_take.at_ T.D_l_take.fn.kp T.D_l_take.bd .nil pass0 (qa_c (qv 0) (qa_c (qv 2) qa_nil))) qa_nil)) (qg_name (i := 4) sc_l_some.nd rfl (Or.inl rfl))
        (qss_cons (qs_set (i := 5) sc_l_some.nd rfl (Or.inl rfl) (qe_call (ok_l_takeA T) (hr.mono (by decide)) rfl T.D_l_take.at_ T.D_l_take.fn.kp T.D_l_take.bd .nil pass0 (qa_c (qv 0) (qa_c (qv 1) qa_nil))))
      (qss_one (qs_asg (qe_op op_add (qe_ix ix_list (qv 3) (qv 5) (fun _ _ => rfl)) qe_int) (qg_sub (qv 3) (qv 5) set_list)))))
      (qss_one (qs_ret (qv 3))))), ?_⟩
    refine ⟨(by show 1 <= sizeLine; decide), fun l0 H1 f1 s1 hl0 => ⟨l0, 10, _, rfl, rfl, hl0, by decide, by decide, by decide, fun l H2 f2 s2 hl => ?_⟩⟩
    have ha2 := s2 _ _ (s1 _ _ ha)
    have nal : a ≠ l := ne_of_none (s1 _ _ ha) f2
    have fl : H l = none := s1.free f2
    refine ⟨_, rfl, _, rfl, a, n, most, rfl, ha2, m0, by omega, fun r3 n3 H3 r30 r31 b3 ha3 => ?_⟩
    refine ⟨r3, rfl, by omega, by omega, for_range (n := r3.toNat) (fun i σ H4 => (∃ u v : Option V, σ = [some (.ref a), some (.int wide), some (.int most), some (.ref l), u, v]) /\ But a H H4 /\ (∃ n' : Int, H4 a = some (.lst [.int n'])) /\ ∃ es : List Int, H4 l = some (lstI es) /\ es.length = 10 /\ (∀ e ∈ es, 0 <= e) /\ (ups es).sum <= i) ⟨⟨_, _, rfl⟩, (But.of (s1.trans s2)).trans b3, ⟨n3, ha3⟩, List.replicate 10 0, b3 _ _ nal.symm hl, rfl, (fun e he => by rw [(List.mem_replicate.mp he).2]; exact Int.le_refl 0), (by decide)⟩ ?_ ?_⟩
    · rintro i σ H4 hi ⟨⟨u, v, rfl⟩, b4, ⟨n4, ha4⟩, es, hl4, el, e0, es4⟩
      refine ⟨_, rfl, _, rfl, a, n4, wide, rfl, ha4, w0, by omega, fun m n5 H5 x0 x1 b5 ha5 => ?_⟩
      have hl5 := b5 _ _ nal.symm hl4
      have hk : m.toNat < es.length := by omega
      have hxm : es[m.toNat]? = some es[m.toNat] := List.getElem?_eq_getElem hk
      have hxv : (es.map V.int)[m.toNat]? = some (.int es[m.toNat]) := by rw [List.getElem?_map, hxm]; rfl
      refine ⟨_, rfl, _, rfl, l, _, _, _, rfl, rfl, SqL.of hl5, atI_of x0 hxv, _, _, rfl, rfl, _, rfl, _, rfl, l, _, _, _, rfl, rfl, hl5, ixN_of x0 (by rw [List.length_map]; omega), ⟨⟨_, _, rfl⟩, ?_, ⟨n5, ?_⟩, es.set m.toNat (es[m.toNat] + 1), ?_, by rw [List.length_set]; exact el, ?_, ?_⟩⟩
      · intro c o nc e
        rw [upd_ne (ne_of_none e fl)]
        exact b5 _ _ nc (b4 _ _ nc e)
      · rw [upd_ne nal]; exact ha5
      · rw [upd_same]
        unfold lstI
        rw [List.map_set]
      · intro e he
        rcases List.mem_or_eq_of_mem_set he with z | z
        · exact e0 e z
        · rw [z]
          have := e0 _ (List.getElem_mem hk)
          omega
      · exact Nat.le_trans (ups_up hxm) (by omega)
    · rintro σ H4 ⟨⟨u, v, rfl⟩, b4, ⟨n4, ha4⟩, es, hl4, el, e0, es4⟩
      exact ⟨_, rfl, q l H4 n4 es fl b4 ha4 hl4 el e0 (by omega)⟩
def FrL (H : Hp) (ys : List V) : Prop := ∀ x ∈ ys, ∃ (c : Addr) (i j : Int), x = .ref c /\ H c = some (.tup [.int i, .int j]) /\ fracB i j = true
theorem FrL.keep {H H' : Hp} {ys : List V} (h : FrL H ys) (k : Keep H H') : FrL H' ys := fun x hx => by
  obtain ⟨c, i, j, h1, h2, h3⟩ := h x hx
  exact ⟨c, i, j, h1, k.tup h2, h3⟩
theorem FrL.snoc {H : Hp} {ys : List V} {p : Addr} {i j : Int} (h : FrL H ys) (hp : H p = some (.tup [.int i, .int j])) (f : fracB i j = true) : FrL H (ys ++ [.ref p]) := fun x hx => by
  rcases List.mem_append.mp hx with z | z
  · exact h x z
  · rw [List.mem_singleton.mp z]
    exact ⟨p, i, j, rfl, hp, f⟩
def PgOk (a : Addr) (H : Hp) (Q : VK) : Prop := ∀ (p : Addr) (H' : Hp) (n' : Int) (xs : List V), But a H H' -> H' a = some (.lst [.int n']) -> H' p = some (.tup xs) -> FrL H' xs -> 1 <= xs.length -> xs.length <= 8 -> Q (.ref p) H'
def sp_l_any_program : Sp := fun vs H Q _ => ∃ (a : Addr) (n most : Int), vs = [.ref a, .int most] /\ H a = some (.lst [.int n]) /\ 0 < most /\ most <= 8 /\ PgOk a H Q
theorem ok_l_any_program (T : Tx K mg) : FnOk P w K mg base CX0 4 T.f_l_any_program T.fd_l_any_program ["pot", "most"] sp_l_any_program := by
  refine T.D_l_any_program.fn.okQ sc_l_any_program (fun vs H Q E h => ?_) (fun cdv A outer s H vs Q E hr h => ?_)
  · obtain ⟨a, n, most, rfl, _⟩ := h
    rfl
  · obtain ⟨a, n, most, rfl, ha, m0, m10, q⟩ := h
    refine ⟨_, (qss_cons (qs_set (i := 2) sc_l_any_program.nd rfl (Or.inl rfl) (qe_ix ix_list (qe_lstA (qa_c qe_int (qa_c qe_int (qa_c qe_int (qa_c qe_int (qa_c qe_int qa_nil)))))) (qe_call (ok_l_takeA T) (hr.mono (by decide)) rfl T.D_l_take.at_ T.D_l_take.fn.kp T.D_l_take.bd .nil pass0 (qa_c (qv 0) (qa_c qe_int qa_nil))) (fun _ _ => rfl)))
      (qss_cons (qs_set (i := 3) sc_l_any_program.nd rfl (Or.inl rfl) (qe_lstA qa_nil))
      (qss_cons (qs_for PassesOwn.never rfl (qi_range1 rfl T.m_range (qa_c (qe_op op_add qe_int (qe_call (ok_l_takeA T) (hr.mono (by decide)) rfl T.D_l_take.at_ T.D_l_take.fn.kp T.D_l_take.bd .nil pass0 (qa_c (qv 0) (qa_c (qv 1) qa_nil)))) qa_nil)) (qg_name (i := 4) sc_l_any_program.nd rfl (Or.inl rfl))
        (qss_cons (qs_set (i := 5) sc_l_any_program.nd rfl (Or.inl rfl) (qe_call (ok_l_some T) (hr.mono (by decide)) rfl T.D_l_some.at_ T.D_l_some.fn.kp T.D_l_some.bd .nil pass0 (qa_c (qv 0) (qa_c (qv 2) (qa_c qe_int qa_nil)))))
      (qss_one (qs_expr (qe_bm PySem.F.plainAttrs_list PySem.F.slot_list_append PySem.F.type_list_append mt_appendA (qv 3) (qa_c (qe_call (ok_l_fraction T) (hr.mono (by decide)) rfl T.D_l_fraction.at_ T.D_l_fraction.fn.kp T.D_l_fraction.bd .nil pass0 (qa_c (qv 5) (qa_c (qe_call (ok_l_some T) (hr.mono (by decide)) rfl T.D_l_some.at_ T.D_l_some.fn.kp T.D_l_some.bd .nil pass0 (qa_c (qv 0) (qa_c (qv 2) (qa_c qe_int qa_nil)))) qa_nil))) qa_nil))))))
      (qss_one (qs_ret (qe_callTy call_tuple_ofA (by rfl) T.m_tuple b_tuple (qa_c (qv 3) qa_nil))))))), ?_⟩
    refine ⟨(by show 5 <= sizeLine; decide), fun lw H1 f1 s1 hlw => ?_⟩
    have naw : a ≠ lw := ne_of_none ha f1
    refine ⟨_, rfl, a, n, 5, rfl, s1 _ _ ha, by decide, by decide, fun r2 n2 H2 r20 r21 b2 ha2 => ?_⟩
    obtain ⟨wd, hwd, w0, w1⟩ : ∃ wd : Int, atI [V.int 2, V.int 3, V.int 4, V.int 5, V.int 10] r2 = some (.int wd) /\ 0 < wd /\ wd <= 10 := by
      obtain ⟨k, rfl⟩ := Int.eq_ofNat_of_zero_le r20
      have hk : k < 5 := by omega
      match k, hk with
      | 0, _ => exact ⟨2, rfl, by decide, by decide⟩
      | 1, _ => exact ⟨3, rfl, by decide, by decide⟩
      | 2, _ => exact ⟨4, rfl, by decide, by decide⟩
      | 3, _ => exact ⟨5, rfl, by decide, by decide⟩
      | 4, _ => exact ⟨10, rfl, by decide, by decide⟩
    refine ⟨lw, _, _, _, rfl, rfl, SqL.of (b2 _ _ naw.symm hlw), hwd, ?_⟩
    refine ⟨(by show 0 <= sizeLine; decide), fun l H3 f3 s3 hl3 => ?_⟩
    have b3 : But a H H3 := ((But.of s1).trans b2).trans (But.of s3)
    have nal : a ≠ l := ne_of_none ha2 f3
    have fl : H l = none := s1.free (by
      rcases h : H1 l with _ | o
      · rfl
      · rw [b2 _ _ nal.symm h] at f3; cases f3)
    refine ⟨_, rfl, _, rfl, a, n2, most, rfl, s3 _ _ ha2, m0, by omega, fun r4 n4 H4 r40 r41 b4 ha4 => ⟨_, _, rfl, rfl, ?_⟩⟩
    refine ⟨1 + r4, rfl, by omega, by omega, for_range (n := (1 + r4).toNat) (fun i σ H5 => (∃ u v : Option V, σ = [some (.ref a), some (.int most), some (.int wd), some (.ref l), u, v]) /\ But a H H5 /\ (∃ n' : Int, H5 a = some (.lst [.int n'])) /\ ∃ ys, H5 l = some (.lst ys) /\ FrL H5 ys /\ ys.length = i) ⟨⟨_, _, rfl⟩, b3.trans b4, ⟨n4, ha4⟩, [], b4 _ _ nal.symm hl3, (fun x hx => by cases hx), rfl⟩ ?_ ?_⟩
    · rintro i σ H5 hi ⟨⟨u, v, rfl⟩, b5, ⟨n5, ha5⟩, ys, hl5, hf5, hyl⟩
      refine ⟨_, rfl, _, rfl, a, n5, wd, 4, rfl, ha5, w0, w1, by decide, by decide, fun tp H6 n6 ts f6 b6 ha6 htp tl t0 t7 => ?_⟩
      have ntp : tp ≠ a := (ne_of_none ha5 f6).symm
      have hl6 := b6 _ _ nal.symm hl5
      refine ⟨_, rfl, .inl ⟨rfl, _, SqL.of hl6⟩, _, rfl, _, rfl, _, rfl, a, n6, wd, 4, rfl, ha6, w0, w1, by decide, by decide, fun bt H7 n7 bs f7 b7 ha7 hbt bl b0 b7' => ?_⟩
      have htp7 := b7 _ _ ntp htp
      refine ⟨tp, bt, ts, bs, rfl, htp7, hbt, tl, bl, t0, b0, by omega, by omega, fun p H8 fi fj s8 hp8 hfr => ?_⟩
      have hl8 := s8 _ _ (b7 _ _ nal.symm hl6)
      refine ⟨l, ys, _, rfl, rfl, hl8, by rw [hyl, sizeLine_eq]; omega, fun H9 b9 hl9 => ?_⟩
      have k9 : Keep H8 H9 := Keep.but b9 hl8 hl9
      refine ⟨⟨_, _, rfl⟩, ?_, ⟨n7, b9 _ _ nal (s8 _ _ ha7)⟩, _, hl9, ?_, by rw [List.length_append, hyl]; rfl⟩
      · intro c o nc e
        exact b9 _ _ (ne_of_none e fl) (s8 _ _ (b7 _ _ nc (b6 _ _ nc (b5 _ _ nc e))))
      · exact ((((hf5.keep (Keep.but b6 ha5 ha6)).keep (Keep.but b7 ha6 ha7)).keep (Keep.of s8)).keep k9).snoc (k9.tup hp8) hfr
    · rintro σ H5 ⟨⟨u, v, rfl⟩, b5, ⟨n5, ha5⟩, ys, hl5, hf5, hyl⟩
      exact ⟨_, rfl, l, _, rfl, SqL.of hl5, fun p H6 f6 s6 hp => q p H6 n5 ys (b5.trans (But.of s6)) (s6 _ _ ha5) hp (hf5.keep (Keep.of s6)) (by omega) (by omega)⟩
end
end W2
namespace W2
open PySem L2 Mth
section
variable {P : Program} {w : World} {K : PySem.W.Frag} {mg : Str -> Option Value} {base : Heap}
def intGap (σ : St) (i : Nat) : Nat := match σ[i]? with
  | some (some (.int x)) => (1 - x).toNat
  | _ => 0
theorem wmul_ge {x b t : Int} (h0 : 0 <= x) (h3 : x <= 3) (hb : 0 <= b) (ht : 0 <= t) : -(3 * t) <= x * (b - t) := by
  have h1 : 0 <= x * b := Int.mul_nonneg h0 hb
  have h2 : 0 <= (3 - x) * t := Int.mul_nonneg (by omega) ht
  rw [Int.sub_mul] at h2
  rw [Int.mul_sub]
  omega
theorem sum_take : ∀ (l : List Nat) (i : Nat), (l.take i).sum <= l.sum
  | [], i => by rw [List.take_nil]; exact Nat.le_refl _
  | x :: l, 0 => Nat.zero_le _
  | x :: l, i + 1 => by
    rw [List.take_succ_cons, List.sum_cons, List.sum_cons]
    have := sum_take l i
    omega
def sp_l_sinking : Sp := fun vs H Q _ => ∃ (a : Addr) (n most : Int), vs = [.ref a, .int most] /\ H a = some (.lst [.int n]) /\ 0 < most /\ most <= 8 /\ PgOk a H Q
theorem ok_l_sinking (T : Tx K mg) : FnOk P w K mg base CX0 4 T.f_l_sinking T.fd_l_sinking ["pot", "most"] sp_l_sinking := by
  refine T.D_l_sinking.fn.okQ sc_l_sinking (fun vs H Q E h => ?_) (fun cdv A outer s H vs Q E hr h => ?_)
  · obtain ⟨a, n, most, rfl, _⟩ := h
    rfl
  · obtain ⟨a, n, most, rfl, ha, m0, m10, q⟩ := h
    refine ⟨_, (qss_cons (qs_set (i := 2) sc_l_sinking.nd rfl (Or.inl rfl) (qe_op op_add qe_int (qe_call (ok_l_takeA T) (hr.mono (by decide)) rfl T.D_l_take.at_ T.D_l_take.fn.kp T.D_l_take.bd .nil pass0 (qa_c (qv 0) (qa_c qe_int qa_nil)))))
      (qss_cons (qs_set (i := 3) sc_l_sinking.nd rfl (Or.inr rfl) (qe_comp (compOk_of (osc := defScope s_l_sinking) (XN := ["pot", "most", "wide", "weights", "found", "k", "top", "bottom", "loses", "heavy"]) (N := ["place", "pot"]) (js := [none, some 0]) rfl rfl rfl (List.forall_mem_cons.mpr ⟨rfl, (List.forall_mem_nil _)⟩) (by decide +kernel) rfl) rfl (qi_range1 rfl T.m_range (qa_c (qv 2) qa_nil)) (fun _ _ _ _ => (qg_name (i := 0) (show List.Nodup (["place", "pot"] : List Str) from by decide +kernel) rfl (Or.inl rfl) (Or.inr rfl))) (fun _ _ _ _ => qts_nil)
          (fun _ _ _ _ => (qe_call (ok_l_takeA T) (hr.mono (by decide)) rfl T.D_l_take.at_ T.D_l_take.fn.kp T.D_l_take.bd .nil pass0 (qa_c (qv 1) (qa_c qe_int qa_nil))))))
      (qss_cons (qs_asg qe_int (qg_sub (qv 3) (qe_call (ok_l_takeA T) (hr.mono (by decide)) rfl T.D_l_take.at_ T.D_l_take.fn.kp T.D_l_take.bd .nil pass0 (qa_c (qv 0) (qa_c (qv 2) qa_nil))) set_list))
      (qss_cons (qs_set (i := 4) sc_l_sinking.nd rfl (Or.inl rfl) (qe_lstA qa_nil))
      (qss_cons (qs_for PassesOwn.never rfl (qi_range1 rfl T.m_range (qa_c (qe_op op_add qe_int (qe_call (ok_l_takeA T) (hr.mono (by decide)) rfl T.D_l_take.at_ T.D_l_take.fn.kp T.D_l_take.bd .nil pass0 (qa_c (qv 0) (qa_c (qv 1) qa_nil)))) qa_nil)) (qg_name (i := 5) sc_l_sinking.nd rfl (Or.inl rfl))
        (qss_cons (qs_set (i := 6) sc_l_sinking.nd rfl (Or.inr rfl) (qe_call (ok_l_some T) (hr.mono (by decide)) rfl T.D_l_some.at_ T.D_l_some.fn.kp T.D_l_some.bd .nil pass0 (qa_c (qv 0) (qa_c (qv 2) (qa_c qe_int qa_nil)))))
      (qss_cons (qs_set (i := 7) sc_l_sinking.nd rfl (Or.inr rfl) (qe_call (ok_l_some T) (hr.mono (by decide)) rfl T.D_l_some.at_ T.D_l_some.fn.kp T.D_l_some.bd .nil pass0 (qa_c (qv 0) (qa_c (qv 2) (qa_c qe_int qa_nil)))))
      (qss_cons (qs_set (i := 8) sc_l_sinking.nd rfl (Or.inl rfl) (qe_callB (call_sumL rfl) (by rfl) T.m_sum b_sum (qa_c (qe_comp (compOk_of (osc := defScope s_l_sinking) (XN := ["pot", "most", "wide", "weights", "found", "k", "top", "bottom", "loses", "heavy"]) (N := ["place", "weights", "bottom", "top"]) (js := [none, some 3, some 7, some 6]) rfl rfl rfl (List.forall_mem_cons.mpr ⟨rfl, (List.forall_mem_cons.mpr ⟨rfl, (List.forall_mem_cons.mpr ⟨rfl, (List.forall_mem_nil _)⟩)⟩)⟩) (by decide +kernel) rfl) rfl (qi_range1 rfl T.m_range (qa_c (qv 2) qa_nil)) (fun _ _ _ _ => (qg_name (i := 0) (show List.Nodup (["place", "weights", "bottom", "top"] : List Str) from by decide +kernel) rfl (Or.inl rfl) (Or.inr rfl))) (fun _ _ _ _ => qts_nil)
          (fun _ _ _ _ => (qe_op op_mul (qe_ix (ix_listN (K := K) rfl) (qv 1) (qv 0) (fun _ _ => rfl)) (qe_op op_sub (qe_ix (ix_listN (K := K) rfl) (qv 2) (qv 0) (fun _ _ => rfl)) (qe_ix (ix_listN (K := K) rfl) (qv 3) (qv 0) (fun _ _ => rfl)))))) qa_nil)))
      (qss_cons (qs_set (i := 9) sc_l_sinking.nd rfl (Or.inl rfl) (qe_bm PySem.F.plainAttrs_list PySem.F.slot_list_index PySem.F.type_list_index mt_indexI (qv 3) (qa_c (qe_callB (call_maxL rfl) (by rfl) T.m_max b_max (qa_c (qv 3) qa_nil)) qa_nil)))
      (qss_cons (qs_while PassesOwn.never (qt_cmpR op_lt (qv 8) qe_int (nomark _))
        (qss_cons (qs_asg (qe_op op_add (qe_ix ix_list (qv 7) (qv 9) (fun _ _ => rfl)) qe_int) (qg_sub (qv 7) (qv 9) set_list))
      (qss_one (qs_set (i := 8) sc_l_sinking.nd rfl (Or.inl rfl) (qe_op op_add (qv 8) (qe_ix ix_list (qv 3) (qv 9) (fun _ _ => rfl)))))))
      (qss_one (qs_expr (qe_bm PySem.F.plainAttrs_list PySem.F.slot_list_append PySem.F.type_list_append mt_appendA (qv 4) (qa_c (qe_call (ok_l_fraction T) (hr.mono (by decide)) rfl T.D_l_fraction.at_ T.D_l_fraction.fn.kp T.D_l_fraction.bd .nil pass0 (qa_c (qv 6) (qa_c (qv 7) qa_nil))) qa_nil))))))))))
      (qss_one (qs_ret (qe_callTy call_tuple_ofA (by rfl) T.m_tuple b_tuple (qa_c (qv 4) qa_nil))))))))), ?_⟩
    refine ⟨_, rfl, a, n, 4, rfl, ha, by decide, by decide, fun r1 n1 H1 r10 r11 b1 ha1 => ⟨_, _, rfl, rfl, ?_⟩⟩
    refine ⟨_, rfl, 2 + r1, rfl, by omega, by omega, fun lw hlw => ?_⟩
    have naw : a ≠ lw := ne_of_none ha1 hlw
    have flw : H lw = none := by
      rcases h : H lw with _ | o
      · rfl
      · rw [b1 _ _ naw.symm h] at hlw; cases hlw
    refine comp_range (n := (2 + r1).toNat) (by rw [sizeLine_eq]; omega) (fun i σ' H' ys => (∃ u : Option V, σ' = [u, some (.ref a)]) /\ But a H H' /\ (∃ n' : Int, H' a = some (.lst [.int n'])) /\ ∃ ws : List Int, ys = ws.map V.int /\ ∀ x ∈ ws, 0 <= x /\ x <= 3) ⟨⟨_, rfl⟩, b1.new hlw, ⟨n1, by rw [upd_ne naw]; exact ha1⟩, [], rfl, fun x hx => by cases hx⟩ ?_ ?_
    · rintro i σ' H' ys R hi hD' hyl ⟨⟨u, rfl⟩, b', ⟨n', ha'⟩, ws, rfl, hws⟩ kk
      refine ⟨_, rfl, a, n', 4, rfl, ha', by decide, by decide, fun x2 n2 H2 x20 x21 b2 ha2 => ?_⟩
      refine kk _ _ _ (b2 _ _ naw.symm hD') ⟨⟨_, rfl⟩, ?_, ⟨n2, by rw [upd_ne naw]; exact ha2⟩, ws ++ [x2], by rw [List.map_append]; rfl, ?_⟩
      · intro c o nc e
        rw [upd_ne (ne_of_none e flw)]
        exact b2 _ _ nc (b' _ _ nc e)
      · intro x hx
        rcases List.mem_append.mp hx with z | z
        · exact hws x z
        · rw [List.mem_singleton.mp z]; omega
    rintro σ' H2 ys hlw2 hyl ⟨_, b2, ⟨n2, ha2⟩, ws0, rfl, hws0⟩
    rw [List.length_map] at hyl
    refine ⟨_, rfl, _, rfl, _, rfl, a, n2, 2 + r1, rfl, ha2, by omega, by omega, fun r3 n3 H3 r30 r31 b3 ha3 => ?_⟩
    refine ⟨lw, _, _, _, rfl, rfl, b3 _ _ naw.symm hlw2, ixN_of r30 (by rw [List.length_map]; omega), ?_⟩
    rw [← List.map_set]
    generalize hws1 : ws0.set r3.toNat 2 = ws
    have hws : ∀ x ∈ ws, 0 <= x /\ x <= 3 := by
      intro x hx
      rw [← hws1] at hx
      rcases List.mem_or_eq_of_mem_set hx with z | z
      · exact hws0 x z
      · rw [z]; omega
    have hws2 : (2 : Int) ∈ ws := by
      rw [← hws1]
      exact List.mem_of_getElem? (i := r3.toNat) (List.getElem?_set_self (by omega))
    have wsl : ws.length = (2 + r1).toNat := by rw [← hws1, List.length_set]; exact hyl
    have b3' : But a H (upd H3 lw (.lst (ws.map V.int))) := by
      intro c o nc e
      rw [upd_ne (ne_of_none e flw)]
      exact b3 _ _ nc (b2 _ _ nc e)
    refine ⟨(by show 0 <= sizeLine; decide), fun l H4 f4 s4 hl4 => ?_⟩
    have ha4 : H4 a = some (.lst [.int n3]) := s4 _ _ (by rw [upd_ne naw]; exact ha3)
    have hw4 : H4 lw = some (lstI ws) := s4 _ _ upd_same
    have b4 : But a H H4 := b3'.trans (But.of s4)
    have nal : a ≠ l := fun z => by rw [← z, upd_ne naw, ha3] at f4; cases f4
    have nwl : lw ≠ l := fun z => by rw [← z, upd_same] at f4; cases f4
    have fl : H l = none := by
      rcases h : H l with _ | o
      · rfl
      · rw [b3' _ _ nal.symm h] at f4; cases f4
    refine ⟨_, rfl, _, rfl, a, n3, most, rfl, ha4, m0, by omega, fun r5 n5 H5 r50 r51 b5 ha5 => ⟨_, _, rfl, rfl, ?_⟩⟩
    refine ⟨1 + r5, rfl, by omega, by omega, for_range (n := (1 + r5).toNat) (fun i σ H6 => (∃ u1 u2 u3 u4 u5 : Option V, σ = [some (.ref a), some (.int most), some (.int (2 + r1)), some (.ref lw), some (.ref l), u1, u2, u3, u4, u5]) /\ But a H H6 /\ (∃ n' : Int, H6 a = some (.lst [.int n'])) /\ H6 lw = some (lstI ws) /\ ∃ ys, H6 l = some (.lst ys) /\ FrL H6 ys /\ ys.length = i) ⟨⟨_, _, _, _, _, rfl⟩, b4.trans b5, ⟨n5, ha5⟩, b5 _ _ naw.symm hw4, [], b5 _ _ nal.symm hl4, (fun x hx => by cases hx), rfl⟩ ?_ ?_⟩
    · rintro i σ H6 hi ⟨⟨u1, u2, u3, u4, u5, rfl⟩, b6, ⟨n6, ha6⟩, hw6, ys, hl6, hf6, hyl6⟩
      refine ⟨_, rfl, _, rfl, a, n6, 2 + r1, 4, rfl, ha6, by omega, by omega, by decide, by decide, fun tp H7 n7 ts f7 b7 ha7 htp tl t0 t7 => ?_⟩
      have ntp : tp ≠ a := (ne_of_none ha6 f7).symm
      refine ⟨_, rfl, _, rfl, a, n7, 2 + r1, 3, rfl, ha7, by omega, by omega, by decide, by decide, fun bt H8 n8 bs f8 b8 ha8 hbt bl b0 b8' => ?_⟩
      have nbt : bt ≠ a := (ne_of_none ha7 f8).symm
      have htp8 : H8 tp = some (lstI ts) := b8 _ _ ntp htp
      have hw8 : H8 lw = some (lstI ws) := b8 _ _ naw.symm (b7 _ _ naw.symm hw6)
      have hl8 : H8 l = some (.lst ys) := b8 _ _ nal.symm (b7 _ _ nal.symm hl6)
      have nbtl : bt ≠ l := (ne_of_none (b7 _ _ nal.symm hl6) f8).symm
      have nbtw : bt ≠ lw := (ne_of_none (b7 _ _ naw.symm hw6) f8).symm
      have nbtt : bt ≠ tp := (ne_of_none htp f8).symm
      have k68 : Keep H6 H8 := (Keep.but b7 ha6 ha7).trans (Keep.but b8 ha7 ha8)
      have fbt : H bt = none := by
        rcases h : H bt with _ | o
        · rfl
        · rw [b7 _ _ nbt (b6 _ _ nbt h)] at f8; cases f8
      refine ⟨_, rfl, 2 + r1, rfl, by omega, by omega, fun D hD => ?_⟩
      refine comp_range (n := (2 + r1).toNat) (by rw [sizeLine_eq]; omega) (fun i σ' H' zs => (∃ u : Option V, σ' = [u, some (.ref lw), some (.ref bt), some (.ref tp)]) /\ Same H8 H' /\ ∃ L : List Int, zs = L.map V.int /\ -(3 * (((ups ts).take i).sum : Int)) <= L.sum) ⟨⟨_, rfl⟩, Same.new hD, [], rfl, (by show -(3 * ((0 : Nat) : Int)) <= 0; decide)⟩ ?_ ?_
      · rintro i2 σ' H' zs R hi2 hD' hzl ⟨⟨u, rfl⟩, s', L, rfl, hL⟩ kk
        have hi5 : i2 < 10 := by omega
        have hwi : ws[i2]? = some ws[i2] := List.getElem?_eq_getElem (by omega)
        have hbi : bs[i2]? = some bs[i2] := List.getElem?_eq_getElem (by omega)
        have hti : ts[i2]? = some ts[i2] := List.getElem?_eq_getElem (by omega)
        have gat : ∀ {es : List Int} {x : Int}, es[i2]? = some x -> atI (es.map V.int) (0 + (i2 : Int)) = some (.int x) := fun h => by
          rw [Int.zero_add]
          exact atI_nat (by rw [List.getElem?_map, h]; rfl)
        obtain ⟨w0', w3'⟩ := hws _ (List.mem_of_getElem? hwi)
        have bb := b0 _ (List.mem_of_getElem? hbi)
        have tt := t0 _ (List.mem_of_getElem? hti)
        refine ⟨_, rfl, _, rfl, lw, _, _, _, rfl, rfl, SqL.of (s' _ _ hw8), gat hwi, _, rfl, _, rfl, bt, _, _, _, rfl, rfl, SqL.of (s' _ _ hbt), gat hbi, _, rfl, _, rfl, tp, _, _, _, rfl, rfl, SqL.of (s' _ _ htp8), gat hti, _, _, rfl, rfl, _, _, rfl, rfl, .inl ⟨by omega, by omega⟩, ?_⟩
        refine kk _ _ _ hD' ⟨⟨_, rfl⟩, ?_, L ++ [ws[i2] * (bs[i2] - ts[i2])], by rw [List.map_append]; rfl, ?_⟩
        · intro c o e
          rw [upd_ne (ne_of_none e hD)]
          exact s' _ _ e
        · have hu : (ups ts)[i2]? = some (ts[i2]).toNat := by unfold ups; rw [List.getElem?_map, hti]; rfl
          rw [List.take_add_one, hu, List.sum_append, List.sum_append]
          have := wmul_ge w0' w3' bb tt
          simp only [Option.toList_some, List.sum_cons, List.sum_nil]
          omega
      rintro σ' H9 zs hD9 hzl ⟨_, s9, L, rfl, hL⟩
      have hst := sum_take (ups ts) (2 + r1).toNat
      refine ⟨D, L, rfl, SqL.of hD9, ?_⟩
      have hw9 := s9 _ _ hw8
      refine ⟨_, rfl, .inl ⟨rfl, _, SqL.of hw9⟩, _, rfl, lw, ws, rfl, SqL.of hw9, (by intro z; rw [z] at hws2; cases hws2), fun M hM1 hM2 => ?_⟩
      refine ⟨lw, ws, M, rfl, rfl, hw9, hM1, by omega, fun hv hhv => ?_⟩
      have hM2' : 2 <= M := hM2 2 hws2
      have hvl : hv < ws.length := (List.getElem?_eq_some_iff.mp hhv).1
      have hvat : atI (ws.map V.int) (hv : Int) = some (.int M) := atI_nat (by rw [List.getElem?_map, hhv]; rfl)
      refine while_own (fun σ H10 => ∃ (x : Int) (bs' : List Int) (j : Nat), σ = [some (.ref a), some (.int most), some (.int (2 + r1)), some (.ref lw), some (.ref l), some (.int (0 + (i : Int))), some (.ref tp), some (.ref bt), some (.int x), some (.int (hv : Int))] /\ But bt H9 H10 /\ H10 bt = some (lstI bs') /\ bs'.length = 10 /\ (∀ e ∈ bs', 0 <= e) /\ (ups bs').sum <= 2 + j /\ j <= 5 /\ -9 + 2 * (j : Int) <= x) (fun σ _ => intGap σ 8) ⟨L.sum, bs, 0, rfl, But.refl _ _, s9 _ _ hbt, bl, b0, by omega, by omega, by omega⟩ ?_
      rintro σ H10 ⟨x, bs', j, rfl, b10, hbt10, bl', b0', bsum, j5, hx⟩
      have hw10 := b10 _ _ nbtw.symm hw9
      refine ⟨_, rfl, _, _, rfl, rfl, _, rfl, ite2 (fun h => ?_) (fun h => ?_)⟩
      · have hx1 : x < 1 := of_decide_eq_true h
        have hk : hv < bs'.length := by omega
        have hxm : bs'[hv]? = some bs'[hv] := List.getElem?_eq_getElem hk
        have hxv : atI (bs'.map V.int) (hv : Int) = some (.int bs'[hv]) := atI_nat (by rw [List.getElem?_map, hxm]; rfl)
        refine whN ⟨_, rfl, _, rfl, bt, _, _, _, rfl, rfl, SqL.of hbt10, hxv, _, _, rfl, rfl, _, rfl, _, rfl, bt, _, _, _, rfl, rfl, hbt10, ixN_of (Int.natCast_nonneg hv) (by rw [List.length_map]; omega), ?_⟩
        have hw11 : (upd H10 bt (.lst ((bs'.map V.int).set (hv : Int).toNat (.int (bs'[hv] + 1))))) lw = some (lstI ws) := by rw [upd_ne nbtw.symm]; exact hw10
        refine ⟨_, rfl, _, rfl, _, rfl, lw, _, _, _, rfl, rfl, SqL.of hw11, hvat, _, _, rfl, rfl, ⟨⟨x + M, bs'.set hv (bs'[hv] + 1), j + 1, rfl, b10.set, ?_, by rw [List.length_set]; exact bl', ?_, ?_, by omega, by omega⟩, ?_⟩⟩
        · rw [upd_same, Int.toNat_natCast]
          unfold lstI
          rw [List.map_set]
        · intro e he
          rcases List.mem_or_eq_of_mem_set he with z | z
          · exact b0' e z
          · rw [z]
            have := b0' _ (List.getElem_mem hk)
            omega
        · exact Nat.le_trans (ups_up hxm) (by omega)
        · show (1 - (x + M)).toNat < (1 - x).toNat
          omega
      · have hx1 : ¬ x < 1 := fun z => h (decide_eq_true z)
        have hl10 := b10 _ _ nbtl.symm (s9 _ _ hl8)
        refine ⟨_, rfl, .inl ⟨rfl, _, SqL.of hl10⟩, _, rfl, _, rfl, tp, bt, ts, bs', rfl, b10 _ _ nbtt.symm (s9 _ _ htp8), hbt10, tl, bl', t0, b0', by omega, by omega, fun p H11 fi fj s11 hp11 hfr => ?_⟩
        have hl11 := s11 _ _ hl10
        refine ⟨l, ys, _, rfl, rfl, hl11, by rw [hyl6, sizeLine_eq]; omega, fun H12 b12 hl12 => ?_⟩
        have k12 : Keep H11 H12 := Keep.but b12 hl11 hl12
        have k10 : Keep H9 H10 := Keep.but b10 (s9 _ _ hbt) hbt10
        refine ⟨⟨_, _, _, _, _, rfl⟩, ?_, ⟨n8, b12 _ _ nal (s11 _ _ (b10 _ _ nbt.symm (s9 _ _ ha8)))⟩, b12 _ _ nwl (s11 _ _ hw10), _, hl12, ?_, by rw [List.length_append, hyl6]; rfl⟩
        · intro c o nc e
          exact b12 _ _ (ne_of_none e fl) (s11 _ _ (b10 _ _ (ne_of_none e fbt) (s9 _ _ (b8 _ _ nc (b7 _ _ nc (b6 _ _ nc e))))))
        · exact (((((hf6.keep k68).keep (Keep.of s9)).keep k10).keep (Keep.of s11)).keep k12).snoc (k12.tup hp11) hfr
    · rintro σ H6 ⟨⟨u1, u2, u3, u4, u5, rfl⟩, b6, ⟨n6, ha6⟩, hw6, ys, hl6, hf6, hyl6⟩
      exact ⟨_, rfl, l, _, rfl, SqL.of hl6, fun p H7 f7 s7 hp => q p H7 n6 ys (b6.trans (But.of s7)) (s7 _ _ ha6) hp (hf6.keep (Keep.of s7)) (by omega) (by omega)⟩
theorem ups_set {es : List Int} {k : Nat} {v : Int} : (ups (es.set k v)).sum <= (ups es).sum + v.toNat := by
  have h : ups (es.set k v) = (ups es).set k v.toNat := by unfold ups; rw [List.map_set]
  rw [h]
  have : ∀ (l : List Nat) (k v : Nat), (l.set k v).sum <= l.sum + v := by
    intro l
    induction l with
    | nil => intro k v; exact Nat.zero_le _
    | cons x r ih =>
      intro k v
      cases k with
      | zero => rw [List.set_cons_zero, List.sum_cons, List.sum_cons]; omega
      | succ k =>
        rw [List.set_cons_succ, List.sum_cons, List.sum_cons]
        have := ih k v
        omega
  exact this _ _ _
theorem nn_set {es : List Int} {k : Nat} {v : Int} (h : ∀ e ∈ es, 0 <= e) (hv : 0 <= v) : ∀ e ∈ es.set k v, 0 <= e := by
  intro e he
  rcases List.mem_or_eq_of_mem_set he with z | z
  · exact h e z
  · rw [z]; exact hv
theorem FrL.ins {H : Hp} {ys : List V} {p : Addr} {i j : Int} {k : Nat} (h : FrL H ys) (hp : H p = some (.tup [.int i, .int j])) (f : fracB i j = true) : FrL H (ys.take k ++ .ref p :: ys.drop k) := fun x hx => by
  rcases List.mem_append.mp hx with z | z
  · exact h x (List.mem_of_mem_take z)
  · rcases List.mem_cons.mp z with z | z
    · rw [z]; exact ⟨p, i, j, rfl, hp, f⟩
    · exact h x (List.mem_of_mem_drop z)
theorem ins_len {ys : List V} {x : V} {k : Nat} (h : k <= ys.length) : (ys.take k ++ x :: ys.drop k).length = ys.length + 1 := by
  rw [List.length_append, List.length_cons, List.length_take, List.length_drop]
  omega
def sp_l_ringing : Sp := fun vs H Q _ => ∃ (a : Addr) (n : Int), vs = [.ref a] /\ H a = some (.lst [.int n]) /\ PgOk a H Q
theorem ok_l_ringing (T : Tx K mg) : FnOk P w K mg base CX0 4 T.f_l_ringing T.fd_l_ringing ["pot"] sp_l_ringing := by
  refine T.D_l_ringing.fn.okQ sc_l_ringing (fun vs H Q E h => ?_) (fun cdv A outer s H vs Q E hr h => ?_)
  · obtain ⟨a, n, rfl, _⟩ := h
    rfl
  · obtain ⟨a, n, rfl, ha, q⟩ := h
    refine ⟨_, (qss_cons (qs_set (i := 1) sc_l_ringing.nd rfl (Or.inl rfl) (qe_op op_add qe_int (qe_call (ok_l_takeA T) (hr.mono (by decide)) rfl T.D_l_take.at_ T.D_l_take.fn.kp T.D_l_take.bd .nil pass0 (qa_c (qv 0) (qa_c qe_int qa_nil)))))
      (qss_cons (qs_set (i := 2) sc_l_ringing.nd rfl (Or.inl rfl) (qe_lstA qa_nil))
      (qss_cons (qs_for PassesOwn.never rfl (qi_range1 rfl T.m_range (qa_c (qv 1) qa_nil)) (qg_name (i := 3) sc_l_ringing.nd rfl (Or.inl rfl))
        (qss_cons (qs_set (i := 4) sc_l_ringing.nd rfl (Or.inl rfl) (qe_call (ok_l_some T) (hr.mono (by decide)) rfl T.D_l_some.at_ T.D_l_some.fn.kp T.D_l_some.bd .nil pass0 (qa_c (qv 0) (qa_c qe_int (qa_c qe_int qa_nil)))))
      (qss_cons (qs_set (i := 5) sc_l_ringing.nd rfl (Or.inl rfl) (qe_call (ok_l_some T) (hr.mono (by decide)) rfl T.D_l_some.at_ T.D_l_some.fn.kp T.D_l_some.bd .nil pass0 (qa_c (qv 0) (qa_c qe_int (qa_c qe_int qa_nil)))))
      (qss_cons (qs_ifJ (qt_cmpR op_gt (qv 1) qe_int (nomark _))
        (qss_cons (qs_asg qe_int (qg_sub (qv 4) (qe_op op_add qe_int (qe_op op_mod (qe_op op_add (qv 3) qe_int) (qv 1))) set_list))
      (qss_one (qs_asg (qe_op op_add (qe_ix ix_list (qv 5) (qe_op op_add qe_int (qv 3)) (fun _ _ => rfl)) qe_int) (qg_sub (qv 5) (qe_op op_add qe_int (qv 3)) set_list))))
        qss_nil)
      (qss_one (qs_expr (qe_bm PySem.F.plainAttrs_list PySem.F.slot_list_insert PySem.F.type_list_insert mt_insert (qv 2) (qa_c (qe_call (ok_l_takeA T) (hr.mono (by decide)) rfl T.D_l_take.at_ T.D_l_take.fn.kp T.D_l_take.bd .nil pass0 (qa_c (qv 0) (qa_c (qe_op op_add (qe_callB call_len_seq (by rfl) T.m_len b_len (qa_c (qv 2) qa_nil)) qe_int) qa_nil))) (qa_c (qe_call (ok_l_fraction T) (hr.mono (by decide)) rfl T.D_l_fraction.at_ T.D_l_fraction.fn.kp T.D_l_fraction.bd .nil pass0 (qa_c (qv 4) (qa_c (qv 5) qa_nil))) qa_nil)))))))))
      (qss_cons (qs_ifJ (qt_cmpR op_eq (qe_call (ok_l_takeA T) (hr.mono (by decide)) rfl T.D_l_take.at_ T.D_l_take.fn.kp T.D_l_take.bd .nil pass0 (qa_c (qv 0) (qa_c qe_int qa_nil))) qe_int (nomark _))
        (qss_cons (qs_set (i := 5) sc_l_ringing.nd rfl (Or.inl rfl) (qe_call (ok_l_some T) (hr.mono (by decide)) rfl T.D_l_some.at_ T.D_l_some.fn.kp T.D_l_some.bd .nil pass0 (qa_c (qv 0) (qa_c qe_int (qa_c qe_int qa_nil)))))
      (qss_cons (qs_asg qe_int (qg_sub (qv 5) qe_int set_list))
      (qss_one (qs_expr (qe_bm PySem.F.plainAttrs_list PySem.F.slot_list_insert PySem.F.type_list_insert mt_insert (qv 2) (qa_c qe_int (qa_c (qe_call (ok_l_fraction T) (hr.mono (by decide)) rfl T.D_l_fraction.at_ T.D_l_fraction.fn.kp T.D_l_fraction.bd .nil pass0 (qa_c (qe_call (ok_l_some T) (hr.mono (by decide)) rfl T.D_l_some.at_ T.D_l_some.fn.kp T.D_l_some.bd .nil pass0 (qa_c (qv 0) (qa_c qe_int (qa_c qe_int qa_nil)))) (qa_c (qv 5) qa_nil))) qa_nil)))))))
        qss_nil)
      (qss_one (qs_ret (qe_callTy call_tuple_ofA (by rfl) T.m_tuple b_tuple (qa_c (qv 2) qa_nil)))))))), ?_⟩
    refine ⟨_, rfl, a, n, 3, rfl, ha, by decide, by decide, fun r1 n1 H1 r10 r11 b1 ha1 => ⟨_, _, rfl, rfl, ?_⟩⟩
    refine ⟨(by show 0 <= sizeLine; decide), fun l H4 f4 s4 hl4 => ?_⟩
    have b4 : But a H H4 := b1.trans (But.of s4)
    have nal : a ≠ l := ne_of_none ha1 f4
    have fl : H l = none := by
      rcases h : H l with _ | o
      · rfl
      · rw [b1 _ _ nal.symm h] at f4; cases f4
    refine ⟨_, rfl, 1 + r1, rfl, by omega, by omega, for_range (n := (1 + r1).toNat) (fun i σ H6 => (∃ u1 u2 u3 : Option V, σ = [some (.ref a), some (.int (1 + r1)), some (.ref l), u1, u2, u3]) /\ But a H H6 /\ (∃ n' : Int, H6 a = some (.lst [.int n'])) /\ ∃ ys, H6 l = some (.lst ys) /\ FrL H6 ys /\ ys.length = i) ⟨⟨_, _, _, rfl⟩, b4, ⟨n1, s4 _ _ ha1⟩, [], hl4, (fun x hx => by cases hx), rfl⟩ ?_ ?_⟩
    · rintro i σ H6 hi ⟨⟨u1, u2, u3, rfl⟩, b6, ⟨n6, ha6⟩, ys, hl6, hf6, hyl6⟩
      refine ⟨_, rfl, a, n6, 3, 3, rfl, ha6, by decide, by decide, by decide, by decide, fun tp H7 n7 ts f7 b7 ha7 htp tl t0 t7 => ?_⟩
      have ntp : tp ≠ a := (ne_of_none ha6 f7).symm
      refine ⟨_, rfl, a, n7, 4, 2, rfl, ha7, by decide, by decide, by decide, by decide, fun bt H8 n8 bs f8 b8 ha8 hbt bl b0 b8' => ?_⟩
      have nbt : bt ≠ a := (ne_of_none ha7 f8).symm
      have htp8 : H8 tp = some (lstI ts) := b8 _ _ ntp htp
      have hl8 : H8 l = some (.lst ys) := b8 _ _ nal.symm (b7 _ _ nal.symm hl6)
      have nbtl : bt ≠ l := (ne_of_none (b7 _ _ nal.symm hl6) f8).symm
      have ntpl : tp ≠ l := (ne_of_none hl6 f7).symm
      have nbtt : bt ≠ tp := (ne_of_none htp f8).symm
      have k68 : Keep H6 H8 := (Keep.but b7 ha6 ha7).trans (Keep.but b8 ha7 ha8)
      have fbt : H bt = none := by
        rcases h : H bt with _ | o
        · rfl
        · rw [b7 _ _ nbt (b6 _ _ nbt h)] at f8; cases f8
      have ftp : H tp = none := by
        rcases h : H tp with _ | o
        · rfl
        · rw [b6 _ _ ntp h] at f7; cases f7
      refine ⟨fun σ H9 => (∃ ts' bs' : List Int, σ = [some (.ref a), some (.int (1 + r1)), some (.ref l), some (.int (0 + (i : Int))), some (.ref tp), some (.ref bt)] /\ H9 tp = some (lstI ts') /\ H9 bt = some (lstI bs') /\ ts'.length = 10 /\ bs'.length = 10 /\ (∀ e ∈ ts', 0 <= e) /\ (∀ e ∈ bs', 0 <= e) /\ (ups ts').sum <= 7 /\ (ups bs').sum <= 7) /\ (∀ c o, c ≠ tp -> c ≠ bt -> H8 c = some o -> H9 c = some o) /\ Keep H8 H9, ?_, ?_⟩
      · refine ⟨_, rfl, _, _, rfl, rfl, _, rfl, ite2 (fun h => ?_) (fun h => ?_)⟩
        · have h1 : (1 : Int) < 1 + r1 := of_decide_eq_true h
          have g0 := Int.emod_nonneg (0 + (i : Int) + 1) (show (1 + r1 : Int) ≠ 0 by omega)
          have g1 := Int.emod_lt_of_pos (0 + (i : Int) + 1) (show (0 : Int) < 1 + r1 by omega)
          refine ⟨_, rfl, _, rfl, _, _, rfl, rfl, _, rfl, _, _, rfl, rfl, (by show (0 : Int) < 1 + r1; omega), _, _, rfl, rfl, tp, _, _, _, rfl, rfl, htp8, ixN_of (by omega) (by rw [List.length_map]; omega), ?_⟩
          generalize hkt : (5 + (0 + (i : Int) + 1) % (1 + r1)).toNat = kt
          have hbt9 : (upd H8 tp (.lst ((ts.map V.int).set kt (.int 1)))) bt = some (lstI bs) := by rw [upd_ne nbtt]; exact hbt
          have hk : 5 + i < bs.length := by omega
          have hxm : bs[5 + i]? = some bs[5 + i] := List.getElem?_eq_getElem hk
          have e5 : 5 + (0 + (i : Int)) = ((5 + i : Nat) : Int) := by omega
          have hxv : atI (bs.map V.int) (5 + (0 + (i : Int))) = some (.int bs[5 + i]) := by rw [e5]; exact atI_nat (by rw [List.getElem?_map, hxm]; rfl)
          refine ⟨_, rfl, _, rfl, _, _, rfl, rfl, bt, _, _, _, rfl, rfl, SqL.of hbt9, hxv, _, _, rfl, rfl, _, rfl, _, rfl, _, _, rfl, rfl, bt, _, _, _, rfl, rfl, hbt9, ixN_of (by omega) (by rw [List.length_map]; omega), ?_⟩
          have e6 : (5 + (0 + (i : Int))).toNat = 5 + i := by omega
          rw [e6]
          refine ⟨⟨ts.set kt 1, bs.set (5 + i) (bs[5 + i] + 1), rfl, ?_, ?_, by rw [List.length_set]; exact tl, by rw [List.length_set]; exact bl, nn_set t0 (by decide), nn_set b0 (by have := b0 _ (List.getElem_mem hk); omega), ?_, Nat.le_trans (ups_up hxm) (by omega)⟩, ?_, ?_⟩
          · rw [upd_ne nbtt.symm, upd_same]
            unfold lstI
            rw [List.map_set]
          · rw [upd_same]
            unfold lstI
            rw [List.map_set]
          · have := ups_set (es := ts) (k := kt) (v := 1)
            have e1 : (1 : Int).toNat = 1 := rfl
            omega
          · intro c o n1 n2 e
            rw [upd_ne n2, upd_ne n1]
            exact e
          · exact (Keep.but But.upd htp8 upd_same).trans (Keep.but But.upd hbt9 upd_same)
        · exact ⟨⟨ts, bs, rfl, htp8, hbt, tl, bl, t0, b0, by omega, by omega⟩, fun c o _ _ e => e, Keep.refl _⟩
      · rintro σ H9 ⟨⟨ts', bs', rfl, htp9, hbt9, tl9, bl9, t09, b09, t79, b79⟩, kp9, k9⟩
        have hl9 : H9 l = some (.lst ys) := kp9 _ _ ntpl.symm nbtl.symm hl8
        have ha9 : H9 a = some (.lst [.int n8]) := kp9 _ _ ntp.symm nbt.symm ha8
        refine ⟨_, rfl, .inl ⟨rfl, _, SqL.of hl9⟩, _, rfl, _, rfl, l, _, rfl, .inl (SqL.of hl9), _, _, rfl, rfl, a, n8, _, rfl, ha9, by omega, by omega, fun ri n10 H10 ri0 ri1 b10 ha10 => ?_⟩
        refine ⟨_, rfl, _, rfl, tp, bt, ts', bs', rfl, b10 _ _ ntp htp9, b10 _ _ nbt hbt9, tl9, bl9, t09, b09, t79, b79, fun p H11 fi fj s11 hp11 hfr => ?_⟩
        have hl11 := s11 _ _ (b10 _ _ nal.symm hl9)
        refine ⟨l, ys, _, _, rfl, rfl, hl11, ri0, by omega, by rw [hyl6, sizeLine_eq]; omega, ?_⟩
        have k12 : Keep H11 (upd H11 l (.lst (ys.take (min ri.toNat ys.length) ++ .ref p :: ys.drop (min ri.toNat ys.length)))) := Keep.but But.upd hl11 upd_same
        refine ⟨⟨_, _, _, rfl⟩, ?_, ⟨n10, ?_⟩, _, upd_same, ?_, by rw [ins_len (by omega), hyl6]⟩
        · intro c o nc e
          rw [upd_ne (ne_of_none e fl)]
          exact s11 _ _ (b10 _ _ nc (kp9 _ _ (ne_of_none e ftp) (ne_of_none e fbt) (b8 _ _ nc (b7 _ _ nc (b6 _ _ nc e)))))
        · rw [upd_ne nal]; exact s11 _ _ ha10
        · exact (((((hf6.keep k68).keep k9).keep (Keep.but b10 ha9 ha10)).keep (Keep.of s11)).keep k12).ins (k12.tup hp11) hfr
    · rintro σ H6 ⟨⟨u1, u2, u3, rfl⟩, b6, ⟨n6, ha6⟩, ys, hl6, hf6, hyl6⟩
      refine ⟨fun σ H9 => (∃ u3 : Option V, σ = [some (.ref a), some (.int (1 + r1)), some (.ref l), u1, u2, u3]) /\ But a H H9 /\ (∃ n' : Int, H9 a = some (.lst [.int n'])) /\ ∃ zs, H9 l = some (.lst zs) /\ FrL H9 zs /\ 1 <= zs.length /\ zs.length <= 8, ?_, ?_⟩
      · refine ⟨_, rfl, a, n6, 2, rfl, ha6, by decide, by decide, fun r7 n7 H7 r70 r71 b7 ha7 => ⟨rfl, _, rfl, ite2 (fun h => ?_) (fun h => ?_)⟩⟩
        · refine ⟨_, rfl, a, n7, 4, 3, rfl, ha7, by decide, by decide, by decide, by decide, fun bt H8 n8 bs f8 b8 ha8 hbt bl b0 b8' => ?_⟩
          have nbt : bt ≠ a := (ne_of_none ha7 f8).symm
          have hl8 : H8 l = some (.lst ys) := b8 _ _ nal.symm (b7 _ _ nal.symm hl6)
          have nbtl : bt ≠ l := (ne_of_none (b7 _ _ nal.symm hl6) f8).symm
          have fbt : H bt = none := by
            rcases h : H bt with _ | o
            · rfl
            · rw [b7 _ _ nbt (b6 _ _ nbt h)] at f8; cases f8
          refine ⟨_, rfl, bt, _, 9, _, rfl, rfl, hbt, ixN_of (by decide) (by rw [List.length_map]; omega), ?_⟩
          have e9 : (9 : Int).toNat = 9 := rfl
          rw [e9, ← List.map_set]
          generalize hH9 : upd H8 bt (.lst ((bs.set 9 1).map V.int)) = H9
          have hbt9 : H9 bt = some (lstI (bs.set 9 1)) := by rw [← hH9]; exact upd_same
          have b9 : But bt H8 H9 := by rw [← hH9]; exact But.upd
          have hl9 := b9 _ _ nbtl.symm hl8
          have ha9 := b9 _ _ nbt.symm ha8
          refine ⟨_, rfl, .inl ⟨rfl, _, SqL.of hl9⟩, _, rfl, a, n8, 5, 3, rfl, ha9, by decide, by decide, by decide, by decide, fun tp H10 n10 ts f10 b10 ha10 htp tl t0 t7 => ?_⟩
          have hs1 := ups_set (es := bs) (k := 9) (v := 1)
          have e1 : (1 : Int).toNat = 1 := rfl
          refine ⟨_, rfl, tp, bt, ts, bs.set 9 1, rfl, htp, b10 _ _ nbt hbt9, tl, by rw [List.length_set]; exact bl, t0, nn_set b0 (by decide), by omega, by omega, fun p H11 fi fj s11 hp11 hfr => ?_⟩
          have hl11 := s11 _ _ (b10 _ _ nal.symm hl9)
          refine ⟨l, ys, _, _, rfl, rfl, hl11, by decide, by decide, by rw [hyl6, sizeLine_eq]; omega, ?_⟩
          have k12 : Keep H11 (upd H11 l (.lst (ys.take (min (0 : Int).toNat ys.length) ++ .ref p :: ys.drop (min (0 : Int).toNat ys.length)))) := Keep.but But.upd hl11 upd_same
          have k6 : Keep H6 H11 := ((((Keep.but b7 ha6 ha7).trans (Keep.but b8 ha7 ha8)).trans (Keep.but b9 hbt hbt9)).trans (Keep.but b10 ha9 ha10)).trans (Keep.of s11)
          refine ⟨⟨_, rfl⟩, ?_, ⟨n10, ?_⟩, _, upd_same, ((hf6.keep k6).keep k12).ins (k12.tup hp11) hfr, by rw [ins_len (by omega)]; omega, by rw [ins_len (by omega)]; omega⟩
          · intro c o nc e
            rw [upd_ne (ne_of_none e fl)]
            exact s11 _ _ (b10 _ _ nc (b9 _ _ (ne_of_none e fbt) (b8 _ _ nc (b7 _ _ nc (b6 _ _ nc e)))))
          · rw [upd_ne nal]; exact s11 _ _ ha10
        · exact ⟨⟨_, rfl⟩, b6.trans b7, ⟨n7, ha7⟩, ys, b7 _ _ nal.symm hl6, hf6.keep (Keep.but b7 ha6 ha7), by omega, by omega⟩
      · rintro σ H9 ⟨⟨u3', rfl⟩, b9, ⟨n9, ha9⟩, zs, hl9, hf9, z1, z10⟩
        exact ⟨_, rfl, l, _, rfl, SqL.of hl9, fun p H7 f7 s7 hp => q p H7 n9 zs (b9.trans (But.of s7)) (s7 _ _ ha9) hp (hf9.keep (Keep.of s7)) z1 z10⟩
def sp_l_program : Sp := fun vs H Q _ => ∃ (a : Addr) (n most : Int), vs = [.ref a, .int most] /\ H a = some (.lst [.int n]) /\ 0 < most /\ most <= 8 /\
  ∀ (p : Addr) (H' : Hp) (n' : Int) (xs : List V) (fs : List (Int × Int)), But a H H' -> H' a = some (.lst [.int n']) -> H' p = some (.tup xs) -> FrcsV H' xs fs -> 1 <= xs.length -> xs.length <= 8 -> Q (.ref p) H'
theorem ok_l_program (T : Tx K mg) : FnOk P w K mg base CX0 5 T.f_l_program T.fd_l_program ["pot", "most"] sp_l_program := by
  refine T.D_l_program.fn.okQ sc_l_program (fun vs H Q E h => ?_) (fun cdv A outer s H vs Q E hr h => ?_)
  · obtain ⟨a, n, most, rfl, _⟩ := h
    rfl
  · obtain ⟨a, n, most, rfl, ha, m0, m10, q⟩ := h
    refine ⟨_, (qss_cons (qs_set (i := 2) sc_l_program.nd rfl (Or.inl rfl) (qe_call (ok_l_takeA T) (hr.mono (by decide)) rfl T.D_l_take.at_ T.D_l_take.fn.kp T.D_l_take.bd .nil pass0 (qa_c (qv 0) (qa_c qe_int qa_nil))))
      (qss_cons (qs_if (qt_cmpR op_eq (qv 2) qe_int (nomark _))
        (qss_one (qs_ret (qe_call (ok_l_sinking T) (hr.mono (by decide)) rfl T.D_l_sinking.at_ T.D_l_sinking.fn.kp T.D_l_sinking.bd .nil pass0 (qa_c (qv 0) (qa_c (qv 1) qa_nil)))))
        qss_nil)
      (qss_cons (qs_if (qt_cmpR op_eq (qv 2) qe_int (nomark _))
        (qss_one (qs_ret (qe_call (ok_l_ringing T) (hr.mono (by decide)) rfl T.D_l_ringing.at_ T.D_l_ringing.fn.kp T.D_l_ringing.bd .nil pass0 (qa_c (qv 0) qa_nil))))
        qss_nil)
      (qss_one (qs_ret (qe_call (ok_l_any_program T) (hr.mono (by decide)) rfl T.D_l_any_program.at_ T.D_l_any_program.fn.kp T.D_l_any_program.bd .nil pass0 (qa_c (qv 0) (qa_c (qv 1) qa_nil)))))))), ?_⟩
    have fin : ∀ H1, But a H H1 -> PgOk a H1 Q := fun H1 b1 p H' n' xs b2 ha2 hp hf l1 l10 => by
      obtain ⟨fs, hfs⟩ := frcs_of hf
      exact q p H' n' xs fs (b1.trans b2) ha2 hp hfs l1 l10
    refine ⟨_, rfl, a, n, 4, rfl, ha, by decide, by decide, fun r1 n1 H1 r10 r11 b1 ha1 => ?_⟩
    refine ⟨_, rfl, rfl, _, rfl, ite2 (fun h => ?_) (fun h => ?_)⟩
    · exact ⟨_, rfl, _, rfl, a, n1, most, rfl, ha1, m0, m10, fin H1 b1⟩
    · refine ⟨_, rfl, rfl, _, rfl, ite2 (fun h => ?_) (fun h => ?_)⟩
      · exact ⟨_, rfl, a, n1, rfl, ha1, fin H1 b1⟩
      · exact ⟨_, rfl, _, rfl, a, n1, most, rfl, ha1, m0, m10, fin H1 b1⟩
end
end W2
namespace W2
open PySem L2 Mth
section
variable {P : Program} {w : World} {K : PySem.W.Frag} {mg : Str -> Option Value} {base : Heap}
def sp_l_powers : Sp := fun vs H Q _ => ∃ (a : Addr) (n far : Int), vs = [.ref a, .int far] /\ H a = some (.lst [.int n]) /\ 0 < far /\ far <= 1000001 /\
  ∀ (p : Addr) (H' : Hp) (n' : Int) (es : List Int), But a H H' -> H' a = some (.lst [.int n']) -> H' p = some (tupI es) -> es.length = 10 -> (∀ e ∈ es, 0 <= e /\ e <= far) -> Q (.ref p) H'
theorem ok_l_powers (T : Tx K mg) : FnOk P w K mg base CX0 2 T.f_l_powers T.fd_l_powers ["pot", "far"] sp_l_powers := by
  refine T.D_l_powers.fn.okQ sc_l_powers (fun vs H Q E h => ?_) (fun cdv A outer s H vs Q E hr h => ?_)
  · obtain ⟨a, n, far, rfl, _⟩ := h
    rfl
  · obtain ⟨a, n, far, rfl, ha, f0, f1, q⟩ := h
    refine ⟨_, (qss_cons (qs_setC (i := 2) sc_l_powers.nd rfl (Or.inl rfl) (compOk_of (osc := defScope s_l_powers) (XN := ["pot", "far", "found"]) (N := ["place", "pot", "far"]) (js := [none, some 0, some 1]) rfl rfl rfl (List.forall_mem_cons.mpr ⟨rfl, (List.forall_mem_cons.mpr ⟨rfl, (List.forall_mem_nil _)⟩)⟩) (by decide +kernel) rfl) rfl (qi_range1 rfl T.m_range (qa_c qe_int qa_nil)) (fun _ _ _ _ => (qg_name (i := 0) (show List.Nodup (["place", "pot", "far"] : List Str) from by decide +kernel) rfl (Or.inl rfl) (Or.inr rfl))) (fun _ _ _ _ => qts_nil)
          (fun _ _ _ _ => (qe_call (ok_l_takeA T) (hr.mono (by decide)) rfl T.D_l_take.at_ T.D_l_take.fn.kp T.D_l_take.bd .nil pass0 (qa_c (qv 1) (qa_c (qv 2) qa_nil)))))
      (qss_one (qs_ret (qe_callTy call_tuple_ofA (by rfl) T.m_tuple b_tuple (qa_c (qe_op op_catLA (qv 2) (qe_comp (compOk_of (osc := defScope s_l_powers) (XN := ["pot", "far", "found"]) (N := ["place", "pot"]) (js := [none, some 0]) rfl rfl rfl (List.forall_mem_cons.mpr ⟨rfl, (List.forall_mem_nil _)⟩) (by decide +kernel) rfl) rfl (qi_range1 rfl T.m_range (qa_c qe_int qa_nil)) (fun _ _ _ _ => (qg_name (i := 0) (show List.Nodup (["place", "pot"] : List Str) from by decide +kernel) rfl (Or.inl rfl) (Or.inr rfl))) (fun _ _ _ _ => qts_nil)
          (fun _ _ _ _ => (qe_callTy call_int1 (by rfl) T.m_int b_int (qa_c (qe_cmpR op_eq (qe_call (ok_l_takeA T) (hr.mono (by decide)) rfl T.D_l_take.at_ T.D_l_take.fn.kp T.D_l_take.bd .nil pass0 (qa_c (qv 1) (qa_c qe_int qa_nil))) qe_int (nomark _)) qa_nil))))) qa_nil))))), ?_⟩
    refine ⟨5, rfl, by decide, by decide, fun D hD => ?_⟩
    have nD : a ≠ D := ne_of_none ha hD
    refine comp_range (n := 5) (by rw [sizeLine_eq]; decide) (fun i σ' H' ys => (∃ u : Option V, σ' = [u, some (.ref a), some (.int far)]) /\ But a H H' /\ (∃ n' : Int, H' a = some (.lst [.int n'])) /\ ∃ ws : List Int, ys = ws.map V.int /\ ∀ x ∈ ws, 0 <= x /\ x <= far) ⟨⟨_, rfl⟩, But.of (Same.new hD), ⟨n, by rw [upd_ne nD]; exact ha⟩, [], rfl, fun x hx => by cases hx⟩ ?_ ?_
    · rintro i σ' H' ys R hi hD' hyl ⟨⟨u, rfl⟩, b', ⟨n', ha'⟩, ws, rfl, hws⟩ kk
      refine ⟨_, rfl, _, rfl, a, n', far, rfl, ha', f0, by omega, fun x2 n2 H2 x20 x21 b2 ha2 => ?_⟩
      refine kk _ _ _ (b2 _ _ nD.symm hD') ⟨⟨_, rfl⟩, ?_, ⟨n2, by rw [upd_ne nD]; exact ha2⟩, ws ++ [x2], by rw [List.map_append]; rfl, ?_⟩
      · intro c o nc e
        rw [upd_ne (ne_of_none e hD)]
        exact b2 _ _ nc (b' _ _ nc e)
      · intro x hx
        rcases List.mem_append.mp hx with z | z
        · exact hws x z
        · rw [List.mem_singleton.mp z]; omega
    rintro σ' H1 ys hD1 hyl ⟨_, b1, ⟨n1, ha1⟩, ws, rfl, hws⟩
    rw [List.length_map] at hyl
    refine ⟨_, rfl, 5, rfl, by decide, by decide, fun D2 hD2 => ?_⟩
    have nD2 : a ≠ D2 := ne_of_none ha1 hD2
    have nDD : D ≠ D2 := ne_of_none hD1 hD2
    refine comp_range (n := 5) (by rw [sizeLine_eq]; decide) (fun i σ' H' ys => (∃ u : Option V, σ' = [u, some (.ref a)]) /\ But a H1 H' /\ (∃ n' : Int, H' a = some (.lst [.int n'])) /\ ∃ vs : List Int, ys = vs.map V.int /\ ∀ x ∈ vs, 0 <= x /\ x <= far) ⟨⟨_, rfl⟩, But.of (Same.new hD2), ⟨n1, by rw [upd_ne nD2]; exact ha1⟩, [], rfl, fun x hx => by cases hx⟩ ?_ ?_
    · rintro i σ' H' ys R hi hD' hyl ⟨⟨u, rfl⟩, b', ⟨n', ha'⟩, vs, rfl, hvs⟩ kk
      refine ⟨_, rfl, a, n', 3, rfl, ha', by decide, by decide, fun x2 n2 H2 x20 x21 b2 ha2 => ⟨rfl, .inr ⟨_, rfl, ?_⟩⟩⟩
      generalize decide (V.int x2 = V.int 0) = bb
      refine kk _ _ _ (b2 _ _ nD2.symm hD') ⟨⟨_, rfl⟩, ?_, ⟨n2, by rw [upd_ne nD2]; exact ha2⟩, vs ++ [if bb = true then 1 else 0], by rw [List.map_append]; rfl, ?_⟩
      · intro c o nc e
        rw [upd_ne (ne_of_none e hD2)]
        exact b2 _ _ nc (b' _ _ nc e)
      · intro x hx
        rcases List.mem_append.mp hx with z | z
        · exact hvs x z
        · rw [List.mem_singleton.mp z]
          cases bb
          · show (0 : Int) <= 0 /\ (0 : Int) <= far; omega
          · show (0 : Int) <= 1 /\ (1 : Int) <= far; omega
    rintro σ' H2 ys hD2' hyl2 ⟨_, b2, ⟨n2, ha2⟩, vs, rfl, hvs⟩
    rw [List.length_map] at hyl2
    refine ⟨D, D2, _, _, rfl, rfl, b2 _ _ nD.symm hD1, hD2', ?_, fun l H3 f3 s3 hl3 => ⟨l, _, rfl, SqL.of hl3, fun p H4 f4 s4 hp => ?_⟩⟩
    · rw [List.length_map, List.length_map, hyl, hyl2, sizeLine_eq]; decide
    · rw [← List.map_append] at hp
      refine q p H4 n2 (ws ++ vs) ((b1.trans b2).trans (But.of (s3.trans s4))) (s4 _ _ (s3 _ _ ha2)) hp (by rw [List.length_append, hyl, hyl2]) ?_
      intro e he
      rcases List.mem_append.mp he with z | z
      · exact hws e z
      · exact hvs e z
def LRw (D : Addr) (H : Hp) (ys : List V) (rows : List (List Int)) : Prop := ys.length = rows.length /\ ∀ (i : Nat) (x : V), ys[i]? = some x -> ∃ c a, rows[i]? = some c /\ x = .ref a /\ a ≠ D /\ H a = some (lstI c)
theorem LRw.same {D : Addr} {H H' : Hp} {ys : List V} {rows : List (List Int)} (h : LRw D H ys rows) (s : Same H H') : LRw D H' ys rows := ⟨h.1, fun i x hx => by
  obtain ⟨c, a, h1, h2, h3, h4⟩ := h.2 i x hx
  exact ⟨c, a, h1, h2, h3, s _ _ h4⟩⟩
theorem LRw.but {D : Addr} {H H' : Hp} {ys : List V} {rows : List (List Int)} (h : LRw D H ys rows) (b : But D H H') : LRw D H' ys rows := ⟨h.1, fun i x hx => by
  obtain ⟨c, a, h1, h2, h3, h4⟩ := h.2 i x hx
  exact ⟨c, a, h1, h2, h3, b _ _ h3 h4⟩⟩
theorem LRw.snoc {D : Addr} {H : Hp} {ys : List V} {rows : List (List Int)} (h : LRw D H ys rows) {a : Addr} {c : List Int} (na : a ≠ D) (ha : H a = some (lstI c)) : LRw D H (ys ++ [.ref a]) (rows ++ [c]) := ⟨by rw [List.length_append, List.length_append, h.1]; rfl, fun i x hx => by
  rcases Nat.lt_or_ge i ys.length with z | z
  · rw [List.getElem?_append_left z] at hx
    obtain ⟨c', a', h1, h2⟩ := h.2 i x hx
    exact ⟨c', a', by rw [List.getElem?_append_left (by rw [← h.1]; exact z)]; exact h1, h2⟩
  · rw [List.getElem?_append_right z] at hx
    have z0 : i - ys.length = 0 := by
      rcases Nat.eq_zero_or_pos (i - ys.length) with z | z
      · exact z
      · rw [List.getElem?_eq_none (show [V.ref a].length <= _ from z)] at hx
        cases hx
    rw [z0] at hx
    cases hx
    exact ⟨c, a, by rw [List.getElem?_append_right (by rw [← h.1]; exact z), ← h.1, z0]; rfl, rfl, na, ha⟩⟩
def lenU (H : Hp) (a : Addr) : Nat := match H a with
  | some (.lst xs) => xs.length
  | _ => 0
theorem lenU_of {H : Hp} {a : Addr} {xs : List V} (h : H a = some (.lst xs)) : lenU H a = xs.length := by unfold lenU; rw [h]
def FrB (fs : List (Int × Int)) : Prop := ∀ f ∈ fs, fracB f.1 f.2 = true
theorem FrcsV.ok {H : Hp} {xs : List V} {fs : List (Int × Int)} (h : FrcsV H xs fs) : FrB fs := fun f hf => by
  obtain ⟨k, hk⟩ := List.getElem?_of_mem hf
  have hl : k < xs.length := by rw [h.1]; exact (List.getElem?_eq_some_iff.mp hk).1
  obtain ⟨i, j, c, h1, _, _, h4⟩ := h.2 k xs[k] (List.getElem?_eq_getElem hl)
  rw [hk] at h1
  cases h1
  exact h4
end
end W2
namespace W2
open PySem L2 Mth
section
variable {P : Program} {w : World} {K : PySem.W.Frag} {mg : Str -> Option Value} {base : Heap}
def sp_how_often : Sp := fun vs H Q _ => ∃ (p : Nat) (m : Int), vs = [.int (p : Int), .int m] /\ 2 <= p /\ p < 30 /\ 1 <= m /\ Q (.int (cnt p m.toNat : Nat)) H
theorem ok_how_often (T : Tx K mg) : FnOk P w K mg base CX0 1 T.f_how_often T.fd_how_often ["prime", "number"] sp_how_often := by
  refine T.D_how_often.fn.okQ sc_how_often (fun vs H Q E h => ?_) (fun cdv A outer s H vs Q E hr h => ?_)
  · obtain ⟨p, m, rfl, _⟩ := h
    rfl
  · obtain ⟨p, m, rfl, hp2, hp30, hm, q⟩ := h
    refine ⟨_, (qss_cons (qs_set (i := 2) sc_how_often.nd rfl (Or.inl rfl) qe_int)
      (qss_cons (qs_set (i := 3) sc_how_often.nd rfl (Or.inl rfl) (qv 1))
      (qss_cons (qs_while PassesOwn.never (qt_cmpR op_eq (qe_op op_mod (qv 3) (qv 0)) qe_int (nomark _))
        (qss_cons (qs_set (i := 3) sc_how_often.nd rfl (Or.inl rfl) (qe_op op_fdiv (qv 3) (qv 0)))
      (qss_one (qs_set (i := 2) sc_how_often.nd rfl (Or.inl rfl) (qe_op op_add (qv 2) qe_int)))))
      (qss_one (qs_ret (qv 2)))))), ?_⟩
    refine ⟨_, rfl, ?_⟩
    refine while_own (fun σ H3 => ∃ o r : Nat, σ = [some (.int (p : Int)), some (.int m), some (.int (o : Int)), some (.int (r : Int))] /\ 1 <= r /\ o + cnt p r = cnt p m.toNat /\ H3 = H) (fun σ _ => natAt σ 3) ⟨0, m.toNat, by rw [Int.toNat_of_nonneg (by omega)]; rfl, by omega, Nat.zero_add _, rfl⟩ ?_
    rintro σ H3 ⟨o, r, rfl, hr1, hro, rfl⟩
    refine ⟨_, rfl, _, rfl, _, _, rfl, rfl, (by show (0 : Int) < p; omega), rfl, _, rfl, ite2 (fun h => ?_) (fun h => ?_)⟩
    · have h0 : (r : Int) % (p : Int) = 0 := int_eq0 h
      have h0' : r % p = 0 := by omega
      refine whN ⟨_, rfl, _, rfl, _, _, rfl, rfl, ⟨by omega, by omega⟩, _, rfl, _, _, rfl, rfl, ?_⟩
      refine ⟨⟨o + 1, r / p, ?_, div_pos_of hr1 h0', by rw [cnt_div hp2 hr1 h0'] at hro; omega, rfl⟩, ?_⟩
      · rw [Int.natCast_ediv, Int.natCast_add]; rfl
      · show ((r : Int) / (p : Int)).toNat < ((r : Int)).toNat
        rw [← Int.natCast_ediv, Int.toNat_natCast, Int.toNat_natCast]
        exact Nat.div_lt_self hr1 hp2
    · have h0 : ¬ (r : Int) % (p : Int) = 0 := int_ne0 h
      have h0' : r % p ≠ 0 := by omega
      rw [cnt_not h0', Nat.add_zero] at hro
      subst hro
      exact ⟨_, rfl, q⟩
def sp_powers_of : Sp := fun vs H Q _ => ∃ i : Int, vs = [.int i] /\ 1 <= i /\ stripAll i.toNat = 1 /\ ∀ p H', Same H H' -> H' p = some (tupI (natI (powsOf i.toNat))) -> Q (.ref p) H'
theorem ok_powers_of (T : Tx K mg) : FnOk P w K mg base CX0 2 T.f_powers_of T.fd_powers_of ["number"] sp_powers_of := by
  refine T.D_powers_of.fn.okQ sc_powers_of (fun vs H Q E h => ?_) (fun cdv A outer s H vs Q E hr h => ?_)
  · obtain ⟨i, rfl, _⟩ := h
    rfl
  · obtain ⟨i, rfl, h1, hz, q⟩ := h
    refine ⟨_, (qss_cons (qs_if (QW.pt (qw_or (qt_not (qt_val (qe_call (ok_is_whole T) (hr.mono (by decide)) rfl T.D_is_whole.at_ T.D_is_whole.fn.kp T.D_is_whole.bd .nil pass0 (qa_c (qv 0) qa_nil)))) (qw_or (qt_cmpR op_lt (qv 0) qe_int (nomark _)) (qw_or1 (qt_cmpR op_ne (qe_call (ok_without_primes T) (hr.mono (by decide)) rfl T.D_without_primes.at_ T.D_without_primes.fn.kp T.D_without_primes.bd .nil pass0 (qa_c (qv 0) qa_nil)) qe_int (nomark _))))))
        (qss_one qs_never)
        qss_nil)
      (qss_one (qs_ret (qe_callTy call_tuple_ofA (by rfl) T.m_tuple b_tuple (qa_c (qe_comp (compOk_of (osc := defScope s_powers_of) (XN := ["number"]) (N := ["prime", "number"]) (js := [none, some 0]) rfl rfl rfl (List.forall_mem_cons.mpr ⟨rfl, (List.forall_mem_nil _)⟩) (by decide +kernel) rfl) rfl (qi_tup (qe_glob (v := .ref T.a_PRIMES) (by rfl) T.g_PRIMES rfl)) (fun _ _ _ _ => (qg_name (i := 0) (show List.Nodup (["prime", "number"] : List Str) from by decide +kernel) rfl (Or.inl rfl) (Or.inr rfl))) (fun _ _ _ _ => qts_nil)
          (fun _ _ _ _ => (qe_call (ok_how_often T) (hr.mono (by decide)) rfl T.D_how_often.at_ T.D_how_often.fn.kp T.D_how_often.bd .nil pass0 (qa_c (qv 0) (qa_c (qv 1) qa_nil))))) qa_nil))))), ?_⟩
    refine ⟨_, rfl, _, rfl, trivial, _, rfl, iteF ?_⟩
    refine ⟨_, rfl, _, _, rfl, rfl, _, rfl, ?_⟩
    rw [decide_eq_false (show ¬ i < 1 by omega)]
    refine iteF ⟨_, rfl, i, rfl, h1, rfl, _, rfl, ?_⟩
    rw [hz]
    refine iteF ?_
    refine ⟨T.a_PRIMES, rfl, ⟨primesV, T.t_PRIMES H⟩, fun D hD => comp_map_tup (xs := primesV) (f := fun v => match v with | .int p => V.int (cnt p.toNat i.toNat : Nat) | v => v) rfl (by decide) hD (T.t_PRIMES H) ?_ ?_⟩
    · intro x H' R hx r
      obtain ⟨z, hz⟩ := List.getElem?_of_mem hx
      obtain ⟨p, rfl, hp, hp30⟩ := primesV_get hz
      have hp2 : 2 <= p := two_le p (List.mem_of_getElem? hp)
      refine ⟨_, rfl, _, rfl, p, i, rfl, hp2, hp30, by omega, ?_⟩
      have r2 : R (V.int (cnt ((p : Int).toNat) i.toNat : Nat)) H' := r
      rw [Int.toNat_natCast] at r2
      exact r2
    · refine ⟨D, _, rfl, SqL.of upd_same, fun p H' fp sp hp => q p H' ((Same.new hD).trans sp) ?_⟩
      rw [hp]
      rfl
theorem zip_chg (n d : Nat) : List.zipWith (fun x y : Int => x - y) (natI (powsOf n)) (natI (powsOf d)) = chg n d := by
  unfold natI chg
  rw [List.zipWith_map]
def sp_fraction_changes : Sp := fun vs H Q _ => ∃ (b : Addr) (i j : Int), vs = [.ref b] /\ H b = some (.tup [.int i, .int j]) /\ fracB i j = true /\ ∀ p H', Same H H' -> H' p = some (tupI (chg i.toNat j.toNat)) -> Q (.ref p) H'
theorem ok_fraction_changes (T : Tx K mg) : FnOk P w K mg base CX0 3 T.f_fraction_changes T.fd_fraction_changes ["fraction"] sp_fraction_changes := by
  refine T.D_fraction_changes.fn.okQ sc_fraction_changes (fun vs H Q E h => ?_) (fun cdv A outer s H vs Q E hr h => ?_)
  · obtain ⟨b, i, j, rfl, _⟩ := h
    rfl
  · obtain ⟨b, i, j, rfl, hb, hf, q⟩ := h
    refine ⟨_, (qss_cons (qs_set (i := 1) sc_fraction_changes.nd rfl (Or.inl rfl) (qe_call (ok_powers_of T) (hr.mono (by decide)) rfl T.D_powers_of.at_ T.D_powers_of.fn.kp T.D_powers_of.bd .nil pass0 (qa_c (qe_ix ix_tup (qv 0) qe_int (fun _ _ => rfl)) qa_nil)))
      (qss_cons (qs_set (i := 2) sc_fraction_changes.nd rfl (Or.inl rfl) (qe_call (ok_powers_of T) (hr.mono (by decide)) rfl T.D_powers_of.at_ T.D_powers_of.fn.kp T.D_powers_of.bd .nil pass0 (qa_c (qe_ix ix_tup (qv 0) qe_int (fun _ _ => rfl)) qa_nil)))
      (qss_one (qs_ret (qe_callTy call_tuple_ofA (by rfl) T.m_tuple b_tuple (qa_c (qe_comp (compOk_of (osc := defScope s_fraction_changes) (XN := ["fraction", "tops", "bottoms"]) (N := ["top", "bottom"]) (js := [none, none]) rfl rfl rfl (List.forall_mem_nil _) (by decide +kernel) rfl) rfl (qi_zip rfl rfl T.m_zip (qa_c (qv 1) (qa_c (qv 2) qa_nil))) (fun _ _ _ _ => (qg_tupN (K := K) (n := 2) rfl rfl (qgs_cons (qg_name (i := 0) (show List.Nodup (["top", "bottom"] : List Str) from by decide +kernel) rfl (Or.inl rfl) (Or.inr rfl)) (qgs_cons (qg_name (i := 1) (show List.Nodup (["top", "bottom"] : List Str) from by decide +kernel) rfl (Or.inl rfl) (Or.inr rfl)) qgs_nil)))) (fun _ _ _ _ => qts_nil)
          (fun _ _ _ _ => (qe_op op_sub (qv 0) (qv 1)))) qa_nil)))))), ?_⟩
    obtain ⟨⟨i1, i2⟩, ⟨j1, j2⟩⟩ := fracB_parts hf
    refine ⟨_, rfl, b, _, _, _, rfl, rfl, SqT.of hb, rfl, i, rfl, i1, i2, fun p1 H1 s1 hp1 => ?_⟩
    refine ⟨_, rfl, b, _, _, _, rfl, rfl, SqT.of (s1 _ _ hb), rfl, j, rfl, j1, j2, fun p2 H2 s2 hp2 => ?_⟩
    refine ⟨_, rfl, _, rfl, p1, p2, rfl, ⟨_, SqT.of (s2 _ _ hp1)⟩, ⟨_, SqT.of hp2⟩, fun D hD => ?_⟩
    refine comp_zip_ints (f := fun x y => x - y) (σ0 := []) (xs := natI (powsOf i.toNat)) (ys := natI (powsOf j.toNat)) (by simp [natI, powsOf, primes]; decide) ⟨_, _, rfl⟩ hD (s2 _ _ hp1) hp2 (fun x y H' R _ _ r => ⟨_, rfl, _, rfl, _, _, rfl, rfl, r⟩) fun H3 s3 h3 => ?_
    refine ⟨D, _, rfl, SqL.of h3, fun p H4 fp s4 hp => q p H4 (((s1.trans s2).trans s3).trans s4) ?_⟩
    rw [hp, zip_chg]
def sp_changes_of : Sp := fun vs H Q _ => ∃ (b : Addr) (xs : List V) (fs : List (Int × Int)), vs = [.ref b] /\ H b = some (.tup xs) /\ FrcsV H xs fs /\ xs.length <= 1000 /\
  ∀ l H' ys, H l = none -> Same H H' -> H' l = some (.lst ys) -> RowsV H' ys (rowsOf fs) -> Q (.ref l) H'
theorem ok_changes_of (T : Tx K mg) : FnOk P w K mg base CX0 4 T.f_changes_of T.fd_changes_of ["program"] sp_changes_of := by
  refine T.D_changes_of.fn.okQ sc_changes_of (fun vs H Q E h => ?_) (fun cdv A outer s H vs Q E hr h => ?_)
  · obtain ⟨b, xs, fs, rfl, _⟩ := h
    rfl
  · obtain ⟨b, xs, fs, rfl, hb, hf, hl, q⟩ := h
    refine ⟨_, (qss_one (qs_ret (qe_comp (compOk_of (osc := defScope s_changes_of) (XN := ["program"]) (N := ["fraction"]) (js := [none]) rfl rfl rfl (List.forall_mem_nil _) (by decide +kernel) rfl) rfl (qi_tup (qv 0)) (fun _ _ _ _ => (qg_name (i := 0) (show List.Nodup (["fraction"] : List Str) from by decide +kernel) rfl (Or.inl rfl) (Or.inr rfl))) (fun _ _ _ _ => qts_nil)
          (fun _ _ _ _ => (qe_call (ok_fraction_changes T) (hr.mono (by decide)) rfl T.D_fraction_changes.at_ T.D_fraction_changes.fn.kp T.D_fraction_changes.bd .nil pass0 (qa_c (qv 0) qa_nil)))))), ?_⟩
    refine ⟨_, rfl, b, rfl, ⟨_, SqT.of hb⟩, fun D hD => ?_⟩
    refine comp_tup (xs := xs) (by rw [sizeLine_eq]; omega) (fun i σ' H' ys => (∃ u : Option V, σ' = [u]) /\ Same H H' /\ RowsV H' ys ((rowsOf fs).take i)) ⟨⟨_, rfl⟩, Same.new hD, RowsV.nil⟩ (fun i σ' H' ys _ _ ⟨_, s', _⟩ => SqT.of (s' _ _ hb)) ?_ ?_
    · rintro i x σ' H' ys R hx hD' hyl ⟨⟨u, rfl⟩, s', hr'⟩ kk
      obtain ⟨a, d, c, f1, rfl, hc, f4⟩ := hf.2 i x hx
      refine ⟨_, rfl, c, a, d, rfl, s' _ _ hc, f4, fun p H2 s2 hp => ?_⟩
      refine kk _ _ _ (s2 _ _ hD') ⟨⟨_, rfl⟩, ?_, ?_⟩
      · intro e o eo
        rw [upd_ne (ne_of_none eo hD)]
        exact s2 _ _ (s' _ _ eo)
      · have e1 : (rowsOf fs)[i]? = some (chg a.toNat d.toNat) := by unfold rowsOf; rw [List.getElem?_map, f1]; rfl
        rw [List.take_add_one, e1]
        exact RowsV.but ((hr'.same s2).app (RowsV.one ⟨p, rfl, hp⟩)) (s2 _ _ hD') But.upd
    · rintro σ' H' ys hD' hyl ⟨_, s', hr'⟩
      rw [List.take_of_length_le (by rw [rowsOf_len, ← hf.1]; exact Nat.le_refl _)] at hr'
      exact q D H' ys hD s' hD' hr'
def sp_fits : Sp := fun vs H Q _ => ∃ (a b : Addr) (cs ps : List Int), vs = [.ref a, .ref b] /\ H a = some (tupI cs) /\ H b = some (tupI ps) /\ ∀ H', Same H H' -> Q (.bl (fitsB cs ps)) H'
theorem fits_no {cs ps : List Int} {i : Nat} {a b : Int} (h1 : cs[i]? = some a) (h2 : ps[i]? = some b) (h : b + a < 0) : fitsB cs ps = false := by
  rw [Bool.eq_false_iff]
  intro z
  have := fitsB_iff.mp z i a b h1 h2
  omega
theorem ok_fits (T : Tx K mg) : FnOk P w K mg base CX0 1 T.f_fits T.fd_fits ["changes", "powers"] sp_fits := by
  refine T.D_fits.fn.okQ sc_fits (fun vs H Q E h => ?_) (fun cdv A outer s H vs Q E hr h => ?_)
  · obtain ⟨a, b, cs, ps, rfl, _⟩ := h
    rfl
  · obtain ⟨a, b, cs, ps, rfl, ha, hb, q⟩ := h
    refine ⟨_, (qss_cons (qs_for PassesOwn.never rfl (qi_zip rfl rfl T.m_zip (qa_c (qv 0) (qa_c (qv 1) qa_nil))) (qg_tup rfl (qgs_cons (qg_name (i := 2) sc_fits.nd rfl (Or.inl rfl)) (qgs_cons (qg_name (i := 3) sc_fits.nd rfl (Or.inl rfl)) qgs_nil)))
        (qss_one (qs_if (qt_cmpR op_lt (qe_op op_add (qv 3) (qv 2)) qe_int (nomark _))
        (qss_one (qs_ret qe_bl))
        qss_nil)))
      (qss_one (qs_ret qe_bl))), ?_⟩
    refine ⟨_, rfl, _, rfl, a, b, rfl, ⟨_, SqT.of ha⟩, ⟨_, SqT.of hb⟩, ?_⟩
    refine for_zip (xs := cs.map V.int) (ys := ps.map V.int) (fun i σ H2 => (∃ u v : Option V, σ = [some (.ref a), some (.ref b), u, v]) /\ Same H H2 /\ ∀ j, j < i -> ∀ x y, cs[j]? = some x -> ps[j]? = some y -> 0 <= y + x) ⟨⟨none, none, rfl⟩, Same.refl H, fun j hj => by omega⟩ (fun i σ H2 _ ⟨_, s2, _⟩ => ⟨SqT.of (s2 _ _ ha), SqT.of (s2 _ _ hb)⟩) ?_ ?_
    · rintro i x y p σ H2 hx hy hp ⟨⟨u, v, rfl⟩, s2, hall⟩
      obtain ⟨x, rfl, hx'⟩ := map_int_get hx
      obtain ⟨y, rfl, hy'⟩ := map_int_get hy
      refine ⟨p, _, rfl, SqT.of upd_same, rfl, _, _, rfl, _, _, rfl, rfl, ?_⟩
      refine ⟨_, rfl, _, rfl, _, _, rfl, rfl, _, _, rfl, rfl, _, rfl, ite2 (fun h => ?_) (fun h => ?_)⟩
      · have h0 : y + x < 0 := of_decide_eq_true h
        have q' := q _ (Same.more (o := .tup [.int x, .int y]) s2 hp)
        rw [fits_no hx' hy' h0] at q'
        exact q'
      · have h0 : ¬ y + x < 0 := fun z => h (decide_eq_true z)
        refine ⟨⟨_, _, rfl⟩, Same.more s2 hp, fun j hj x' y' e1 e2 => ?_⟩
        by_cases hji : j = i
        · subst hji
          rw [hx'] at e1; rw [hy'] at e2
          cases e1; cases e2
          omega
        · exact hall j (by omega) x' y' e1 e2
    · rintro σ H2 ⟨⟨u, v, rfl⟩, s2, hall⟩
      have q' := q H2 s2
      rw [fitsB_iff.mpr fun j x y e1 e2 => hall j ?_ x y e1 e2] at q'
      · exact q'
      · have h1 := (List.getElem?_eq_some_iff.mp e1).1
        have h2 := (List.getElem?_eq_some_iff.mp e2).1
        rw [List.length_map, List.length_map]
        omega
def sp_first_of : Sp := fun vs H Q _ => ∃ (l b : Addr) (ys : List V) (rows : List (List Int)) (ps : List Int), vs = [.ref l, .ref b] /\ H l = some (.lst ys) /\ RowsV H ys rows /\ H b = some (tupI ps) /\ ∀ H', Same H H' -> Q (optV (fstI rows ps)) H'
theorem ok_first_of (T : Tx K mg) : FnOk P w K mg base CX0 2 T.f_first_of T.fd_first_of ["rows", "powers"] sp_first_of := by
  refine T.D_first_of.fn.okQ sc_first_of (fun vs H Q E h => ?_) (fun cdv A outer s H vs Q E hr h => ?_)
  · obtain ⟨l, b, ys, rows, ps, rfl, _⟩ := h
    rfl
  · obtain ⟨l, b, ys, rows, ps, rfl, hl, hrs, hb, q⟩ := h
    refine ⟨_, (qss_cons (qs_for PassesOwn.never rfl (qi_enum rfl rfl T.m_enumerate (qa_c (qv 0) qa_nil)) (qg_tup rfl (qgs_cons (qg_name (i := 2) sc_first_of.nd rfl (Or.inl rfl)) (qgs_cons (qg_name (i := 3) sc_first_of.nd rfl (Or.inl rfl)) qgs_nil)))
        (qss_one (qs_if (qt_val (qe_call (ok_fits T) (hr.mono (by decide)) rfl T.D_fits.at_ T.D_fits.fn.kp T.D_fits.bd .nil pass0 (qa_c (qv 3) (qa_c (qv 1) qa_nil))))
        (qss_one (qs_ret (qv 2)))
        qss_nil)))
      (qss_one (qs_ret qe_non))), ?_⟩
    refine ⟨_, rfl, l, ys, rfl, hl, ?_⟩
    refine for_enum (xs := ys) (fun i σ H2 => (∃ u v : Option V, σ = [some (.ref l), some (.ref b), u, v]) /\ Same H H2 /\ ∀ j, j < i -> ∀ c, rows[j]? = some c -> fitsB c ps = false) ⟨⟨none, none, rfl⟩, Same.refl H, fun j hj => by omega⟩ (fun i σ H2 _ ⟨_, s2, _⟩ => s2 _ _ hl) ?_ ?_
    · rintro i x p σ H2 hx hp ⟨⟨u, v, rfl⟩, s2, hall⟩
      obtain ⟨c, a, hc, rfl, ha⟩ := hrs.at hx
      have s3 := Same.more (o := .tup [.int (i : Int), .ref a]) s2 hp
      refine ⟨p, _, rfl, SqT.of upd_same, rfl, _, _, rfl, _, _, rfl, rfl, ?_⟩
      refine ⟨_, rfl, _, rfl, a, b, c, ps, rfl, s3 _ _ ha, s3 _ _ hb, fun H4 s4 => ⟨_, rfl, ite2 (fun h => ?_) (fun h => ?_)⟩⟩
      · have q' := q H4 (s3.trans s4)
        rw [fstI_at rows ps i hall (fun c' e => by rw [hc] at e; cases e; exact h) (List.getElem?_eq_some_iff.mp hc).1] at q'
        exact ⟨_, rfl, q'⟩
      · refine ⟨⟨_, _, rfl⟩, s3.trans s4, fun j hj c' e => ?_⟩
        by_cases hji : j = i
        · subst hji
          rw [hc] at e
          cases e
          cases z : fitsB c ps with
          | true => exact absurd z h
          | false => rfl
        · exact hall j (by omega) c' e
    · rintro σ H2 ⟨⟨u, v, rfl⟩, s2, hall⟩
      have q' := q H2 s2
      rw [fstI_none rows ps fun j c e => hall j (by rw [hrs.1]; exact (List.getElem?_eq_some_iff.mp e).1) c e] at q'
      exact q'
def sp_moved : Sp := fun vs H Q _ => ∃ (a b : Addr) (ps cs : List Int) (m : Int), vs = [.ref a, .ref b, .int m] /\ H a = some (tupI ps) /\ H b = some (tupI cs) /\ (-(2 ^ 64) < m /\ m < 2 ^ 64) /\ ps.length <= 1000 /\ ∀ p H', Same H H' -> H' p = some (tupI (mvd ps cs m)) -> Q (.ref p) H'
theorem ok_moved (T : Tx K mg) : FnOk P w K mg base CX0 1 T.f_moved T.fd_moved ["powers", "changes", "many"] sp_moved := by
  refine T.D_moved.fn.okQ sc_moved (fun vs H Q E h => ?_) (fun cdv A outer s H vs Q E hr h => ?_)
  · obtain ⟨a, b, ps, cs, m, rfl, _⟩ := h
    rfl
  · obtain ⟨a, b, ps, cs, m, rfl, ha, hb, hm, hl, q⟩ := h
    refine ⟨_, (qss_one (qs_ret (qe_callTy call_tuple_ofA (by rfl) T.m_tuple b_tuple (qa_c (qe_comp (compOk_of (osc := defScope s_moved) (XN := ["powers", "changes", "many"]) (N := ["power", "change", "many"]) (js := [none, none, some 2]) rfl rfl rfl (List.forall_mem_cons.mpr ⟨rfl, (List.forall_mem_nil _)⟩) (by decide +kernel) rfl) rfl (qi_zip rfl rfl T.m_zip (qa_c (qv 0) (qa_c (qv 1) qa_nil))) (fun _ _ _ _ => (qg_tupN (K := K) (n := 2) rfl rfl (qgs_cons (qg_name (i := 0) (show List.Nodup (["power", "change", "many"] : List Str) from by decide +kernel) rfl (Or.inl rfl) (Or.inr rfl)) (qgs_cons (qg_name (i := 1) (show List.Nodup (["power", "change", "many"] : List Str) from by decide +kernel) rfl (Or.inl rfl) (Or.inr rfl)) qgs_nil)))) (fun _ _ _ _ => qts_nil)
          (fun _ _ _ _ => (qe_op op_add (qv 0) (qe_op op_mul (qv 2) (qv 1))))) qa_nil)))), ?_⟩
    refine ⟨_, rfl, _, rfl, a, b, rfl, ⟨_, SqT.of ha⟩, ⟨_, SqT.of hb⟩, fun D hD => ?_⟩
    refine comp_zip_ints (f := fun x y => x + m * y) (σ0 := [some (.int m)]) (xs := ps) (ys := cs) (by rw [sizeLine_eq]; omega) ⟨_, _, rfl⟩ hD ha hb (fun x y H' R _ _ r => ⟨_, rfl, _, rfl, _, rfl, _, _, rfl, rfl, .inl hm, _, _, rfl, rfl, r⟩) fun H3 s3 h3 => ?_
    exact ⟨D, _, rfl, SqL.of h3, fun p H4 fp s4 hp => q p H4 (s3.trans s4) hp⟩
def PlW (H : Hp) (zs : List V) (P : List (List Int)) (ws : List Nat) : Prop := zs.length = ws.length /\ P.length = ws.length /\ ∀ (i : Nat) (y : V), zs[i]? = some y -> ∃ (c a : Addr) (p : List Int) (u : Nat), y = .ref c /\ H c = some (.tup [.ref a, .int (u : Int)]) /\ P[i]? = some p /\ H a = some (tupI p) /\ ws[i]? = some u
def PlV (H : Hp) (zs : List V) (P : List (List Int)) (U : List Nat) : Prop := zs.length = U.length + 1 /\ P.length = U.length + 1 /\ ∀ (i : Nat) (y : V), zs[i]? = some y -> ∃ (c a : Addr) (x : V) (p : List Int), y = .ref c /\ H c = some (.tup [.ref a, x]) /\ P[i]? = some p /\ H a = some (tupI p) /\ ∀ u : Nat, U[i]? = some u -> x = .int (u : Int)
theorem PlW.keep {H H' : Hp} {zs : List V} {P : List (List Int)} {ws : List Nat} (h : PlW H zs P ws) (k : Keep H H') : PlW H' zs P ws := ⟨h.1, h.2.1, fun i y hy => by
  obtain ⟨c, a, p, u, h1, h2, h3, h4, h5⟩ := h.2.2 i y hy
  exact ⟨c, a, p, u, h1, k.tup h2, h3, k.tup h4, h5⟩⟩
theorem PlV.keep {H H' : Hp} {zs : List V} {P : List (List Int)} {ws : List Nat} (h : PlV H zs P ws) (k : Keep H H') : PlV H' zs P ws := ⟨h.1, h.2.1, fun i y hy => by
  obtain ⟨c, a, x, p, h1, h2, h3, h4, h5⟩ := h.2.2 i y hy
  exact ⟨c, a, x, p, h1, k.tup h2, h3, k.tup h4, h5⟩⟩
theorem getElem?_snoc {α : Type} {l : List α} {x y : α} {i : Nat} (h : (l ++ [x])[i]? = some y) : l[i]? = some y ∨ (i = l.length /\ y = x) := by
  rcases Nat.lt_or_ge i l.length with z | z
  · rw [List.getElem?_append_left z] at h
    exact .inl h
  · rw [List.getElem?_append_right z] at h
    rcases Nat.eq_zero_or_pos (i - l.length) with w | w
    · rw [w] at h
      cases h
      exact .inr ⟨by omega, rfl⟩
    · rw [List.getElem?_eq_none (show [x].length <= _ from w)] at h
      cases h
theorem PlW.snoc {H : Hp} {zs : List V} {P : List (List Int)} {ws : List Nat} (h : PlW H zs P ws) {c a : Addr} {p : List Int} {u : Nat} (hc : H c = some (.tup [.ref a, .int (u : Int)])) (ha : H a = some (tupI p)) : PlW H (zs ++ [.ref c]) (P ++ [p]) (ws ++ [u]) := by
  obtain ⟨h1, h2, h3⟩ := h
  refine ⟨by rw [List.length_append, List.length_append, h1]; rfl, by rw [List.length_append, List.length_append, h2]; rfl, fun i y hy => ?_⟩
  rcases getElem?_snoc hy with z | ⟨rfl, rfl⟩
  · obtain ⟨c', a', p', u', g1, g2, g3, g4, g5⟩ := h3 i y z
    have l1 := (List.getElem?_eq_some_iff.mp g3).1
    have l2 := (List.getElem?_eq_some_iff.mp g5).1
    exact ⟨c', a', p', u', g1, g2, by rw [List.getElem?_append_left l1]; exact g3, g4, by rw [List.getElem?_append_left l2]; exact g5⟩
  · exact ⟨c, a, p, u, rfl, hc, by rw [h1, ← h2]; exact List.getElem?_concat_length, ha, by rw [h1]; exact List.getElem?_concat_length⟩
theorem PlW.done {H : Hp} {zs : List V} {P : List (List Int)} {ws : List Nat} (h : PlW H zs P ws) {c a : Addr} {p : List Int} {x : V} (hc : H c = some (.tup [.ref a, x])) (ha : H a = some (tupI p)) : PlV H (zs ++ [.ref c]) (P ++ [p]) ws := by
  obtain ⟨h1, h2, h3⟩ := h
  refine ⟨by rw [List.length_append, h1]; rfl, by rw [List.length_append, h2]; rfl, fun i y hy => ?_⟩
  rcases getElem?_snoc hy with z | ⟨rfl, rfl⟩
  · obtain ⟨c', a', p', u', g1, g2, g3, g4, g5⟩ := h3 i y z
    have l1 := (List.getElem?_eq_some_iff.mp g3).1
    refine ⟨c', a', _, p', g1, g2, by rw [List.getElem?_append_left l1]; exact g3, g4, fun u hu => ?_⟩
    rw [g5] at hu
    cases hu
    rfl
  · refine ⟨c, a, x, p, rfl, hc, by rw [h1, ← h2]; exact List.getElem?_concat_length, ha, fun u hu => ?_⟩
    rw [List.getElem?_eq_none (by omega)] at hu
    cases hu
def sp_places_of : Sp := fun vs H Q _ => ∃ (l b : Addr) (ys : List V) (R : List (List Int)) (ps : List Int) (m : Int), vs = [.ref l, .ref b, .int m] /\ H l = some (.lst ys) /\ RowsV H ys R /\ R10 R /\ H b = some (tupI ps) /\ ps.length = 10 /\ nn ps = true /\ 0 <= m /\ m <= 5000 /\
  ∀ q' H' zs P, H q' = none -> Same H H' -> H' q' = some (.lst zs) -> PlV H' zs P (trl R m.toNat ps) -> (∀ i, i < P.length -> P[i]? = goN R i ps) -> Q (.ref q') H'
theorem ok_places_of (T : Tx K mg) : FnOk P w K mg base CX0 3 T.f_places_of T.fd_places_of ["rows", "powers", "many"] sp_places_of := by
  refine T.D_places_of.fn.okQ sc_places_of (fun vs H Q E h => ?_) (fun cdv A outer s H vs Q E hr h => ?_)
  · obtain ⟨l, b, ys, R, ps, m, rfl, _⟩ := h
    rfl
  · obtain ⟨l, b, ys, R, ps, m, rfl, hl, hrs, hR, hb, hp10, hnn, m0, m4, q⟩ := h
    refine ⟨_, (qss_cons (qs_set (i := 3) sc_places_of.nd rfl (Or.inl rfl) (qe_lstA qa_nil))
      (qss_cons (qs_set (i := 4) sc_places_of.nd rfl (Or.inl rfl) (qv 1))
      (qss_cons (qs_set (i := 5) sc_places_of.nd rfl (Or.inl rfl) (qe_call (ok_first_of T) (hr.mono (by decide)) rfl T.D_first_of.at_ T.D_first_of.fn.kp T.D_first_of.bd .nil pass0 (qa_c (qv 0) (qa_c (qv 4) qa_nil))))
      (qss_cons (qs_while PassesOwn.never (QW.pt (qw_and (qt_cmpR op_lt (qe_callB call_len_seq (by rfl) T.m_len b_len (qa_c (qv 3) qa_nil)) (qv 2) (nomark _)) (qw_and1 (qt_cmpR op_notN (qv 5) qe_non (nomark _)))))
        (qss_cons (qs_expr (qe_bm PySem.F.plainAttrs_list PySem.F.slot_list_append PySem.F.type_list_append mt_appendA (qv 3) (qa_c (qe_tupA (qa_c (qv 4) (qa_c (qv 5) qa_nil))) qa_nil)))
      (qss_cons (qs_set (i := 4) sc_places_of.nd rfl (Or.inl rfl) (qe_call (ok_moved T) (hr.mono (by decide)) rfl T.D_moved.at_ T.D_moved.fn.kp T.D_moved.bd .nil pass0 (qa_c (qv 4) (qa_c (qe_ix ix_list (qv 0) (qv 5) (fun _ _ => rfl)) (qa_c qe_int qa_nil)))))
      (qss_one (qs_set (i := 5) sc_places_of.nd rfl (Or.inl rfl) (qe_call (ok_first_of T) (hr.mono (by decide)) rfl T.D_first_of.at_ T.D_first_of.fn.kp T.D_first_of.bd .nil pass0 (qa_c (qv 0) (qa_c (qv 4) qa_nil))))))))
      (qss_cons (qs_expr (qe_bm PySem.F.plainAttrs_list PySem.F.slot_list_append PySem.F.type_list_append mt_appendA (qv 3) (qa_c (qe_tupA (qa_c (qv 4) (qa_c qe_non qa_nil))) qa_nil)))
      (qss_one (qs_ret (qv 3)))))))), ?_⟩
    refine ⟨(by show 0 <= sizeLine; decide), fun q' H1 f1 s1 hq1 => ?_⟩
    refine ⟨_, rfl, _, rfl, _, rfl, l, b, ys, R, ps, rfl, s1 _ _ hl, hrs.same s1, s1 _ _ hb, fun H3 s3 => ?_⟩
    refine while_own (fun σ H4 => ∃ (ws : List Nat) (zs : List V) (P : List (List Int)) (cur : List Int) (c : Addr), σ = [some (.ref l), some (.ref b), some (.int m), some (.ref q'), some (.ref c), some (optV (fstI R cur))] /\ Same H H4 /\ H4 q' = some (.lst zs) /\ PlW H4 zs P ws /\ (∀ i, i < P.length -> P[i]? = goN R i ps) /\ H4 c = some (tupI cur) /\ goN R ws.length ps = some cur /\ ws.length <= m.toNat /\ ws ++ trl R (m.toNat - ws.length) cur = trl R m.toNat ps)
      (fun _ H4 => m.toNat - lenU H4 q') ⟨[], [], [], ps, b, rfl, s1.trans s3, s3 _ _ hq1, ⟨rfl, rfl, fun i y hy => by cases hy⟩, (fun i hi => by cases hi), s3 _ _ (s1 _ _ hb), rfl, Nat.zero_le _, rfl⟩ ?_
    rintro σ H4 ⟨ws, zs, P, cur, c, rfl, s4, hq4, hP4, hgo, hc4, hcur, hwl, htr⟩
    have hc10 := goN_ok hR hp10 hnn hcur
    have zl := hP4.1
    have pl := hP4.2.1
    have done : ws = trl R m.toNat ps -> ∀ t H5, H4 t = none -> Same H4 H5 -> H5 t = some (.tup [.ref c, .non]) -> ∀ H6, But q' H5 H6 -> H6 q' = some (.lst (zs ++ [.ref t])) -> Q (.ref q') H6 := by
      intro ew t H5 f5 s5 ht H6 b6 hq6
      have k6 : Keep H5 H6 := Keep.but b6 (s5 _ _ hq4) hq6
      refine q q' H6 _ (P ++ [cur]) f1 ?_ hq6 ?_ ?_
      · intro e o eo
        exact b6 _ _ (ne_of_none eo f1) (s5 _ _ (s4 _ _ eo))
      · rw [← ew]
        exact ((hP4.keep (Keep.of s5)).keep k6).done (k6.tup ht) (k6.tup (s5 _ _ hc4))
      · intro i hi
        rw [List.length_append] at hi
        by_cases hi' : i < P.length
        · rw [List.getElem?_append_left hi']; exact hgo i hi'
        · have : i = P.length := by have : [cur].length = 1 := rfl; omega
          subst this
          rw [List.getElem?_concat_length, pl, hcur]
    refine ⟨_, rfl, q', _, rfl, .inl (SqL.of hq4), _, rfl, _, _, rfl, rfl, _, rfl, ite2 (fun h => ?_) (fun h => ?_)⟩
    · have h0 : (zs.length : Int) < m := of_decide_eq_true h
      obtain ⟨d, hd⟩ : ∃ d, m.toNat - ws.length = d + 1 := ⟨m.toNat - ws.length - 1, by omega⟩
      refine ⟨_, rfl, rfl, _, rfl, ?_⟩
      cases hfst : fstI R cur with
      | none =>
        refine iteF ?_
        rw [trl_none hfst, List.append_nil] at htr
        exact ⟨_, rfl, .inl ⟨rfl, _, SqL.of hq4⟩, _, rfl, (by show 2 <= sizeLine; decide), fun t H5 f5 s5 ht => ⟨q', zs, _, rfl, rfl, s5 _ _ hq4, by rw [zl, sizeLine_eq]; omega, fun H6 b6 hq6 => ⟨_, rfl, done htr t H5 f5 s5 ht H6 b6 hq6⟩⟩⟩
      | some k =>
        obtain ⟨dd, h2, _, _⟩ := fstI_lt hfst
        refine iteT (whN ⟨_, rfl, .inl ⟨rfl, _, SqL.of hq4⟩, _, rfl, _, rfl, (by show 2 <= sizeLine; decide), fun t H5 f5 s5 ht => ⟨q', zs, _, rfl, rfl, s5 _ _ hq4, by rw [zl, sizeLine_eq]; omega, fun H6 b6 hq6 => ?_⟩⟩)
        have k6 : Keep H5 H6 := Keep.but b6 (s5 _ _ hq4) hq6
        have s6 : Same H H6 := fun e o eo => b6 _ _ (ne_of_none eo f1) (s5 _ _ (s4 _ _ eo))
        obtain ⟨x, e, hx, rfl, he⟩ := (hrs.same s6).of h2
        have hc6 : H6 c = some (tupI cur) := k6.tup (s5 _ _ hc4)
        refine ⟨_, rfl, _, rfl, _, rfl, l, _, _, _, rfl, rfl, SqL.of (s6 _ _ hl), atI_nat hx, c, e, cur, dd, 1, rfl, hc6, he, ⟨by decide, by decide⟩, by omega, fun p' H7 s7 hp7 => ?_⟩
        refine ⟨_, rfl, _, rfl, l, p', ys, R, mvd cur dd 1, rfl, s7 _ _ (s6 _ _ hl), (hrs.same s6).same s7, hp7, fun H8 s8 => ?_⟩
        have s68 := s7.trans s8
        have hnx : goN R (ws.length + 1) ps = some (mvd cur dd 1) := by
          show (goN R ws.length ps).bind _ = _
          rw [hcur]
          exact stp_of hfst h2
        have hq8 := s68 _ _ hq6
        refine ⟨⟨ws ++ [k], zs ++ [.ref t], P ++ [cur], mvd cur dd 1, p', rfl, s6.trans s68, hq8, ?_, ?_, s8 _ _ hp7, ?_, ?_, ?_⟩, ?_⟩
        · exact (((hP4.keep (Keep.of s5)).keep k6).keep (Keep.of s68)).snoc (s68 _ _ (k6.tup ht)) (s68 _ _ hc6)
        · intro i hi
          rw [List.length_append] at hi
          by_cases hi' : i < P.length
          · rw [List.getElem?_append_left hi']; exact hgo i hi'
          · have : i = P.length := by have : [cur].length = 1 := rfl; omega
            subst this
            rw [List.getElem?_concat_length, pl, hcur]
        · rw [List.length_append]; exact hnx
        · rw [List.length_append]; show ws.length + 1 <= _; omega
        · rw [hd, trl_some hfst h2] at htr
          rw [List.length_append, show m.toNat - (ws.length + [k].length) = d by show m.toNat - (ws.length + 1) = d; omega, List.append_assoc]
          exact htr
        · show m.toNat - lenU H8 q' < m.toNat - lenU H4 q'
          rw [lenU_of hq8, lenU_of hq4, List.length_append]
          show m.toNat - (zs.length + 1) < m.toNat - zs.length
          omega
    · have h0 : ¬ (zs.length : Int) < m := fun z => h (decide_eq_true z)
      have hwm : ws.length = m.toNat := by omega
      rw [show m.toNat - ws.length = 0 by omega] at htr
      have htr' : ws = trl R m.toNat ps := by rw [← htr]; show ws = ws ++ []; rw [List.append_nil]
      exact ⟨_, rfl, .inl ⟨rfl, _, SqL.of hq4⟩, _, rfl, (by show 2 <= sizeLine; decide), fun t H5 f5 s5 ht => ⟨q', zs, _, rfl, rfl, s5 _ _ hq4, by rw [zl, sizeLine_eq]; omega, fun H6 b6 hq6 => ⟨_, rfl, done htr' t H5 f5 s5 ht H6 b6 hq6⟩⟩⟩
theorem cutV_init {xs : List V} : cutV xs none (some (-1)) = xs.take (xs.length - 1) := by
  unfold cutV
  have e : HT.sIx xs.length xs.length (some (-1)) = xs.length - 1 := by
    have := HT.clip_eq (-1) xs.length xs.length
    rw [if_pos (by decide)] at this
    omega
  rw [e]
  show (xs.drop 0).take (xs.length - 1 - 0) = _
  rw [List.drop_zero, Nat.sub_zero]
def sp_used_at : Sp := fun vs H Q _ => ∃ (l : Addr) (zs : List V) (P : List (List Int)) (U : List Nat), vs = [.ref l] /\ H l = some (.lst zs) /\ PlV H zs P U /\ U.length <= 5000 /\ ∀ p H', Same H H' -> H' p = some (tupI (natI U)) -> Q (.ref p) H'
theorem ok_used_at (T : Tx K mg) : FnOk P w K mg base CX0 1 T.f_used_at T.fd_used_at ["places"] sp_used_at := by
  refine T.D_used_at.fn.okQ sc_used_at (fun vs H Q E h => ?_) (fun cdv A outer s H vs Q E hr h => ?_)
  · obtain ⟨l, zs, P, U, rfl, _⟩ := h
    rfl
  · obtain ⟨l, zs, P, U, rfl, hl, hP, hU, q⟩ := h
    refine ⟨_, (qss_one (qs_ret (qe_callTy call_tuple_ofA (by rfl) T.m_tuple b_tuple (qa_c (qe_comp (compOk_of (osc := defScope s_used_at) (XN := ["places"]) (N := ["place"]) (js := [none]) rfl rfl rfl (List.forall_mem_nil _) (by decide +kernel) rfl) rfl (qi_list (qe_slice sl_list (qv 0) qo_none (qo_some (qe_un un_neg qe_int)))) (fun _ _ _ _ => (qg_name (i := 0) (show List.Nodup (["place"] : List Str) from by decide +kernel) rfl (Or.inl rfl) (Or.inr rfl))) (fun _ _ _ _ => qts_nil)
          (fun _ _ _ _ => (qe_ix (ix_tupN (K := K) rfl) (qv 0) qe_int (fun _ _ => rfl)))) qa_nil)))), ?_⟩
    have zl := hP.1
    refine ⟨_, rfl, _, rfl, _, rfl, l, zs, rfl, SqL.of hl, fun t ht => ?_⟩
    rw [cutV_init, show zs.length - 1 = U.length by omega]
    have s1 : Same H (upd H t (.lst (zs.take U.length))) := Same.new ht
    refine ⟨t, rfl, ⟨_, SqL.of upd_same⟩, fun D hD => ?_⟩
    refine comp_list (K := K) (a := t) (xs := zs.take U.length) (by rw [List.length_take, sizeLine_eq]; omega) (fun i σ' H' ys => (∃ u : Option V, σ' = [u]) /\ Same (upd H t (.lst (zs.take U.length))) H' /\ ys = (natI (U.take i)).map V.int) ⟨⟨_, rfl⟩, Same.new hD, rfl⟩ (fun i σ' H' ys _ _ ⟨_, s', _⟩ => SqL.of (s' _ _ upd_same)) ?_ ?_
    · rintro i x σ' H' ys R' hx hD' hyl ⟨⟨u, rfl⟩, s', rfl⟩ kk
      have hi : i < U.length := by
        have := (List.getElem?_eq_some_iff.mp hx).1
        rw [List.length_take] at this
        omega
      rw [List.getElem?_take_of_lt hi] at hx
      obtain ⟨c, a, y, p, rfl, hc, _, _, hu⟩ := hP.2.2 i x hx
      have hu' : U[i]? = some U[i] := List.getElem?_eq_getElem hi
      have := hu _ hu'
      subst this
      refine ⟨_, rfl, c, _, 1, _, rfl, rfl, SqT.of (s' _ _ (s1 _ _ hc)), rfl, kk _ _ _ hD' ⟨⟨_, rfl⟩, ?_, ?_⟩⟩
      · intro e o eo
        rw [upd_ne (ne_of_none eo hD)]
        exact s' _ _ eo
      · rw [List.take_add_one, hu']
        unfold natI
        rw [List.map_append, List.map_append]
        rfl
    · rintro σ' H' ys hD' hyl ⟨_, s', rfl⟩
      rw [List.length_take, show min U.length zs.length = U.length by omega, List.take_length] at hD'
      exact ⟨D, _, rfl, SqL.of hD', fun p H5 f5 s5 hp => q p H5 ((s1.trans s').trans s5) hp⟩
def sp_stays_shut : Sp := fun vs H Q _ => ∃ (a b d : Addr) (c p e : List Int), vs = [.ref a, .ref b, .ref d] /\ H a = some (tupI c) /\ H b = some (tupI p) /\ H d = some (tupI e) /\ c.length = 10 /\ p.length = 10 /\ e.length = 10 /\ ∀ H', Same H H' -> Q (.bl (shutB c p e)) H'
theorem ok_stays_shut (T : Tx K mg) : FnOk P w K mg base CX0 1 T.f_stays_shut T.fd_stays_shut ["changes", "powers", "added"] sp_stays_shut := by
  refine T.D_stays_shut.fn.okQ sc_stays_shut (fun vs H Q E h => ?_) (fun cdv A outer s H vs Q E hr h => ?_)
  · obtain ⟨a, b, d, c, p, e, rfl, _⟩ := h
    rfl
  · obtain ⟨a, b, d, c, p, e, rfl, ha, hb, hd, cl, pl, el, q⟩ := h
    refine ⟨_, (qss_one (qs_ret (qe_callB (call_any rfl) (by rfl) T.m_any b_any (qa_c (qe_comp (compOk_of (osc := defScope s_stays_shut) (XN := ["changes", "powers", "added"]) (N := ["change", "power", "more"]) (js := [none, none, none]) rfl rfl rfl (List.forall_mem_nil _) (by decide +kernel) rfl) rfl (qi_zip3 rfl rfl T.m_zip (qa_c (qv 0) (qa_c (qv 1) (qa_c (qv 2) qa_nil)))) (fun _ _ _ _ => (qg_tupN (K := K) (n := 3) rfl rfl (qgs_cons (qg_name (i := 0) (show List.Nodup (["change", "power", "more"] : List Str) from by decide +kernel) rfl (Or.inl rfl) (Or.inr rfl)) (qgs_cons (qg_name (i := 1) (show List.Nodup (["change", "power", "more"] : List Str) from by decide +kernel) rfl (Or.inl rfl) (Or.inr rfl)) (qgs_cons (qg_name (i := 2) (show List.Nodup (["change", "power", "more"] : List Str) from by decide +kernel) rfl (Or.inl rfl) (Or.inr rfl)) qgs_nil))))) (fun _ _ _ _ => qts_nil)
          (fun _ _ _ _ => (qe_and (qe_cmpR op_lt (qe_op op_add (qv 1) (qv 0)) qe_int (nomark _)) (qe_one (qe_cmpR op_eq (qv 2) qe_int (nomark _)))))) qa_nil)))), ?_⟩
    refine ⟨_, rfl, _, rfl, _, rfl, a, b, d, rfl, ⟨_, SqT.of ha⟩, ⟨_, SqT.of hb⟩, ⟨_, SqT.of hd⟩, fun D hD => ?_⟩
    refine comp_zip3 (K := K) (a := a) (b := b) (c := d) (xs := c.map V.int) (ys := p.map V.int) (ws := e.map V.int) (by rw [List.length_map, List.length_map]; omega) (by rw [List.length_map, List.length_map]; omega) (by rw [List.length_map, sizeLine_eq]; omega) (fun i σ' H' zs => (∃ u v x : Option V, σ' = [u, v, x]) /\ Same H H' /\ zs = ((List.range i).map fun k => decide (p.getD k 0 + c.getD k 0 < 0) && decide (e.getD k 0 = 0)).map V.bl) ⟨⟨_, _, _, rfl⟩, Same.new hD, rfl⟩ (fun i σ' H' zs _ ⟨_, s', _⟩ => ⟨SqT.of (s' _ _ ha), SqT.of (s' _ _ hb), SqT.of (s' _ _ hd)⟩) ?_ ?_
    · rintro i x y v t σ' H' zs R hx hy hv ht hD' hzl ⟨⟨u1, u2, u3, rfl⟩, s', rfl⟩ kk
      obtain ⟨x, rfl, hx'⟩ := map_int_get hx
      obtain ⟨y, rfl, hy'⟩ := map_int_get hy
      obtain ⟨v, rfl, hv'⟩ := map_int_get hv
      refine ⟨t, _, rfl, SqT.of upd_same, rfl, _, _, rfl, _, _, rfl, _, _, rfl, rfl, ?_⟩
      have fin : ∀ bb : Bool, bb = (decide (p.getD i 0 + c.getD i 0 < 0) && decide (e.getD i 0 = 0)) -> R [some (.int x), some (.int y), some (.int v)] (.bl bb) (upd H' t (.tup [.int x, .int y, .int v])) := by
        rintro bb rfl
        refine kk _ _ _ ?_ ⟨⟨_, _, _, rfl⟩, ?_, ?_⟩
        · rw [upd_ne (ne_of_none hD' ht)]; exact hD'
        · intro c o e
          rw [upd_ne (ne_of_none e hD), upd_ne (ne_of_none (s' _ _ e) ht)]
          exact s' _ _ e
        · rw [List.range_succ, List.map_append, List.map_append]
          rfl
      have ex : c.getD i 0 = x := by rw [List.getD_eq_getElem?_getD, hx']; rfl
      have ey : p.getD i 0 = y := by rw [List.getD_eq_getElem?_getD, hy']; rfl
      have ev : e.getD i 0 = v := by rw [List.getD_eq_getElem?_getD, hv']; rfl
      rw [ex, ey, ev] at fin
      refine ⟨_, rfl, _, rfl, _, _, rfl, rfl, _, _, rfl, rfl, _, rfl, ite2 (fun h => ?_) (fun h => ?_)⟩
      · refine ⟨_, rfl, rfl, fin _ ?_⟩
        rw [show decide (y + x < 0) = true from h, Bool.true_and, decide_eq_decide]
        exact ⟨fun z => by cases z; rfl, fun z => by rw [z]⟩
      · refine fin false ?_
        cases z : decide (y + x < 0) with
        | true => exact absurd z h
        | false => rfl
    · rintro σ' H' zs hD' hzl ⟨_, s', rfl⟩
      refine ⟨D, _, rfl, SqL.of hD', ?_⟩
      have q' := q H' s'
      unfold shutB at q'
      rw [List.length_map, cl, List.any_map]
      exact q'
end
end W2
namespace W2
open PySem L2 Mth
section
variable {P : Program} {w : World} {K : PySem.W.Frag} {mg : Str -> Option Value} {base : Heap}
theorem nn_of_min {p : List Int} {M : Int} (h1 : M ∈ p) (h2 : ∀ a ∈ p, M <= a) : nn p = decide (0 <= M) := by
  by_cases h : 0 <= M
  · rw [decide_eq_true h, nn_iff]
    intro x hx
    have := h2 x hx
    omega
  · rw [decide_eq_false h, Bool.eq_false_iff]
    intro z
    exact h (nn_iff.mp z M h1)
theorem all_false {l : List (List Int)} {f : List Int -> Bool} (h : ¬ (l.map f).all id = true) : ∃ c ∈ l, f c = false := by
  rw [List.all_map] at h
  have : ∃ c ∈ l, ¬ (f c = true) := by
    simpa [List.all_eq_true] using h
  obtain ⟨c, hc, hf⟩ := this
  exact ⟨c, hc, by cases z : f c with | true => exact absurd z hf | false => rfl⟩
def sp_added_along : Sp := fun vs H Q _ => ∃ (l q' : Addr) (ys zs : List V) (R P : List (List Int)) (U : List Nat), vs = [.ref l, .ref q'] /\ H l = some (.lst ys) /\ RowsV H ys R /\ R10 R /\ R.length <= 1000 /\ H q' = some (.lst zs) /\ PlV H zs P U /\ R10 P /\ U.length <= 5000 /\
  (addL R P U = none -> ∀ H', Same H H' -> Q .non H') /\ (∀ d, addL R P U = some d -> ∀ p H', Same H H' -> H' p = some (tupI d) -> Q (.ref p) H')
theorem ok_added_along (T : Tx K mg) : FnOk P w K mg base CX0 2 T.f_added_along T.fd_added_along ["rows", "places"] sp_added_along := by
  refine T.D_added_along.fn.okQ sc_added_along (fun vs H Q E h => ?_) (fun cdv A outer s H vs Q E hr h => ?_)
  · obtain ⟨l, q', ys, zs, R, P, U, rfl, _⟩ := h
    rfl
  · obtain ⟨l, q', ys, zs, R, P, U, rfl, hl, hrs, hR, Rl, hq, hP, hP10, hU, q0, q1⟩ := h
    refine ⟨_, (qss_cons (qs_set (i := 2) sc_added_along.nd rfl (Or.inr rfl) (qe_call (ok_moved T) (hr.mono (by decide)) rfl T.D_moved.at_ T.D_moved.fn.kp T.D_moved.bd .nil pass0 (qa_c (qe_ix ix_tup (qe_ix ix_list (qv 1) (qe_un un_neg qe_int) (fun _ _ => rfl)) qe_int (fun _ _ => rfl)) (qa_c (qe_ix ix_tup (qe_ix ix_list (qv 1) qe_int (fun _ _ => rfl)) qe_int (fun _ _ => rfl)) (qa_c (qe_un un_neg qe_int) qa_nil)))))
      (qss_cons (qs_if (qt_cmpR op_lt (qe_callB (call_minT rfl) (by rfl) T.m_min b_min (qa_c (qv 2) qa_nil)) qe_int (nomark _))
        (qss_one (qs_ret qe_non))
        qss_nil)
      (qss_cons (qs_for PassesOwn.never rfl (qi_list (qe_slice sl_list (qv 1) qo_none (qo_some (qe_un un_neg qe_int)))) (qg_tup rfl (qgs_cons (qg_name (i := 3) sc_added_along.nd rfl (Or.inr rfl)) (qgs_cons (qg_name (i := 4) sc_added_along.nd rfl (Or.inl rfl)) qgs_nil)))
        (qss_one (qs_if (qt_not (qt_val (qe_callB (call_all rfl) (by rfl) T.m_all b_all (qa_c (qe_comp (compOk_of (osc := defScope s_added_along) (XN := ["rows", "places", "added", "powers", "number"]) (N := ["changes", "powers", "added"]) (js := [none, some 3, some 2]) rfl rfl rfl (List.forall_mem_cons.mpr ⟨rfl, (List.forall_mem_cons.mpr ⟨rfl, (List.forall_mem_nil _)⟩)⟩) (by decide +kernel) rfl) rfl (qi_list (qe_slice sl_list (qv 0) qo_none (qo_some (qv 4)))) (fun _ _ _ _ => (qg_name (i := 0) (show List.Nodup (["changes", "powers", "added"] : List Str) from by decide +kernel) rfl (Or.inl rfl) (Or.inr rfl))) (fun _ _ _ _ => qts_nil)
          (fun _ _ _ _ => (qe_call (ok_stays_shut T) (hr.mono (by decide)) rfl T.D_stays_shut.at_ T.D_stays_shut.fn.kp T.D_stays_shut.bd .nil pass0 (qa_c (qv 0) (qa_c (qv 1) (qa_c (qv 2) qa_nil)))))) qa_nil))))
        (qss_one (qs_ret qe_non))
        qss_nil)))
      (qss_one (qs_ret (qv 2)))))), ?_⟩
    have zl := hP.1
    have pl := hP.2.1
    obtain ⟨cn, an, xn, pn, ecn, hcn, hpn, han, _⟩ := hP.2.2 U.length (zs[U.length]'(by omega)) (List.getElem?_eq_getElem (by omega))
    obtain ⟨c0, a0, x0, p0, ec0, hc0, hp0, ha0, _⟩ := hP.2.2 0 (zs[0]'(by omega)) (List.getElem?_eq_getElem (by omega))
    have hzn : zs[U.length]? = some (.ref cn) := by rw [List.getElem?_eq_getElem (by omega), ecn]
    have hz0 : zs[0]? = some (.ref c0) := by rw [List.getElem?_eq_getElem (by omega), ec0]
    have pn10 := hP10 pn (List.mem_of_getElem? hpn)
    have p010 := hP10 p0 (List.mem_of_getElem? hp0)
    refine ⟨_, rfl, _, rfl, q', _, _, _, rfl, rfl, SqL.of hq, atI_end zl hzn, cn, _, 0, _, rfl, rfl, SqT.of hcn, rfl, _, rfl, q', _, 0, _, rfl, rfl, SqL.of hq, atI_of (by decide) hz0, c0, _, 0, _, rfl, rfl, SqT.of hc0, rfl, _, rfl, ?_⟩
    refine ⟨an, a0, pn, p0, -1, rfl, han, ha0, ⟨by decide, by decide⟩, by omega, fun ad H1 s1 had => ?_⟩
    have ed : addD P U.length = mvd pn p0 (-1) := by
      unfold addD
      rw [List.getD_eq_getElem?_getD, hpn, List.getD_eq_getElem?_getD, hp0]
      rfl
    rw [← ed] at had
    have dl : (addD P U.length).length = 10 := addD_len hpn hp0 pn10 p010
    generalize hd : addD P U.length = d at *
    refine ⟨_, rfl, ad, d, rfl, SqT.of had, (by intro z; rw [z] at dl; cases dl), fun M m1 m2 => ⟨_, _, rfl, rfl, _, rfl, ite2 (fun h => ?_) (fun h => ?_)⟩⟩
    · have h0 : M < 0 := of_decide_eq_true h
      refine q0 (addL_neg ?_) H1 s1
      rw [hd, nn_of_min m1 m2, decide_eq_false (by omega)]
    · have h0 : ¬ M < 0 := fun z => h (decide_eq_true z)
      have hnn : nn d = true := by rw [nn_of_min m1 m2, decide_eq_true (by omega)]
      refine ⟨_, rfl, _, rfl, _, rfl, q', zs, rfl, SqL.of (s1 _ _ hq), fun t ht => ?_⟩
      rw [cutV_init, show zs.length - 1 = U.length by omega]
      have s2 : Same H1 (upd H1 t (.lst (zs.take U.length))) := Same.new ht
      have s12 := s1.trans s2
      refine ⟨t, rfl, ⟨_, SqL.of upd_same⟩, for_list (K := K) (a := t) (xs := zs.take U.length) (fun i σ H2 => (∃ u v : Option V, σ = [some (.ref l), some (.ref q'), some (.ref ad), u, v]) /\ Same (upd H1 t (.lst (zs.take U.length))) H2 /\ ∀ (k u : Nat) (p : List Int), k < i -> U[k]? = some u -> P[k]? = some p -> ∀ c ∈ R.take u, shutB c p d = true) ⟨⟨_, _, rfl⟩, Same.refl _, fun k u p hk => absurd hk (Nat.not_lt_zero _)⟩ (fun i σ H2 _ ⟨_, s', _⟩ => SqL.of (s' _ _ upd_same)) ?_ ?_⟩
      · rintro i x σ H2 hx ⟨⟨u, v, rfl⟩, s', hall⟩
        have hi : i < U.length := by
          have := (List.getElem?_eq_some_iff.mp hx).1
          rw [List.length_take] at this
          omega
        rw [List.getElem?_take_of_lt hi] at hx
        obtain ⟨c, a, y, p, rfl, hc, hp, ha, hu⟩ := hP.2.2 i x hx
        have hu' : U[i]? = some U[i] := List.getElem?_eq_getElem hi
        have := hu _ hu'
        subst this
        have s02 := s12.trans s'
        have p10 := hP10 p (List.mem_of_getElem? hp)
        refine ⟨c, _, rfl, SqT.of (s02 _ _ hc), rfl, _, _, rfl, _, _, rfl, rfl, ?_⟩
        refine ⟨_, rfl, _, rfl, _, rfl, l, ys, rfl, SqL.of (s02 _ _ hl), fun t2 ht2 => ?_⟩
        rw [cutV_pre (Int.natCast_nonneg _), Int.toNat_natCast]
        have s3 : Same H2 (upd H2 t2 (.lst (ys.take U[i]))) := Same.new ht2
        have s03 := s02.trans s3
        have yl := hrs.1
        refine ⟨t2, rfl, ⟨_, SqL.of upd_same⟩, fun D hD => ?_⟩
        refine comp_list (K := K) (a := t2) (xs := ys.take U[i]) (by rw [List.length_take, sizeLine_eq]; omega) (fun j σ' H' zs => (∃ u : Option V, σ' = [u, some (.ref a), some (.ref ad)]) /\ Same (upd H2 t2 (.lst (ys.take U[i]))) H' /\ zs = (((R.take U[i]).take j).map fun c => shutB c p d).map V.bl) ⟨⟨_, rfl⟩, Same.new hD, rfl⟩ (fun j σ' H' zs _ _ ⟨_, s', _⟩ => SqL.of (s' _ _ upd_same)) ?_ ?_
        · rintro j x σ' H' zs' R' hx hD' hyl ⟨⟨u, rfl⟩, s4, rfl⟩ kk
          have hj : j < U[i] := by
            have := (List.getElem?_eq_some_iff.mp hx).1
            rw [List.length_take] at this
            omega
          rw [List.getElem?_take_of_lt hj] at hx
          obtain ⟨rc, ra, hrc, rfl, hra⟩ := hrs.at hx
          have s04 := s03.trans s4
          refine ⟨_, rfl, _, rfl, _, rfl, ra, a, ad, rc, p, d, rfl, s04 _ _ hra, s04 _ _ ha, s4 _ _ (s3 _ _ (s' _ _ (s2 _ _ had))), hR rc (List.mem_of_getElem? hrc), p10, dl, fun H5 s5 => ?_⟩
          refine kk _ _ _ (s5 _ _ hD') ⟨⟨_, rfl⟩, ?_, ?_⟩
          · intro e o eo
            rw [upd_ne (ne_of_none eo hD)]
            exact s5 _ _ (s4 _ _ eo)
          · have : (R.take U[i])[j]? = some rc := by rw [List.getElem?_take_of_lt hj]; exact hrc
            rw [List.take_add_one, this, List.map_append, List.map_append]
            rfl
        · rintro σ' H3 zs' hD' hyl ⟨_, s4, rfl⟩
          rw [List.take_of_length_le (by rw [List.length_take, List.length_take]; omega)] at hD'
          refine ⟨D, _, rfl, SqL.of hD', _, rfl, ?_⟩
          cases hb : ((R.take U[i]).map fun c => shutB c p d).all id with
          | false =>
            obtain ⟨cc, hcc, hs⟩ := all_false (f := fun c => shutB c p d) (by rw [hb]; intro z; cases z)
            refine iteT (q0 (addL_no hu' hcc hp ?_) H3 (s03.trans s4))
            rw [hd]
            exact hs
          | true =>
            refine iteF ⟨⟨_, _, rfl⟩, (s'.trans s3).trans s4, fun k u p' hk hku hkp c hc => ?_⟩
            by_cases hki : k = i
            · subst hki
              rw [hu'] at hku
              cases hku
              rw [hp] at hkp
              cases hkp
              rw [List.all_map, List.all_eq_true] at hb
              exact hb c hc
            · exact hall k u p' (by omega) hku hkp c hc
      · rintro σ H2 ⟨⟨u, v, rfl⟩, s', hall⟩
        have hlen : (zs.take U.length).length = U.length := by rw [List.length_take]; omega
        refine ⟨_, rfl, q1 d ?_ ad H2 (s12.trans s') (s' _ _ (s2 _ _ had))⟩
        have := addL_some (R := R) (P := P) (U := U) (by rw [hd]; exact hnn) (by rw [hd]; exact loopB_of (fun k u p hku hkp c hc => hall k u p (by rw [hlen]; exact (List.getElem?_eq_some_iff.mp hku).1) hku hkp c hc) (by omega))
        rw [hd] at this
        exact this
theorem PlV.cut {H : Hp} {zs : List V} {P : List (List Int)} {U : List Nat} (h : PlV H zs P U) {s e : Nat} (hs : s < e) (he : e <= U.length) : PlV H (cutL zs s (e + 1)) (cutL P s (e + 1)) (cutL U s e) := by
  obtain ⟨h1, h2, h3⟩ := h
  have l1 : (cutL U s e).length = e - s := cutL_len he
  refine ⟨by rw [cutL_len (by omega), l1]; omega, by rw [cutL_len (by omega), l1]; omega, fun i y hy => ?_⟩
  have hi : i < e + 1 - s := by
    rcases Nat.lt_or_ge i (e + 1 - s) with z | z
    · exact z
    · rw [cutL_none z] at hy; cases hy
  rw [cutL_get hi] at hy
  obtain ⟨c, a, x, p, g1, g2, g3, g4, g5⟩ := h3 (s + i) y hy
  refine ⟨c, a, x, p, g1, g2, by rw [cutL_get hi]; exact g3, g4, fun u hu => ?_⟩
  have hi' : i < e - s := by
    rcases Nat.lt_or_ge i (e - s) with z | z
    · exact z
    · rw [cutL_none z] at hu; cases hu
  rw [cutL_get hi'] at hu
  exact g5 u hu
theorem cutV_mid {xs : List V} {s e : Nat} (he : e <= xs.length) (hs : s <= e) : cutV xs (some (s : Int)) (some (e : Int)) = cutL xs s e := by
  unfold cutV cutL
  rw [sIx_of (Int.natCast_nonneg s), sIx_of (Int.natCast_nonneg e), Int.toNat_natCast, Int.toNat_natCast, Nat.min_eq_left (by omega), Nat.min_eq_left (by omega)]
def LoopV (H : Hp) (p : Addr) (s : Nat) (U : List Nat) (d : List Int) : Prop := ∃ t a, H p = some (.tup [.int (s : Int), .ref t, .ref a]) /\ H t = some (tupI (natI U)) /\ H a = some (tupI d)
def FstQ (R P : List (List Int)) (U : List Nat) (H : Hp) (Q : VK) : Prop := (FL R P U none -> ∀ H', Same H H' -> Q .non H') /\ ∀ s e d, FL R P U (some (s, e, d)) -> ∀ p H', Same H H' -> LoopV H' p s (cutL U s e) d -> Q (.ref p) H'
theorem cutL_mem {α : Type} {l : List α} {s e : Nat} {x : α} (h : x ∈ cutL l s e) : x ∈ l := List.mem_of_mem_drop (List.mem_of_mem_take h)
def sp_first_loop : Sp := fun vs H Q _ => ∃ (b a : Addr) (xs : List V) (fs : List (Int × Int)) (ps : List Int) (m : Int), vs = [.ref b, .ref a, .int m] /\ H b = some (.tup xs) /\ FrcsV H xs fs /\ xs.length <= 1000 /\ H a = some (tupI ps) /\ ps.length = 10 /\ nn ps = true /\ 0 <= m /\ m <= 1000 /\
  ∀ P, PathR (rowsOf fs) m.toNat ps P -> FstQ (rowsOf fs) P (trl (rowsOf fs) m.toNat ps) H Q
theorem ok_first_loop (T : Tx K mg) : FnOk P w K mg base CX0 5 T.f_first_loop T.fd_first_loop ["program", "powers", "most"] sp_first_loop := by
  refine T.D_first_loop.fn.okQ sc_first_loop (fun vs H Q E h => ?_) (fun cdv A outer s H vs Q E hr h => ?_)
  · obtain ⟨b, a, xs, fs, ps, m, rfl, _⟩ := h
    rfl
  · obtain ⟨b, a, xs, fs, ps, m, rfl, hb, hf, hl, ha, hp10, hnn, m0, m4, q⟩ := h
    refine ⟨_, (qss_cons (qs_set (i := 3) sc_first_loop.nd rfl (Or.inl rfl) (qe_call (ok_changes_of T) (hr.mono (by decide)) rfl T.D_changes_of.at_ T.D_changes_of.fn.kp T.D_changes_of.bd .nil pass0 (qa_c (qv 0) qa_nil)))
      (qss_cons (qs_set (i := 4) sc_first_loop.nd rfl (Or.inl rfl) (qe_call (ok_places_of T) (hr.mono (by decide)) rfl T.D_places_of.at_ T.D_places_of.fn.kp T.D_places_of.bd .nil pass0 (qa_c (qv 3) (qa_c (qv 1) (qa_c (qv 2) qa_nil)))))
      (qss_cons (qs_set (i := 5) sc_first_loop.nd rfl (Or.inl rfl) (qe_op op_sub (qe_callB call_len_seq (by rfl) T.m_len b_len (qa_c (qv 4) qa_nil)) qe_int))
      (qss_cons (qs_for PassesOwn.never rfl (qi_range1 rfl T.m_range (qa_c (qv 5) qa_nil)) (qg_name (i := 6) sc_first_loop.nd rfl (Or.inl rfl))
        (qss_one (qs_for PassesOwn.never rfl (qi_range2 rfl T.m_range (qa_c (qe_op op_add (qv 6) qe_int) (qa_c (qe_op op_add (qe_callB (call_min2 rfl) (by rfl) T.m_min b_min (qa_c (qe_op op_add (qv 6) (qe_globC (by rfl) T.g_MOST_PLACES)) (qa_c (qv 5) qa_nil))) qe_int) qa_nil))) (qg_name (i := 7) sc_first_loop.nd rfl (Or.inl rfl))
        (qss_cons (qs_set (i := 8) sc_first_loop.nd rfl (Or.inl rfl) (qe_slice sl_list (qv 4) (qo_some (qv 6)) (qo_some (qe_op op_add (qv 7) qe_int))))
      (qss_cons (qs_set (i := 9) sc_first_loop.nd rfl (Or.inl rfl) (qe_call (ok_added_along T) (hr.mono (by decide)) rfl T.D_added_along.at_ T.D_added_along.fn.kp T.D_added_along.bd .nil pass0 (qa_c (qv 3) (qa_c (qv 8) qa_nil))))
      (qss_one (qs_if (qt_cmpR op_notN (qv 9) qe_non (nomark _))
        (qss_one (qs_ret (qe_tupA (qa_c (qv 6) (qa_c (qe_call (ok_used_at T) (hr.mono (by decide)) rfl T.D_used_at.at_ T.D_used_at.fn.kp T.D_used_at.bd .nil pass0 (qa_c (qv 8) qa_nil)) (qa_c (qv 9) qa_nil))))))
        qss_nil)))))))
      (qss_one (qs_ret qe_non)))))), ?_⟩
    have R := rowsOf_10 fs
    refine ⟨_, rfl, b, xs, fs, rfl, hb, hf, hl, fun l H1 ys fl s1 hl1 hr1 => ?_⟩
    refine ⟨_, rfl, _, rfl, _, rfl, l, a, ys, rowsOf fs, ps, m, rfl, hl1, hr1, R, s1 _ _ ha, hp10, hnn, m0, by omega, fun pl H2 zs P fpl s2 hpl hP hgo => ?_⟩
    have hPath : PathR (rowsOf fs) m.toNat ps P := ⟨hP.2.1, hgo⟩
    have hP10 := hPath.ten R hp10 hnn
    obtain ⟨qn, qs⟩ := q P hPath
    have ul := trl_len (rowsOf fs) m.toNat ps
    generalize hUU : trl (rowsOf fs) m.toNat ps = U at *
    have zl := hP.1
    have Pl := hP.2.1
    have s12 := s1.trans s2
    refine ⟨_, rfl, pl, _, rfl, .inl (SqL.of hpl), _, _, rfl, rfl, ?_⟩
    have emany : (zs.length : Int) - 1 = (U.length : Int) := by omega
    have rl : (rowsOf fs).length <= 1000 := by rw [rowsOf_len, ← hf.1]; exact hl
    refine ⟨_, rfl, (zs.length : Int) - 1, rfl, by omega, by omega, for_range (n := ((zs.length : Int) - 1).toNat) (fun i σ H3 => (∃ u1 u2 u3 u4 : Option V, σ = [some (.ref b), some (.ref a), some (.int m), some (.ref l), some (.ref pl), some (.int ((zs.length : Int) - 1)), u1, u2, u3, u4]) /\ Same H2 H3 /\ ∀ s' e', InB U.length s' e' -> s' < i -> partL (rowsOf fs) P U s' e' = none) ⟨⟨_, _, _, _, rfl⟩, Same.refl _, fun s' e' _ h => absurd h (Nat.not_lt_zero _)⟩ ?_ ?_⟩
    · rintro i σ H3 hi ⟨⟨u1, u2, u3, u4, rfl⟩, s3, hall⟩
      refine ⟨_, rfl, _, _, rfl, rfl, _, rfl, _, _, rfl, rfl, _, rfl, _, _, rfl, _, _, rfl, rfl, ?_⟩
      generalize hhi : (if (zs.length : Int) - 1 < 0 + (i : Int) + 40 then (zs.length : Int) - 1 else 0 + (i : Int) + 40) + 1 = hi'
      have hhi' : hi' = ((min U.length (i + 40) + 1 : Nat) : Int) := by
        rw [← hhi]
        split <;> omega
      refine ⟨0 + (i : Int) + 1, hi', (by subst hhi; rfl), ⟨by omega, by omega, by omega, by omega⟩, for_range (n := (hi' - (0 + (i : Int) + 1)).toNat) (fun j σ H4 => (∃ u2 u3 u4 : Option V, σ = [some (.ref b), some (.ref a), some (.int m), some (.ref l), some (.ref pl), some (.int ((zs.length : Int) - 1)), some (.int (0 + (i : Int))), u2, u3, u4]) /\ Same H2 H4 /\ ∀ s' e', InB U.length s' e' -> (s' < i ∨ (s' = i /\ e' < i + 1 + j)) -> partL (rowsOf fs) P U s' e' = none) ⟨⟨_, _, _, rfl⟩, s3, fun s' e' hB h => ?_⟩ ?_ ?_⟩
      · rcases h with z | ⟨z, w⟩
        · exact hall s' e' hB z
        · have := hB.1; omega
      · rintro j σ H4 hj ⟨⟨u2, u3, u4, rfl⟩, s4, hall4⟩
        have hB : InB U.length i (i + 1 + j) := ⟨by omega, by omega, by omega⟩
        have s24 := s12.trans s4
        refine ⟨_, rfl, _, rfl, _, rfl, _, rfl, _, _, rfl, rfl, _, rfl, pl, zs, rfl, SqL.of (s4 _ _ hpl), fun pt hpt => ?_⟩
        have ec : cutV zs (some (0 + (i : Int))) (some (0 + (i : Int) + 1 + (j : Int) + 1)) = cutL zs i (i + 1 + j + 1) := by
          rw [show (0 : Int) + (i : Int) = ((i : Nat) : Int) by omega, show ((i : Nat) : Int) + 1 + (j : Int) + 1 = ((i + 1 + j + 1 : Nat) : Int) by omega]
          exact cutV_mid (by have := hB.2.1; omega) (by omega)
        rw [ec]
        have s5 : Same H4 (upd H4 pt (.lst (cutL zs i (i + 1 + j + 1)))) := Same.new hpt
        generalize hH5 : upd H4 pt (.lst (cutL zs i (i + 1 + j + 1))) = H5 at *
        have hpt5 : H5 pt = some (.lst (cutL zs i (i + 1 + j + 1))) := by rw [← hH5]; exact upd_same
        have s45 := s4.trans s5
        have hP5 : PlV H5 (cutL zs i (i + 1 + j + 1)) (cutL P i (i + 1 + j + 1)) (cutL U i (i + 1 + j)) := (hP.cut (s := i) (e := i + 1 + j) (by omega) hB.2.1).keep (Keep.of s45)
        have cl : (cutL U i (i + 1 + j)).length <= 5000 := by rw [cutL_len hB.2.1]; omega
        have hl5 := s45 _ _ (s2 _ _ hl1)
        refine ⟨_, rfl, _, rfl, l, pt, ys, _, rowsOf fs, _, _, rfl, hl5, (hr1.same s2).same s45, R, rl, hpt5, hP5, fun p hm => (hP10 p (cutL_mem hm)).1, cl, fun hno H6 s6 => ?_, fun d hd ad H6 s6 had => ?_⟩
        · refine ⟨_, rfl, rfl, _, rfl, iteF ⟨⟨_, _, _, rfl⟩, s45.trans s6, fun s' e' hB' h => ?_⟩⟩
          by_cases hse : s' = i /\ e' = i + 1 + j
          · obtain ⟨rfl, rfl⟩ := hse
            exact hno
          · exact hall4 s' e' hB' (by omega)
        · refine ⟨_, rfl, rfl, _, rfl, iteT ⟨_, rfl, _, rfl, pt, _, _, _, rfl, s6 _ _ hpt5, hP5.keep (Keep.of s6), cl, fun ut H7 s7 hut => ⟨_, rfl, (by show 3 <= sizeLine; decide), fun rt H8 f8 s8 hrt => ?_⟩⟩⟩
          refine qs i (i + 1 + j) d ⟨hB, hd, fun s' e' hB' h => hall4 s' e' hB' h⟩ rt H8 ((((s12.trans s45).trans s6).trans s7).trans s8) ⟨ut, ad, ?_, s8 _ _ hut, s8 _ _ (s7 _ _ had)⟩
          rw [hrt, Int.zero_add]
      · rintro σ H4 ⟨⟨u2, u3, u4, rfl⟩, s4, hall4⟩
        refine ⟨⟨_, _, _, _, rfl⟩, s4, fun s' e' hB h => hall4 s' e' hB ?_⟩
        have h1 := hB.1
        have h2 := hB.2.1
        have h3 := hB.2.2
        omega
    · rintro σ H3 ⟨⟨u1, u2, u3, u4, rfl⟩, s3, hall⟩
      refine qn (fun s' e' hB => hall s' e' hB ?_) H3 (s12.trans s3)
      have := hB.1
      have := hB.2.1
      omega
def FoV (H : Hp) (v : V) : FO -> Prop
  | .round b l => ∃ a, v = .ref a /\ H a = some (.tup [.str "round", .int (b : Int), .int (l : Int)])
  | .rests n c => ∃ a d, v = .ref a /\ H a = some (.tup [.str "rests", .int (n : Int), .ref d]) /\ H d = some (tupI c)
  | .open_ => ∃ a, v = .ref a /\ H a = some (.tup [.str "open"])
structure SeenD (rows : List (List Int)) (ps : List Int) (i : Nat) (kvs : List (List Key × V)) : Prop where
  len : kvs.length <= i
  out : ∀ e v, valV kvs (kI e) = some v -> ∃ j : Nat, j < i /\ v = .int (j : Int) /\ goN rows j ps = some e
  inn : ∀ (j : Nat), j < i -> ∀ e, goN rows j ps = some e -> ∃ v, valV kvs (kI e) = some v
theorem SeenD.nil {rows : List (List Int)} {ps : List Int} : SeenD rows ps 0 [] := ⟨Nat.le_refl _, (fun e v h => by cases h), (fun j h => by omega)⟩
theorem SeenD.put {rows : List (List Int)} {ps cur : List Int} {i : Nat} {kvs : List (List Key × V)} (S : SeenD rows ps i kvs) (hc : goN rows i ps = some cur) : SeenD rows ps (i + 1) (putK kvs (kI cur) (.int (i : Int))) := by
  refine ⟨?_, fun e v h => ?_, fun j hj e he => ?_⟩
  · have := length_putK kvs (kI cur) (.int (i : Int))
    have := S.len
    omega
  · by_cases z : e = cur
    · subst z
      rw [valV_put_self] at h
      exact ⟨i, by omega, (Option.some.inj h).symm, hc⟩
    · rw [valV_put_ne z] at h
      obtain ⟨j, h1, h2⟩ := S.out e v h
      exact ⟨j, by omega, h2⟩
  · by_cases z : e = cur
    · subst z
      exact ⟨_, valV_put_self⟩
    · rw [valV_put_ne z]
      by_cases hji : j = i
      · subst hji
        rw [hc] at he
        exact absurd (Option.some.inj he).symm z
      · exact S.inn j (by omega) e he
theorem SeenD.fresh {rows : List (List Int)} {ps cur : List Int} {i : Nat} {kvs : List (List Key × V)} (S : SeenD rows ps i kvs) (D : Dst rows ps i) (hc : goN rows i ps = some cur) (hn : valV kvs (kI cur) = none) : Dst rows ps (i + 1) := fun j k hjk hk e => by
  by_cases hki : k = i
  · subst hki
    rw [hc] at e
    obtain ⟨v, hv⟩ := S.inn j hjk cur e
    rw [hn] at hv
    cases hv
  · exact D j k hjk (by omega) e
def sp_fate : Sp := fun vs H Q _ => ∃ (b a : Addr) (xs : List V) (fs : List (Int × Int)) (ps : List Int) (m : Int), vs = [.ref b, .ref a, .int m] /\ H b = some (.tup xs) /\ FrcsV H xs fs /\ xs.length <= 1000 /\ H a = some (tupI ps) /\ ps.length = 10 /\ nn ps = true /\ 0 <= m /\ m <= 1000 /\
  ∀ v H' o, Same H H' -> FateR (rowsOf fs) m.toNat ps o -> FoV H' v o -> Q v H'
theorem ok_fate (T : Tx K mg) : FnOk P w K mg base CX0 5 T.f_fate T.fd_fate ["program", "powers", "most"] sp_fate := by
  refine T.D_fate.fn.okQ sc_fate (fun vs H Q E h => ?_) (fun cdv A outer s H vs Q E hr h => ?_)
  · obtain ⟨b, a, xs, fs, ps, m, rfl, _⟩ := h
    rfl
  · obtain ⟨b, a, xs, fs, ps, m, rfl, hb, hf, hl, ha, hp10, hnn, m0, m4, q⟩ := h
    refine ⟨_, (qss_cons (qs_set (i := 3) sc_fate.nd rfl (Or.inl rfl) (qe_call (ok_changes_of T) (hr.mono (by decide)) rfl T.D_changes_of.at_ T.D_changes_of.fn.kp T.D_changes_of.bd .nil pass0 (qa_c (qv 0) qa_nil)))
      (qss_cons (qs_set (i := 4) sc_fate.nd rfl (Or.inl rfl) qe_dnewT)
      (qss_cons (qs_set (i := 5) sc_fate.nd rfl (Or.inl rfl) (qv 1))
      (qss_cons (qs_for PassesOwn.never rfl (qi_range1 rfl T.m_range (qa_c (qe_op op_add (qv 2) qe_int) qa_nil)) (qg_name (i := 6) sc_fate.nd rfl (Or.inl rfl))
        (qss_cons (qs_if (qt_cmpR (op_inD (hu_of hr)) (qv 5) (qv 4) (by with_unfolding_all rfl))
        (qss_one (qs_ret (qe_tupA (qa_c qe_str (qa_c (qe_dget (hu_of hr) (qv 4) (qv 5) (fun _ _ => rfl)) (qa_c (qe_op op_sub (qv 6) (qe_dget (hu_of hr) (qv 4) (qv 5) (fun _ _ => rfl))) qa_nil))))))
        qss_nil)
      (qss_cons (qs_set (i := 7) sc_fate.nd rfl (Or.inl rfl) (qe_call (ok_first_of T) (hr.mono (by decide)) rfl T.D_first_of.at_ T.D_first_of.fn.kp T.D_first_of.bd .nil pass0 (qa_c (qv 3) (qa_c (qv 5) qa_nil))))
      (qss_cons (qs_if (qt_cmpR op_isN (qv 7) qe_non (nomark _))
        (qss_one (qs_ret (qe_tupA (qa_c qe_str (qa_c (qv 6) (qa_c (qv 5) qa_nil))))))
        qss_nil)
      (qss_cons (qs_dput (hu_of hr) (qv 4) (qv 5) (qv 6) rfl)
      (qss_one (qs_set (i := 5) sc_fate.nd rfl (Or.inl rfl) (qe_call (ok_moved T) (hr.mono (by decide)) rfl T.D_moved.at_ T.D_moved.fn.kp T.D_moved.bd .nil pass0 (qa_c (qv 5) (qa_c (qe_ix ix_list (qv 3) (qv 7) (fun _ _ => rfl)) (qa_c qe_int qa_nil)))))))))))
      (qss_one (qs_ret (qe_tupA (qa_c qe_str qa_nil)))))))), ?_⟩
    refine ⟨_, rfl, b, xs, fs, rfl, hb, hf, hl, fun l H1 ys fl s1 hl1 hr1 => ?_⟩
    refine fun d H2 f2 s2 hd2 => ?_
    have fd : H d = none := s1.free f2
    have R := rowsOf_10 fs
    refine ⟨_, rfl, _, rfl, _, _, rfl, rfl, m + 1, rfl, by omega, by omega, for_range (n := (m + 1).toNat) (fun i σ H3 => ∃ (c : Addr) (cur : List Int) (kvs : List (List Key × V)) (u v : Option V), σ = [some (.ref b), some (.ref a), some (.int m), some (.ref l), some (.ref d), some (.ref c), u, v] /\ Same H1 H3 /\ H3 d = some (.dT kvs) /\ H3 c = some (tupI cur) /\ goN (rowsOf fs) i ps = some cur /\ Dst (rowsOf fs) ps i /\ SeenD (rowsOf fs) ps i kvs)
      ⟨a, ps, [], none, none, rfl, s2, hd2, s2 _ _ (s1 _ _ ha), rfl, fun _ _ _ h => by omega, SeenD.nil⟩ ?_ ?_⟩
    · rintro i σ H3 hi ⟨c, cur, kvs, u, v, rfl, s3, hd3, hc3, hg3, hD3, hS3⟩
      have hc10 := goN_ok R hp10 hnn hg3
      refine ⟨_, rfl, _, rfl, c, d, cur, kvs, rfl, rfl, hc3, hd3, _, rfl, ?_⟩
      cases hv : valV kvs (kI cur) with
      | some v0 =>
        obtain ⟨j, hj, rfl, hgj⟩ := hS3.out cur v0 hv
        refine iteT ?_
        refine ⟨_, rfl, _, rfl, d, c, cur, kvs, _, rfl, rfl, hd3, hc3, hv, _, rfl, _, rfl, _, rfl, d, c, cur, kvs, _, rfl, rfl, hd3, hc3, hv, _, _, rfl, rfl, (by show 3 <= sizeLine; decide), fun t H4 f4 s4 ht => ?_⟩
        refine q (.ref t) H4 (.round j (i - j)) ((s1.trans s3).trans s4) ⟨by omega, by omega, ⟨cur, hgj, by rw [show j + (i - j) = i by omega]; exact hg3⟩, by rw [show j + (i - j) = i by omega]; exact hD3⟩ ⟨t, rfl, ?_⟩
        rw [ht]
        show some (HO.tup [_, _, V.int (0 + (i : Int) - (j : Int))]) = _
        rw [show (0 + (i : Int) - (j : Int)) = ((i - j : Nat) : Int) by omega]
      | none =>
        refine iteF ?_
        have hD4 := hS3.fresh hD3 hg3 hv
        refine ⟨_, rfl, _, rfl, l, c, ys, rowsOf fs, cur, rfl, s3 _ _ hl1, hr1.same s3, hc3, fun H4 s4 => ?_⟩
        cases hfst : fstI (rowsOf fs) cur with
        | none =>
          refine ⟨_, rfl, rfl, _, rfl, iteT ⟨_, rfl, _, rfl, (by show 3 <= sizeLine; decide), fun t H5 f5 s5 ht => ?_⟩⟩
          refine q (.ref t) H5 (.rests i cur) (((s1.trans s3).trans s4).trans s5) ⟨by omega, hg3, hfst⟩ ⟨t, c, rfl, ?_, s5 _ _ (s4 _ _ hc3)⟩
          rw [ht, Int.zero_add]
        | some k =>
          obtain ⟨c1, hc1, _, hk⟩ := fstI_lt hfst
          obtain ⟨x, e, hx, rfl, he⟩ := (hr1.same s3).of hc1
          have hst := stp_of hfst hc1
          refine ⟨_, rfl, rfl, _, rfl, iteF ⟨_, rfl, _, rfl, _, rfl, d, c, cur, kvs, rfl, rfl, s4 _ _ hd3, s4 _ _ hc3, (by have := hS3.len; rw [sizeLine_eq]; omega), fun H5 b5 h5 => ?_⟩⟩
          have kp : Same H1 H5 := fun c o eo => b5 c o (fun z => by rw [z, f2] at eo; cases eo) (s4 _ _ (s3 _ _ eo))
          have ncd : c ≠ d := ne_of hc3 hd3 (by intro z; cases z)
          have ned : e ≠ d := ne_of he hd3 (by intro z; cases z)
          refine ⟨_, rfl, _, rfl, _, rfl, l, _, _, _, rfl, rfl, SqL.of (kp _ _ hl1), atI_of (Int.natCast_nonneg k) (by rw [Int.toNat_natCast]; exact hx), c, e, cur, c1, 1, rfl, b5 _ _ ncd (s4 _ _ hc3), b5 _ _ ned (s4 _ _ he), ⟨by decide, by decide⟩, by omega, fun p H6 s6 hp6 => ?_⟩
          refine ⟨p, mvd cur c1 1, _, _, _, rfl, kp.trans s6, s6 _ _ h5, hp6, ?_, hD4, ?_⟩
          · show (goN (rowsOf fs) i ps).bind _ = _
            rw [hg3]
            exact hst
          · rw [Int.zero_add]
            exact hS3.put hg3
    · rintro σ H3 ⟨c, cur, kvs, u, v, rfl, s3, hd3, hc3, hg3, hD3, hS3⟩
      have em : (m + 1).toNat = m.toNat + 1 := by omega
      rw [em] at hg3 hD3
      exact ⟨(by show 1 <= sizeLine; decide), fun t H4 f4 s4 ht => q (.ref t) H4 .open_ ((s1.trans s3).trans s4) ⟨⟨cur, hg3⟩, hD3⟩ ⟨t, rfl, ht⟩⟩
end
end W2
namespace W2
open PySem L2 Mth
section
variable {P : Program} {w : World} {K : PySem.W.Frag} {mg : Str -> Option Value} {base : Heap}
theorem term_le {i : Int} (h : termB i = true) : i <= 1000000000000 := by
  unfold termB at h
  simp only [Bool.and_eq_true, decide_eq_true_eq] at h
  exact h.1.2
theorem fracB_le {i j : Int} (h : fracB i j = true) : i <= 1000000000000 /\ j <= 1000000000000 := by
  unfold fracB at h
  simp only [Bool.and_eq_true] at h
  exact ⟨term_le h.1.1, term_le h.1.2⟩
theorem bd_row {fs : List (Int × Int)} (hf : ∀ f ∈ fs, fracB f.1 f.2 = true) : ∀ c ∈ rowsOf fs, BdI 6 c := fun c hc n hn => by
  unfold rowsOf at hc
  obtain ⟨f, hf', rfl⟩ := List.mem_map.mp hc
  obtain ⟨b1, b2⟩ := fracB_le (hf f hf')
  obtain ⟨⟨i1, _⟩, ⟨j1, _⟩⟩ := fracB_parts (hf f hf')
  have := chg_40 (by omega) (by omega) (by omega) (by omega) hn
  show n.natAbs <= 64
  omega
def sp_unit_row : Sp := fun vs H Q _ => ∃ k p : Nat, vs = [.int (p : Int)] /\ primes[k]? = some p /\ ∀ q' H', H q' = none -> Same H H' -> H' q' = some (tupI (unitI k)) -> Q (.ref q') H'
theorem unit_map {k p : Nat} (h : primes[k]? = some p) : (primes.map fun q : Nat => if q = p then (1 : Int) else 0) = unitI k := by
  have hk : k < 10 := (List.getElem?_eq_some_iff.mp h).1
  have : ∀ k, k < 10 -> (primes.map fun q : Nat => if q = primes.getD k 0 then (1 : Int) else 0) = unitI k := by decide
  have e : primes.getD k 0 = p := by rw [List.getD_eq_getElem?_getD, h]; rfl
  rw [← e]
  exact this k hk
theorem ok_unit_row (T : Tx K mg) : FnOk P w K mg base CX0 1 T.f_unit_row T.fd_unit_row ["prime"] sp_unit_row := by
  refine T.D_unit_row.fn.okQ sc_unit_row (fun vs H Q E h => ?_) (fun cdv A outer s H vs Q E hr h => ?_)
  · obtain ⟨k, p, rfl, _⟩ := h
    rfl
  · obtain ⟨k, p, rfl, hp, q⟩ := h
    refine ⟨_, (qss_one (qs_ret (qe_callTy call_tuple_ofA (by rfl) T.m_tuple b_tuple (qa_c (qe_comp (compOk_of (osc := defScope s_unit_row) (XN := ["prime"]) (N := ["other", "prime"]) (js := [none, some 0]) rfl rfl rfl (List.forall_mem_cons.mpr ⟨rfl, (List.forall_mem_nil _)⟩) (by decide +kernel) rfl) rfl (qi_tup (qe_glob (v := .ref T.a_PRIMES) (by rfl) T.g_PRIMES rfl)) (fun _ _ _ _ => (qg_name (i := 0) (show List.Nodup (["other", "prime"] : List Str) from by decide +kernel) rfl (Or.inl rfl) (Or.inr rfl))) (fun _ _ _ _ => qts_nil)
          (fun _ _ _ _ => (qe_ifExp (qt_cmpR op_eq (qv 0) (qv 1) (nomark _)) qe_int qe_int))) qa_nil)))), ?_⟩
    refine ⟨T.a_PRIMES, rfl, ⟨_, T.t_PRIMES H⟩, fun D hD => ?_⟩
    refine comp_tup (K := K) (a := T.a_PRIMES) (xs := primesV) (by rw [sizeLine_eq]; decide) (fun i σ' H' ys => (∃ u : Option V, σ' = [u, some (.int (p : Int))]) /\ Same H H' /\ ys = ((primes.take i).map fun q : Nat => if q = p then (1 : Int) else 0).map V.int) ⟨⟨_, rfl⟩, Same.new hD, rfl⟩ (fun i σ' H' ys _ _ ⟨_, s', _⟩ => T.t_PRIMES H') ?_ ?_
    · rintro i x σ' H' ys R hx hD' hyl ⟨⟨u, rfl⟩, s', rfl⟩ kk
      obtain ⟨r, rfl, hr', _⟩ := primesV_get hx
      have fin : ∀ v : Int, v = (if r = p then (1 : Int) else 0) -> R [some (.int (r : Int)), some (.int (p : Int))] (.int v) H' := fun v hv => kk _ _ _ hD' ⟨⟨_, rfl⟩, (by
        intro e o eo
        rw [upd_ne (ne_of_none eo hD)]
        exact s' _ _ eo), (by rw [List.take_add_one, hr', List.map_append, List.map_append, hv]; rfl)⟩
      refine ⟨_, rfl, _, rfl, rfl, _, rfl, ite2 (fun h => ?_) (fun h => ?_)⟩
      · have h0 : (r : Int) = p := int_eq0 h
        exact fin _ (by rw [if_pos (by omega)])
      · have h0 : ¬ (r : Int) = p := int_ne0 h
        exact fin _ (by rw [if_neg (by omega)])
    · rintro σ' H4 ys hD4 hyl ⟨_, s4, rfl⟩
      rw [show primes.take primesV.length = primes from rfl, unit_map hp] at hD4
      exact ⟨D, _, rfl, SqL.of hD4, fun p' H5 f5 s5 hp' => q p' H5 (s4.free f5) (s4.trans s5) hp'⟩
def sp_common_divisor : Sp := fun vs H Q _ => ∃ a b : Nat, vs = [.int (a : Int), .int (b : Int)] /\ Q (.int ((Nat.gcd a b : Nat) : Int)) H
theorem ok_common_divisor (T : Tx K mg) : FnOk P w K mg base CX0 1 T.f_common_divisor T.fd_common_divisor ["one", "other"] sp_common_divisor := by
  refine T.D_common_divisor.fn.okQ sc_common_divisor (fun vs H Q E h => ?_) (fun cdv A outer s H vs Q E hr h => ?_)
  · obtain ⟨a, b, rfl, _⟩ := h
    rfl
  · obtain ⟨a, b, rfl, q⟩ := h
    refine ⟨_, (qss_cons (qs_while PassesOwn.never (qt_cmpR op_ne (qv 1) qe_int (nomark _))
        (qss_cons (qs_set (i := 2) sc_common_divisor.nd rfl (Or.inl rfl) (qe_op op_mod (qv 0) (qv 1)))
      (qss_cons (qs_set (i := 0) sc_common_divisor.nd rfl (Or.inl rfl) (qv 1))
      (qss_one (qs_set (i := 1) sc_common_divisor.nd rfl (Or.inl rfl) (qv 2))))))
      (qss_one (qs_ret (qv 0)))), ?_⟩
    refine while_own (fun σ H1 => ∃ (x y : Nat) (u : Option V), σ = [some (.int (x : Int)), some (.int (y : Int)), u] /\ Nat.gcd x y = Nat.gcd a b /\ H1 = H) (fun σ _ => natAt σ 1) ⟨a, b, _, rfl, rfl, rfl⟩ ?_
    rintro σ H1 ⟨x, y, u, rfl, hg, rfl⟩
    refine ⟨_, rfl, rfl, _, rfl, ?_⟩
    rcases Nat.eq_zero_or_pos y with z | z
    · subst z
      refine iteF ⟨_, rfl, ?_⟩
      rw [Nat.gcd_zero_right] at hg
      rw [hg]
      exact q
    · rw [decide_eq_false (show ¬ V.int (y : Int) = V.int 0 from fun w => by injection w with w; omega)]
      refine iteT (whN ⟨_, rfl, _, rfl, _, _, rfl, rfl, (by show (0 : Int) < y; omega), _, rfl, _, rfl, ⟨⟨y, x % y, some (.int ((x : Int) % (y : Int))), ?_, ?_, rfl⟩, ?_⟩⟩)
      · rw [Int.natCast_emod]
        rfl
      · rw [← hg, Nat.gcd_comm x y, Nat.gcd_rec y x, Nat.gcd_comm]
      · show ((x : Int) % (y : Int)).toNat < (y : Int).toNat
        rw [← Int.natCast_emod, Int.toNat_natCast, Int.toNat_natCast]
        exact Nat.mod_lt x z
def sp_lowest : Sp := fun vs H Q _ => ∃ (l : Addr) (ns : List Int) (m : Nat), vs = [.ref l] /\ H l = some (.lst (ns.map V.int)) /\ ns.length <= 1000 /\ BdI m ns /\ m <= 8000 /\ (∃ n ∈ ns, n ≠ 0) /\ ∀ q' H', H q' = none -> Same H H' -> H' q' = some (tupI (lowI ns)) -> Q (.ref q') H'
theorem gcd_snoc (ns : List Int) (i : Nat) {n : Int} (h : ns[i]? = some n) : gcdL (ns.take (i + 1)) = Nat.gcd (gcdL (ns.take i)) n.natAbs := by
  unfold gcdL
  rw [List.take_add_one, h, List.foldl_append]
  rfl
theorem abs_is (n : Int) : (if n < 0 then -n else n) = ((n.natAbs : Nat) : Int) := by split <;> omega
theorem gcdL_le {ns : List Int} {m : Nat} (hb : BdI m ns) (h : ∃ n ∈ ns, n ≠ 0) : gcdL ns <= 2 ^ m := by
  obtain ⟨n, hn, h0⟩ := h
  have h1 := Int.natCast_dvd_natCast.mp (Int.dvd_natAbs.mpr (gcdL_dvd hn))
  exact Nat.le_trans (Nat.le_of_dvd (by omega) h1) (hb n hn)
theorem ok_lowest (T : Tx K mg) : FnOk P w K mg base CX0 2 T.f_lowest T.fd_lowest ["numbers"] sp_lowest := by
  refine T.D_lowest.fn.okQ sc_lowest (fun vs H Q E h => ?_) (fun cdv A outer s H vs Q E hr h => ?_)
  · obtain ⟨l, ns, m, rfl, _⟩ := h
    rfl
  · obtain ⟨l, ns, m, rfl, hl, hlen, hb, hm, hnz, q⟩ := h
    refine ⟨_, (qss_cons (qs_set (i := 1) sc_lowest.nd rfl (Or.inr rfl) qe_int)
      (qss_cons (qs_for PassesOwn.never rfl (qi_list (qv 0)) (qg_name (i := 2) sc_lowest.nd rfl (Or.inl rfl))
        (qss_one (qs_set (i := 1) sc_lowest.nd rfl (Or.inr rfl) (qe_call (ok_common_divisor T) (hr.mono (by decide)) rfl T.D_common_divisor.at_ T.D_common_divisor.fn.kp T.D_common_divisor.bd .nil pass0 (qa_c (qv 1) (qa_c (qe_callB call_abs (by rfl) T.m_abs b_abs (qa_c (qv 2) qa_nil)) qa_nil))))))
      (qss_cons (qs_if (qt_cmpR op_lt (qe_ix ix_list (qe_comp (compOk_of (osc := defScope s_lowest) (XN := ["numbers", "shared", "number"]) (N := ["number"]) (js := [none]) rfl rfl rfl (List.forall_mem_nil _) (by decide +kernel) rfl) rfl (qi_list (qv 0)) (fun _ _ _ _ => (qg_name (i := 0) (show List.Nodup (["number"] : List Str) from by decide +kernel) rfl (Or.inl rfl) (Or.inr rfl))) (fun _ _ _ _ => (qts_one (qt_cmpR op_ne (qv 0) qe_int (nomark _))))
          (fun _ _ _ _ => (qv 0))) qe_int (fun _ _ => rfl)) qe_int (nomark _))
        (qss_one (qs_set (i := 1) sc_lowest.nd rfl (Or.inr rfl) (qe_un un_neg (qv 1))))
        qss_nil)
      (qss_one (qs_ret (qe_callTy call_tuple_ofA (by rfl) T.m_tuple b_tuple (qa_c (qe_comp (compOk_of (osc := defScope s_lowest) (XN := ["numbers", "shared", "number"]) (N := ["number", "shared"]) (js := [none, some 1]) rfl rfl rfl (List.forall_mem_cons.mpr ⟨rfl, (List.forall_mem_nil _)⟩) (by decide +kernel) rfl) rfl (qi_list (qv 0)) (fun _ _ _ _ => (qg_name (i := 0) (show List.Nodup (["number", "shared"] : List Str) from by decide +kernel) rfl (Or.inl rfl) (Or.inr rfl))) (fun _ _ _ _ => qts_nil)
          (fun _ _ _ _ => (qe_op op_fdivL (qv 0) (qv 1)))) qa_nil))))))), ?_⟩
    refine ⟨_, rfl, l, rfl, ⟨_, SqL.of hl⟩, for_list (K := K) (a := l) (xs := ns.map V.int) (fun i σ H1 => (∃ u : Option V, σ = [some (.ref l), some (.int ((gcdL (ns.take i) : Nat) : Int)), u]) /\ H1 = H) ⟨⟨none, rfl⟩, rfl⟩ (fun i σ H1 _ ⟨_, e⟩ => by rw [e]; exact SqL.of hl) ?_ ?_⟩
    · rintro i x σ H1 hx ⟨⟨u, rfl⟩, rfl⟩
      obtain ⟨n, rfl, hn⟩ := map_int_get hx
      refine ⟨_, rfl, _, rfl, _, rfl, gcdL (ns.take i), n.natAbs, by rw [abs_is]; rfl, ⟨some (.int n), ?_⟩, rfl⟩
      rw [gcd_snoc ns i hn]
      rfl
    · rintro σ H1 ⟨⟨u, rfl⟩, rfl⟩
      rw [List.length_map, List.take_length]
      refine ⟨_, rfl, l, rfl, ⟨_, SqL.of hl⟩, fun D hD => ?_⟩
      refine comp_list_if (K := K) (t := fun v => !decide (v = V.int 0)) (xs := ns.map V.int) (σ0 := []) (by rw [sizeLine_eq, List.length_map]; omega) ⟨_, rfl⟩ hD hl (fun x H' R _ hx r => ?_) (fun x H' R _ _ _ r => ⟨_, rfl, r⟩) fun H2 s2 hD2 => ?_
      · obtain ⟨n, _, rfl⟩ := List.mem_map.mp hx
        exact ⟨_, rfl, rfl, _, rfl, r⟩
      have hfl : (ns.map V.int).filter (fun v => !decide (v = V.int 0)) = (ns.filter fun n => decide (n ≠ 0)).map V.int := by
        rw [List.filter_map]
        congr 1
        apply List.filter_congr
        intro n _
        show (!decide (V.int n = V.int 0)) = decide (n ≠ 0)
        by_cases z : n = 0
        · rw [z]; rfl
        · rw [decide_eq_true z, decide_eq_false (fun w => z (by injection w))]; rfl
      rw [hfl] at hD2
      obtain ⟨n0, hn0, hz0⟩ := hnz
      obtain ⟨f, rest, hfr⟩ : ∃ f rest, ns.filter (fun n => decide (n ≠ 0)) = f :: rest := by
        cases hq : ns.filter (fun n => decide (n ≠ 0)) with
        | nil =>
          have : n0 ∈ ns.filter (fun n => decide (n ≠ 0)) := List.mem_filter.mpr ⟨hn0, decide_eq_true hz0⟩
          rw [hq] at this
          cases this
        | cons f rest => exact ⟨f, rest, rfl⟩
      have hsg : sgnL ns = if f < 0 then -1 else 1 := by unfold sgnL; rw [hfr]
      rw [hfr] at hD2
      have hgl := gcdL_le hb ⟨n0, hn0, hz0⟩
      have hgp := gcdL_pos hn0 hz0
      have done : ∀ (sh : Int), sh = sgnL ns * (gcdL ns : Int) -> sh ≠ 0 /\ sh.natAbs <= 2 ^ m /\ ∀ n ∈ ns, n.fdiv sh = n / (sgnL ns * (gcdL ns : Int)) := by
        intro sh e
        refine ⟨by rw [e]; exact low_fac ⟨n0, hn0, hz0⟩, ?_, ?_⟩
        · rw [e, Int.natAbs_mul, Int.natAbs_natCast]
          rcases sgnL_is ns with z | z <;> rw [z] <;> simpa using hgl
        · intro n hn
          rw [← e]
          refine Int.fdiv_eq_ediv_of_dvd ?_
          rw [e]
          have hm := gcdL_dvd hn
          rcases sgnL_is ns with z | z
          · rw [z, Int.one_mul]; exact hm
          · rw [z, Int.neg_mul, Int.one_mul]; exact Int.neg_dvd.mpr hm
      have last : ∀ (sh : Int) (H3 : Hp), sh = sgnL ns * (gcdL ns : Int) -> Same H1 H3 -> ∀ (js : List (Option Nat)) (te : TE) (σ : St) (R : VK) (D3 : Addr), H3 D3 = none -> (∃ u, pick js σ = u :: [some (.int sh)]) -> (∀ (n : Int) (H' : Hp) (R' : VK), R' (.int (n.fdiv sh)) H' -> te (some (.int n) :: [some (.int sh)]) H' R') -> (∀ H4, Same H3 H4 -> H4 D3 = some (.lst ((lowI ns).map V.int)) -> R (.ref D3) H4) -> CompW (Itl K l) D3 js (gName 0) tNoTest te σ H3 R := by
        intro sh H3 e s3 js te σ R D3 hD3 ⟨u, hu⟩ hte hR
        obtain ⟨e1, e2, e3⟩ := done sh e
        refine comp_map_list (K := K) (f := fun v => match v with | .int n => .int (n.fdiv sh) | w => w) (xs := ns.map V.int) hu (by rw [sizeLine_eq, List.length_map]; omega) hD3 (SqL.of (s3 _ _ hl)) (fun x H' R' hx r => ?_) (hR _ (Same.new hD3) ?_)
        · obtain ⟨n, _, rfl⟩ := List.mem_map.mp hx
          exact hte n H' R' r
        · rw [upd_same]
          congr 2
          unfold lowI
          rw [List.map_map, List.map_map]
          refine List.map_congr_left fun n hn => ?_
          show V.int (n.fdiv sh) = V.int (n / (sgnL ns * (gcdL ns : Int)))
          rw [e3 n hn]
      refine ⟨_, _, 0, .int f, rfl, rfl, SqL.of hD2, atI_of (by decide) rfl, _, _, rfl, rfl, _, rfl, ite2 (fun h => ?_) (fun h => ?_)⟩
      · have h0 : f < 0 := of_decide_eq_true h
        rw [if_pos h0] at hsg
        have e : -((gcdL ns : Nat) : Int) = sgnL ns * (gcdL ns : Int) := by rw [hsg, Int.neg_mul, Int.one_mul]
        refine ⟨_, rfl, _, rfl, ?_⟩
        refine ⟨_, rfl, l, rfl, ⟨_, SqL.of (s2 _ _ hl)⟩, fun D3 hD3 => last _ H2 e s2 _ _ _ _ D3 hD3 ⟨_, rfl⟩ (fun n H' R' r => ⟨_, rfl, _, rfl, _, _, rfl, rfl, ⟨(done _ e).1, m, (done _ e).2.1, hm⟩, r⟩) fun H4 s4 h4 => ⟨D3, _, rfl, SqL.of h4, fun p H5 f5 s5 hp => q p H5 (s2.free (s4.free f5)) (s2.trans (s4.trans s5)) hp⟩⟩
      · have h0 : ¬ f < 0 := fun z => h (decide_eq_true z)
        rw [if_neg h0] at hsg
        have e : ((gcdL ns : Nat) : Int) = sgnL ns * (gcdL ns : Int) := by rw [hsg, Int.one_mul]
        refine ⟨_, rfl, l, rfl, ⟨_, SqL.of (s2 _ _ hl)⟩, fun D3 hD3 => last _ H2 e s2 _ _ _ _ D3 hD3 ⟨_, rfl⟩ (fun n H' R' r => ⟨_, rfl, _, rfl, _, _, rfl, rfl, ⟨(done _ e).1, m, (done _ e).2.1, hm⟩, r⟩) fun H4 s4 h4 => ⟨D3, _, rfl, SqL.of h4, fun p H5 f5 s5 hp => q p H5 (s2.free (s4.free f5)) (s2.trans (s4.trans s5)) hp⟩⟩
end
end W2
namespace W2
open PySem L2 Mth
theorem at_getD {r : List Int} {k : Nat} (h : k < r.length) : atI (r.map V.int) (k : Int) = some (.int (r.getD k 0)) := atI_of (by omega) (by rw [Int.toNat_natCast, List.getElem?_map, List.getD_eq_getElem?_getD, List.getElem?_eq_getElem h]; rfl)
def colF (ns : List Int) : Option Nat := (List.range ns.length).find? fun j => decide (0 < ns.getD j 0)
theorem find_range {t : Nat -> Bool} : ∀ {n i : Nat}, i <= n -> (∀ j, j < i -> t j = false) -> (List.range n).find? t = (List.range' i (n - i)).find? t := fun {n i} hi h => by
  have e : List.range n = List.range i ++ List.range' i (n - i) := by
    rw [List.range_eq_range', List.range_eq_range']
    have := List.range'_append_1 (s := 0) (m := i) (n := n - i)
    rw [Nat.zero_add, show i + (n - i) = n by omega] at this
    exact this.symm
  rw [e, List.find?_append, List.find?_eq_none.mpr fun x hx => by rw [h x (List.mem_range.mp hx)]; exact Bool.false_ne_true]
  rfl
section
variable {P : Program} {w : World} {K : PySem.W.Frag} {mg : Str -> Option Value} {base : Heap}
def sp_first_above : Sp := fun vs H Q _ => ∃ (a : Addr) (ns : List Int), vs = [.ref a] /\ H a = some (.lst (ns.map V.int)) /\ ns.length <= 1000 /\ ∀ H', Same H H' -> Q (optV (colF ns)) H'
theorem ok_first_above (T : Tx K mg) : FnOk P w K mg base CX0 1 T.f_first_above T.fd_first_above ["numbers"] sp_first_above := by
  refine T.D_first_above.fn.okQ sc_first_above (fun vs H Q E h => ?_) (fun cdv A outer s H vs Q E hr h => ?_)
  · obtain ⟨a, ns, rfl, _⟩ := h
    rfl
  · obtain ⟨a, ns, rfl, ha, hl, q⟩ := h
    refine ⟨_, (qss_cons (qs_for PassesOwn.never rfl (qi_enum rfl rfl T.m_enumerate (qa_c (qv 0) qa_nil)) (qg_tup rfl (qgs_cons (qg_name (i := 1) sc_first_above.nd rfl (Or.inl rfl)) (qgs_cons (qg_name (i := 2) sc_first_above.nd rfl (Or.inl rfl)) qgs_nil)))
        (qss_one (qs_if (qt_cmpR op_gt (qv 2) qe_int (nomark _))
        (qss_one (qs_ret (qv 1)))
        qss_nil)))
      (qss_one (qs_ret qe_non))), ?_⟩
    refine ⟨_, rfl, a, _, rfl, ha, for_enum (xs := ns.map V.int) (fun i σ HC => (∃ u v : Option V, σ = [some (.ref a), u, v]) /\ Same H HC /\ ∀ j, j < i -> decide (0 < ns.getD j 0) = false) ⟨⟨_, _, rfl⟩, Same.refl _, fun j hj => absurd hj (Nat.not_lt_zero _)⟩ (fun i σ HC _ ⟨_, s', _⟩ => s' _ _ ha) ?_ ?_⟩
    · rintro i x p σ HC hx hp ⟨⟨u, v, rfl⟩, s', hz⟩
      obtain ⟨n, rfl, hn⟩ := map_int_get hx
      have hil := (List.getElem?_eq_some_iff.mp hn).1
      have en : ns.getD i 0 = n := by rw [List.getD_eq_getElem?_getD, hn]; rfl
      refine ⟨p, _, rfl, SqT.of upd_same, rfl, _, _, rfl, _, _, rfl, rfl, ?_⟩
      refine ⟨_, rfl, _, _, rfl, rfl, _, rfl, ite2 (fun h => ?_) (fun h => ?_)⟩
      · have hg : 0 < n := of_decide_eq_true h
        have e : colF ns = some i := by
          unfold colF
          rw [find_range (Nat.le_of_lt hil) hz, show ns.length - i = (ns.length - i - 1) + 1 by omega, List.range'_succ, List.find?_cons, en, decide_eq_true hg]
        have q' := q _ (Same.more s' hp (o := .tup [.int (i : Int), .int n]))
        rw [e] at q'
        exact ⟨_, rfl, q'⟩
      · refine ⟨⟨_, _, rfl⟩, Same.more s' hp, fun j hj => ?_⟩
        by_cases e : j = i
        · rw [e, en]
          exact decide_eq_false fun z => h (decide_eq_true z)
        · exact hz j (by omega)
    · rintro σ HC ⟨⟨u, v, rfl⟩, s', hz⟩
      rw [List.length_map] at hz
      have e : colF ns = none := by
        unfold colF
        rw [find_range (Nat.le_refl _) hz, Nat.sub_self]
        rfl
      have q' := q HC s'
      rw [e] at q'
      exact q'
def TabV (H : Hp) (ts : List V) (tab : List (List Int)) : Prop := ts.length = tab.length /\ ∀ (i : Nat) (x : V), ts[i]? = some x -> ∃ c a, tab[i]? = some c /\ x = .ref a /\ H a = some (lstI c)
theorem TabV.same {H H' : Hp} {ts : List V} {tab : List (List Int)} (h : TabV H ts tab) (s : Same H H') : TabV H' ts tab := ⟨h.1, fun i x hx => by
  obtain ⟨c, a, h1, h2, h3⟩ := h.2 i x hx
  exact ⟨c, a, h1, h2, s _ _ h3⟩⟩
theorem TabV.at {H : Hp} {ts : List V} {tab : List (List Int)} (h : TabV H ts tab) {k : Nat} (hk : k < tab.length) : ∃ a, ts[k]? = some (.ref a) /\ H a = some (lstI (tab.getD k [])) := by
  have hl : k < ts.length := by rw [h.1]; exact hk
  obtain ⟨c, a, h1, h2, h3⟩ := h.2 k ts[k] (List.getElem?_eq_getElem hl)
  refine ⟨a, by rw [List.getElem?_eq_getElem hl, h2], ?_⟩
  rw [List.getD_eq_getElem?_getD, h1]
  exact h3
def tabT (tab : List (List Int)) : Nat -> Nat -> Int := fun p j => (tab.getD p []).getD j 0
def LvOk (tab : List (List Int)) (bl : List Nat) (col : Nat) : Option Nat -> Prop
  | none => ∀ p, p < 10 -> tabT tab p col <= 0
  | some p => p < 10 /\ 0 < tabT tab p col /\ ∀ q, q < 10 -> 0 < tabT tab q col -> bl.getD p 0 <= bl.getD q 0
def PrD (D : Addr) (H : Hp) (xs : List V) (ps : List (Int × Int)) : Prop := xs.length = ps.length /\ ∀ (k : Nat) x, xs[k]? = some x -> ∃ a i j, x = .ref a /\ ps[k]? = some (i, j) /\ a ≠ D /\ H a = some (.tup [.int i, .int j])
theorem PrD.snoc {D : Addr} {H : Hp} {ys : List V} {ps : List (Int × Int)} (h : PrD D H ys ps) {a : Addr} {i j : Int} (na : a ≠ D) (ha : H a = some (.tup [.int i, .int j])) : PrD D H (ys ++ [.ref a]) (ps ++ [(i, j)]) := ⟨by rw [List.length_append, List.length_append, h.1]; rfl, fun k x hx => by
  rcases Nat.lt_or_ge k ys.length with z | z
  · rw [List.getElem?_append_left z] at hx
    obtain ⟨a', i', j', h1, h2, h3⟩ := h.2 k x hx
    exact ⟨a', i', j', h1, by rw [List.getElem?_append_left (by rw [← h.1]; exact z)]; exact h2, h3⟩
  · rw [List.getElem?_append_right z] at hx
    have z0 : k - ys.length = 0 := by
      rcases Nat.eq_zero_or_pos (k - ys.length) with z | z
      · exact z
      · rw [List.getElem?_eq_none (show [V.ref a].length <= _ from z)] at hx
        cases hx
    rw [z0] at hx
    cases hx
    exact ⟨a, i, j, rfl, by rw [List.getElem?_append_right (by rw [← h.1]; exact z), ← h.1, z0]; rfl, na, ha⟩⟩
theorem rng_snoc {t : Nat -> Bool} {i : Nat} : (List.range (i + 1)).filter t = (List.range i).filter t ++ if t i = true then [i] else [] := by
  rw [List.range_succ, List.filter_append]
  congr 1
  by_cases z : t i = true
  · simp [z]
  · simp [z]
def prsL (tab : List (List Int)) (bl : List Nat) (col n : Nat) : List (Int × Int) := ((List.range n).filter fun p => decide (0 < tabT tab p col)).map fun p => (((bl.getD p 0 : Nat) : Int), ((p : Nat) : Int))
def sp_leaving : Sp := fun vs H Q _ => ∃ (tb bs : Addr) (ts : List V) (tab : List (List Int)) (bl : List Nat) (col : Nat), vs = [.ref tb, .ref bs, .int (col : Int)] /\ H tb = some (.lst ts) /\ TabV H ts tab /\ tab.length = 11 /\ (∀ r ∈ tab, col < r.length) /\ H bs = some (lstI (natI bl)) /\ bl.length = 10 /\
  ∀ o H', Same H H' -> LvOk tab bl col o -> Q (optV o) H'
theorem ok_leaving (T : Tx K mg) : FnOk P w K mg base CX0 1 T.f_leaving T.fd_leaving ["table", "basis", "column"] sp_leaving := by
  refine T.D_leaving.fn.okQ sc_leaving (fun vs H Q E h => ?_) (fun cdv A outer s H vs Q E hr h => ?_)
  · obtain ⟨tb, bs, ts, tab, bl, col, rfl, _⟩ := h
    rfl
  · obtain ⟨tb, bs, ts, tab, bl, col, rfl, htb, hT, h11, hcol, hbs, hbl, q⟩ := h
    refine ⟨_, (qss_cons (qs_setC (i := 3) sc_leaving.nd rfl (Or.inl rfl) (compOk_of (osc := defScope s_leaving) (XN := ["table", "basis", "column", "found"]) (N := ["place", "taken", "column", "table"]) (js := [none, none, some 2, some 0]) rfl rfl rfl (List.forall_mem_cons.mpr ⟨rfl, (List.forall_mem_cons.mpr ⟨rfl, (List.forall_mem_nil _)⟩)⟩) (by decide +kernel) rfl) rfl (qi_enum rfl rfl T.m_enumerate (qa_c (qv 1) qa_nil)) (fun _ _ _ _ => (qg_tupN (K := K) (n := 2) rfl rfl (qgs_cons (qg_name (i := 0) (show List.Nodup (["place", "taken", "column", "table"] : List Str) from by decide +kernel) rfl (Or.inl rfl) (Or.inr rfl)) (qgs_cons (qg_name (i := 1) (show List.Nodup (["place", "taken", "column", "table"] : List Str) from by decide +kernel) rfl (Or.inl rfl) (Or.inr rfl)) qgs_nil)))) (fun _ _ _ _ => (qts_one (qt_cmpR op_gt (qe_ix (ix_listN (K := K) rfl) (qe_ix (ix_listN (K := K) rfl) (qv 3) (qv 0) (fun _ _ => rfl)) (qv 2) (fun _ _ => rfl)) qe_int (nomark _))))
          (fun _ _ _ _ => (qe_tupA (qa_c (qv 1) (qa_c (qv 0) qa_nil)))))
      (qss_cons (qs_if (qt_cmpR op_eq (qe_callB call_len_seq (by rfl) T.m_len b_len (qa_c (qv 3) qa_nil)) qe_int (nomark _))
        (qss_one (qs_ret qe_non))
        qss_nil)
      (qss_one (qs_ret (qe_ix ix_tup (qe_callB (call_min2T (hu_of hr) rfl) (by rfl) T.m_min b_min (qa_c (qv 3) qa_nil)) qe_int (fun _ _ => rfl)))))), ?_⟩
    have nl : ((natI bl).map V.int).length = 10 := by rw [List.length_map]; unfold natI; rw [List.length_map]; exact hbl
    have bat : ∀ (i : Nat) x, ((natI bl).map V.int)[i]? = some x -> i < 10 /\ x = .int ((bl.getD i 0 : Nat) : Int) := fun i x hx => by
      have hi : i < 10 := by rw [← nl]; exact (List.getElem?_eq_some_iff.mp hx).1
      refine ⟨hi, ?_⟩
      unfold natI at hx
      rw [List.map_map, List.getElem?_map, List.getElem?_eq_getElem (by omega)] at hx
      rw [List.getD_eq_getElem?_getD, List.getElem?_eq_getElem (by omega)]
      cases hx
      rfl
    refine ⟨_, rfl, bs, _, rfl, hbs, fun D hD => ?_⟩
    refine comp_enum_ifG (K := K) (xs := (natI bl).map V.int) (σ0 := [some (.int (col : Int)), some (.ref tb)]) (by rw [nl]; decide) ⟨_, _, rfl⟩ hD hbs (fun p => decide (0 < tabT tab p col)) (fun i H' zs => PrD D H' zs (prsL tab bl col i)) ⟨rfl, fun k x hx => by cases hx⟩ (fun i H' H2 zs h b => ⟨h.1, fun k x hx => by
      obtain ⟨a, i', j', h1, h2, h3, h4⟩ := h.2 k x hx
      exact ⟨a, i', j', h1, h2, h3, b _ _ h3 h4⟩⟩) (fun i x H' R s' hx r => ?_) (fun i x H' zs s' hx ht h => ?_) (fun i x H' zs R s' hx ht hD' h k => ?_) fun H2 zs s2 hD2 hR => ?_
    · obtain ⟨hi, rfl⟩ := bat i x hx
      obtain ⟨ra, hra, hra2⟩ := hT.at (k := i) (by omega)
      have hcl : col < (tab.getD i []).length := by
        refine hcol _ ?_
        rw [List.getD_eq_getElem?_getD, List.getElem?_eq_getElem (by omega)]
        exact List.getElem_mem _
      refine ⟨_, rfl, _, rfl, tb, ts, (i : Int), .ref ra, rfl, rfl, SqL.of (s' _ _ htb), atI_of (by omega) (by rw [Int.toNat_natCast]; exact hra), _, rfl, ra, _, (col : Int), .int ((tab.getD i []).getD col 0), rfl, rfl, SqL.of (s' _ _ hra2), at_getD hcl, _, _, rfl, rfl, _, rfl, r⟩
    · unfold prsL
      rw [rng_snoc, ht, if_neg (by decide), List.append_nil]
      exact h
    · obtain ⟨hi, rfl⟩ := bat i x hx
      refine ⟨_, rfl, _, rfl, (by show 2 <= sizeLine; decide), fun a H4 f4 s4 ha4 => k _ H4 s4 ?_⟩
      unfold prsL
      rw [rng_snoc, ht, if_pos rfl, List.map_append]
      have h4 : PrD D H4 zs (prsL tab bl col i) := ⟨h.1, fun k x hx => by
        obtain ⟨a, i', j', h1, h2, h3, h5⟩ := h.2 k x hx
        exact ⟨a, i', j', h1, h2, h3, s4 _ _ h5⟩⟩
      exact h4.snoc (ne_of_none hD' f4).symm ha4
    rw [nl] at hR
    have hpm : ∀ x ∈ prsL tab bl col 10, ∃ p, p < 10 /\ 0 < tabT tab p col /\ x = (((bl.getD p 0 : Nat) : Int), ((p : Nat) : Int)) := fun x hx => by
      obtain ⟨p, hp, rfl⟩ := List.mem_map.mp hx
      obtain ⟨h1, h2⟩ := List.mem_filter.mp hp
      exact ⟨p, List.mem_range.mp h1, of_decide_eq_true h2, rfl⟩
    refine ⟨_, rfl, D, zs, rfl, .inl (SqL.of hD2), rfl, _, rfl, ?_⟩
    by_cases hz : zs.length = 0
    · rw [decide_eq_true (show V.int (zs.length : Int) = V.int 0 by rw [hz]; rfl)]
      refine iteT (q none H2 s2 fun p hp => ?_)
      have he : prsL tab bl col 10 = [] := List.eq_nil_of_length_eq_zero (by rw [← hR.1]; exact hz)
      rcases Int.lt_or_le 0 (tabT tab p col) with y | y
      · have : (((bl.getD p 0 : Nat) : Int), ((p : Nat) : Int)) ∈ prsL tab bl col 10 := List.mem_map.mpr ⟨p, List.mem_filter.mpr ⟨List.mem_range.mpr hp, decide_eq_true y⟩, rfl⟩
        rw [he] at this
        cases this
      · exact y
    · rw [decide_eq_false (show ¬ V.int (zs.length : Int) = V.int 0 from fun z => hz (by injection z with z; omega))]
      refine iteF ⟨_, rfl, D, zs, prsL tab bl col 10, rfl, hD2, by omega, ⟨hR.1, fun k x hx => ?_⟩, ?_, fun k v p hv hp hmin => ?_⟩
      · obtain ⟨a, i, j, h1, h2, _, h4⟩ := hR.2 k x hx
        exact ⟨a, i, j, [], h1, h2, h4⟩
      · unfold prsL
        refine List.Pairwise.map _ (fun a b ne e => ne ?_) (List.Pairwise.filter _ List.nodup_range)
        have := congrArg Prod.snd e
        simp only at this
        omega
      · obtain ⟨a, i, j, h1, h2, _, h4⟩ := hR.2 k v hv
        rw [hp] at h2
        cases h2
        obtain ⟨p0, p1, p2, p3⟩ := hpm _ (List.mem_of_getElem? hp)
        have e1 : i = ((bl.getD p0 0 : Nat) : Int) := congrArg Prod.fst p3
        have e2 : j = ((p0 : Nat) : Int) := congrArg Prod.snd p3
        subst h1
        refine ⟨a, _, 1, .int j, rfl, rfl, SqT.of h4, rfl, ?_⟩
        rw [e2]
        refine q (some p0) H2 s2 ⟨p1, p2, fun q0 g1 g2 => ?_⟩
        have := hmin (((bl.getD q0 0 : Nat) : Int), ((q0 : Nat) : Int)) (List.mem_map.mpr ⟨q0, List.mem_filter.mpr ⟨List.mem_range.mpr g1, decide_eq_true g2⟩, rfl⟩)
        rcases this with z | z
        · have := congrArg Prod.fst z
          simp only at this
          omega
        · unfold MinT.lt2 at z
          have z' := of_decide_eq_true z
          simp only at z'
          omega
end
end W2
namespace W2
open PySem L2 Mth
theorem comp_zipL_gen {K : PySem.W.Frag} {a b D : Addr} {js : List (Option Nat)} {te : TE} {σ : St} {H1 : Hp} {Q : VK} {xs ys : List Int} {σ0 : St} {f : Int -> Int -> Int} (hn : min xs.length ys.length <= sizeLine) (hp : ∃ u v, pick js σ = u :: v :: σ0) (hD : H1 D = none)
    (ha : H1 a = some (.lst (xs.map V.int))) (hb : H1 b = some (.lst (ys.map V.int)))
    (hs : ∀ (x y : Int) (H' : Hp) (R : VK), x ∈ xs -> y ∈ ys -> Same H1 H' -> R (.int (f x y)) H' -> te (some (.int x) :: some (.int y) :: σ0) H' R)
    (q : ∀ H', Same H1 H' -> H' D = some (.lst ((List.zipWith f xs ys).map V.int)) -> Q (.ref D) H') : CompW (Itzl a b) D js (gTup K 2 (gCons (gName 0) (gCons (gName 1) gNil))) tNoTest te σ H1 Q := by
  obtain ⟨u0, v0, hp⟩ := hp
  refine comp_zipL (a := a) (b := b) (xs := xs.map V.int) (ys := ys.map V.int) (by rw [List.length_map, List.length_map]; exact hn) (fun i σ' H' zs => (∃ u v : Option V, σ' = u :: v :: σ0) /\ Same H1 H' /\ zs = ((List.zipWith f xs ys).take i).map V.int) ⟨⟨u0, v0, hp⟩, Same.new hD, rfl⟩ (fun i σ' H' zs _ ⟨_, s', _⟩ => ⟨s' _ _ ha, s' _ _ hb⟩) ?_ ?_
  · rintro i x y p σ' H' zs R hx hy hp' hD' hzl ⟨⟨u, v, rfl⟩, s', rfl⟩ kk
    obtain ⟨x, rfl, hx'⟩ := map_int_get hx
    obtain ⟨y, rfl, hy'⟩ := map_int_get hy
    refine ⟨p, _, rfl, SqT.of upd_same, rfl, _, _, rfl, _, _, rfl, rfl, hs x y _ _ (List.mem_of_getElem? hx') (List.mem_of_getElem? hy') (s'.trans (Same.new hp')) ?_⟩
    refine kk _ _ _ ?_ ⟨⟨_, _, rfl⟩, ?_, ?_⟩
    · rw [upd_ne (ne_of_none hD' hp')]; exact hD'
    · intro c o e
      rw [upd_ne (ne_of_none e hD), upd_ne (ne_of_none (s' _ _ e) hp')]
      exact s' _ _ e
    · have : (List.zipWith f xs ys)[i]? = some (f x y) := by rw [List.getElem?_zipWith_eq_some]; exact ⟨x, y, hx', hy', rfl⟩
      rw [List.take_add_one, this, List.map_append]
      rfl
  · rintro σ' H' zs hD' hzl ⟨_, s', rfl⟩
    rw [List.take_of_length_le (by rw [List.length_zipWith, List.length_map, List.length_map]; exact Nat.le_refl _)] at hD'
    exact q H' s' hD'
def LR2 (L F : Addr) (H : Hp) (ys : List V) (rows : List (List Int)) : Prop := ys.length = rows.length /\ ∀ (i : Nat) (x : V), ys[i]? = some x -> ∃ c a, rows[i]? = some c /\ x = .ref a /\ a ≠ L /\ a ≠ F /\ H a = some (lstI c)
theorem LR2.keep {L F : Addr} {H H' : Hp} {ys : List V} {rows : List (List Int)} (h : LR2 L F H ys rows) (b : But2 L F H H') : LR2 L F H' ys rows := ⟨h.1, fun i x hx => by
  obtain ⟨c, a, h1, h2, h3, h4, h5⟩ := h.2 i x hx
  exact ⟨c, a, h1, h2, h3, h4, b _ _ h3 h4 h5⟩⟩
theorem LR2.snoc {L F : Addr} {H : Hp} {ys : List V} {rows : List (List Int)} (h : LR2 L F H ys rows) {a : Addr} {c : List Int} (n1 : a ≠ L) (n2 : a ≠ F) (ha : H a = some (lstI c)) : LR2 L F H (ys ++ [.ref a]) (rows ++ [c]) := ⟨by rw [List.length_append, List.length_append, h.1]; rfl, fun i x hx => by
  rcases Nat.lt_or_ge i ys.length with z | z
  · rw [List.getElem?_append_left z] at hx
    obtain ⟨c', a', h1, h2⟩ := h.2 i x hx
    exact ⟨c', a', by rw [List.getElem?_append_left (by rw [← h.1]; exact z)]; exact h1, h2⟩
  · rw [List.getElem?_append_right z] at hx
    have z0 : i - ys.length = 0 := by
      rcases Nat.eq_zero_or_pos (i - ys.length) with z | z
      · exact z
      · rw [List.getElem?_eq_none (show [V.ref a].length <= _ from z)] at hx
        cases hx
    rw [z0] at hx
    cases hx
    exact ⟨c, a, by rw [List.getElem?_append_right (by rw [← h.1]; exact z), ← h.1, z0]; rfl, rfl, n1, n2, ha⟩⟩
theorem LRw.tab {D : Addr} {H : Hp} {ts : List V} {tab : List (List Int)} (h : LRw D H ts tab) : TabV H ts tab := ⟨h.1, fun i x hx => by
  obtain ⟨c, a, h1, h2, _, h4⟩ := h.2 i x hx
  exact ⟨c, a, h1, h2, h4⟩⟩
theorem rep_flat {α : Type} : ∀ (n : Nat) (x : α), (List.replicate n [x]).flatten = List.replicate n x
  | 0, _ => rfl
  | n + 1, x => by
    rw [List.replicate_succ, List.flatten_cons, rep_flat n x, List.replicate_succ]
    rfl
def exRow (tab : List (List Int)) (p c : Nat) (u : Int) (row : List Int) : List Int := List.zipWith (fun number taken => (number * (tab.getD p []).getD c 0 - row.getD c 0 * taken).fdiv u) row (tab.getD p [])
def tabX (tab : List (List Int)) (p c : Nat) (u : Int) : List (List Int) := (tab.map (exRow tab p c u)).set p (tab.getD p [])
section
variable {P : Program} {w : World} {K : PySem.W.Frag} {mg : Str -> Option Value} {base : Heap}
def sp_exchanged : Sp := fun vs H Q _ => ∃ (tb D0 : Addr) (o0 : HO) (ts : List V) (tab : List (List Int)) (p c n m : Nat) (u : Int), vs = [.ref tb, .int (p : Int), .int (c : Int), .int u] /\ H tb = some (.lst ts) /\ H D0 = some o0 /\ LRw D0 H ts tab /\ tab.length = 11 /\ p < 11 /\ (∀ r ∈ tab, r.length = n /\ BdI m r) /\ c < n /\ n <= 1000 /\ m <= 5000 /\ u ≠ 0 /\ u.natAbs <= 2 ^ m /\
  ∀ l H' ts', H l = none -> Same H H' -> H' l = some (.lst ts') -> LRw D0 H' ts' (tabX tab p c u) -> Q (.ref l) H'
theorem ok_exchanged (T : Tx K mg) : FnOk P w K mg base CX0 1 T.f_exchanged T.fd_exchanged ["table", "place", "column", "unit"] sp_exchanged := by
  refine T.D_exchanged.fn.okQ sc_exchanged (fun vs H Q E h => ?_) (fun cdv A outer s H vs Q E hr h => ?_)
  · obtain ⟨tb, D0, o0, ts, tab, p, c, n, m, u, rfl, _⟩ := h
    rfl
  · obtain ⟨tb, D0, o0, ts, tab, p, c, n, m, u, rfl, htb, hD0, hT0, h11, hp, hR, hc, hn, hm, hu, hub, q⟩ := h
    refine ⟨_, (qss_cons (qs_set (i := 4) sc_exchanged.nd rfl (Or.inr rfl) (qe_ix (ix_listN (K := K) rfl) (qv 0) (qv 1) (fun _ _ => rfl)))
      (qss_cons (qs_set (i := 5) sc_exchanged.nd rfl (Or.inr rfl) (qe_ix (ix_listN (K := K) rfl) (qv 4) (qv 2) (fun _ _ => rfl)))
      (qss_cons (qs_setCC (i := 6) sc_exchanged.nd rfl (Or.inl rfl) (compOkC_of (osc := defScope s_exchanged) (XN := ["table", "place", "column", "unit", "used", "pivot", "others"]) (N := ["row", "unit", "used", "pivot", "column"]) (js := [none, some 3, some 4, some 5, some 2]) rfl rfl rfl (List.forall_mem_cons.mpr ⟨rfl, (List.forall_mem_cons.mpr ⟨rfl, (List.forall_mem_cons.mpr ⟨rfl, (List.forall_mem_cons.mpr ⟨rfl, (List.forall_mem_nil _)⟩)⟩)⟩)⟩) (by decide +kernel) rfl) rfl (qi_list (qv 0)) (fun _ _ _ _ => (qg_name (i := 0) (show List.Nodup (["row", "unit", "used", "pivot", "column"] : List Str) from by decide +kernel) rfl (Or.inr rfl) (Or.inl rfl))) (fun _ _ _ _ => qts_nil)
          (fun _ _ _ _ => (qe_compC (compOkC_in (osc := defScope s_exchanged) (N := ["number", "taken", "unit", "pivot", "row", "column"]) (js := [none, none, some 1, some 3, some 0, some 4]) rfl rfl rfl (List.forall_mem_cons.mpr ⟨rfl, (List.forall_mem_cons.mpr ⟨rfl, (List.forall_mem_cons.mpr ⟨rfl, (List.forall_mem_cons.mpr ⟨rfl, (List.forall_mem_nil _)⟩)⟩)⟩)⟩) (by decide +kernel)) rfl (qi_zipL rfl rfl T.m_zip (qa_c (qv 0) (qa_c (qv 2) qa_nil))) (fun _ _ _ _ => (qg_tupN (K := K) (n := 2) rfl rfl (qgs_cons (qg_name (i := 0) (show List.Nodup (["number", "taken", "unit", "pivot", "row", "column"] : List Str) from by decide +kernel) rfl (Or.inl rfl) (Or.inr rfl)) (qgs_cons (qg_name (i := 1) (show List.Nodup (["number", "taken", "unit", "pivot", "row", "column"] : List Str) from by decide +kernel) rfl (Or.inl rfl) (Or.inr rfl)) qgs_nil)))) (fun _ _ _ _ => qts_nil)
          (fun _ _ _ _ => (qe_op op_fdivQ (qe_op op_sub (qe_op op_mulX (qv 0) (qv 3)) (qe_op op_mulX (qe_ix (ix_listN (K := K) rfl) (qv 4) (qv 5) (fun _ _ => rfl)) (qv 1))) (qv 2))))))
      (qss_cons (qs_asg (qv 4) (qg_sub (qv 6) (qv 1) set_list))
      (qss_one (qs_ret (qv 6))))))), ?_⟩
    have hT := hT0.tab
    obtain ⟨ua, hua, hua2⟩ := hT.at (k := p) (by omega)
    have nu0 : ua ≠ D0 := by
      obtain ⟨c', a', _, h2, h3, _⟩ := hT0.2 p _ hua
      injection h2 with h2
      rw [h2]; exact h3
    have hum : tab.getD p [] ∈ tab := by rw [List.getD_eq_getElem?_getD, List.getElem?_eq_getElem (by omega)]; exact List.getElem_mem _
    obtain ⟨ul, ub⟩ := hR _ hum
    have el : tabX tab p c u = (tab.map (exRow tab p c u)).set p (tab.getD p []) := rfl
    have er : ∀ row, exRow tab p c u row = List.zipWith (fun number taken => (number * (tab.getD p []).getD c 0 - row.getD c 0 * taken).fdiv u) row (tab.getD p []) := fun _ => rfl
    rw [el] at q
    generalize exRow tab p c u = ex at q er
    generalize tab.getD p [] = used at hua2 ul ub er q
    refine ⟨_, rfl, _, rfl, tb, ts, (p : Int), .ref ua, rfl, rfl, SqL.of htb, atI_of (by omega) (by rw [Int.toNat_natCast]; exact hua), ?_⟩
    refine ⟨_, rfl, _, rfl, ua, _, (c : Int), .int (used.getD c 0), rfl, rfl, SqL.of hua2, at_getD (by omega), ?_⟩
    refine ⟨_, rfl, tb, rfl, ⟨_, SqL.of htb⟩, fun L hL => ?_⟩
    refine comp_listG (K := K) (xs := ts) (σ0 := [some (.int u), some (.ref ua), some (.int (used.getD c 0)), some (.int (c : Int))]) (by rw [sizeLine_eq, hT.1]; omega) ⟨_, rfl⟩ hL htb (fun i H' zs => LR2 L D0 H' zs ((tab.map ex).take i)) ⟨rfl, fun i x hx => by cases hx⟩ (fun i H' H2 zs _ _ h b => h.keep fun c o n1 _ e => b c o n1 e) (fun i x H' zs R s' hx hD' hzl hRv r => ?_) fun H1 xs1 s1 hL1 hxl hRv => ?_
    · obtain ⟨row, ra, hrow, rfl, hra⟩ := hT.2 i x hx
      obtain ⟨rl, rb⟩ := hR row (List.mem_of_getElem? hrow)
      refine ⟨_, rfl, _, rfl, ra, ua, _, _, rfl, s' _ _ hra, s' _ _ hua2, fun D hD => ?_⟩
      refine comp_zipL_gen (K := K) (f := fun number taken => (number * used.getD c 0 - row.getD c 0 * taken).fdiv u) (σ0 := [some (.int u), some (.int (used.getD c 0)), some (.ref ra), some (.int (c : Int))]) (xs := row) (ys := used) (by rw [rl, ul, sizeLine_eq]; omega) ⟨_, _, rfl⟩ hD (s' _ _ hra) (s' _ _ hua2) (fun x y H2 R2 hx hy s2 r2 => ?_) fun H2 s2 hD2 => ?_
      · exact ⟨_, rfl, _, rfl, _, _, rfl, rfl, ⟨m, m, rb x hx, ub.at c, by omega, by omega⟩, _, rfl, _, rfl, ra, _, (c : Int), .int (row.getD c 0), rfl, rfl, SqL.of (s2 _ _ (s' _ _ hra)), at_getD (by omega), _, rfl, _, _, rfl, rfl, ⟨m, m, rb.at c, ub y hy, by omega, by omega⟩, _, _, rfl, rfl, _, rfl, _, _, rfl, rfl, ⟨hu, .inl ⟨m, hub, by omega⟩⟩, r2⟩
      · refine r _ H2 s2 ?_
        rw [List.take_add_one, List.getElem?_map, hrow]
        refine (hRv.keep fun c o _ _ e => s2 c o e).snoc (ne_of_none hD' hD).symm (ne_of_none (s' _ _ hD0) hD).symm ?_
        rw [hD2, er]
        rfl
    rw [List.take_of_length_le (by rw [List.length_map, hT.1]; exact Nat.le_refl _)] at hRv
    have xl := hRv.1
    rw [List.length_map] at xl
    refine ⟨_, rfl, _, rfl, _, rfl, L, xs1, (p : Int), p, rfl, rfl, hL1, by rw [ixN_of (by omega) (by omega), Int.toNat_natCast], _, rfl, q L _ (xs1.set p (.ref ua)) hL ?_ upd_same ?_⟩
    · intro b o e
      rw [upd_ne (ne_of_none e hL)]
      exact s1 _ _ e
    · have hua3 := s1 _ _ hua2
      have nuL : ua ≠ L := ne_of_none hua2 hL
      refine ⟨by rw [List.length_set, List.length_set, List.length_map, xl], fun i x hx => ?_⟩
      by_cases e : p = i
      · subst e
        have hl : p < xs1.length := by have := (List.getElem?_eq_some_iff.mp hx).1; rwa [List.length_set] at this
        rw [List.getElem?_set_self hl] at hx
        cases hx
        exact ⟨used, ua, List.getElem?_set_self (by rw [List.length_map]; omega), rfl, nu0, by rw [upd_ne nuL]; exact hua3⟩
      · rw [List.getElem?_set_ne e] at hx
        obtain ⟨r, a, h1, h2, h3, h3', h4⟩ := hRv.2 i x hx
        exact ⟨r, a, by rw [List.getElem?_set_ne e]; exact h1, h2, h3', by rw [upd_ne h3]; exact h4⟩
def endF (tab : List (List Int)) (bl : List Nat) (col n : Nat) (u : Int) (k : Nat) : List Int := (List.range k).foldl (fun l p => l.set (bl.getD p 0) (-tabT tab p col)) ((List.replicate n 0).set col u)
theorem endF_succ (tab : List (List Int)) (bl : List Nat) (col n : Nat) (u : Int) (k : Nat) : endF tab bl col n u (k + 1) = (endF tab bl col n u k).set (bl.getD k 0) (-tabT tab k col) := by
  unfold endF
  rw [List.range_succ, List.foldl_append]
  rfl
theorem endF_len (tab : List (List Int)) (bl : List Nat) (col n : Nat) (u : Int) : ∀ k, (endF tab bl col n u k).length = n
  | 0 => by
    show ((List.replicate n 0).set col u).length = n
    rw [List.length_set, List.length_replicate]
  | k + 1 => by rw [endF_succ, List.length_set, endF_len tab bl col n u k]
def sp_endless : Sp := fun vs H Q _ => ∃ (tb bs : Addr) (ts : List V) (tab : List (List Int)) (bl : List Nat) (col n : Nat) (u : Int), vs = [.ref tb, .ref bs, .int (col : Int), .int u] /\ H tb = some (.lst ts) /\ TabV H ts tab /\ tab.length = 11 /\ (∀ r ∈ tab, r.length = n) /\ H bs = some (lstI (natI bl)) /\ bl.length = 10 /\ (∀ p, p < 10 -> bl.getD p 0 < n) /\ col < n /\ n <= 1000 /\
  ∀ l H', H l = none -> Same H H' -> H' l = some (lstI (endF tab bl col n u 10)) -> Q (.ref l) H'
theorem ok_endless (T : Tx K mg) : FnOk P w K mg base CX0 1 T.f_endless T.fd_endless ["table", "basis", "column", "unit"] sp_endless := by
  refine T.D_endless.fn.okQ sc_endless (fun vs H Q E h => ?_) (fun cdv A outer s H vs Q E hr h => ?_)
  · obtain ⟨tb, bs, ts, tab, bl, col, n, u, rfl, _⟩ := h
    rfl
  · obtain ⟨tb, bs, ts, tab, bl, col, n, u, rfl, htb, hT, h11, hR, hbs, hbl, hbn, hc, hn, q⟩ := h
    refine ⟨_, (qss_cons (qs_set (i := 4) sc_endless.nd rfl (Or.inl rfl) (qe_op op_repLA (qe_lstA (qa_c qe_int qa_nil)) (qe_callB call_len_seq (by rfl) T.m_len b_len (qa_c (qe_ix ix_list (qv 0) qe_int (fun _ _ => rfl)) qa_nil))))
      (qss_cons (qs_asg (qv 3) (qg_sub (qv 4) (qv 2) set_list))
      (qss_cons (qs_for PassesOwn.never rfl (qi_enum rfl rfl T.m_enumerate (qa_c (qv 1) qa_nil)) (qg_tup rfl (qgs_cons (qg_name (i := 5) sc_endless.nd rfl (Or.inl rfl)) (qgs_cons (qg_name (i := 6) sc_endless.nd rfl (Or.inl rfl)) qgs_nil)))
        (qss_one (qs_asg (qe_un un_neg (qe_ix ix_list (qe_ix ix_list (qv 0) (qv 5) (fun _ _ => rfl)) (qv 2) (fun _ _ => rfl))) (qg_sub (qv 4) (qv 6) set_list))))
      (qss_one (qs_ret (qv 4)))))), ?_⟩
    have rln : ∀ k, k < 11 -> (tab.getD k []).length = n := fun k hk => hR _ (by rw [List.getD_eq_getElem?_getD, List.getElem?_eq_getElem (by omega)]; exact List.getElem_mem _)
    have nl : ((natI bl).map V.int).length = 10 := by rw [List.length_map]; unfold natI; rw [List.length_map]; exact hbl
    have bat : ∀ (i : Nat) x, ((natI bl).map V.int)[i]? = some x -> i < 10 /\ x = .int ((bl.getD i 0 : Nat) : Int) := fun i x hx => by
      have hi : i < 10 := by rw [← nl]; exact (List.getElem?_eq_some_iff.mp hx).1
      refine ⟨hi, ?_⟩
      unfold natI at hx
      rw [List.map_map, List.getElem?_map, List.getElem?_eq_getElem (by omega)] at hx
      rw [List.getD_eq_getElem?_getD, List.getElem?_eq_getElem (by omega)]
      cases hx
      rfl
    obtain ⟨a0, ha0, ha02⟩ := hT.at (k := 0) (by omega)
    refine ⟨(by show 1 <= sizeLine; decide), fun l0 H1 f1 s1 hl0 => ?_⟩
    refine ⟨_, rfl, tb, ts, 0, .ref a0, rfl, rfl, SqL.of (s1 _ _ htb), atI_of (by decide) ha0, a0, _, rfl, .inl (SqL.of (s1 _ _ ha02)), ?_⟩
    refine ⟨l0, _, _, rfl, rfl, hl0, by omega, ?_, ?_, fun l H2 f2 s2 hl2 => ?_⟩
    · rw [List.length_map, rln 0 (by decide)]; omega
    · rw [List.length_map, rln 0 (by decide), Int.toNat_natCast, sizeLine_eq]; show 1 * n <= _; omega
    have e0 : (List.replicate ((((tab.getD 0 []).map V.int).length : Int)).toNat [V.int 0]).flatten = (List.replicate n (0 : Int)).map V.int := by
      rw [List.length_map, rln 0 (by decide), Int.toNat_natCast, List.map_replicate]
      exact rep_flat n _
    rw [e0] at hl2
    have frl : H l = none := s1.free f2
    have ntl : tb ≠ l := ne_of_none htb frl
    have nbl : bs ≠ l := ne_of_none hbs frl
    refine ⟨_, rfl, _, rfl, _, rfl, l, _, (col : Int), col, rfl, rfl, hl2, by rw [ixN_of (by omega) (by rw [List.length_map, List.length_replicate]; omega), Int.toNat_natCast], ?_⟩
    rw [← List.map_set]
    have b3 : But l H (upd H2 l (.lst (((List.replicate n (0 : Int)).set col u).map V.int))) := (But.of (s1.trans s2)).set
    refine ⟨_, rfl, bs, _, rfl, b3 _ _ nbl hbs, for_enum (xs := (natI bl).map V.int) (fun i σ HC => (∃ v w : Option V, σ = [some (.ref tb), some (.ref bs), some (.int (col : Int)), some (.int u), some (.ref l), v, w]) /\ But l H HC /\ HC l = some (lstI (endF tab bl col n u i))) ⟨⟨_, _, rfl⟩, b3, upd_same⟩ (fun i σ HC _ ⟨_, bC, _⟩ => bC _ _ nbl hbs) ?_ ?_⟩
    · rintro i x p σ HC hx hp ⟨⟨v, w, rfl⟩, bC, hlC⟩
      obtain ⟨hi, rfl⟩ := bat i x hx
      obtain ⟨ra, hra, hra2⟩ := hT.at (k := i) (by omega)
      have bp := bC.trans (But.of (Same.new (o := .tup [.int (i : Int), .int ((bl.getD i 0 : Nat) : Int)]) hp))
      have hlp : upd HC p (.tup [.int (i : Int), .int ((bl.getD i 0 : Nat) : Int)]) l = _ := (upd_ne (ne_of_none hlC hp)).trans hlC
      have nra : ra ≠ l := ne_of_none hra2 frl
      have hln := endF_len tab bl col n u i
      refine ⟨p, _, rfl, SqT.of upd_same, rfl, _, _, rfl, _, _, rfl, rfl, ?_⟩
      refine ⟨_, rfl, _, rfl, tb, ts, (i : Int), .ref ra, rfl, rfl, SqL.of (bp _ _ ntl htb), atI_of (by omega) (by rw [Int.toNat_natCast]; exact hra), _, rfl, ra, _, (col : Int), .int ((tab.getD i []).getD col 0), rfl, rfl, SqL.of (bp _ _ nra hra2), at_getD (by rw [rln i (by omega)]; exact hc), _, rfl, ?_⟩
      refine ⟨_, rfl, _, rfl, l, _, ((bl.getD i 0 : Nat) : Int), bl.getD i 0, rfl, rfl, hlp, by rw [ixN_of (by omega) (by rw [List.length_map, hln]; have := hbn i hi; omega), Int.toNat_natCast], ⟨_, _, rfl⟩, bp.set, ?_⟩
      rw [upd_same, endF_succ]
      unfold lstI tabT
      rw [List.map_set]
    · rintro σ HC ⟨⟨v, w, rfl⟩, bC, hlC⟩
      rw [nl] at hlC
      exact ⟨_, rfl, q l HC frl (fun b o e => bC _ _ (ne_of_none e frl) e) hlC⟩
end
end W2
namespace W2
open PySem L2 Mth
def byP (cs : List (List Int)) (p : Nat) : List Int := cs.map fun c => c.getD p 0
section
variable {P : Program} {w : World} {K : PySem.W.Frag} {mg : Str -> Option Value} {base : Heap}
def RwD (D : Addr) (H : Hp) (ys : List V) (rows : List (List Int)) : Prop := ys.length = rows.length /\ ∀ (i : Nat) (x : V), ys[i]? = some x -> ∃ c a, rows[i]? = some c /\ x = .ref a /\ a ≠ D /\ H a = some (tupI c)
theorem RwD.nil {D : Addr} {H : Hp} : RwD D H [] [] := ⟨rfl, fun i x hx => by cases hx⟩
theorem RwD.but {D : Addr} {H H' : Hp} {ys : List V} {rows : List (List Int)} (h : RwD D H ys rows) (b : ∀ c o, c ≠ D -> H c = some o -> H' c = some o) : RwD D H' ys rows := ⟨h.1, fun i x hx => by
  obtain ⟨c, a, h1, h2, h3, h4⟩ := h.2 i x hx
  exact ⟨c, a, h1, h2, h3, b _ _ h3 h4⟩⟩
theorem RwD.snoc {D : Addr} {H : Hp} {ys : List V} {rows : List (List Int)} (h : RwD D H ys rows) {a : Addr} {c : List Int} (na : a ≠ D) (ha : H a = some (tupI c)) : RwD D H (ys ++ [.ref a]) (rows ++ [c]) := ⟨by rw [List.length_append, List.length_append, h.1]; rfl, fun i x hx => by
  rcases Nat.lt_or_ge i ys.length with z | z
  · rw [List.getElem?_append_left z] at hx
    obtain ⟨c', a', h1, h2⟩ := h.2 i x hx
    exact ⟨c', a', by rw [List.getElem?_append_left (by rw [← h.1]; exact z)]; exact h1, h2⟩
  · rw [List.getElem?_append_right z] at hx
    have z0 : i - ys.length = 0 := by
      rcases Nat.eq_zero_or_pos (i - ys.length) with z | z
      · exact z
      · rw [List.getElem?_eq_none (show [V.ref a].length <= _ from z)] at hx
        cases hx
    rw [z0] at hx
    cases hx
    exact ⟨c, a, by rw [List.getElem?_append_right (by rw [← h.1]; exact z), ← h.1, z0]; rfl, rfl, na, ha⟩⟩
def sp_by_primes : Sp := fun vs H Q _ => ∃ (a : Addr) (ys : List V) (cs : List (List Int)), vs = [.ref a] /\ H a = some (.lst ys) /\ RowsV H ys cs /\ (∀ c ∈ cs, c.length = 10) /\ cs.length <= 1000 /\
  ∀ l H' zs, H l = none -> Same H H' -> H' l = some (.lst zs) -> RwD l H' zs ((List.range 10).map (byP cs)) -> Q (.ref l) H'
theorem ok_by_primes (T : Tx K mg) : FnOk P w K mg base CX0 1 T.f_by_primes T.fd_by_primes ["rows"] sp_by_primes := by
  refine T.D_by_primes.fn.okQ sc_by_primes (fun vs H Q E h => ?_) (fun cdv A outer s H vs Q E hr h => ?_)
  · obtain ⟨a, ys, cs, rfl, _⟩ := h
    rfl
  · obtain ⟨a, ys, cs, rfl, ha, hR, h10, hl, q⟩ := h
    refine ⟨_, (qss_one (qs_ret (qe_compC (compOkC_of (osc := defScope s_by_primes) (XN := ["rows"]) (N := ["place", "rows"]) (js := [none, some 0]) rfl rfl rfl (List.forall_mem_cons.mpr ⟨rfl, (List.forall_mem_nil _)⟩) (by decide +kernel) rfl) rfl (qi_range1 rfl T.m_range (qa_c (qe_callB call_len_seq (by rfl) T.m_len b_len (qa_c (qe_glob (v := .ref T.a_PRIMES) (by rfl) T.g_PRIMES rfl) qa_nil)) qa_nil)) (fun _ _ _ _ => (qg_name (i := 0) (show List.Nodup (["place", "rows"] : List Str) from by decide +kernel) rfl (Or.inr rfl) (Or.inl rfl))) (fun _ _ _ _ => qts_nil)
          (fun _ _ _ _ => (qe_callTy (call_tuple_ofN (K := K) rfl) (by rfl) T.m_tuple b_tuple (qa_c (qe_compC (compOkC_in (osc := defScope s_by_primes) (N := ["changes", "place"]) (js := [none, some 0]) rfl rfl rfl (List.forall_mem_cons.mpr ⟨rfl, (List.forall_mem_nil _)⟩) (by decide +kernel)) rfl ((qi_listN (K := K) rfl) (qv 1)) (fun _ _ _ _ => (qg_name (i := 0) (show List.Nodup (["changes", "place"] : List Str) from by decide +kernel) rfl (Or.inl rfl) (Or.inr rfl))) (fun _ _ _ _ => qts_nil)
          (fun _ _ _ _ => (qe_ix (ix_tupN (K := K) rfl) (qv 0) (qv 1) (fun _ _ => rfl)))) qa_nil)))))), ?_⟩
    refine ⟨T.a_PRIMES, _, rfl, .inr (T.t_PRIMES H), _, rfl, by decide, by decide, fun D hD => ?_⟩
    refine comp_range (n := 10) (by rw [sizeLine_eq]; decide) (fun i σ' H' zs => (∃ u : Option V, σ' = [u, some (.ref a)]) /\ Same H H' /\ RwD D H' zs (((List.range 10).take i).map (byP cs))) ⟨⟨_, rfl⟩, Same.new hD, RwD.nil⟩ ?_ ?_
    · rintro i σ' H' zs R hi hD' hyl ⟨⟨u, rfl⟩, s', hRv⟩ kk
      rw [Int.zero_add]
      refine ⟨_, rfl, a, rfl, ⟨_, SqL.of (s' _ _ ha)⟩, fun D2 hD2 => ?_⟩
      refine comp_listG (K := K) (xs := ys) (σ0 := [some (.int (i : Int))]) (by rw [sizeLine_eq, hR.1]; omega) ⟨_, rfl⟩ hD2 (s' _ _ ha) (fun k H2 ws => ws = ((byP cs i).map V.int).take k) rfl (fun k H2 H3 ws _ _ h _ => h) (fun k x H2 ws R2 s2 hx _ _ hw r => ?_) fun H2 ws s2 hD22 _ hw => ?_
      · obtain ⟨c, hc, o, rfl, ho⟩ := hR.2 k x hx
        have c10 := h10 c (List.mem_of_getElem? hc)
        refine ⟨_, rfl, _, rfl, o, _, (i : Int), .int (c.getD i 0), rfl, rfl, SqT.of (s2 _ _ (s' _ _ ho)), at_getD (by omega), ?_⟩
        refine r _ H2 (Same.refl _) ?_
        have e : ((byP cs i).map V.int)[k]? = some (.int (c.getD i 0)) := by unfold byP; rw [List.map_map, List.getElem?_map, hc]; rfl
        rw [List.take_add_one, e, hw]
        rfl
      · rw [List.take_of_length_le (by rw [List.length_map]; unfold byP; rw [List.length_map, hR.1]; exact Nat.le_refl _)] at hw
        subst hw
        refine ⟨D2, _, rfl, SqL.of hD22, fun t H3 f3 s3 ht => ?_⟩
        have s23 := s2.trans s3
        refine kk _ _ _ (s23 _ _ hD') ⟨⟨_, rfl⟩, ?_, ?_⟩
        · intro e o eo
          rw [upd_ne (ne_of_none eo hD)]
          exact s23 _ _ (s' _ _ eo)
        · have e1 : (List.range 10)[i]? = some i := List.getElem?_range hi
          rw [List.take_add_one, e1, List.map_append]
          exact ((hRv.but fun c o _ e => s23 _ _ e).snoc (ne_of_none (s2 _ _ hD') f3).symm ht).but fun c o n e => by rw [upd_ne n]; exact e
    · rintro σ' H4 zs hD4 hyl ⟨_, s4, hRv⟩
      exact q D H4 zs hD s4 hD4 hRv
def firstR (cs : List (List Int)) (p : Nat) : List Int := ((byP cs p).map fun x => -x) ++ unitI p
def firstT (cs : List (List Int)) : List (List Int) := (List.range 10).map (firstR cs) ++ [List.replicate cs.length 1 ++ List.replicate 10 0]
def sp_first_table : Sp := fun vs H Q _ => ∃ (a : Addr) (ys : List V) (cs : List (List Int)), vs = [.ref a] /\ H a = some (.lst ys) /\ RowsV H ys cs /\ (∀ c ∈ cs, c.length = 10) /\ cs.length <= 500 /\
  ∀ l H' ts, H l = none -> Same H H' -> H' l = some (.lst ts) -> TabV H' ts (firstT cs) -> Q (.ref l) H'
theorem ok_first_table (T : Tx K mg) : FnOk P w K mg base CX0 2 T.f_first_table T.fd_first_table ["rows"] sp_first_table := by
  refine T.D_first_table.fn.okQ sc_first_table (fun vs H Q E h => ?_) (fun cdv A outer s H vs Q E hr h => ?_)
  · obtain ⟨a, ys, cs, rfl, _⟩ := h
    rfl
  · obtain ⟨a, ys, cs, rfl, ha, hR, h10, hl, q⟩ := h
    refine ⟨_, (qss_cons (qs_setCC (i := 1) sc_first_table.nd rfl (Or.inl rfl) (compOkC_of (osc := defScope s_first_table) (XN := ["rows", "table"]) (N := ["prime", "changes"]) (js := [none, none]) rfl rfl rfl (List.forall_mem_nil _) (by decide +kernel) rfl) rfl (qi_zipM rfl rfl T.m_zip (qa_c (qe_glob (v := .ref T.a_PRIMES) (by rfl) T.g_PRIMES rfl) (qa_c (qe_call (ok_by_primes T) (hr.mono (by decide)) rfl T.D_by_primes.at_ T.D_by_primes.fn.kp T.D_by_primes.bd .nil pass0 (qa_c (qv 0) qa_nil)) qa_nil))) (fun _ _ _ _ => (qg_tupN (K := K) (n := 2) rfl rfl (qgs_cons (qg_name (i := 0) (show List.Nodup (["prime", "changes"] : List Str) from by decide +kernel) rfl (Or.inl rfl) (Or.inr rfl)) (qgs_cons (qg_name (i := 1) (show List.Nodup (["prime", "changes"] : List Str) from by decide +kernel) rfl (Or.inl rfl) (Or.inr rfl)) qgs_nil)))) (fun _ _ _ _ => qts_nil)
          (fun _ _ _ _ => (qe_op op_catLA (qe_compC (compOkC_in (osc := defScope s_first_table) (N := ["change"]) (js := [none]) rfl rfl rfl (List.forall_mem_nil _) (by decide +kernel)) rfl ((qi_tupN (K := K) rfl) (qv 1)) (fun _ _ _ _ => (qg_name (i := 0) (show List.Nodup (["change"] : List Str) from by decide +kernel) rfl (Or.inl rfl) (Or.inr rfl))) (fun _ _ _ _ => qts_nil)
          (fun _ _ _ _ => (qe_un un_neg (qv 0)))) (qe_callTy (call_list_ofN (K := K) rfl) (by rfl) T.m_list b_list (qa_c (qe_call (ok_unit_row T) (hr.mono (by decide)) rfl T.D_unit_row.at_ T.D_unit_row.fn.kp T.D_unit_row.bd .nil pass0 (qa_c (qv 0) qa_nil)) qa_nil)))))
      (qss_cons (qs_expr (qe_bm PySem.F.plainAttrs_list PySem.F.slot_list_append PySem.F.type_list_append mt_appendA (qv 1) (qa_c (qe_op op_catLA (qe_op op_repLA (qe_lstA (qa_c qe_int qa_nil)) (qe_callB call_len_seq (by rfl) T.m_len b_len (qa_c (qv 0) qa_nil))) (qe_op op_repLA (qe_lstA (qa_c qe_int qa_nil)) (qe_callB call_len_seq (by rfl) T.m_len b_len (qa_c (qe_glob (v := .ref T.a_PRIMES) (by rfl) T.g_PRIMES rfl) qa_nil)))) qa_nil)))
      (qss_one (qs_ret (qv 1))))), ?_⟩
    have yl := hR.1
    refine ⟨_, rfl, a, ys, cs, rfl, ha, hR, h10, by omega, fun bp H1 bs f1 s1 hbp hB => ?_⟩
    refine ⟨T.a_PRIMES, bp, rfl, ⟨_, T.t_PRIMES H1⟩, ⟨_, SqL.of hbp⟩, fun D hD => ?_⟩
    have bl := hB.1
    rw [List.length_map, List.length_range] at bl
    refine comp_zipM (K := K) (a := T.a_PRIMES) (b := bp) (xs := primesV) (ys := bs) (by rw [bl]; decide) (fun i σ' H' zs => (∃ u v : Option V, σ' = [u, v]) /\ Same H1 H' /\ LRw D H' zs (((List.range 10).take i).map (firstR cs))) ⟨⟨_, _, rfl⟩, Same.new hD, rfl, fun i x hx => by cases hx⟩ (fun i σ' H' zs _ ⟨_, s', _⟩ => ⟨T.t_PRIMES H', SqL.of (s' _ _ hbp)⟩) ?_ ?_
    · rintro i x y p σ' H' zs R hx hy hp' hD' hzl ⟨⟨u, v, rfl⟩, s', hRv⟩ kk
      obtain ⟨r, rfl, hr', _⟩ := primesV_get hx
      have hi : i < 10 := (List.getElem?_eq_some_iff.mp hr').1
      obtain ⟨c, o, hc, rfl, _, ho⟩ := hB.2 i y hy
      have ec : c = byP cs i := by
        rw [List.getElem?_map, List.getElem?_range hi] at hc
        cases hc
        rfl
      subst ec
      refine ⟨p, _, rfl, SqT.of upd_same, rfl, _, _, rfl, _, _, rfl, rfl, ?_⟩
      have sp : Same H1 (upd H' p (.tup [.int r, .ref o])) := s'.trans (Same.new hp')
      refine ⟨_, rfl, o, rfl, ⟨_, SqT.of (sp _ _ ho)⟩, fun D2 hD2 => ?_⟩
      refine comp_map_tup (K := K) (f := fun v => match v with | .int n => .int (-n) | w => w) (xs := (byP cs i).map V.int) rfl (by unfold byP; rw [sizeLine_eq, List.length_map, List.length_map]; omega) hD2 (SqT.of (sp _ _ ho)) (fun x H2 R2 hx r2 => ?_) ?_
      · obtain ⟨n, _, rfl⟩ := List.mem_map.mp hx
        exact ⟨_, rfl, _, rfl, r2⟩
      have hD2' : upd (upd H' p (.tup [.int r, .ref o])) D2 (.lst (((byP cs i).map V.int).map fun v => match v with | .int n => .int (-n) | w => w)) D2 = some (.lst (((byP cs i).map fun x => -x).map V.int)) := by
        rw [upd_same, List.map_map, List.map_map]
        rfl
      generalize hG : upd (upd H' p (.tup [.int r, .ref o])) D2 (.lst (((byP cs i).map V.int).map fun v => match v with | .int n => .int (-n) | w => w)) = G at hD2'
      have sG : Same (upd H' p (.tup [.int r, .ref o])) G := by rw [← hG]; exact Same.new hD2
      refine ⟨_, rfl, i, r, rfl, hr', fun p2 G2 g2 t2 hp2 => ⟨p2, _, rfl, .inr (SqT.of hp2), fun p3 G3 g3 t3 hp3 => ?_⟩⟩
      refine ⟨D2, p3, _, _, rfl, rfl, t3 _ _ (t2 _ _ hD2'), hp3, ?_, fun p4 G4 g4 t4 hp4 => ?_⟩
      · rw [sizeLine_eq, List.length_map, List.length_map, List.length_map, unit_len]
        unfold byP
        rw [List.length_map]
        omega
      have s4 : Same H' G4 := (Same.new hp').trans (sG.trans (t2.trans (t3.trans t4)))
      refine kk _ _ _ (s4 _ _ hD') ⟨⟨_, _, rfl⟩, ?_, ?_⟩
      · intro e o' eo
        rw [upd_ne (ne_of_none eo hD)]
        exact s4 _ _ (s' _ _ eo)
      · have e1 : (List.range 10)[i]? = some i := List.getElem?_range hi
        rw [List.take_add_one, e1, List.map_append]
        have hD3 : G3 D = some (.lst zs) := t3 _ _ (t2 _ _ (sG _ _ (Same.new hp' _ _ hD')))
        refine ((hRv.same s4).snoc (ne_of_none hD3 g4).symm ?_).but But.upd
        rw [hp4, ← List.map_append]
        rfl
    · rintro σ' H2 zs hD2 hzl ⟨_, s2, hRv⟩
      have e10 : min primesV.length bs.length = 10 := by rw [bl]; rfl
      rw [e10] at hRv
      have s12 := s1.trans s2
      refine ⟨_, rfl, .inl ⟨rfl, _, SqL.of hD2⟩, (by show 1 <= sizeLine; decide), fun l1 G1 g1 t1 hl1 => ?_⟩
      refine ⟨_, rfl, a, ys, rfl, .inl (SqL.of (t1 _ _ (s12 _ _ ha))), l1, _, _, rfl, rfl, hl1, by omega, by omega, ?_, fun l2 G2 g2 t2 hl2 => ?_⟩
      · rw [Int.toNat_natCast, sizeLine_eq]; show 1 * ys.length <= _; omega
      refine ⟨(by show 1 <= sizeLine; decide), fun l3 G3 g3 t3 hl3 => ?_⟩
      refine ⟨T.a_PRIMES, _, rfl, .inr (T.t_PRIMES G3), l3, _, _, rfl, rfl, hl3, by decide, by decide, by decide, fun l4 G4 g4 t4 hl4 => ?_⟩
      rw [Int.toNat_natCast, rep_flat] at hl2
      have hl4' : G4 l4 = some (.lst (List.replicate 10 (V.int 0))) := hl4
      refine ⟨l2, l4, _, _, rfl, rfl, t4 _ _ (t3 _ _ hl2), hl4', ?_, fun l5 G5 g5 t5 hl5 => ?_⟩
      · rw [List.length_replicate, List.length_replicate, sizeLine_eq]; omega
      have t25 : Same H2 G5 := t1.trans (t2.trans (t3.trans (t4.trans t5)))
      have hD5 := t25 _ _ hD2
      have zl := hRv.1
      rw [List.length_map, List.length_take, List.length_range] at zl
      refine ⟨D, zs, .ref l5, rfl, rfl, hD5, by rw [sizeLine_eq]; omega, fun G6 b6 hD6 => ?_⟩
      have nl5 : l5 ≠ D := fun z => by
        have := (t1.trans (t2.trans (t3.trans t4))) _ _ hD2
        rw [← z, g5] at this; cases this
      refine ⟨_, rfl, q D G6 _ (s1.free hD) (fun c o e => b6 _ _ (ne_of_none (s1 _ _ e) hD) (t25 _ _ (s12 _ _ e))) hD6 ?_⟩
      have hL5 : LRw D G5 (zs ++ [.ref l5]) (firstT cs) := by
        unfold firstT
        rw [show (List.range 10).take 10 = List.range 10 from rfl] at hRv
        refine (hRv.same t25).snoc nl5 ?_
        rw [hl5, yl]
        unfold lstI
        rw [List.map_append, List.map_replicate, List.map_replicate]
      refine ⟨hL5.1, fun i x hx => ?_⟩
      obtain ⟨c, e, h1, h2, h3, h4⟩ := hL5.2 i x hx
      exact ⟨c, e, h1, h2, b6 _ _ h3 h4⟩
end
end W2
namespace W2
open PySem L2 Mth
theorem getD_app_l {α : Type} {l m : List α} {i : Nat} {d : α} (h : i < l.length) : (l ++ m).getD i d = l.getD i d := by
  rw [List.getD_eq_getElem?_getD, List.getD_eq_getElem?_getD, List.getElem?_append_left h]
theorem getD_app_r {α : Type} {l m : List α} {i : Nat} {d : α} (h : l.length <= i) : (l ++ m).getD i d = m.getD (i - l.length) d := by
  rw [List.getD_eq_getElem?_getD, List.getD_eq_getElem?_getD, List.getElem?_append_right h]
theorem byP_len (cs : List (List Int)) (p : Nat) : (byP cs p).length = cs.length := List.length_map _
theorem byP_get (cs : List (List Int)) (p j : Nat) : (byP cs p).getD j 0 = (cs.getD j []).getD p 0 := by
  unfold byP
  rw [List.getD_eq_getElem?_getD, List.getElem?_map, List.getD_eq_getElem?_getD (l := cs)]
  cases cs[j]? with
  | none => rfl
  | some c => rfl
theorem firstT_row {cs : List (List Int)} {q : Nat} (hq : q < 10) : (firstT cs).getD q [] = firstR cs q := by
  unfold firstT
  rw [getD_app_l (by rw [List.length_map, List.length_range]; exact hq), List.getD_eq_getElem?_getD, List.getElem?_map, List.getElem?_range hq]
  rfl
theorem firstT_last (cs : List (List Int)) : (firstT cs).getD 10 [] = List.replicate cs.length 1 ++ List.replicate 10 0 := by
  unfold firstT
  rw [getD_app_r (by rw [List.length_map, List.length_range]; exact Nat.le_refl _), List.length_map, List.length_range]
  rfl
theorem firstT_len (cs : List (List Int)) : (firstT cs).length = 11 /\ ∀ r ∈ firstT cs, r.length = cs.length + 10 := by
  refine ⟨by unfold firstT; rw [List.length_append, List.length_map, List.length_range]; rfl, fun r hr => ?_⟩
  unfold firstT at hr
  rcases List.mem_append.mp hr with z | z
  · obtain ⟨p, _, rfl⟩ := List.mem_map.mp z
    unfold firstR
    rw [List.length_append, List.length_map, byP_len, unit_len]
  · rw [List.mem_singleton.mp z, List.length_append, List.length_replicate, List.length_replicate]
theorem firstT_get {cs : List (List Int)} {q j : Nat} (hq : q < 11) (hj : j < cs.length + 10) : tabT (firstT cs) q j = colA cs j q := by
  unfold tabT
  by_cases h10 : q < 10
  · rw [firstT_row h10]
    unfold firstR colA
    by_cases hm : j < cs.length
    · rw [if_pos hm, if_pos h10, getD_app_l (by rw [List.length_map, byP_len]; exact hm), List.getD_eq_getElem?_getD, List.getElem?_map, ← byP_get]
      rw [List.getD_eq_getElem?_getD (l := byP cs q), List.getElem?_eq_getElem (by rw [byP_len]; exact hm)]
      rfl
    · rw [if_neg hm, getD_app_r (by rw [List.length_map, byP_len]; omega), List.length_map, byP_len, unit_get, if_pos (by omega)]
      by_cases e : j - cs.length = q
      · rw [if_pos e, if_pos e.symm]
      · rw [if_neg e, if_neg fun z => e z.symm]
  · have e10 : q = 10 := by omega
    subst e10
    rw [firstT_last]
    unfold colA
    by_cases hm : j < cs.length
    · rw [if_pos hm, if_neg (by decide), if_pos rfl, getD_app_l (by rw [List.length_replicate]; exact hm), List.getD_eq_getElem?_getD, List.getElem?_replicate, if_pos hm]
      rfl
    · rw [if_neg hm, getD_app_r (by rw [List.length_replicate]; omega), List.length_replicate, getD_rep, if_neg (by omega)]
theorem exRow_get {tab : List (List Int)} {p c : Nat} {u : Int} {row : List Int} (hl : row.length = (tab.getD p []).length) {j : Nat} (hj : j < row.length) : (exRow tab p c u row).getD j 0 = (row.getD j 0 * (tab.getD p []).getD c 0 - row.getD c 0 * (tab.getD p []).getD j 0).fdiv u := by
  unfold exRow
  have e1 : row[j]? = some (row.getD j 0) := by rw [List.getD_eq_getElem?_getD, List.getElem?_eq_getElem hj]; rfl
  have e2 : (tab.getD p [])[j]? = some ((tab.getD p []).getD j 0) := by rw [List.getD_eq_getElem?_getD (l := tab.getD p []), List.getElem?_eq_getElem (by omega)]; rfl
  rw [List.getD_eq_getElem?_getD, List.getElem?_zipWith_eq_some.mpr ⟨_, _, e1, e2, rfl⟩]
  rfl
theorem tabX_len {tab : List (List Int)} {p c n : Nat} {u : Int} (h11 : tab.length = 11) (hp : p < 11) (hR : ∀ r ∈ tab, r.length = n) : (tabX tab p c u).length = 11 /\ ∀ r ∈ tabX tab p c u, r.length = n := by
  have hum : tab.getD p [] ∈ tab := by rw [List.getD_eq_getElem?_getD, List.getElem?_eq_getElem (by omega)]; exact List.getElem_mem _
  refine ⟨by unfold tabX; rw [List.length_set, List.length_map, h11], fun r hr => ?_⟩
  unfold tabX at hr
  rcases List.mem_or_eq_of_mem_set hr with z | z
  · obtain ⟨row, h1, rfl⟩ := List.mem_map.mp z
    unfold exRow
    rw [List.length_zipWith, hR row h1, hR _ hum, Nat.min_self]
  · rw [z]; exact hR _ hum
theorem tabX_get {tab : List (List Int)} {p c n : Nat} {u : Int} (h11 : tab.length = 11) (hp : p < 11) (hR : ∀ r ∈ tab, r.length = n) {q j : Nat} (hq : q < 11) (hj : j < n) : tabT (tabX tab p c u) q j = exT (tabT tab) u p c q j := by
  have hrm : ∀ k, k < 11 -> tab.getD k [] ∈ tab := fun k hk => by rw [List.getD_eq_getElem?_getD, List.getElem?_eq_getElem (by omega)]; exact List.getElem_mem _
  unfold tabT exT tabX
  by_cases e : q = p
  · subst e
    rw [if_pos rfl, List.getD_eq_getElem?_getD (l := (tab.map (exRow tab q c u)).set q (tab.getD q [])), List.getElem?_set_self (by rw [List.length_map]; omega)]
    rfl
  · rw [if_neg e, List.getD_eq_getElem?_getD (l := (tab.map (exRow tab p c u)).set p (tab.getD p [])), List.getElem?_set_ne fun z => e z.symm, List.getElem?_map, List.getElem?_eq_getElem (by omega)]
    have e2 : tab[q] = tab.getD q [] := by rw [List.getD_eq_getElem?_getD, List.getElem?_eq_getElem (by omega)]; rfl
    rw [e2]
    exact exRow_get (by rw [hR _ (hrm q hq), hR _ (hrm p hp)]) (by rw [hR _ (hrm q hq)]; exact hj)
def bN (bl : List Nat) (n : Nat) : Nat -> Nat := fun q => if q < 10 then bl.getD q 0 else n
theorem bN_set {bl : List Nat} {n p c : Nat} (hl : bl.length = 10) (hp : p < 10) {q : Nat} (hq : q < 11) : bN (bl.set p c) n q = exB (bN bl n) p c q := by
  unfold bN exB
  by_cases e : q = p
  · subst e
    rw [if_pos hp, if_pos rfl, List.getD_eq_getElem?_getD, List.getElem?_set_self (by omega)]
    rfl
  · rw [if_neg e]
    show (if q < 10 then (bl.set p c).getD q 0 else n) = if q < 10 then bl.getD q 0 else n
    by_cases h : q < 10
    · rw [if_pos h, if_pos h, List.getD_eq_getElem?_getD, List.getElem?_set_ne fun z => e z.symm, List.getD_eq_getElem?_getD]
    · rw [if_neg h, if_neg h]
theorem sumN_shift (f : Nat -> Int) : ∀ n, sumN f (n + 1) = f 0 + sumN (fun i => f (i + 1)) n
  | 0 => by show (0 : Int) + f 0 = f 0 + 0; omega
  | n + 1 => by
    show sumN f (n + 1) + f (n + 1) = f 0 + (sumN (fun i => f (i + 1)) n + f (n + 1))
    rw [sumN_shift f n]
    omega
theorem dot_sumN : ∀ (r s : List Int), r.length = s.length -> dotI r s = sumN (fun i => r.getD i 0 * s.getD i 0) r.length
  | [], s, _ => rfl
  | a :: r, [], h => by cases h
  | a :: r, b :: s, h => by
    rw [dotI_cons, dot_sumN r s (by simpa using h), List.length_cons, sumN_shift]
    rfl
end W2
namespace W2
open PySem L2 Mth
theorem least {f : Nat -> Int} (h : ∃ k, 0 < f k) : ∃ k, 0 < f k /\ ∀ i, i < k -> f i <= 0 := by
  obtain ⟨n, hn⟩ := h
  induction n using Nat.strongRecOn with
  | ind n ih =>
    by_cases e : ∃ m, m < n /\ 0 < f m
    · obtain ⟨m, h1, h2⟩ := e
      exact ih m h1 h2
    · exact ⟨n, hn, fun i hi => by
        rcases Int.lt_or_le 0 (f i) with z | z
        · exact absurd ⟨i, hi, z⟩ e
        · exact z⟩
theorem colF_some {ns : List Int} {j : Nat} (h : colF ns = some j) : j < ns.length /\ 0 < ns.getD j 0 /\ ∀ i, i < j -> ns.getD i 0 <= 0 := by
  unfold colF at h
  have h1 := List.find?_some h
  have h2 := List.mem_of_find?_eq_some h
  refine ⟨List.mem_range.mp h2, of_decide_eq_true h1, fun i hi => ?_⟩
  rcases Int.lt_or_le 0 (ns.getD i 0) with z | z
  · exfalso
    have hj := List.mem_range.mp h2
    by_cases hall : ∀ k, k < i -> decide (0 < ns.getD k 0) = false
    · rw [find_range (i := i) (by omega) hall, show ns.length - i = (ns.length - i - 1) + 1 by omega, List.range'_succ, List.find?_cons, decide_eq_true z] at h
      cases h
      omega
    · have : ∃ k, k < i /\ 0 < ns.getD k 0 := Classical.byContradiction fun hn => hall fun k hk => decide_eq_false fun w => hn ⟨k, hk, w⟩
      have hex : ∃ k, 0 < ns.getD k 0 := ⟨i, z⟩
      obtain ⟨k, hk1, hk2⟩ := least hex
      have hki : k <= i := Nat.le_of_not_lt fun w => by have := hk2 i w; omega
      rw [find_range (i := k) (by omega) (fun l hl => decide_eq_false fun w => by have := hk2 l hl; omega), show ns.length - k = (ns.length - k - 1) + 1 by omega, List.range'_succ, List.find?_cons, decide_eq_true hk1] at h
      cases h
      omega
  · exact z
theorem colF_none {ns : List Int} (h : colF ns = none) : ∀ i, i < ns.length -> ns.getD i 0 <= 0 := fun i hi => by
  unfold colF at h
  have := List.find?_eq_none.mp h i (List.mem_range.mpr hi)
  rcases Int.lt_or_le 0 (ns.getD i 0) with z | z
  · exact absurd (decide_eq_true z) this
  · exact z
end W2
namespace W2
open PySem L2 Mth
structure SxL (cs : List (List Int)) (k : Nat) (tab : List (List Int)) (bl : List Nat) (u : Int) : Prop where
  l11 : tab.length = 11
  ln : ∀ r ∈ tab, r.length = cs.length + 10
  b10 : bl.length = 10
  hist : Hist (cs.length + 10) (colA cs) k (tabT tab) (bN bl (cs.length + 10)) u
theorem SxL.row {cs : List (List Int)} {k : Nat} {tab : List (List Int)} {bl : List Nat} {u : Int} (h : SxL cs k tab bl u) {p : Nat} (hp : p < 11) : (tab.getD p []) ∈ tab /\ (tab.getD p []).length = cs.length + 10 := by
  have hm : tab.getD p [] ∈ tab := by rw [List.getD_eq_getElem?_getD, List.getElem?_eq_getElem (by rw [h.l11]; exact hp)]; exact List.getElem_mem _
  exact ⟨hm, h.ln _ hm⟩
theorem SxL.blt {cs : List (List Int)} {k : Nat} {tab : List (List Int)} {bl : List Nat} {u : Int} (h : SxL cs k tab bl u) {p : Nat} (hp : p < 10) : bl.getD p 0 < cs.length + 10 := by
  have := h.hist.at.blt p hp
  unfold bN at this
  rwa [if_pos hp] at this
theorem SxL.bd {cs : List (List Int)} {k : Nat} {tab : List (List Int)} {bl : List Nat} {u : Int} (h : SxL cs k tab bl u) (hb : ∀ c ∈ cs, BdI 6 c) : (∀ r ∈ tab, BdI 92 r) /\ u.natAbs <= 2 ^ 92 := by
  have hA : ∀ j p, j <= cs.length + 10 -> p < 11 -> (colA cs j p).natAbs <= 64 := fun j p _ _ => colA_bd hb j p
  refine ⟨fun r hr n hn => ?_, (h.hist.at.bd hA (p := 0) (j := 0) (by decide) (by omega)).2⟩
  obtain ⟨p, hp⟩ := List.getElem?_of_mem hr
  obtain ⟨j, hj⟩ := List.getElem?_of_mem hn
  have hp' : p < 11 := by rw [← h.l11]; exact (List.getElem?_eq_some_iff.mp hp).1
  have hj' : j < cs.length + 10 := by rw [← h.ln r hr]; exact (List.getElem?_eq_some_iff.mp hj).1
  have := (h.hist.at.bd hA hp' hj').1
  unfold tabT at this
  rwa [show tab.getD p [] = r by rw [List.getD_eq_getElem?_getD, hp]; rfl, show r.getD j 0 = n by rw [List.getD_eq_getElem?_getD, hj]; rfl] at this
theorem SxL.start (cs : List (List Int)) : SxL cs 0 (firstT cs) ((List.range 10).map fun q => cs.length + q) 1 := by
  obtain ⟨h1, h2⟩ := firstT_len cs
  refine ⟨h1, h2, by rw [List.length_map, List.length_range], Hist.start ((sx_start cs).congr (fun q j hq hj => firstT_get hq hj) fun q hq => ?_)⟩
  unfold bN
  by_cases h : q < 10
  · rw [if_pos h, List.getD_eq_getElem?_getD, List.getElem?_map, List.getElem?_range h]
    rfl
  · rw [if_neg h, show q = 10 by omega]
theorem SxL.step {cs : List (List Int)} {k : Nat} {tab : List (List Int)} {bl : List Nat} {u : Int} (h : SxL cs k tab bl u) {p c : Nat} (hc : colF (tab.getD 10 []) = some c) (hp : LvOk tab bl c (some p)) : SxL cs (k + 1) (tabX tab p c u) (bl.set p c) (tabT tab p c) := by
  obtain ⟨c1, c2, c3⟩ := colF_some hc
  obtain ⟨p1, p2, p3⟩ := hp
  have hl10 := (h.row (p := 10) (by decide)).2
  rw [hl10] at c1
  obtain ⟨x1, x2⟩ := tabX_len (p := p) (c := c) (u := u) h.l11 (by omega) h.ln
  refine ⟨x1, x2, by rw [List.length_set]; exact h.b10, h.hist.step ⟨p1, c1, c2, c3, p2, fun q hq hT => ?_⟩ (fun q j hq hj => tabX_get h.l11 (by omega) h.ln hq hj) fun q hq => bN_set h.b10 p1 hq⟩
  unfold bN
  rw [if_pos p1, if_pos hq]
  exact p3 q hq hT
def wOf (cs tab : List (List Int)) : List Int := ((tab.getD 10 []).drop cs.length).map fun x => -x
theorem SxL.weights {cs : List (List Int)} {k : Nat} {tab : List (List Int)} {bl : List Nat} {u : Int} (h : SxL cs k tab bl u) (h10 : ∀ c ∈ cs, c.length = 10) (hc : colF (tab.getD 10 []) = none) : (wOf cs tab).length = 10 /\ (∀ x ∈ wOf cs tab, 0 <= x) /\ ∀ c ∈ cs, dotI (wOf cs tab) c < 0 := by
  have hl10 := (h.row (p := 10) (by decide)).2
  have hz := colF_none hc
  rw [hl10] at hz
  have hl : (wOf cs tab).length = 10 := by unfold wOf; rw [List.length_map, List.length_drop, hl10]; omega
  have hg : ∀ p, p < 10 -> (wOf cs tab).getD p 0 = -tabT tab 10 (cs.length + p) := fun p hp => by
    unfold wOf tabT
    rw [List.getD_eq_getElem?_getD, List.getElem?_map, List.getElem?_drop, List.getD_eq_getElem?_getD (i := cs.length + p), List.getElem?_eq_getElem (by omega)]
    rfl
  obtain ⟨w1, w2⟩ := sx_weights h.hist.at hz
  refine ⟨hl, fun x hx => ?_, fun c hc' => ?_⟩
  · obtain ⟨p, hp⟩ := List.getElem?_of_mem hx
    have hp' : p < 10 := by rw [← hl]; exact (List.getElem?_eq_some_iff.mp hp).1
    have e : (wOf cs tab).getD p 0 = x := by rw [List.getD_eq_getElem?_getD, hp]; rfl
    rw [← e, hg p hp']
    exact w1 p hp'
  · obtain ⟨i, hi⟩ := List.getElem?_of_mem hc'
    have hi' := (List.getElem?_eq_some_iff.mp hi).1
    have e : cs.getD i [] = c := by rw [List.getD_eq_getElem?_getD, hi]; rfl
    have := w2 i hi'
    rw [e] at this
    rw [dot_sumN _ _ (by rw [hl, h10 c hc']), hl, sumN_congr fun p hp => by rw [hg p hp]]
    exact this
theorem dot_set : ∀ (l F : List Int) (i : Nat) (v : Int), i < l.length -> l.length = F.length -> dotI (l.set i v) F = dotI l F + (v - l.getD i 0) * F.getD i 0
  | [], _, _, _, h, _ => absurd h (Nat.not_lt_zero _)
  | a :: l, [], _, _, _, h => by cases h
  | a :: l, b :: F, 0, v, _, _ => by
    show dotI (v :: l) (b :: F) = dotI (a :: l) (b :: F) + (v - a) * b
    rw [dotI_cons, dotI_cons, Int.sub_mul]
    omega
  | a :: l, b :: F, i + 1, v, h, hl => by
    show dotI (a :: l.set i v) (b :: F) = dotI (a :: l) (b :: F) + (v - l.getD i 0) * F.getD i 0
    rw [dotI_cons, dotI_cons, dot_set l F i v (by simpa using h) (by simpa using hl)]
    omega
theorem endF_off {tab : List (List Int)} {bl : List Nat} {col n : Nat} {u : Int} {j : Nat} (hj : j ≠ col) : ∀ k, (∀ q, q < k -> bl.getD q 0 ≠ j) -> (endF tab bl col n u k).getD j 0 = 0
  | 0, _ => by
    show ((List.replicate n 0).set col u).getD j 0 = 0
    rw [get_set, if_neg fun z => hj z.1.symm, getD_rep]
  | k + 1, h => by
    rw [endF_succ, get_set, if_neg fun z => h k (by omega) z.1]
    exact endF_off hj k fun q hq => h q (by omega)
theorem endF_dot {tab : List (List Int)} {bl : List Nat} {col n : Nat} {u : Int} {F : List Int} (hF : F.length = n) (hcol : col < n) (hb : ∀ q, q < 10 -> bl.getD q 0 < n) (hnc : ∀ q, q < 10 -> bl.getD q 0 ≠ col) (hin : ∀ p q, p < 10 -> q < 10 -> bl.getD p 0 = bl.getD q 0 -> p = q) : ∀ k, k <= 10 -> dotI (endF tab bl col n u k) F = u * F.getD col 0 - sumN (fun q => tabT tab q col * F.getD (bl.getD q 0) 0) k
  | 0, _ => by
    show dotI ((List.replicate n 0).set col u) F = u * F.getD col 0 - 0
    rw [dot_set _ _ _ _ (by rw [List.length_replicate]; exact hcol) (by rw [List.length_replicate, hF]), getD_rep, dotI_zero _ _ fun k => getD_rep n k]
    rw [Int.sub_zero]
    omega
  | k + 1, hk => by
    have ih := endF_dot (tab := tab) (u := u) hF hcol hb hnc hin k (by omega)
    rw [endF_succ, dot_set _ _ _ _ (by rw [endF_len]; exact hb k (by omega)) (by rw [endF_len, hF]), ih, endF_off (hnc k (by omega)) k fun q hq e => by have := hin q k (by omega) (by omega) e; omega]
    show _ = u * F.getD col 0 - (sumN (fun q => tabT tab q col * F.getD (bl.getD q 0) 0) k + tabT tab k col * F.getD (bl.getD k 0) 0)
    rw [Int.sub_zero, Int.neg_mul]
    omega
theorem endF_nn {tab : List (List Int)} {bl : List Nat} {col n : Nat} {u : Int} (hu : 0 < u) (hT : ∀ p, p < 10 -> tabT tab p col <= 0) : ∀ k, k <= 10 -> ∀ x ∈ endF tab bl col n u k, 0 <= x
  | 0, _, x, hx => by
    have hx' : x ∈ (List.replicate n 0).set col u := hx
    rcases List.mem_or_eq_of_mem_set hx' with z | z
    · rw [(List.mem_replicate.mp z).2]; exact Int.le_refl 0
    · omega
  | k + 1, hk, x, hx => by
    rw [endF_succ] at hx
    rcases List.mem_or_eq_of_mem_set hx with z | z
    · exact endF_nn hu hT k (by omega) x z
    · have := hT k (by omega)
      omega
def yOf (cs tab : List (List Int)) (bl : List Nat) (col : Nat) (u : Int) : List Int := (endF tab bl col (cs.length + 10) u 10).take cs.length
theorem dot_neg : ∀ (a c : List Int), dotI a (c.map fun x => -x) = - dotI a c
  | [], _ => rfl
  | _ :: _, [] => rfl
  | a :: r, b :: s => by
    rw [List.map_cons, dotI_cons, dotI_cons, dot_neg r s, Int.mul_neg]
    omega
theorem dot_ones : ∀ (a : List Int) (n : Nat), a.length = n -> dotI a (List.replicate n 1) = a.sum
  | [], n, h => by rw [dotI_nil]; rfl
  | x :: a, 0, h => by cases h
  | x :: a, n + 1, h => by
    rw [List.replicate_succ, dotI_cons, dot_ones a n (by simpa using h), List.sum_cons, Int.mul_one]
theorem unit_dot_is {l : Nat} (hl : l < 10) {x : List Int} : dotI x (unitI l) = x.getD l 0 := by
  rw [dot_one x (unitI l) l fun j hj => ?_, unit_get, if_pos hl, if_pos rfl, Int.mul_one]
  rw [unit_get]
  (repeat' split) <;> omega
theorem SxL.balance {cs : List (List Int)} {k : Nat} {tab : List (List Int)} {bl : List Nat} {u : Int} (h : SxL cs k tab bl u) {col : Nat} (hc : colF (tab.getD 10 []) = some col) (hT : ∀ p, p < 10 -> tabT tab p col <= 0) : (yOf cs tab bl col u).length = cs.length /\ (∀ x ∈ yOf cs tab bl col u, 0 <= x) /\ 0 < (yOf cs tab bl col u).sum /\ ∀ p, p < 10 -> 0 <= dotI (yOf cs tab bl col u) (byP cs p) := by
  obtain ⟨c1, c2, c3⟩ := colF_some hc
  have hl10 := (h.row (p := 10) (by decide)).2
  rw [hl10] at c1
  have I := h.hist.at
  have eb : ∀ q, q < 10 -> bN bl (cs.length + 10) q = bl.getD q 0 := fun q hq => by unfold bN; rw [if_pos hq]
  have hnc : ∀ q, q < 10 -> bl.getD q 0 ≠ col := fun q hq e => by
    have := I.un (p := 10) (q := q) (by decide) hq
    rw [eb q hq, e, if_neg (by omega)] at this
    have c2' : 0 < tabT tab 10 col := c2
    omega
  have hin : ∀ p q, p < 10 -> q < 10 -> bl.getD p 0 = bl.getD q 0 -> p = q := fun p q hp hq e => I.inj hp hq (by rw [eb p hp, eb q hq]; exact e)
  have hnn := endF_nn (tab := tab) (bl := bl) (col := col) (n := cs.length + 10) I.pos hT 10 (Nat.le_refl _)
  have hln := endF_len tab bl col (cs.length + 10) u 10
  have hF : ∀ p, p < 11 -> dotI (endF tab bl col (cs.length + 10) u 10) ((firstT cs).getD p []) = if p = 10 then tabT tab 10 col else 0 := fun p hp => by
    obtain ⟨f1, f2⟩ := firstT_len cs
    have fl : ((firstT cs).getD p []).length = cs.length + 10 := f2 _ (by rw [List.getD_eq_getElem?_getD, List.getElem?_eq_getElem (by omega)]; exact List.getElem_mem _)
    have fg : ∀ j, j < cs.length + 10 -> ((firstT cs).getD p []).getD j 0 = colA cs j p := fun j hj => firstT_get hp hj
    rw [endF_dot fl c1 (fun q hq => h.blt hq) hnc hin 10 (Nat.le_refl _), fg col c1, sumN_congr fun q hq => by rw [fg _ (h.blt hq)], ← sx_balance I c1 p hp]
    have e9 : sumN (fun q => tabT tab q col * colA cs (bl.getD q 0) p) 10 = sumN (fun q => tabT tab q col * colA cs (bN bl (cs.length + 10) q) p) 10 := sumN_congr fun q hq => by rw [eb q hq]
    rw [e9]
  have hsplit : endF tab bl col (cs.length + 10) u 10 = yOf cs tab bl col u ++ (endF tab bl col (cs.length + 10) u 10).drop cs.length := (List.take_append_drop _ _).symm
  have hyl : (yOf cs tab bl col u).length = cs.length := by unfold yOf; rw [List.length_take, hln]; omega
  refine ⟨hyl, fun x hx => hnn x (List.mem_of_mem_take hx), ?_, fun p hp => ?_⟩
  · have h1 := hF 10 (by decide)
    rw [firstT_last, if_pos rfl, hsplit, dotI_app _ _ _ _ (by rw [hyl, List.length_replicate]), dot_ones _ _ hyl, dotI_comm, dotI_zero _ _ fun j => getD_rep 10 j, Int.add_zero] at h1
    rw [h1]
    exact c2
  · have h1 := hF p (by omega)
    rw [firstT_row hp, if_neg (by omega)] at h1
    unfold firstR at h1
    rw [hsplit, dotI_app _ _ _ _ (by rw [hyl, List.length_map, byP_len]), dot_neg, unit_dot_is hp] at h1
    have h2 : 0 <= ((endF tab bl col (cs.length + 10) u 10).drop cs.length).getD p 0 := by
      rcases Classical.em (((endF tab bl col (cs.length + 10) u 10).drop cs.length).getD p 0 = 0) with z | z
      · omega
      · exact hnn _ (List.mem_of_mem_drop (getD_mem z))
    omega
end W2
namespace W2
open PySem L2 Mth
def WRaw (cs : List (List Int)) (word : Str) (ns : List Int) : Prop := BdI 92 ns /\ ((word = "weights" /\ ns.length = 10 /\ (∀ x ∈ ns, 0 <= x) /\ ∀ c ∈ cs, dotI ns c < 0) ∨ (word = "balance" /\ ns.length = cs.length /\ (∀ x ∈ ns, 0 <= x) /\ 0 < ns.sum /\ ∀ p, p < 10 -> 0 <= dotI ns (byP cs p)))
section
variable {P : Program} {w : World} {K : PySem.W.Frag} {mg : Str -> Option Value} {base : Heap}
def sp_weighed : Sp := fun vs H Q _ => ∃ (b : Addr) (xs : List V) (fs : List (Int × Int)), vs = [.ref b] /\ H b = some (.tup xs) /\ FrcsV H xs fs /\ 1 <= xs.length /\ xs.length <= 500 /\
  ∀ t ad H' word ns, Same H H' -> H' t = some (.tup [.str word, .ref ad]) -> H' ad = some (tupI (lowI ns)) -> WRaw (rowsOf fs) word ns -> Q (.ref t) H'
theorem ok_weighed (T : Tx K mg) : FnOk P w K mg base CX0 5 T.f_weighed T.fd_weighed ["program"] sp_weighed := by
  refine T.D_weighed.fn.okQ sc_weighed (fun vs H Q E h => ?_) (fun cdv A outer s H vs Q E hr h => ?_)
  · obtain ⟨b, xs, fs, rfl, _⟩ := h
    rfl
  · obtain ⟨b, xs, fs, rfl, hb, hf, x1, x5, q⟩ := h
    refine ⟨_, (qss_cons (qs_set (i := 1) sc_weighed.nd rfl (Or.inl rfl) (qe_call (ok_changes_of T) (hr.mono (by decide)) rfl T.D_changes_of.at_ T.D_changes_of.fn.kp T.D_changes_of.bd .nil pass0 (qa_c (qv 0) qa_nil)))
      (qss_cons (qs_set (i := 2) sc_weighed.nd rfl (Or.inr rfl) (qe_callB call_len_seq (by rfl) T.m_len b_len (qa_c (qv 1) qa_nil)))
      (qss_cons (qs_set (i := 3) sc_weighed.nd rfl (Or.inl rfl) (qe_call (ok_first_table T) (hr.mono (by decide)) rfl T.D_first_table.at_ T.D_first_table.fn.kp T.D_first_table.bd .nil pass0 (qa_c (qv 1) qa_nil)))
      (qss_cons (qs_setC (i := 4) sc_weighed.nd rfl (Or.inl rfl) (compOk_of (osc := defScope s_weighed) (XN := ["program", "rows", "many", "table", "basis", "unit", "column", "place", "pivot"]) (N := ["place", "many"]) (js := [none, some 2]) rfl rfl rfl (List.forall_mem_cons.mpr ⟨rfl, (List.forall_mem_nil _)⟩) (by decide +kernel) rfl) rfl (qi_range1 rfl T.m_range (qa_c (qe_callB call_len_seq (by rfl) T.m_len b_len (qa_c (qe_glob (v := .ref T.a_PRIMES) (by rfl) T.g_PRIMES rfl) qa_nil)) qa_nil)) (fun _ _ _ _ => (qg_name (i := 0) (show List.Nodup (["place", "many"] : List Str) from by decide +kernel) rfl (Or.inl rfl) (Or.inr rfl))) (fun _ _ _ _ => qts_nil)
          (fun _ _ _ _ => (qe_op op_add (qv 1) (qv 0))))
      (qss_cons (qs_set (i := 5) sc_weighed.nd rfl (Or.inl rfl) qe_int)
      (qss_cons (qs_set (i := 6) sc_weighed.nd rfl (Or.inl rfl) (qe_call (ok_first_above T) (hr.mono (by decide)) rfl T.D_first_above.at_ T.D_first_above.fn.kp T.D_first_above.bd .nil pass0 (qa_c (qe_ix ix_list (qv 3) (qe_un un_neg qe_int) (fun _ _ => rfl)) qa_nil)))
      (qss_cons (qs_while PassesOwn.never (qt_cmpR op_notN (qv 6) qe_non (nomark _))
        (qss_cons (qs_set (i := 7) sc_weighed.nd rfl (Or.inl rfl) (qe_call (ok_leaving T) (hr.mono (by decide)) rfl T.D_leaving.at_ T.D_leaving.fn.kp T.D_leaving.bd .nil pass0 (qa_c (qv 3) (qa_c (qv 4) (qa_c (qv 6) qa_nil)))))
      (qss_cons (qs_if (qt_cmpR op_isN (qv 7) qe_non (nomark _))
        (qss_one (qs_ret (qe_tupA (qa_c qe_str (qa_c (qe_call (ok_lowest T) (hr.mono (by decide)) rfl T.D_lowest.at_ T.D_lowest.fn.kp T.D_lowest.bd .nil pass0 (qa_c (qe_slice sl_list (qe_call (ok_endless T) (hr.mono (by decide)) rfl T.D_endless.at_ T.D_endless.fn.kp T.D_endless.bd .nil pass0 (qa_c (qv 3) (qa_c (qv 4) (qa_c (qv 6) (qa_c (qv 5) qa_nil))))) qo_none (qo_some (qv 2))) qa_nil)) qa_nil)))))
        qss_nil)
      (qss_cons (qs_set (i := 8) sc_weighed.nd rfl (Or.inl rfl) (qe_ix ix_list (qe_ix ix_list (qv 3) (qv 7) (fun _ _ => rfl)) (qv 6) (fun _ _ => rfl)))
      (qss_cons (qs_set (i := 3) sc_weighed.nd rfl (Or.inl rfl) (qe_call (ok_exchanged T) (hr.mono (by decide)) rfl T.D_exchanged.at_ T.D_exchanged.fn.kp T.D_exchanged.bd .nil pass0 (qa_c (qv 3) (qa_c (qv 7) (qa_c (qv 6) (qa_c (qv 5) qa_nil))))))
      (qss_cons (qs_set (i := 5) sc_weighed.nd rfl (Or.inl rfl) (qv 8))
      (qss_cons (qs_asg (qv 6) (qg_sub (qv 4) (qv 7) set_list))
      (qss_one (qs_set (i := 6) sc_weighed.nd rfl (Or.inl rfl) (qe_call (ok_first_above T) (hr.mono (by decide)) rfl T.D_first_above.at_ T.D_first_above.fn.kp T.D_first_above.bd .nil pass0 (qa_c (qe_ix ix_list (qv 3) (qe_un un_neg qe_int) (fun _ _ => rfl)) qa_nil)))))))))))
      (qss_one (qs_ret (qe_tupA (qa_c qe_str (qa_c (qe_call (ok_lowest T) (hr.mono (by decide)) rfl T.D_lowest.at_ T.D_lowest.fn.kp T.D_lowest.bd .nil pass0 (qa_c (qe_comp (compOk_of (osc := defScope s_weighed) (XN := ["program", "rows", "many", "table", "basis", "unit", "column", "place", "pivot"]) (N := ["number"]) (js := [none]) rfl rfl rfl (List.forall_mem_nil _) (by decide +kernel) rfl) rfl (qi_list (qe_slice sl_list (qe_ix ix_list (qv 3) (qe_un un_neg qe_int) (fun _ _ => rfl)) (qo_some (qv 2)) qo_none)) (fun _ _ _ _ => (qg_name (i := 0) (show List.Nodup (["number"] : List Str) from by decide +kernel) rfl (Or.inl rfl) (Or.inr rfl))) (fun _ _ _ _ => qts_nil)
          (fun _ _ _ _ => (qe_un un_neg (qv 0)))) qa_nil)) qa_nil)))))))))))), ?_⟩
    have hbd := bd_row hf.ok
    have h10 : ∀ c ∈ rowsOf fs, c.length = 10 := rowsOf_10 fs
    have cl : (rowsOf fs).length = xs.length := by rw [rowsOf_len, ← hf.1]
    refine ⟨_, rfl, b, xs, fs, rfl, hb, hf, by omega, fun rw H1 ys f1 s1 hrw hR => ?_⟩
    generalize hcs : rowsOf fs = cs at *
    have yl := hR.1
    refine ⟨_, rfl, rw, ys, rfl, .inl (SqL.of hrw), ?_⟩
    rw [yl]
    refine ⟨_, rfl, rw, ys, cs, rfl, hrw, hR, h10, by omega, fun tb H2 ts f2 s2 htb hT => ?_⟩
    refine ⟨T.a_PRIMES, _, rfl, .inr (T.t_PRIMES H2), _, rfl, by decide, by decide, fun D hD => ?_⟩
    refine comp_range (n := 10) (by rw [sizeLine_eq]; decide) (fun i σ' H' zs => (∃ v : Option V, σ' = [v, some (.int (cs.length : Int))]) /\ Same H2 H' /\ zs = (natI ((List.range i).map fun q => cs.length + q)).map V.int) ⟨⟨_, rfl⟩, Same.new hD, rfl⟩ ?_ ?_
    · rintro i σ' H' zs R hi hD' hyl ⟨⟨v, rfl⟩, s', rfl⟩ kk
      rw [Int.zero_add]
      refine ⟨_, rfl, _, rfl, _, _, rfl, rfl, kk _ _ _ hD' ⟨⟨_, rfl⟩, ?_, ?_⟩⟩
      · intro e o eo
        rw [upd_ne (ne_of_none eo hD)]
        exact s' _ _ eo
      · rw [List.range_succ, List.map_append]
        unfold natI
        rw [List.map_append, List.map_append]
        show _ ++ [V.int ((cs.length : Int) + (i : Int))] = _ ++ [V.int (((cs.length + i : Nat)) : Int)]
        rw [Int.natCast_add]
    rintro σ' H3 zs hD3 _ ⟨_, s3, rfl⟩
    have s03 : Same H H3 := s1.trans (s2.trans s3)
    have fD : H D = none := s1.free (s2.free hD)
    have tb0 := hT.1
    have L0 : LRw D H3 ts (firstT cs) := ⟨hT.1, fun i x hx => by
      obtain ⟨c, a, h1, h2, h3⟩ := hT.2 i x hx
      exact ⟨c, a, h1, h2, ne_of_none h3 hD, s3 _ _ h3⟩⟩
    have ntb : tb ≠ D := ne_of_none htb hD
    have last : ∀ {G : Hp} {tb : Addr} {ts : List V} {tab : List (List Int)}, TabV G ts tab -> tab.length = 11 -> ∃ a, atI ts (-1) = some (.ref a) /\ G a = some (lstI (tab.getD 10 [])) := fun {G tb ts tab} hT h11 => by
      obtain ⟨a, h1, h2⟩ := hT.at (k := 10) (by omega)
      exact ⟨a, atI_end (n := 10) (by rw [hT.1, h11]) h1, h2⟩
    have S0 := SxL.start cs
    obtain ⟨a10, g1, g2⟩ := last (tb := tb) L0.tab S0.l11
    refine ⟨_, rfl, _, rfl, tb, ts, -1, .ref a10, rfl, rfl, SqL.of (s3 _ _ htb), g1, a10, _, rfl, g2, by rw [(S0.row (by decide)).2]; omega, fun H4 s4 => ?_⟩
    refine ⟨fun m σ HC => ∃ (k : Nat) (tb : Addr) (ts : List V) (tab : List (List Int)) (bl : List Nat) (u : Int) (u7 u8 : Option V), m + k = (cs.length + 10) ^ 10 /\ σ = [some (.ref b), some (.ref rw), some (.int (cs.length : Int)), some (.ref tb), some (.ref D), some (.int u), some (optV (colF (tab.getD 10 []))), u7, u8] /\ Same H HC /\ HC tb = some (.lst ts) /\ tb ≠ D /\ LRw D HC ts tab /\ HC D = some (lstI (natI bl)) /\ SxL cs k tab bl u, ⟨(cs.length + 10) ^ 10, 0, tb, ts, firstT cs, (List.range 10).map fun q => cs.length + q, 1, _, _, rfl, rfl, s03.trans s4, s4 _ _ (s3 _ _ htb), ntb, L0.same s4, s4 _ _ hD3, S0⟩, ?_⟩
    rintro m σ HC ⟨k, tb, ts, tab, bl, u, u7, u8, hmk, rfl, sC, htb, ntb, hL, hDC, S⟩
    have hfew := S.hist.few
    have Sbd := S.bd hbd
    obtain ⟨a10, g1, g2⟩ := last (tb := tb) hL.tab S.l11
    have l10 := (S.row (p := 10) (by decide)).2
    cases hc : colF (tab.getD 10 []) with
    | none =>
      refine ⟨_, rfl, rfl, _, rfl, iteF ?_⟩
      obtain ⟨w1, w2, w3⟩ := S.weights h10 hc
      have wb : BdI 92 (wOf cs tab) := fun n hn => by
        unfold wOf at hn
        obtain ⟨x, hx, rfl⟩ := List.mem_map.mp hn
        rw [Int.natAbs_neg]
        exact Sbd.1 _ (S.row (by decide)).1 x (List.mem_of_mem_drop hx)
      have wnz : ∃ n ∈ wOf cs tab, n ≠ 0 := by
        rcases zero_or_not (wOf cs tab) with z | z
        · exact z
        · exfalso
          have hm : cs.getD 0 [] ∈ cs := by rw [List.getD_eq_getElem?_getD, List.getElem?_eq_getElem (by omega)]; exact List.getElem_mem _
          have := w3 _ hm
          rw [dotI_zero _ _ fun k => all_getD z k] at this
          exact absurd this (Int.lt_irrefl 0)
      refine ⟨_, rfl, _, rfl, tb, ts, -1, .ref a10, rfl, rfl, SqL.of htb, g1, _, rfl, (cs.length : Int), rfl, a10, _, rfl, SqL.of g2, fun p hp => ?_⟩
      rw [cutV_suf (by omega), Int.toNat_natCast]
      have sp : Same HC (L2.upd HC p (.lst (((tab.getD 10 []).map V.int).drop cs.length))) := Same.new hp
      have hpp : L2.upd HC p (.lst (((tab.getD 10 []).map V.int).drop cs.length)) p = some (.lst (((tab.getD 10 []).drop cs.length).map V.int)) := by rw [upd_same, List.map_drop]
      generalize L2.upd HC p (.lst (((tab.getD 10 []).map V.int).drop cs.length)) = G at sp hpp
      refine ⟨p, rfl, ⟨_, SqL.of hpp⟩, fun D2 hD2 => ?_⟩
      refine comp_map_list (K := K) (f := fun v => match v with | .int n => .int (-n) | w => w) (xs := ((tab.getD 10 []).drop cs.length).map V.int) rfl (by rw [sizeLine_eq, List.length_map, List.length_drop]; omega) hD2 (SqL.of hpp) (fun x H' R' hx r => ?_) ?_
      · obtain ⟨n, _, rfl⟩ := List.mem_map.mp hx
        exact ⟨_, rfl, _, rfl, r⟩
      have hD2' : L2.upd G D2 (.lst ((((tab.getD 10 []).drop cs.length).map V.int).map fun v => match v with | .int n => .int (-n) | w => w)) D2 = some (.lst ((wOf cs tab).map V.int)) := by
        rw [upd_same]
        unfold wOf
        rw [List.map_map, List.map_map]
        rfl
      have sG : Same G (L2.upd G D2 (.lst ((((tab.getD 10 []).drop cs.length).map V.int).map fun v => match v with | .int n => .int (-n) | w => w))) := Same.new hD2
      refine ⟨D2, wOf cs tab, 92, rfl, hD2', by omega, wb, by decide, wnz, fun q' H5 f5 s5 hq5 => ⟨(by show 2 <= sizeLine; decide), fun t H6 f6 s6 ht => ?_⟩⟩
      exact q t q' H6 "weights" (wOf cs tab) (sC.trans (sp.trans (sG.trans (s5.trans s6)))) ht (s6 _ _ hq5) ⟨wb, .inl ⟨rfl, w1, w2, w3⟩⟩
    | some c =>
      refine ⟨_, rfl, rfl, _, rfl, iteT ?_⟩
      obtain ⟨c1, c2, c3⟩ := colF_some hc
      rw [l10] at c1
      refine ⟨fun σ' H' => ∃ m', m' < m /\ ∃ (k : Nat) (tb : Addr) (ts : List V) (tab : List (List Int)) (bl : List Nat) (u : Int) (u7 u8 : Option V), m' + k = (cs.length + 10) ^ 10 /\ σ' = [some (.ref b), some (.ref rw), some (.int (cs.length : Int)), some (.ref tb), some (.ref D), some (.int u), some (optV (colF (tab.getD 10 []))), u7, u8] /\ Same H H' /\ H' tb = some (.lst ts) /\ tb ≠ D /\ LRw D H' ts tab /\ H' D = some (lstI (natI bl)) /\ SxL cs k tab bl u, fun σ' H' h => h, ?_⟩
      refine ⟨_, rfl, _, rfl, _, rfl, tb, D, ts, tab, bl, c, rfl, htb, hL.tab, S.l11, fun r hr => by rw [S.ln r hr]; exact c1, hDC, S.b10, fun o H5 s5 ho => ?_⟩
      cases o with
      | none =>
        refine ⟨_, rfl, rfl, _, rfl, iteT ?_⟩
        have ho' : ∀ p, p < 10 -> tabT tab p c <= 0 := ho
        obtain ⟨y1, y2, y3, y4⟩ := S.balance hc ho'
        have Ipos := S.hist.at.pos
        have yb : BdI 92 (yOf cs tab bl c u) := fun n hn => by
          have hn' := List.mem_of_mem_take hn
          have key : ∀ k, k <= 10 -> ∀ x ∈ endF tab bl c (cs.length + 10) u k, x.natAbs <= 2 ^ 92 := by
            intro k
            induction k with
            | zero =>
              intro _ x hx
              have hx' : x ∈ (List.replicate (cs.length + 10) 0).set c u := hx
              rcases List.mem_or_eq_of_mem_set hx' with z | z
              · rw [(List.mem_replicate.mp z).2]; exact Nat.zero_le _
              · rw [z]; exact Sbd.2
            | succ k ih =>
              intro hk x hx
              rw [endF_succ] at hx
              rcases List.mem_or_eq_of_mem_set hx with z | z
              · exact ih (by omega) x z
              · rw [z, Int.natAbs_neg]
                exact (Sbd.1 _ (S.row (p := k) (by omega)).1).at c
          exact key 10 (Nat.le_refl _) n hn'
        have ynz : ∃ n ∈ yOf cs tab bl c u, n ≠ 0 := by
          rcases zero_or_not (yOf cs tab bl c u) with z | z
          · exact z
          · exfalso
            have : (yOf cs tab bl c u).sum = 0 := by
              rw [← dot_ones _ _ rfl]
              exact dotI_zero _ _ fun k => all_getD z k
            omega
        refine ⟨_, rfl, _, rfl, _, rfl, _, rfl, tb, D, ts, tab, bl, c, cs.length + 10, u, rfl, s5 _ _ htb, hL.tab.same s5, S.l11, S.ln, s5 _ _ hDC, S.b10, fun p hp => S.blt hp, c1, by omega, fun l H6 f6 s6 hl => ?_⟩
        refine ⟨_, rfl, (cs.length : Int), rfl, l, _, rfl, SqL.of hl, fun p hp => ?_⟩
        rw [cutV_pre (Int.natCast_nonneg _), Int.toNat_natCast]
        have sp : Same H6 (L2.upd H6 p (.lst (((endF tab bl c (cs.length + 10) u 10).map V.int).take cs.length))) := Same.new hp
        have hpp : L2.upd H6 p (.lst (((endF tab bl c (cs.length + 10) u 10).map V.int).take cs.length)) p = some (.lst ((yOf cs tab bl c u).map V.int)) := by
          rw [upd_same]
          unfold yOf
          rw [List.map_take]
        refine ⟨p, yOf cs tab bl c u, 92, rfl, hpp, by omega, yb, by decide, ynz, fun q' H7 f7 s7 hq7 => ⟨(by show 2 <= sizeLine; decide), fun t H8 f8 s8 ht => ?_⟩⟩
        exact q t q' H8 "balance" (yOf cs tab bl c u) (sC.trans (s5.trans (s6.trans (sp.trans (s7.trans s8))))) ht (s8 _ _ hq7) ⟨yb, .inr ⟨rfl, y1, y2, y3, y4⟩⟩
      | some p =>
        refine ⟨_, rfl, rfl, _, rfl, iteF ?_⟩
        have S' := S.step hc ho
        obtain ⟨p1, p2, p3⟩ := ho
        have htb5 := s5 _ _ htb
        have hL5 := hL.same s5
        have hD5 := s5 _ _ hDC
        obtain ⟨ra, hra, hra2⟩ := hL5.tab.at (k := p) (by rw [S.l11]; omega)
        have rln := (S.row (p := p) (by omega)).2
        refine ⟨_, rfl, _, rfl, tb, ts, (p : Int), .ref ra, rfl, rfl, SqL.of htb5, atI_of (by omega) (by rw [Int.toNat_natCast]; exact hra), _, rfl, ra, _, (c : Int), .int ((tab.getD p []).getD c 0), rfl, rfl, SqL.of hra2, at_getD (by omega), ?_⟩
        refine ⟨_, rfl, _, rfl, _, rfl, _, rfl, tb, D, _, ts, tab, p, c, cs.length + 10, 92, u, rfl, htb5, hD5, hL5, S.l11, by omega, fun r hr => ⟨S.ln r hr, Sbd.1 r hr⟩, c1, by omega, by decide, Int.ne_of_gt S.hist.at.pos, Sbd.2, fun l H6 ts' f6 s6 hl6 hL6 => ?_⟩
        have hD6 := s6 _ _ hD5
        have nlD : l ≠ D := fun z => by rw [z, hD5] at f6; cases f6
        have bll : ((natI bl).map V.int).length = 10 := by rw [List.length_map]; unfold natI; rw [List.length_map]; exact S.b10
        refine ⟨_, rfl, ?_⟩
        refine ⟨_, rfl, _, rfl, _, rfl, D, _, (p : Int), p, rfl, rfl, hD6, by rw [ixN_of (by omega) (by rw [bll]; omega), Int.toNat_natCast], ?_⟩
        generalize hG : L2.upd H6 D (.lst (((natI bl).map V.int).set p (optV (some c)))) = G
        have bG : But D H6 G := by rw [← hG]; exact But.upd
        have hDG : G D = some (lstI (natI (bl.set p c))) := by
          rw [← hG, upd_same]
          show some (HO.lst (((natI bl).map V.int).set p (V.int (c : Int)))) = _
          unfold lstI natI
          rw [List.map_set, List.map_set]
        have hlG := bG _ _ nlD hl6
        have hLG := hL6.but bG
        obtain ⟨b10, e1, e2⟩ := last (tb := l) hLG.tab S'.l11
        have l10' := (S'.row (p := 10) (by decide)).2
        refine ⟨_, rfl, _, rfl, l, ts', -1, .ref b10, rfl, rfl, SqL.of hlG, e1, b10, _, rfl, e2, by omega, fun H7 s7 => ?_⟩
        have hk := S'.hist.few
        refine ⟨m - 1, by omega, k + 1, l, ts', tabX tab p c u, bl.set p c, _, _, _, by omega, rfl, ?_, s7 _ _ hlG, nlD, hLG.same s7, s7 _ _ hDG, S'⟩
        intro x o e
        exact s7 _ _ (bG _ _ (ne_of_none e fD) (s6 _ _ (s5 _ _ (sC _ _ e))))
end
end W2
namespace W2
open PySem L2 Mth
section
variable {P : Program} {w : World} {K : PySem.W.Frag} {mg : Str -> Option Value} {base : Heap}
theorem FrcsV.keep {H H' : Hp} {xs : List V} {fs : List (Int × Int)} (h : FrcsV H xs fs) (k : Keep H H') : FrcsV H' xs fs := ⟨h.1, fun i x hx => by
  obtain ⟨a, b, c, h1, h2, h3, h4⟩ := h.2 i x hx
  exact ⟨a, b, c, h1, h2, k.tup h3, h4⟩⟩
def HasW (cs : List (List Int)) : Prop := ∃ ws : List Int, ws.length <= 10 /\ (∀ x ∈ ws, 0 <= x) /\ ∀ c ∈ cs, dotI ws c < 0
def HasB (cs : List (List Int)) : Prop := ∃ ys : List Int, ys.length = cs.length /\ (∀ x ∈ ys, 0 <= x) /\ (∃ y ∈ ys, y ≠ 0) /\ ∀ p, p < 10 -> 0 <= dotI ys (byP cs p)
theorem has_both {cs : List (List Int)} (h : HasW cs) (h' : HasB cs) : False := by
  obtain ⟨ws, w1, w2, w3⟩ := h
  obtain ⟨ys, y1, y2, y3, y4⟩ := h'
  exact never_both w2 w1 w3 y2 y1 y3 y4
theorem wraw_has {cs : List (List Int)} {word : Str} {ns : List Int} (h : WRaw cs word ns) : (word = "weights" /\ HasW cs) ∨ (word = "balance" /\ HasB cs) := by
  rcases h.2 with ⟨h1, h2, h3, h4⟩ | ⟨h1, h2, h3, h4, h5⟩
  · exact .inl ⟨h1, ns, by omega, h3, h4⟩
  · exact .inr ⟨h1, ns, h2, h3, sum_pos_some h4, h5⟩
theorem wraw_b {cs : List (List Int)} {word : Str} {ns : List Int} (h : WRaw cs word ns) (hw : HasB cs) : word = "balance" := by
  rcases wraw_has h with ⟨_, z⟩ | ⟨e, _⟩
  · exact absurd (has_both z hw) id
  · exact e
end
end W2
namespace W2
open PySem L2 Mth
theorem But.sq {K : PySem.W.Frag} {H H' : Hp} {p a : Addr} {xs : List V} {o : HO} (hS : SqL K H a xs) (hp : H p = none) (bt : But p (L2.upd H p o) H') : SqL K H' a xs := by
  rcases hS with (h | ⟨u, h⟩) | h
  · exact .inl (.inl (bt _ _ (ne_of_none h hp) (by rw [upd_ne (ne_of_none h hp)]; exact h)))
  · exact .inl (.inr ⟨u, bt _ _ (ne_of_none h hp) (by rw [upd_ne (ne_of_none h hp)]; exact h)⟩)
  · exact .inr h
theorem loop_no_rest {R P : List (List Int)} {W : List Nat} {ps b c d : List Int} {s n : Nat} (h : LoopR R P W b d) (hs : goN R s ps = some b) (hg : goN R n ps = some c) (hf : fstI R c = none) : False := by
  obtain ⟨q, _, hq⟩ := h.ever (n + 1)
  have h1 : goN R (s + (n + 1)) ps = some (mvd q d (((n + 1) / W.length : Nat) : Int)) := by
    rw [goN_sumB, hs]
    exact hq
  have h2 : goN R (n + 1) ps = none := by
    show (goN R n ps).bind (stp R) = none
    rw [hg]
    show stp R c = none
    unfold stp
    rw [hf]
    rfl
  rw [show s + (n + 1) = (n + 1) + s by omega, goN_sumB, h2] at h1
  cases h1
theorem strne {a b : Str} (h : a ≠ b) : decide (V.str a = V.str b) = false := decide_eq_false fun z => h (by injection z)
section
variable {P : Program} {w : World} {K : PySem.W.Frag} {mg : Str -> Option Value} {base : Heap}
abbrev kLaw : Nat := 9
def sp_law (K : PySem.W.Frag) : Sp := fun vs H Q _ => ∃ (a : Addr) (ns : List Int), vs = [.ref a] /\ SqL K H a (ns.map V.int) /\ ns.length <= 63 /\ ∀ H', Q (.bl true) H'
theorem ok_law (T : Tx K mg) {f : Addr} {fd : FuncData} (F : Fun K "law" "law" s_law f fd) : FnOk P w K mg base CX0 kLaw f fd ["script"] (sp_law K) := by
  refine F.okQ sc_law (fun vs H Q E h => ?_) (fun cdv A outer s H vs Q E hr h => ?_)
  · obtain ⟨a, ns, rfl, _⟩ := h
    rfl
  · obtain ⟨a, ns, rfl, hS, hlen, q⟩ := h
    refine ⟨_, (qss_cons (qs_for PassesOwn.never rfl (qi_range3 rfl T.m_range (qa_c qe_int (qa_c qe_int (qa_c qe_int qa_nil)))) (qg_name (i := 1) sc_law.nd rfl (Or.inl rfl))
        (qss_cons (qs_set (i := 2) sc_law.nd rfl (Or.inl rfl) (qe_call (ok_l_program T) (hr.mono (by decide)) rfl T.D_l_program.at_ T.D_l_program.fn.kp T.D_l_program.bd .nil pass0 (qa_c (qe_call (ok_l_pot T) (hr.mono (by decide)) rfl T.D_l_pot.at_ T.D_l_pot.fn.kp T.D_l_pot.bd .nil pass0 (qa_c (qe_call (ok_l_cell_at T) (hr.mono (by decide)) rfl T.D_l_cell_at.at_ T.D_l_cell_at.fn.kp T.D_l_cell_at.bd .nil pass0 (qa_c (qv 0) (qa_c (qv 1) qa_nil))) qa_nil)) (qa_c qe_int qa_nil))))
      (qss_cons (qs_set (i := 3) sc_law.nd rfl (Or.inl rfl) (qe_call (ok_l_powers T) (hr.mono (by decide)) rfl T.D_l_powers.at_ T.D_l_powers.fn.kp T.D_l_powers.bd .nil pass0 (qa_c (qe_call (ok_l_pot T) (hr.mono (by decide)) rfl T.D_l_pot.at_ T.D_l_pot.fn.kp T.D_l_pot.bd .nil pass0 (qa_c (qe_call (ok_l_cell_at T) (hr.mono (by decide)) rfl T.D_l_cell_at.at_ T.D_l_cell_at.fn.kp T.D_l_cell_at.bd .nil pass0 (qa_c (qv 0) (qa_c (qe_op op_add (qv 1) qe_int) qa_nil))) qa_nil)) (qa_c qe_int qa_nil))))
      (qss_cons (qs_set (i := 4) sc_law.nd rfl (Or.inl rfl) (qe_call (ok_first_loop T) (hr.mono (by decide)) rfl T.D_first_loop.at_ T.D_first_loop.fn.kp T.D_first_loop.bd .nil pass0 (qa_c (qv 2) (qa_c (qv 3) (qa_c qe_int qa_nil)))))
      (qss_cons (qs_set (i := 5) sc_law.nd rfl (Or.inl rfl) (qe_call (ok_fate T) (hr.mono (by decide)) rfl T.D_fate.at_ T.D_fate.fn.kp T.D_fate.bd .nil pass0 (qa_c (qv 2) (qa_c (qv 3) (qa_c qe_int qa_nil)))))
      (qss_cons (qs_if (qt_cmpR op_notN (qv 4) qe_non (nomark _))
        (qss_cons (qs_if (QW.pt (qw_or (qt_cmpR op_notIn_seq (qe_ix ix_tup (qv 5) qe_int (fun _ _ => rfl)) (qe_tupA (qa_c qe_str (qa_c qe_str qa_nil))) (by with_unfolding_all rfl)) (qw_or1 (qt_cmpR op_ne (qe_ix ix_tup (qe_call (ok_weighed T) (hr.mono (by decide)) rfl T.D_weighed.at_ T.D_weighed.fn.kp T.D_weighed.bd .nil pass0 (qa_c (qv 2) qa_nil)) qe_int (fun _ _ => rfl)) qe_str (nomark _)))))
        (qss_one (qs_ret qe_bl))
        qss_nil)
      (qss_one (qs_if (qt_cmpR op_ne (qe_cmpR op_eq (qe_ix ix_tup (qv 5) qe_int (fun _ _ => rfl)) qe_str (nomark _)) (qe_cmpR op_eq (qe_callB (call_maxT rfl) (by rfl) T.m_max b_max (qa_c (qe_ix ix_tup (qv 4) qe_int (fun _ _ => rfl)) qa_nil)) qe_int (nomark _)) (nomark _))
        (qss_one (qs_ret qe_bl))
        qss_nil)))
        qss_nil)
      (qss_one (qs_if (QW.pt (qw_and (qt_cmpR op_eq (qe_ix ix_tup (qv 5) qe_int (fun _ _ => rfl)) qe_str (nomark _)) (qw_and (qt_cmpR op_lt (qe_ix ix_tup (qv 5) qe_int (fun _ _ => rfl)) qe_int (nomark _)) (qw_and1 (qt_cmpR op_le (qe_op op_add (qe_ix ix_tup (qv 5) qe_int (fun _ _ => rfl)) (qe_ix ix_tup (qv 5) qe_int (fun _ _ => rfl))) qe_int (nomark _))))))
        (qss_one (qs_if (QW.pt (qw_or (qt_cmpR op_isN (qv 4) qe_non (nomark _)) (qw_or (qt_cmpR op_gt (qe_ix ix_tup (qv 4) qe_int (fun _ _ => rfl)) (qe_ix ix_tup (qv 5) qe_int (fun _ _ => rfl)) (nomark _)) (qw_or1 (qt_cmpR op_ne (qe_callB (call_maxT rfl) (by rfl) T.m_max b_max (qa_c (qe_ix ix_tup (qv 4) qe_int (fun _ _ => rfl)) qa_nil)) qe_int (nomark _))))))
        (qss_one (qs_ret qe_bl))
        qss_nil))
        qss_nil))))))))
      (qss_one (qs_ret qe_bl))), ?_⟩
    refine ⟨0, 8, 2, 4, rfl, ⟨by decide, by decide⟩, by decide, by decide, for_range3 (n := 4) (fun i σ H2 => (∃ u1 u2 u3 u4 u5 : Option V, σ = [some (.ref a), u1, u2, u3, u4, u5]) /\ SqL K H2 a (ns.map V.int)) ⟨⟨none, none, none, none, none, rfl⟩, hS⟩ ?_ (fun σ H2 _ => q H2)⟩
    rintro i σ H2 hi ⟨⟨u1, u2, u3, u4, u5, rfl⟩, hS2⟩
    refine ⟨_, rfl, _, rfl, a, ns, _, rfl, hS2, by omega, fun c => ⟨c, rfl, fun n pt hpt => ?_⟩⟩
    refine ⟨pt, n, 6, rfl, upd_same, by decide, by decide, fun pr H3 n3 xs fs b3 ha3 hpr hfs x1 x10 => ?_⟩
    have hS3 : SqL K H3 a (ns.map V.int) := But.sq hS2 hpt b3
    refine ⟨_, rfl, _, rfl, _, _, rfl, rfl, a, ns, _, rfl, hS3, by omega, fun c' => ⟨c', rfl, fun n' qt hqt => ?_⟩⟩
    have sq : Same H3 (L2.upd H3 qt (.lst [.int n'])) := Same.new hqt
    generalize hG0 : L2.upd H3 qt (.lst [.int n']) = G0 at *
    have hq0 : G0 qt = some (.lst [.int n']) := by rw [← hG0]; exact upd_same
    refine ⟨qt, n', 4, rfl, hq0, by decide, by decide, fun pw G3 n3' es b3' hq3 hpw el he => ?_⟩
    have hnn : nn es = true := nn_iff.mpr fun e hm => (he e hm).1
    have R := rowsOf_10 fs
    have k03 : Keep G0 G3 := Keep.but b3' hq0 hq3
    have hpr3 : G3 pr = some (.tup xs) := k03.tup (sq _ _ hpr)
    have hfs3 : FrcsV G3 xs fs := (hfs.same sq).keep k03
    have hS0 : ∀ G, Same G3 G -> SqL K G a (ns.map V.int) := fun G s => by
      have b := b3'.trans (But.of s)
      rw [← hG0] at b
      exact But.sq hS3 hqt b
    refine ⟨_, rfl, _, rfl, pr, pw, xs, fs, es, 60, rfl, hpr3, hfs3, by omega, hpw, el, hnn, by decide, by decide, fun P hP => ⟨fun hFL G4 s4 => ?_, fun s' e' d hFL dp G4 s4 hL => ?_⟩⟩
    · -- no loop
      refine ⟨_, rfl, _, rfl, pr, pw, xs, fs, es, 200, rfl, s4 _ _ hpr3, hfs3.same s4, by omega, s4 _ _ hpw, el, hnn, by decide, by decide, fun v G5 o s5 hF hv => ?_⟩
      have hSe := hS0 G5 (s4.trans s5)
      refine ⟨_, rfl, rfl, _, rfl, iteF ?_⟩
      cases o with
      | rests n c =>
        obtain ⟨fa, fd', rfl, hfa, hfd⟩ := hv
        refine ⟨_, rfl, fa, _, 0, .str "rests", rfl, rfl, SqT.of hfa, rfl, rfl, _, rfl, ?_⟩
        rw [strne (by decide)]
        exact iteF (iteF ⟨⟨_, _, _, _, _, rfl⟩, hSe⟩)
      | open_ =>
        obtain ⟨fa, rfl, hfa⟩ := hv
        refine ⟨_, rfl, fa, _, 0, .str "open", rfl, rfl, SqT.of hfa, rfl, rfl, _, rfl, ?_⟩
        rw [strne (by decide)]
        exact iteF (iteF ⟨⟨_, _, _, _, _, rfl⟩, hSe⟩)
      | round b l =>
        obtain ⟨fa, rfl, hfa⟩ := hv
        obtain ⟨r1, r2, ⟨c, r3, r4⟩, _⟩ := hF
        refine ⟨_, rfl, fa, _, 0, .str "round", rfl, rfl, SqT.of hfa, rfl, rfl, _, rfl, ?_⟩
        rw [decide_eq_true rfl]
        refine iteT ⟨_, rfl, fa, _, 2, .int (l : Int), rfl, rfl, SqT.of hfa, rfl, _, _, rfl, rfl, _, rfl, ?_⟩
        by_cases hl : l < 41
        · rw [decide_eq_true (show (l : Int) < 41 by omega)]
          refine iteT ⟨_, rfl, fa, _, 1, .int (b : Int), rfl, rfl, SqT.of hfa, rfl, _, rfl, fa, _, 2, .int (l : Int), rfl, rfl, SqT.of hfa, rfl, _, _, rfl, rfl, _, _, rfl, rfl, _, rfl, ?_⟩
          rw [decide_eq_false (show ¬ (b : Int) + (l : Int) <= 60 from fun z => by
            obtain ⟨hB, d, hd⟩ := round_loop (m := (60 : Int).toNat) R el hnn hP r1 (by omega) (by show b + l <= 60; omega) r3 r4
            rw [hFL _ _ hB] at hd
            cases hd)]
          exact iteF ⟨⟨_, _, _, _, _, rfl⟩, hSe⟩
        · rw [decide_eq_false (show ¬ (l : Int) < 41 by omega)]
          exact iteF (iteF ⟨⟨_, _, _, _, _, rfl⟩, hSe⟩)
    · -- a loop
      have hFL' := hFL
      obtain ⟨hB, hpart, hmin⟩ := hFL
      obtain ⟨tt, ta, hdp, htt, hta⟩ := hL
      have hB1 := hB.1
      have hB2 := hB.2.1
      have hB3 := hB.2.2
      have ul60 : (trl (rowsOf fs) (60 : Int).toNat es).length <= 60 := trl_len (rowsOf fs) (60 : Int).toNat es
      obtain ⟨b, hPb, hgb⟩ := hP.get (s := s') (by omega)
      obtain ⟨b10, bnn⟩ := goN_ok R el hnn hgb
      obtain ⟨ew, path'⟩ := hP.cut (e := e') hB1 hB2 hgb
      have cl : (cutL (trl (rowsOf fs) (60 : Int).toNat es) s' e').length = e' - s' := cutL_len hB2
      have hLR : LoopR (rowsOf fs) (cutL P s' (e' + 1)) (cutL (trl (rowsOf fs) (60 : Int).toNat es) s' e') b d := ⟨R, b10, bnn, by rw [cl]; exact path', by rw [cl]; exact ew, by omega, hpart⟩
      have d10 := hLR.d10
      have dn := nn_iff.mp hLR.dd.2.1
      have hBal : HasB (rowsOf fs) := by
        obtain ⟨y1, y2, y3, y4⟩ := hLR.bal
        exact ⟨_, y1, y2, y3, y4⟩
      have dz : ∀ M, M ∈ d -> (∀ x, x ∈ d -> x <= M) -> (M = 0 ↔ ∀ i, i < 10 -> d.getD i 0 = 0) := fun M h1 h2 => by
        constructor
        · intro z i hi
          have hm : d.getD i 0 ∈ d := by rw [List.getD_eq_getElem?_getD, List.getElem?_eq_getElem (by omega)]; exact List.getElem_mem _
          have g1 := h2 _ hm
          have g2 := dn _ hm
          omega
        · intro z
          obtain ⟨i, hi⟩ := List.getElem?_of_mem h1
          have hil := (List.getElem?_eq_some_iff.mp hi).1
          have := z i (by omega)
          rw [List.getD_eq_getElem?_getD, hi] at this
          exact this
      refine ⟨_, rfl, _, rfl, pr, pw, xs, fs, es, 200, rfl, s4 _ _ hpr3, hfs3.same s4, by omega, s4 _ _ hpw, el, hnn, by decide, by decide, fun v G5 o s5 hF hv => ?_⟩
      have hdp5 := s5 _ _ hdp
      have hta5 := s5 _ _ hta
      have s35 := s4.trans s5
      refine ⟨_, rfl, rfl, _, rfl, iteT ?_⟩
      cases o with
      | rests n c => exact (loop_no_rest hLR hgb hF.2.1 hF.2.2).elim
      | open_ =>
        obtain ⟨fa, rfl, hfa⟩ := hv
        refine ⟨_, rfl, fa, _, 0, .str "open", rfl, rfl, SqT.of hfa, rfl, (by show 2 <= sizeLine; decide), fun t G6 f6 s6 ht => ?_⟩
        refine ⟨t, _, rfl, .inr (SqT.of ht), rfl, rfl, _, rfl, ?_⟩
        refine iteF ?_
        have s36 := s35.trans s6
        refine ⟨_, rfl, pr, xs, fs, rfl, s36 _ _ hpr3, hfs3.same s36, x1, by omega, fun wt ad G7 word ns2 s7 hwt had hW => ?_⟩
        have ewd := wraw_b hW hBal
        refine ⟨wt, _, 0, .str word, rfl, rfl, SqT.of hwt, rfl, rfl, _, rfl, ?_⟩
        rw [decide_eq_true (show V.str word = V.str "balance" by rw [ewd])]
        refine iteF ?_
        have s57 := s6.trans s7
        have hfa7 := s57 _ _ hfa
        refine ⟨_, rfl, fa, _, 0, .str "open", rfl, rfl, SqT.of hfa7, rfl, rfl, _, rfl, dp, _, 2, .ref ta, rfl, rfl, SqT.of (s57 _ _ hdp5), rfl, ta, d, rfl, SqT.of (s57 _ _ hta5), (fun z => by rw [z] at d10; cases d10), fun M hM1 hM2 => ⟨rfl, rfl, _, rfl, ?_⟩⟩
        have hM : M ≠ 0 := fun z => by
          have e1 := loop_same hLR hgb ((dz M hM1 hM2).mp z)
          rw [cl] at e1
          exact hF.2 s' (s' + (e' - s')) (by omega) (by show s' + (e' - s') < 201; omega) e1.symm
        rw [strne (by decide), decide_eq_false (show ¬ V.int M = V.int 0 from fun z => hM (by injection z)), decide_eq_true rfl]
        refine iteF ?_
        refine ⟨_, rfl, fa, _, 0, .str "open", rfl, rfl, SqT.of hfa7, rfl, rfl, _, rfl, ?_⟩
        rw [strne (by decide)]
        exact iteF (iteF ⟨⟨_, _, _, _, _, rfl⟩, hS0 G7 (s36.trans s7)⟩)
      | round rb l =>
        obtain ⟨fa, rfl, hfa⟩ := hv
        obtain ⟨r1, r2, ⟨c, r3, r4⟩, _⟩ := hF
        have dz0 : ∀ i, i < 10 -> d.getD i 0 = 0 := loop_round hLR hgb r1 (by rw [r3, r4])
        refine ⟨_, rfl, fa, _, 0, .str "round", rfl, rfl, SqT.of hfa, rfl, (by show 2 <= sizeLine; decide), fun t G6 f6 s6 ht => ?_⟩
        refine ⟨t, _, rfl, .inr (SqT.of ht), rfl, rfl, _, rfl, ?_⟩
        refine iteF ?_
        have s36 := s35.trans s6
        refine ⟨_, rfl, pr, xs, fs, rfl, s36 _ _ hpr3, hfs3.same s36, x1, by omega, fun wt ad G7 word ns2 s7 hwt had hW => ?_⟩
        have ewd := wraw_b hW hBal
        refine ⟨wt, _, 0, .str word, rfl, rfl, SqT.of hwt, rfl, rfl, _, rfl, ?_⟩
        rw [decide_eq_true (show V.str word = V.str "balance" by rw [ewd])]
        refine iteF ?_
        have s57 := s6.trans s7
        have hfa7 := s57 _ _ hfa
        have hdp7 := s57 _ _ hdp5
        have hta7 := s57 _ _ hta5
        have hSe := hS0 G7 (s36.trans s7)
        refine ⟨_, rfl, fa, _, 0, .str "round", rfl, rfl, SqT.of hfa7, rfl, rfl, _, rfl, dp, _, 2, .ref ta, rfl, rfl, SqT.of hdp7, rfl, ta, d, rfl, SqT.of hta7, (fun z => by rw [z] at d10; cases d10), fun M hM1 hM2 => ⟨rfl, rfl, _, rfl, ?_⟩⟩
        have hM : M = 0 := (dz M hM1 hM2).mpr dz0
        rw [decide_eq_true (show V.str "round" = V.str "round" from rfl), decide_eq_true (show V.int M = V.int 0 by rw [hM]), decide_eq_true rfl]
        refine iteF ?_
        refine ⟨_, rfl, fa, _, 0, .str "round", rfl, rfl, SqT.of hfa7, rfl, rfl, _, rfl, ?_⟩
        rw [decide_eq_true rfl]
        refine iteT ⟨_, rfl, fa, _, 2, .int (l : Int), rfl, rfl, SqT.of hfa7, rfl, _, _, rfl, rfl, _, rfl, ?_⟩
        by_cases hl : l < 41
        · rw [decide_eq_true (show (l : Int) < 41 by omega)]
          refine iteT ⟨_, rfl, fa, _, 1, .int (rb : Int), rfl, rfl, SqT.of hfa7, rfl, _, rfl, fa, _, 2, .int (l : Int), rfl, rfl, SqT.of hfa7, rfl, _, _, rfl, rfl, _, _, rfl, rfl, _, rfl, ?_⟩
          by_cases h60 : rb + l <= 60
          · rw [decide_eq_true (show (rb : Int) + (l : Int) <= 60 by omega)]
            refine iteT ?_
            obtain ⟨hB', d', hd'⟩ := round_loop (m := (60 : Int).toNat) R el hnn hP r1 (by omega) (by show rb + l <= 60; omega) r3 r4
            have hsb : s' <= rb := by
              rcases Nat.lt_or_ge rb s' with z | z
              · rw [hmin rb (rb + l) hB' (.inl z)] at hd'
                cases hd'
              · exact z
            refine ⟨_, rfl, rfl, _, rfl, iteF ⟨_, rfl, dp, _, 0, .int (s' : Int), rfl, rfl, SqT.of hdp7, rfl, _, rfl, fa, _, 1, .int (rb : Int), rfl, rfl, SqT.of hfa7, rfl, _, _, rfl, rfl, _, rfl, ?_⟩⟩
            rw [decide_eq_false (show ¬ (s' : Int) > (rb : Int) by omega)]
            refine iteF ⟨_, rfl, dp, _, 2, .ref ta, rfl, rfl, SqT.of hdp7, rfl, ta, d, rfl, SqT.of hta7, (fun z => by rw [z] at d10; cases d10), fun M2 hM1' hM2' => ⟨rfl, _, rfl, ?_⟩⟩
            rw [decide_eq_true (show V.int M2 = V.int 0 by rw [(dz M2 hM1' hM2').mpr dz0])]
            exact iteF ⟨⟨_, _, _, _, _, rfl⟩, hSe⟩
          · rw [decide_eq_false (show ¬ (rb : Int) + (l : Int) <= 60 by omega)]
            exact iteF ⟨⟨_, _, _, _, _, rfl⟩, hSe⟩
        · rw [decide_eq_false (show ¬ (l : Int) < 41 by omega)]
          exact iteF (iteF ⟨⟨_, _, _, _, _, rfl⟩, hSe⟩)
end
theorem all_mk {l : PySem.W.OpenLaw} {w : World} {K : PySem.W.Frag} {h : Heap} {mg : Str -> Option Value} {fa f0 f1 f2 f3 f4 f5 f6 f7 f8 f9 f10 f11 f12 f13 f14 f15 f16 f17 f18 f19 f20 f21 f22 f23 f24 f25 f26 f27 f28 f29 f30 f31 f32 f33 f34 f35 f36 f37 h_FractError h_NoNumber : Addr} (X : K.In h) (G : h.Ns mainGlobals mg) (hfa : mg "law" = some (.ref fa))
    {od0 an0 od1 an1 od2 an2 od3 an3 od4 an4 od5 an5 od6 an6 od7 an7 od8 an8 od9 an9 od10 an10 od11 an11 od12 an12 od13 an13 od14 an14 od15 an15 od16 an16 od17 an17 od18 an18 od19 an19 od20 an20 od21 an21 od22 an22 od23 an23 od24 an24 od25 an25 od26 an26 od27 an27 od28 an28 od29 an29 od30 an30 od31 an31 od32 an32 od33 an33 od34 an34 od35 an35 od36 an36 od37 an37 : Option Addr} {sl0 sl1 sl2 sl3 sl4 sl5 sl6 sl7 sl8 sl9 sl10 sl11 sl12 sl13 sl14 sl15 sl16 sl17 sl18 sl19 sl20 sl21 sl22 sl23 sl24 sl25 sl26 sl27 sl28 sl29 sl30 sl31 sl32 sl33 sl34 sl35 sl36 sl37 : Array (Option Value)} {oc0 kV0 dc0 pm0 cd0 ct0 oc1 kV1 dc1 pm1 cd1 ct1 oc2 kV2 dc2 pm2 cd2 ct2 oc3 kV3 dc3 pm3 cd3 ct3 oc4 kV4 dc4 pm4 cd4 ct4 oc5 kV5 dc5 pm5 cd5 ct5 oc6 kV6 dc6 pm6 cd6 ct6 oc7 kV7 dc7 pm7 cd7 ct7 oc8 kV8 dc8 pm8 cd8 ct8 oc9 kV9 dc9 pm9 cd9 ct9 oc10 kV10 dc10 pm10 cd10 ct10 oc11 kV11 dc11 pm11 cd11 ct11 oc12 kV12 dc12 pm12 cd12 ct12 oc13 kV13 dc13 pm13 cd13 ct13 oc14 kV14 dc14 pm14 cd14 ct14 oc15 kV15 dc15 pm15 cd15 ct15 oc16 kV16 dc16 pm16 cd16 ct16 oc17 kV17 dc17 pm17 cd17 ct17 oc18 kV18 dc18 pm18 cd18 ct18 oc19 kV19 dc19 pm19 cd19 ct19 oc20 kV20 dc20 pm20 cd20 ct20 oc21 kV21 dc21 pm21 cd21 ct21 oc22 kV22 dc22 pm22 cd22 ct22 oc23 kV23 dc23 pm23 cd23 ct23 oc24 kV24 dc24 pm24 cd24 ct24 oc25 kV25 dc25 pm25 cd25 ct25 oc26 kV26 dc26 pm26 cd26 ct26 oc27 kV27 dc27 pm27 cd27 ct27 oc28 kV28 dc28 pm28 cd28 ct28 oc29 kV29 dc29 pm29 cd29 ct29 oc30 kV30 dc30 pm30 cd30 ct30 oc31 kV31 dc31 pm31 cd31 ct31 oc32 kV32 dc32 pm32 cd32 ct32 oc33 kV33 dc33 pm33 cd33 ct33 oc34 kV34 dc34 pm34 cd34 ct34 oc35 kV35 dc35 pm35 cd35 ct35 oc36 kV36 dc36 pm36 cd36 ct36 oc37 kV37 dc37 pm37 cd37 ct37 : Value}
    {t_MOST_PLACES : Tok}
    {x_PRIMES : Addr} {t0_PRIMES t1_PRIMES t2_PRIMES t3_PRIMES t4_PRIMES t5_PRIMES t6_PRIMES t7_PRIMES t8_PRIMES t9_PRIMES : Tok} {n_PRIMES : Nat} {d_PRIMES : Option Addr} {sl_PRIMES : Array (Option Value)}
    (a0 : PySem.W.nsIn K mainGlobals "is_whole" = some (some (.ref f0)))
    (l0 : K.lookup f0 = some ⟨oc0, od0, .func (PySem.W.fnOf "is_whole" "is_whole" (defArgs s_is_whole) (defBody s_is_whole) (defScope s_is_whole) .none kV0 dc0 pm0 an0 cd0 ct0), sl0⟩)
    (c0 : PySem.W.codeIn K cd0 "is_whole" = true) (k0 : PySem.W.keepIn K (.ref f0) = true)
    (a1 : PySem.W.nsIn K mainGlobals "powers_of" = some (some (.ref f1)))
    (l1 : K.lookup f1 = some ⟨oc1, od1, .func (PySem.W.fnOf "powers_of" "powers_of" (defArgs s_powers_of) (defBody s_powers_of) (defScope s_powers_of) .none kV1 dc1 pm1 an1 cd1 ct1), sl1⟩)
    (c1 : PySem.W.codeIn K cd1 "powers_of" = true) (k1 : PySem.W.keepIn K (.ref f1) = true)
    (a2 : PySem.W.nsIn K mainGlobals "how_often" = some (some (.ref f2)))
    (l2 : K.lookup f2 = some ⟨oc2, od2, .func (PySem.W.fnOf "how_often" "how_often" (defArgs s_how_often) (defBody s_how_often) (defScope s_how_often) .none kV2 dc2 pm2 an2 cd2 ct2), sl2⟩)
    (c2 : PySem.W.codeIn K cd2 "how_often" = true) (k2 : PySem.W.keepIn K (.ref f2) = true)
    (a3 : PySem.W.nsIn K mainGlobals "without_primes" = some (some (.ref f3)))
    (l3 : K.lookup f3 = some ⟨oc3, od3, .func (PySem.W.fnOf "without_primes" "without_primes" (defArgs s_without_primes) (defBody s_without_primes) (defScope s_without_primes) .none kV3 dc3 pm3 an3 cd3 ct3), sl3⟩)
    (c3 : PySem.W.codeIn K cd3 "without_primes" = true) (k3 : PySem.W.keepIn K (.ref f3) = true)
    (a4 : PySem.W.nsIn K mainGlobals "changes_of" = some (some (.ref f4)))
    (l4 : K.lookup f4 = some ⟨oc4, od4, .func (PySem.W.fnOf "changes_of" "changes_of" (defArgs s_changes_of) (defBody s_changes_of) (defScope s_changes_of) .none kV4 dc4 pm4 an4 cd4 ct4), sl4⟩)
    (c4 : PySem.W.codeIn K cd4 "changes_of" = true) (k4 : PySem.W.keepIn K (.ref f4) = true)
    (a5 : PySem.W.nsIn K mainGlobals "fraction_changes" = some (some (.ref f5)))
    (l5 : K.lookup f5 = some ⟨oc5, od5, .func (PySem.W.fnOf "fraction_changes" "fraction_changes" (defArgs s_fraction_changes) (defBody s_fraction_changes) (defScope s_fraction_changes) .none kV5 dc5 pm5 an5 cd5 ct5), sl5⟩)
    (c5 : PySem.W.codeIn K cd5 "fraction_changes" = true) (k5 : PySem.W.keepIn K (.ref f5) = true)
    (a6 : PySem.W.nsIn K mainGlobals "fits" = some (some (.ref f6)))
    (l6 : K.lookup f6 = some ⟨oc6, od6, .func (PySem.W.fnOf "fits" "fits" (defArgs s_fits) (defBody s_fits) (defScope s_fits) .none kV6 dc6 pm6 an6 cd6 ct6), sl6⟩)
    (c6 : PySem.W.codeIn K cd6 "fits" = true) (k6 : PySem.W.keepIn K (.ref f6) = true)
    (a7 : PySem.W.nsIn K mainGlobals "first_of" = some (some (.ref f7)))
    (l7 : K.lookup f7 = some ⟨oc7, od7, .func (PySem.W.fnOf "first_of" "first_of" (defArgs s_first_of) (defBody s_first_of) (defScope s_first_of) .none kV7 dc7 pm7 an7 cd7 ct7), sl7⟩)
    (c7 : PySem.W.codeIn K cd7 "first_of" = true) (k7 : PySem.W.keepIn K (.ref f7) = true)
    (a8 : PySem.W.nsIn K mainGlobals "moved" = some (some (.ref f8)))
    (l8 : K.lookup f8 = some ⟨oc8, od8, .func (PySem.W.fnOf "moved" "moved" (defArgs s_moved) (defBody s_moved) (defScope s_moved) .none kV8 dc8 pm8 an8 cd8 ct8), sl8⟩)
    (c8 : PySem.W.codeIn K cd8 "moved" = true) (k8 : PySem.W.keepIn K (.ref f8) = true)
    (a9 : PySem.W.nsIn K mainGlobals "places_of" = some (some (.ref f9)))
    (l9 : K.lookup f9 = some ⟨oc9, od9, .func (PySem.W.fnOf "places_of" "places_of" (defArgs s_places_of) (defBody s_places_of) (defScope s_places_of) .none kV9 dc9 pm9 an9 cd9 ct9), sl9⟩)
    (c9 : PySem.W.codeIn K cd9 "places_of" = true) (k9 : PySem.W.keepIn K (.ref f9) = true)
    (a10 : PySem.W.nsIn K mainGlobals "used_at" = some (some (.ref f10)))
    (l10 : K.lookup f10 = some ⟨oc10, od10, .func (PySem.W.fnOf "used_at" "used_at" (defArgs s_used_at) (defBody s_used_at) (defScope s_used_at) .none kV10 dc10 pm10 an10 cd10 ct10), sl10⟩)
    (c10 : PySem.W.codeIn K cd10 "used_at" = true) (k10 : PySem.W.keepIn K (.ref f10) = true)
    (a11 : PySem.W.nsIn K mainGlobals "added_along" = some (some (.ref f11)))
    (l11 : K.lookup f11 = some ⟨oc11, od11, .func (PySem.W.fnOf "added_along" "added_along" (defArgs s_added_along) (defBody s_added_along) (defScope s_added_along) .none kV11 dc11 pm11 an11 cd11 ct11), sl11⟩)
    (c11 : PySem.W.codeIn K cd11 "added_along" = true) (k11 : PySem.W.keepIn K (.ref f11) = true)
    (a12 : PySem.W.nsIn K mainGlobals "stays_shut" = some (some (.ref f12)))
    (l12 : K.lookup f12 = some ⟨oc12, od12, .func (PySem.W.fnOf "stays_shut" "stays_shut" (defArgs s_stays_shut) (defBody s_stays_shut) (defScope s_stays_shut) .none kV12 dc12 pm12 an12 cd12 ct12), sl12⟩)
    (c12 : PySem.W.codeIn K cd12 "stays_shut" = true) (k12 : PySem.W.keepIn K (.ref f12) = true)
    (a13 : PySem.W.nsIn K mainGlobals "first_loop" = some (some (.ref f13)))
    (l13 : K.lookup f13 = some ⟨oc13, od13, .func (PySem.W.fnOf "first_loop" "first_loop" (defArgs s_first_loop) (defBody s_first_loop) (defScope s_first_loop) .none kV13 dc13 pm13 an13 cd13 ct13), sl13⟩)
    (c13 : PySem.W.codeIn K cd13 "first_loop" = true) (k13 : PySem.W.keepIn K (.ref f13) = true)
    (a14 : PySem.W.nsIn K mainGlobals "fate" = some (some (.ref f14)))
    (l14 : K.lookup f14 = some ⟨oc14, od14, .func (PySem.W.fnOf "fate" "fate" (defArgs s_fate) (defBody s_fate) (defScope s_fate) .none kV14 dc14 pm14 an14 cd14 ct14), sl14⟩)
    (c14 : PySem.W.codeIn K cd14 "fate" = true) (k14 : PySem.W.keepIn K (.ref f14) = true)
    (a15 : PySem.W.nsIn K mainGlobals "unit_row" = some (some (.ref f15)))
    (l15 : K.lookup f15 = some ⟨oc15, od15, .func (PySem.W.fnOf "unit_row" "unit_row" (defArgs s_unit_row) (defBody s_unit_row) (defScope s_unit_row) .none kV15 dc15 pm15 an15 cd15 ct15), sl15⟩)
    (c15 : PySem.W.codeIn K cd15 "unit_row" = true) (k15 : PySem.W.keepIn K (.ref f15) = true)
    (a16 : PySem.W.nsIn K mainGlobals "lowest" = some (some (.ref f16)))
    (l16 : K.lookup f16 = some ⟨oc16, od16, .func (PySem.W.fnOf "lowest" "lowest" (defArgs s_lowest) (defBody s_lowest) (defScope s_lowest) .none kV16 dc16 pm16 an16 cd16 ct16), sl16⟩)
    (c16 : PySem.W.codeIn K cd16 "lowest" = true) (k16 : PySem.W.keepIn K (.ref f16) = true)
    (a17 : PySem.W.nsIn K mainGlobals "common_divisor" = some (some (.ref f17)))
    (l17 : K.lookup f17 = some ⟨oc17, od17, .func (PySem.W.fnOf "common_divisor" "common_divisor" (defArgs s_common_divisor) (defBody s_common_divisor) (defScope s_common_divisor) .none kV17 dc17 pm17 an17 cd17 ct17), sl17⟩)
    (c17 : PySem.W.codeIn K cd17 "common_divisor" = true) (k17 : PySem.W.keepIn K (.ref f17) = true)
    (a18 : PySem.W.nsIn K mainGlobals "by_primes" = some (some (.ref f18)))
    (l18 : K.lookup f18 = some ⟨oc18, od18, .func (PySem.W.fnOf "by_primes" "by_primes" (defArgs s_by_primes) (defBody s_by_primes) (defScope s_by_primes) .none kV18 dc18 pm18 an18 cd18 ct18), sl18⟩)
    (c18 : PySem.W.codeIn K cd18 "by_primes" = true) (k18 : PySem.W.keepIn K (.ref f18) = true)
    (a19 : PySem.W.nsIn K mainGlobals "weighed" = some (some (.ref f19)))
    (l19 : K.lookup f19 = some ⟨oc19, od19, .func (PySem.W.fnOf "weighed" "weighed" (defArgs s_weighed) (defBody s_weighed) (defScope s_weighed) .none kV19 dc19 pm19 an19 cd19 ct19), sl19⟩)
    (c19 : PySem.W.codeIn K cd19 "weighed" = true) (k19 : PySem.W.keepIn K (.ref f19) = true)
    (a20 : PySem.W.nsIn K mainGlobals "first_table" = some (some (.ref f20)))
    (l20 : K.lookup f20 = some ⟨oc20, od20, .func (PySem.W.fnOf "first_table" "first_table" (defArgs s_first_table) (defBody s_first_table) (defScope s_first_table) .none kV20 dc20 pm20 an20 cd20 ct20), sl20⟩)
    (c20 : PySem.W.codeIn K cd20 "first_table" = true) (k20 : PySem.W.keepIn K (.ref f20) = true)
    (a21 : PySem.W.nsIn K mainGlobals "first_above" = some (some (.ref f21)))
    (l21 : K.lookup f21 = some ⟨oc21, od21, .func (PySem.W.fnOf "first_above" "first_above" (defArgs s_first_above) (defBody s_first_above) (defScope s_first_above) .none kV21 dc21 pm21 an21 cd21 ct21), sl21⟩)
    (c21 : PySem.W.codeIn K cd21 "first_above" = true) (k21 : PySem.W.keepIn K (.ref f21) = true)
    (a22 : PySem.W.nsIn K mainGlobals "leaving" = some (some (.ref f22)))
    (l22 : K.lookup f22 = some ⟨oc22, od22, .func (PySem.W.fnOf "leaving" "leaving" (defArgs s_leaving) (defBody s_leaving) (defScope s_leaving) .none kV22 dc22 pm22 an22 cd22 ct22), sl22⟩)
    (c22 : PySem.W.codeIn K cd22 "leaving" = true) (k22 : PySem.W.keepIn K (.ref f22) = true)
    (a23 : PySem.W.nsIn K mainGlobals "exchanged" = some (some (.ref f23)))
    (l23 : K.lookup f23 = some ⟨oc23, od23, .func (PySem.W.fnOf "exchanged" "exchanged" (defArgs s_exchanged) (defBody s_exchanged) (defScope s_exchanged) .none kV23 dc23 pm23 an23 cd23 ct23), sl23⟩)
    (c23 : PySem.W.codeIn K cd23 "exchanged" = true) (k23 : PySem.W.keepIn K (.ref f23) = true)
    (a24 : PySem.W.nsIn K mainGlobals "endless" = some (some (.ref f24)))
    (l24 : K.lookup f24 = some ⟨oc24, od24, .func (PySem.W.fnOf "endless" "endless" (defArgs s_endless) (defBody s_endless) (defScope s_endless) .none kV24 dc24 pm24 an24 cd24 ct24), sl24⟩)
    (c24 : PySem.W.codeIn K cd24 "endless" = true) (k24 : PySem.W.keepIn K (.ref f24) = true)
    (a25 : PySem.W.nsIn K mainGlobals "_law_cell_at" = some (some (.ref f25)))
    (l25 : K.lookup f25 = some ⟨oc25, od25, .func (PySem.W.fnOf "_law_cell_at" "_law_cell_at" (defArgs s_l_cell_at) (defBody s_l_cell_at) (defScope s_l_cell_at) .none kV25 dc25 pm25 an25 cd25 ct25), sl25⟩)
    (c25 : PySem.W.codeIn K cd25 "_law_cell_at" = true) (k25 : PySem.W.keepIn K (.ref f25) = true)
    (a26 : PySem.W.nsIn K mainGlobals "_law_pot" = some (some (.ref f26)))
    (l26 : K.lookup f26 = some ⟨oc26, od26, .func (PySem.W.fnOf "_law_pot" "_law_pot" (defArgs s_l_pot) (defBody s_l_pot) (defScope s_l_pot) .none kV26 dc26 pm26 an26 cd26 ct26), sl26⟩)
    (c26 : PySem.W.codeIn K cd26 "_law_pot" = true) (k26 : PySem.W.keepIn K (.ref f26) = true)
    (a27 : PySem.W.nsIn K mainGlobals "_law_take" = some (some (.ref f27)))
    (l27 : K.lookup f27 = some ⟨oc27, od27, .func (PySem.W.fnOf "_law_take" "_law_take" (defArgs s_l_take) (defBody s_l_take) (defScope s_l_take) .none kV27 dc27 pm27 an27 cd27 ct27), sl27⟩)
    (c27 : PySem.W.codeIn K cd27 "_law_take" = true) (k27 : PySem.W.keepIn K (.ref f27) = true)
    (a28 : PySem.W.nsIn K mainGlobals "_law_primes" = some (some (.ref f28)))
    (l28 : K.lookup f28 = some ⟨oc28, od28, .func (PySem.W.fnOf "_law_primes" "_law_primes" (defArgs s_l_primes) (defBody s_l_primes) (defScope s_l_primes) .none kV28 dc28 pm28 an28 cd28 ct28), sl28⟩)
    (c28 : PySem.W.codeIn K cd28 "_law_primes" = true) (k28 : PySem.W.keepIn K (.ref f28) = true)
    (a29 : PySem.W.nsIn K mainGlobals "_law_number" = some (some (.ref f29)))
    (l29 : K.lookup f29 = some ⟨oc29, od29, .func (PySem.W.fnOf "_law_number" "_law_number" (defArgs s_l_number) (defBody s_l_number) (defScope s_l_number) .none kV29 dc29 pm29 an29 cd29 ct29), sl29⟩)
    (c29 : PySem.W.codeIn K cd29 "_law_number" = true) (k29 : PySem.W.keepIn K (.ref f29) = true)
    (a30 : PySem.W.nsIn K mainGlobals "_law_fraction" = some (some (.ref f30)))
    (l30 : K.lookup f30 = some ⟨oc30, od30, .func (PySem.W.fnOf "_law_fraction" "_law_fraction" (defArgs s_l_fraction) (defBody s_l_fraction) (defScope s_l_fraction) .none kV30 dc30 pm30 an30 cd30 ct30), sl30⟩)
    (c30 : PySem.W.codeIn K cd30 "_law_fraction" = true) (k30 : PySem.W.keepIn K (.ref f30) = true)
    (a31 : PySem.W.nsIn K mainGlobals "_law_some" = some (some (.ref f31)))
    (l31 : K.lookup f31 = some ⟨oc31, od31, .func (PySem.W.fnOf "_law_some" "_law_some" (defArgs s_l_some) (defBody s_l_some) (defScope s_l_some) .none kV31 dc31 pm31 an31 cd31 ct31), sl31⟩)
    (c31 : PySem.W.codeIn K cd31 "_law_some" = true) (k31 : PySem.W.keepIn K (.ref f31) = true)
    (a32 : PySem.W.nsIn K mainGlobals "_law_any_program" = some (some (.ref f32)))
    (l32 : K.lookup f32 = some ⟨oc32, od32, .func (PySem.W.fnOf "_law_any_program" "_law_any_program" (defArgs s_l_any_program) (defBody s_l_any_program) (defScope s_l_any_program) .none kV32 dc32 pm32 an32 cd32 ct32), sl32⟩)
    (c32 : PySem.W.codeIn K cd32 "_law_any_program" = true) (k32 : PySem.W.keepIn K (.ref f32) = true)
    (a33 : PySem.W.nsIn K mainGlobals "_law_sinking" = some (some (.ref f33)))
    (l33 : K.lookup f33 = some ⟨oc33, od33, .func (PySem.W.fnOf "_law_sinking" "_law_sinking" (defArgs s_l_sinking) (defBody s_l_sinking) (defScope s_l_sinking) .none kV33 dc33 pm33 an33 cd33 ct33), sl33⟩)
    (c33 : PySem.W.codeIn K cd33 "_law_sinking" = true) (k33 : PySem.W.keepIn K (.ref f33) = true)
    (a34 : PySem.W.nsIn K mainGlobals "_law_ringing" = some (some (.ref f34)))
    (l34 : K.lookup f34 = some ⟨oc34, od34, .func (PySem.W.fnOf "_law_ringing" "_law_ringing" (defArgs s_l_ringing) (defBody s_l_ringing) (defScope s_l_ringing) .none kV34 dc34 pm34 an34 cd34 ct34), sl34⟩)
    (c34 : PySem.W.codeIn K cd34 "_law_ringing" = true) (k34 : PySem.W.keepIn K (.ref f34) = true)
    (a35 : PySem.W.nsIn K mainGlobals "_law_program" = some (some (.ref f35)))
    (l35 : K.lookup f35 = some ⟨oc35, od35, .func (PySem.W.fnOf "_law_program" "_law_program" (defArgs s_l_program) (defBody s_l_program) (defScope s_l_program) .none kV35 dc35 pm35 an35 cd35 ct35), sl35⟩)
    (c35 : PySem.W.codeIn K cd35 "_law_program" = true) (k35 : PySem.W.keepIn K (.ref f35) = true)
    (a36 : PySem.W.nsIn K mainGlobals "_law_powers" = some (some (.ref f36)))
    (l36 : K.lookup f36 = some ⟨oc36, od36, .func (PySem.W.fnOf "_law_powers" "_law_powers" (defArgs s_l_powers) (defBody s_l_powers) (defScope s_l_powers) .none kV36 dc36 pm36 an36 cd36 ct36), sl36⟩)
    (c36 : PySem.W.codeIn K cd36 "_law_powers" = true) (k36 : PySem.W.keepIn K (.ref f36) = true)
    (a37 : PySem.W.nsIn K mainGlobals "law" = some (some (.ref f37)))
    (l37 : K.lookup f37 = some ⟨oc37, od37, .func (PySem.W.fnOf "law" "law" (defArgs s_law) (defBody s_law) (defScope s_law) .none kV37 dc37 pm37 an37 cd37 ct37), sl37⟩)
    (c37 : PySem.W.codeIn K cd37 "law" = true) (k37 : PySem.W.keepIn K (.ref f37) = true)
    (a_FractError : PySem.W.nsIn K mainGlobals "FractError" = some (some (.ref h_FractError)))
    (a_NoNumber : PySem.W.nsIn K mainGlobals "NoNumber" = some (some (.ref h_NoNumber)))
    (z_len : PySem.W.nsIn K mainGlobals "len" = some none)
    (z_isinstance : PySem.W.nsIn K mainGlobals "isinstance" = some none)
    (z_int : PySem.W.nsIn K mainGlobals "int" = some none)
    (z_bool : PySem.W.nsIn K mainGlobals "bool" = some none)
    (z_tuple : PySem.W.nsIn K mainGlobals "tuple" = some none)
    (z_list : PySem.W.nsIn K mainGlobals "list" = some none)
    (z_range : PySem.W.nsIn K mainGlobals "range" = some none)
    (z_max : PySem.W.nsIn K mainGlobals "max" = some none)
    (z_min : PySem.W.nsIn K mainGlobals "min" = some none)
    (z_all : PySem.W.nsIn K mainGlobals "all" = some none)
    (z_zip : PySem.W.nsIn K mainGlobals "zip" = some none)
    (z_any : PySem.W.nsIn K mainGlobals "any" = some none)
    (z_sum : PySem.W.nsIn K mainGlobals "sum" = some none)
    (z_enumerate : PySem.W.nsIn K mainGlobals "enumerate" = some none)
    (z_abs : PySem.W.nsIn K mainGlobals "abs" = some none)
    (z_ValueError : PySem.W.nsIn K mainGlobals "ValueError" = some none)
    (g_MOST_PLACES : PySem.W.nsIn K mainGlobals "MOST_PLACES" = some (some (.int 40 t_MOST_PLACES)))
    (g_PRIMES : PySem.W.nsIn K mainGlobals "PRIMES" = some (some (.ref x_PRIMES)))
    (y_PRIMES : K.lookup x_PRIMES = some ⟨.type "tuple", d_PRIMES, .seq #[.int 2 t0_PRIMES, .int 3 t1_PRIMES, .int 5 t2_PRIMES, .int 7 t3_PRIMES, .int 11 t4_PRIMES, .int 13 t5_PRIMES, .int 17 t6_PRIMES, .int 19 t7_PRIMES, .int 23 t8_PRIMES, .int 29 t9_PRIMES] n_PRIMES, sl_PRIMES⟩) :
    ∃ fd : FuncData, (∀ (s : Shared) (v : Value), BindsTo s fd ⟨[v], []⟩ [("script", v)]) /\ ∀ base : Heap, K.In base -> base.Ns mainGlobals mg -> FnOk l.prog w K mg base CX0 kLaw fa fd ["script"] (sp_law K) := by
  have e := hfa.symm.trans (PySem.W.mg_of X G a37)
  cases e
  have F0 := fun_mk (st := s_is_whole) l0 c0 k0
  have b0 := F0.binds (ps := ["thing"]) fun _ _ _ _ _ _ us hl => match us, hl with | [_], _ => rfl
  have F1 := fun_mk (st := s_powers_of) l1 c1 k1
  have b1 := F1.binds (ps := ["number"]) fun _ _ _ _ _ _ us hl => match us, hl with | [_], _ => rfl
  have F2 := fun_mk (st := s_how_often) l2 c2 k2
  have b2 := F2.binds (ps := ["prime", "number"]) fun _ _ _ _ _ _ us hl => match us, hl with | [_, _], _ => rfl
  have F3 := fun_mk (st := s_without_primes) l3 c3 k3
  have b3 := F3.binds (ps := ["number"]) fun _ _ _ _ _ _ us hl => match us, hl with | [_], _ => rfl
  have F4 := fun_mk (st := s_changes_of) l4 c4 k4
  have b4 := F4.binds (ps := ["program"]) fun _ _ _ _ _ _ us hl => match us, hl with | [_], _ => rfl
  have F5 := fun_mk (st := s_fraction_changes) l5 c5 k5
  have b5 := F5.binds (ps := ["fraction"]) fun _ _ _ _ _ _ us hl => match us, hl with | [_], _ => rfl
  have F6 := fun_mk (st := s_fits) l6 c6 k6
  have b6 := F6.binds (ps := ["changes", "powers"]) fun _ _ _ _ _ _ us hl => match us, hl with | [_, _], _ => rfl
  have F7 := fun_mk (st := s_first_of) l7 c7 k7
  have b7 := F7.binds (ps := ["rows", "powers"]) fun _ _ _ _ _ _ us hl => match us, hl with | [_, _], _ => rfl
  have F8 := fun_mk (st := s_moved) l8 c8 k8
  have b8 := F8.binds (ps := ["powers", "changes", "many"]) fun _ _ _ _ _ _ us hl => match us, hl with | [_, _, _], _ => rfl
  have F9 := fun_mk (st := s_places_of) l9 c9 k9
  have b9 := F9.binds (ps := ["rows", "powers", "many"]) fun _ _ _ _ _ _ us hl => match us, hl with | [_, _, _], _ => rfl
  have F10 := fun_mk (st := s_used_at) l10 c10 k10
  have b10 := F10.binds (ps := ["places"]) fun _ _ _ _ _ _ us hl => match us, hl with | [_], _ => rfl
  have F11 := fun_mk (st := s_added_along) l11 c11 k11
  have b11 := F11.binds (ps := ["rows", "places"]) fun _ _ _ _ _ _ us hl => match us, hl with | [_, _], _ => rfl
  have F12 := fun_mk (st := s_stays_shut) l12 c12 k12
  have b12 := F12.binds (ps := ["changes", "powers", "added"]) fun _ _ _ _ _ _ us hl => match us, hl with | [_, _, _], _ => rfl
  have F13 := fun_mk (st := s_first_loop) l13 c13 k13
  have b13 := F13.binds (ps := ["program", "powers", "most"]) fun _ _ _ _ _ _ us hl => match us, hl with | [_, _, _], _ => rfl
  have F14 := fun_mk (st := s_fate) l14 c14 k14
  have b14 := F14.binds (ps := ["program", "powers", "most"]) fun _ _ _ _ _ _ us hl => match us, hl with | [_, _, _], _ => rfl
  have F15 := fun_mk (st := s_unit_row) l15 c15 k15
  have b15 := F15.binds (ps := ["prime"]) fun _ _ _ _ _ _ us hl => match us, hl with | [_], _ => rfl
  have F16 := fun_mk (st := s_lowest) l16 c16 k16
  have b16 := F16.binds (ps := ["numbers"]) fun _ _ _ _ _ _ us hl => match us, hl with | [_], _ => rfl
  have F17 := fun_mk (st := s_common_divisor) l17 c17 k17
  have b17 := F17.binds (ps := ["one", "other"]) fun _ _ _ _ _ _ us hl => match us, hl with | [_, _], _ => rfl
  have F18 := fun_mk (st := s_by_primes) l18 c18 k18
  have b18 := F18.binds (ps := ["rows"]) fun _ _ _ _ _ _ us hl => match us, hl with | [_], _ => rfl
  have F19 := fun_mk (st := s_weighed) l19 c19 k19
  have b19 := F19.binds (ps := ["program"]) fun _ _ _ _ _ _ us hl => match us, hl with | [_], _ => rfl
  have F20 := fun_mk (st := s_first_table) l20 c20 k20
  have b20 := F20.binds (ps := ["rows"]) fun _ _ _ _ _ _ us hl => match us, hl with | [_], _ => rfl
  have F21 := fun_mk (st := s_first_above) l21 c21 k21
  have b21 := F21.binds (ps := ["numbers"]) fun _ _ _ _ _ _ us hl => match us, hl with | [_], _ => rfl
  have F22 := fun_mk (st := s_leaving) l22 c22 k22
  have b22 := F22.binds (ps := ["table", "basis", "column"]) fun _ _ _ _ _ _ us hl => match us, hl with | [_, _, _], _ => rfl
  have F23 := fun_mk (st := s_exchanged) l23 c23 k23
  have b23 := F23.binds (ps := ["table", "place", "column", "unit"]) fun _ _ _ _ _ _ us hl => match us, hl with | [_, _, _, _], _ => rfl
  have F24 := fun_mk (st := s_endless) l24 c24 k24
  have b24 := F24.binds (ps := ["table", "basis", "column", "unit"]) fun _ _ _ _ _ _ us hl => match us, hl with | [_, _, _, _], _ => rfl
  have F25 := fun_mk (st := s_l_cell_at) l25 c25 k25
  have b25 := F25.binds (ps := ["script", "k"]) fun _ _ _ _ _ _ us hl => match us, hl with | [_, _], _ => rfl
  have F26 := fun_mk (st := s_l_pot) l26 c26 k26
  have b26 := F26.binds (ps := ["cell"]) fun _ _ _ _ _ _ us hl => match us, hl with | [_], _ => rfl
  have F27 := fun_mk (st := s_l_take) l27 c27 k27
  have b27 := F27.binds (ps := ["pot", "far"]) fun _ _ _ _ _ _ us hl => match us, hl with | [_, _], _ => rfl
  have F28 := fun_mk (st := s_l_primes) l28 c28 k28
  have b28 := F28.binds (ps := []) fun _ _ _ _ _ _ us hl => match us, hl with | [], _ => rfl
  have F29 := fun_mk (st := s_l_number) l29 c29 k29
  have b29 := F29.binds (ps := ["powers"]) fun _ _ _ _ _ _ us hl => match us, hl with | [_], _ => rfl
  have F30 := fun_mk (st := s_l_fraction) l30 c30 k30
  have b30 := F30.binds (ps := ["top", "bottom"]) fun _ _ _ _ _ _ us hl => match us, hl with | [_, _], _ => rfl
  have F31 := fun_mk (st := s_l_some) l31 c31 k31
  have b31 := F31.binds (ps := ["pot", "wide", "most"]) fun _ _ _ _ _ _ us hl => match us, hl with | [_, _, _], _ => rfl
  have F32 := fun_mk (st := s_l_any_program) l32 c32 k32
  have b32 := F32.binds (ps := ["pot", "most"]) fun _ _ _ _ _ _ us hl => match us, hl with | [_, _], _ => rfl
  have F33 := fun_mk (st := s_l_sinking) l33 c33 k33
  have b33 := F33.binds (ps := ["pot", "most"]) fun _ _ _ _ _ _ us hl => match us, hl with | [_, _], _ => rfl
  have F34 := fun_mk (st := s_l_ringing) l34 c34 k34
  have b34 := F34.binds (ps := ["pot"]) fun _ _ _ _ _ _ us hl => match us, hl with | [_], _ => rfl
  have F35 := fun_mk (st := s_l_program) l35 c35 k35
  have b35 := F35.binds (ps := ["pot", "most"]) fun _ _ _ _ _ _ us hl => match us, hl with | [_, _], _ => rfl
  have F36 := fun_mk (st := s_l_powers) l36 c36 k36
  have b36 := F36.binds (ps := ["pot", "far"]) fun _ _ _ _ _ _ us hl => match us, hl with | [_, _], _ => rfl
  have F37 := fun_mk (st := s_law) l37 c37 k37
  have T : Tx K mg := ⟨f0, _, ⟨F0, PySem.W.mg_of X G a0, b0⟩, f1, _, ⟨F1, PySem.W.mg_of X G a1, b1⟩, f2, _, ⟨F2, PySem.W.mg_of X G a2, b2⟩, f3, _, ⟨F3, PySem.W.mg_of X G a3, b3⟩, f4, _, ⟨F4, PySem.W.mg_of X G a4, b4⟩, f5, _, ⟨F5, PySem.W.mg_of X G a5, b5⟩, f6, _, ⟨F6, PySem.W.mg_of X G a6, b6⟩, f7, _, ⟨F7, PySem.W.mg_of X G a7, b7⟩, f8, _, ⟨F8, PySem.W.mg_of X G a8, b8⟩, f9, _, ⟨F9, PySem.W.mg_of X G a9, b9⟩, f10, _, ⟨F10, PySem.W.mg_of X G a10, b10⟩, f11, _, ⟨F11, PySem.W.mg_of X G a11, b11⟩, f12, _, ⟨F12, PySem.W.mg_of X G a12, b12⟩, f13, _, ⟨F13, PySem.W.mg_of X G a13, b13⟩, f14, _, ⟨F14, PySem.W.mg_of X G a14, b14⟩, f15, _, ⟨F15, PySem.W.mg_of X G a15, b15⟩, f16, _, ⟨F16, PySem.W.mg_of X G a16, b16⟩, f17, _, ⟨F17, PySem.W.mg_of X G a17, b17⟩, f18, _, ⟨F18, PySem.W.mg_of X G a18, b18⟩, f19, _, ⟨F19, PySem.W.mg_of X G a19, b19⟩, f20, _, ⟨F20, PySem.W.mg_of X G a20, b20⟩, f21, _, ⟨F21, PySem.W.mg_of X G a21, b21⟩, f22, _, ⟨F22, PySem.W.mg_of X G a22, b22⟩, f23, _, ⟨F23, PySem.W.mg_of X G a23, b23⟩, f24, _, ⟨F24, PySem.W.mg_of X G a24, b24⟩, f25, _, ⟨F25, PySem.W.mg_of X G a25, b25⟩, f26, _, ⟨F26, PySem.W.mg_of X G a26, b26⟩, f27, _, ⟨F27, PySem.W.mg_of X G a27, b27⟩, f28, _, ⟨F28, PySem.W.mg_of X G a28, b28⟩, f29, _, ⟨F29, PySem.W.mg_of X G a29, b29⟩, f30, _, ⟨F30, PySem.W.mg_of X G a30, b30⟩, f31, _, ⟨F31, PySem.W.mg_of X G a31, b31⟩, f32, _, ⟨F32, PySem.W.mg_of X G a32, b32⟩, f33, _, ⟨F33, PySem.W.mg_of X G a33, b33⟩, f34, _, ⟨F34, PySem.W.mg_of X G a34, b34⟩, f35, _, ⟨F35, PySem.W.mg_of X G a35, b35⟩, f36, _, ⟨F36, PySem.W.mg_of X G a36, b36⟩, h_FractError, PySem.W.mg_of X G a_FractError, h_NoNumber, PySem.W.mg_of X G a_NoNumber, PySem.W.mg_none_of X G z_len, PySem.W.mg_none_of X G z_isinstance, PySem.W.mg_none_of X G z_int, PySem.W.mg_none_of X G z_bool, PySem.W.mg_none_of X G z_tuple, PySem.W.mg_none_of X G z_list, PySem.W.mg_none_of X G z_range, PySem.W.mg_none_of X G z_max, PySem.W.mg_none_of X G z_min, PySem.W.mg_none_of X G z_all, PySem.W.mg_none_of X G z_zip, PySem.W.mg_none_of X G z_any, PySem.W.mg_none_of X G z_sum, PySem.W.mg_none_of X G z_enumerate, PySem.W.mg_none_of X G z_abs, PySem.W.mg_none_of X G z_ValueError, x_PRIMES, PySem.W.mg_of X G g_PRIMES, fun H => .inr ⟨_, _, _, y_PRIMES, rfl, rfl, (by show 10 <= sizeLine; decide), (.cons ⟨_, rfl⟩ (.cons ⟨_, rfl⟩ (.cons ⟨_, rfl⟩ (.cons ⟨_, rfl⟩ (.cons ⟨_, rfl⟩ (.cons ⟨_, rfl⟩ (.cons ⟨_, rfl⟩ (.cons ⟨_, rfl⟩ (.cons ⟨_, rfl⟩ (.cons ⟨_, rfl⟩ .nil))))))))))⟩, ⟨_, PySem.W.mg_of X G g_MOST_PLACES⟩⟩
  exact ⟨PySem.W.fnOf "law" "law" (defArgs s_law) (defBody s_law) (defScope s_law) .none kV37 dc37 pm37 an37 cd37 ct37, fun s v => .of_eq rfl, fun base _ _ => ok_law T F37⟩
theorem walk {l : PySem.W.OpenLaw} {q : Program} {loose : List Str} {XP : (Str -> Option Value) -> Heap -> Prop} {YP : World -> Heap -> Prop} {d : DefRec} {K : Params -> PySem.W.Frag} (hn : l.most = some 63) (hdf : d.params.defaults = [])
    (hY : ∀ (w : World) (h : Heap), YP w h -> (K w.params).In h)
    (F : ∀ (w : World) (mg : Str -> Option Value) (fa : Addr) (h : Heap), (K w.params).In h -> h.Ns mainGlobals mg -> mg d.name = some (.ref fa) ->
      ∃ fd : FuncData, (∀ (s : Shared) (u : Value), BindsTo s fd ⟨[u], []⟩ [("script", u)]) /\ ∀ base : Heap, (K w.params).In base -> base.Ns mainGlobals mg -> FnOk l.prog w (K w.params) mg base CX0 kLaw fa fd ["script"] (sp_law (K w.params))) :
    PySem.W.WalkO q loose XP YP l.row.toRowW d [] (fun f vs => PySem.call f vs) :=
  L2.walk_of (n := 63) (k := kLaw) (x := "script") (CX := fun _ => CX0) (sp := fun w => sp_law (K w.params)) hn (by decide) hdf ⟨rfl, by decide, by decide⟩ hY F (fun _ _ a ns hl _ hS => ⟨a, ns, rfl, hS, hl, fun _ => rfl⟩) fun _ _ _ _ _ z => z
end W2
open PySem PySem.W PyProof.Rows
theorem _root_.PySem.W.Fast.tw11266411796432159935 : True := trivial
theorem _root_.PySem.W.Fast.tw11619101541374932655 : True := trivial
theorem _root_.PySem.W.Fast.tw3414979936453670752 : True := trivial
theorem _root_.PySem.W.Fast.tw10999147487703521818 : True := trivial
theorem _root_.PySem.W.Fast.tw13482967995780307135 : True := trivial
theorem _root_.PySem.W.Fast.tw13848304161458893036 : True := trivial
set_option maxRecDepth 100000 in
set_option maxHeartbeats 0 in
theorem PySem.Challenge.cw_wholefract_k66_whole_loops_never_stop_holds : PySem.Challenge.rw_wholefract_k66_whole_loops_never_stop.Holds := by
  w_on; o_law; k_head; (case hw => w_witness2)
  k_fill
  refine W2.walk (l := PySem.Challenge.rw_wholefract_k66_whole_loops_never_stop) rfl rfl (fun w h Y => PySem.W.kIn_of Y) ?F
  case F =>
    intro w mg fa h KX G hmg
    refine' W2.all_mk KX G hmg ?a0 ?l0 ?c0 ?k0 ?a1 ?l1 ?c1 ?k1 ?a2 ?l2 ?c2 ?k2 ?a3 ?l3 ?c3 ?k3 ?a4 ?l4 ?c4 ?k4 ?a5 ?l5 ?c5 ?k5 ?a6 ?l6 ?c6 ?k6 ?a7 ?l7 ?c7 ?k7 ?a8 ?l8 ?c8 ?k8 ?a9 ?l9 ?c9 ?k9 ?a10 ?l10 ?c10 ?k10 ?a11 ?l11 ?c11 ?k11 ?a12 ?l12 ?c12 ?k12 ?a13 ?l13 ?c13 ?k13 ?a14 ?l14 ?c14 ?k14 ?a15 ?l15 ?c15 ?k15 ?a16 ?l16 ?c16 ?k16 ?a17 ?l17 ?c17 ?k17 ?a18 ?l18 ?c18 ?k18 ?a19 ?l19 ?c19 ?k19 ?a20 ?l20 ?c20 ?k20 ?a21 ?l21 ?c21 ?k21 ?a22 ?l22 ?c22 ?k22 ?a23 ?l23 ?c23 ?k23 ?a24 ?l24 ?c24 ?k24 ?a25 ?l25 ?c25 ?k25 ?a26 ?l26 ?c26 ?k26 ?a27 ?l27 ?c27 ?k27 ?a28 ?l28 ?c28 ?k28 ?a29 ?l29 ?c29 ?k29 ?a30 ?l30 ?c30 ?k30 ?a31 ?l31 ?c31 ?k31 ?a32 ?l32 ?c32 ?k32 ?a33 ?l33 ?c33 ?k33 ?a34 ?l34 ?c34 ?k34 ?a35 ?l35 ?c35 ?k35 ?a36 ?l36 ?c36 ?k36 ?a37 ?l37 ?c37 ?k37 ?a_FractError ?a_NoNumber ?z_len ?z_isinstance ?z_int ?z_bool ?z_tuple ?z_list ?z_range ?z_max ?z_min ?z_all ?z_zip ?z_any ?z_sum ?z_enumerate ?z_abs ?z_ValueError ?g_MOST_PLACES ?g_PRIMES ?y_PRIMES
    (case a0 => k_is)
    (case l0 => k_is)
    (case c0 => k_is)
    (case k0 => k_is)
    (case a1 => k_is)
    (case l1 => k_is)
    (case c1 => k_is)
    (case k1 => k_is)
    (case a2 => k_is)
    (case l2 => k_is)
    (case c2 => k_is)
    (case k2 => k_is)
    (case a3 => k_is)
    (case l3 => k_is)
    (case c3 => k_is)
    (case k3 => k_is)
    (case a4 => k_is)
    (case l4 => k_is)
    (case c4 => k_is)
    (case k4 => k_is)
    (case a5 => k_is)
    (case l5 => k_is)
    (case c5 => k_is)
    (case k5 => k_is)
    (case a6 => k_is)
    (case l6 => k_is)
    (case c6 => k_is)
    (case k6 => k_is)
    (case a7 => k_is)
    (case l7 => k_is)
    (case c7 => k_is)
    (case k7 => k_is)
    (case a8 => k_is)
    (case l8 => k_is)
    (case c8 => k_is)
    (case k8 => k_is)
    (case a9 => k_is)
    (case l9 => k_is)
    (case c9 => k_is)
    (case k9 => k_is)
    (case a10 => k_is)
    (case l10 => k_is)
    (case c10 => k_is)
    (case k10 => k_is)
    (case a11 => k_is)
    (case l11 => k_is)
    (case c11 => k_is)
    (case k11 => k_is)
    (case a12 => k_is)
    (case l12 => k_is)
    (case c12 => k_is)
    (case k12 => k_is)
    (case a13 => k_is)
    (case l13 => k_is)
    (case c13 => k_is)
    (case k13 => k_is)
    (case a14 => k_is)
    (case l14 => k_is)
    (case c14 => k_is)
    (case k14 => k_is)
    (case a15 => k_is)
    (case l15 => k_is)
    (case c15 => k_is)
    (case k15 => k_is)
    (case a16 => k_is)
    (case l16 => k_is)
    (case c16 => k_is)
    (case k16 => k_is)
    (case a17 => k_is)
    (case l17 => k_is)
    (case c17 => k_is)
    (case k17 => k_is)
    (case a18 => k_is)
    (case l18 => k_is)
    (case c18 => k_is)
    (case k18 => k_is)
    (case a19 => k_is)
    (case l19 => k_is)
    (case c19 => k_is)
    (case k19 => k_is)
    (case a20 => k_is)
    (case l20 => k_is)
    (case c20 => k_is)
    (case k20 => k_is)
    (case a21 => k_is)
    (case l21 => k_is)
    (case c21 => k_is)
    (case k21 => k_is)
    (case a22 => k_is)
    (case l22 => k_is)
    (case c22 => k_is)
    (case k22 => k_is)
    (case a23 => k_is)
    (case l23 => k_is)
    (case c23 => k_is)
    (case k23 => k_is)
    (case a24 => k_is)
    (case l24 => k_is)
    (case c24 => k_is)
    (case k24 => k_is)
    (case a25 => k_is)
    (case l25 => k_is)
    (case c25 => k_is)
    (case k25 => k_is)
    (case a26 => k_is)
    (case l26 => k_is)
    (case c26 => k_is)
    (case k26 => k_is)
    (case a27 => k_is)
    (case l27 => k_is)
    (case c27 => k_is)
    (case k27 => k_is)
    (case a28 => k_is)
    (case l28 => k_is)
    (case c28 => k_is)
    (case k28 => k_is)
    (case a29 => k_is)
    (case l29 => k_is)
    (case c29 => k_is)
    (case k29 => k_is)
    (case a30 => k_is)
    (case l30 => k_is)
    (case c30 => k_is)
    (case k30 => k_is)
    (case a31 => k_is)
    (case l31 => k_is)
    (case c31 => k_is)
    (case k31 => k_is)
    (case a32 => k_is)
    (case l32 => k_is)
    (case c32 => k_is)
    (case k32 => k_is)
    (case a33 => k_is)
    (case l33 => k_is)
    (case c33 => k_is)
    (case k33 => k_is)
    (case a34 => k_is)
    (case l34 => k_is)
    (case c34 => k_is)
    (case k34 => k_is)
    (case a35 => k_is)
    (case l35 => k_is)
    (case c35 => k_is)
    (case k35 => k_is)
    (case a36 => k_is)
    (case l36 => k_is)
    (case c36 => k_is)
    (case k36 => k_is)
    (case a37 => k_is)
    (case l37 => k_is)
    (case c37 => k_is)
    (case k37 => k_is)
    (case a_FractError => k_is)
    (case a_NoNumber => k_is)
    (case z_len => k_is)
    (case z_isinstance => k_is)
    (case z_int => k_is)
    (case z_bool => k_is)
    (case z_tuple => k_is)
    (case z_list => k_is)
    (case z_range => k_is)
    (case z_max => k_is)
    (case z_min => k_is)
    (case z_all => k_is)
    (case z_zip => k_is)
    (case z_any => k_is)
    (case z_sum => k_is)
    (case z_enumerate => k_is)
    (case z_abs => k_is)
    (case z_ValueError => k_is)
    (case g_MOST_PLACES => k_is)
    (case g_PRIMES => k_is)
    (case y_PRIMES => k_is)
