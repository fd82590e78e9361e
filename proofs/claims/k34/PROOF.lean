import PyProof.Rows.All
import Wide.All
import OpenK.AllK
import Wide.FinOn
import Lean
import PyProof.EqAt
import PyProof.EqKinds
import PyProof.TupleCall
import PyProof.ZipIter
import KE.KTryMore
import PyProof.EnumMake
import KE.KRevSl
import KE.KRevIter
import PySem.Challenge.RW_twomakes_k34_where_two_are_apart
set_option Elab.async false
set_option linter.all false
set_option maxRecDepth 100000
/-! THE HAND LAYER, for ints, bools, texts, own classes, LISTS and tuples (index, slices, in, append, pop ..), calls, loops. Paste it whole ahead of your own text; what your proof does not reach may be deleted. -/
namespace L2
open PySem PySem.Spec PyProof.Rows

/-- a key: an int or a str -/
abbrev Key := Sum Int Str
def keyIs : Key → Value → Bool
  | .inl k, v => Value.isInt k v
  | .inr x, v => Value.isStrOf x v
def keyH (w : World) : Key → Int
  | .inl k => hashInt k
  | .inr x => hashStr w x
theorem keyIs_shape : ∀ {k : Key} {v : Value}, keyIs k v = true → (∃ i t, k = Sum.inl i ∧ v = Value.int i t) ∨ (∃ x t, k = Sum.inr x ∧ v = Value.str x t)
  | .inl i, v, h => by
    obtain ⟨t, e⟩ := Value.isInt_shape (k := i) (v := v) h
    exact .inl ⟨i, t, rfl, e⟩
  | .inr x, v, h => by
    obtain ⟨t, e⟩ := Value.isStrOf_shape (x := x) (v := v) h
    exact .inr ⟨x, t, rfl, e⟩
theorem key_ll (a b : Int) : decide ((Sum.inl a : Key) = Sum.inl b) = (a == b) := by
  by_cases e : a = b
  · subst e; simp
  · have h : ¬ (Sum.inl a : Key) = Sum.inl b := fun q => e (Sum.inl.inj q)
    rw [decide_eq_false h]
    exact (beq_eq_false_iff_ne.mpr e).symm
theorem key_rr (a b : Str) : decide ((Sum.inr a : Key) = Sum.inr b) = decide (a = b) := by
  by_cases e : a = b
  · subst e; simp
  · have h : ¬ (Sum.inr a : Key) = Sum.inr b := fun q => e (Sum.inr.inj q)
    rw [decide_eq_false h, decide_eq_false e]
theorem key_lr (a : Int) (b : Str) : decide ((Sum.inl a : Key) = Sum.inr b) = false := decide_eq_false (fun q => nomatch q)
theorem key_rl (a : Str) (b : Int) : decide ((Sum.inr a : Key) = Sum.inl b) = false := decide_eq_false (fun q => nomatch q)

def mixKind (prog : Program) (w : World) : PySem.KeyKind prog w Key where
  is := keyIs
  hash := keyH w
  inj := fun v a b ha hb => by
    rcases keyIs_shape ha with ⟨i, t, rfl, rfl⟩ | ⟨x, t, rfl, rfl⟩
    · rcases keyIs_shape hb with ⟨j, u, rfl, e⟩ | ⟨y, u, rfl, e⟩
      · injection e with e1 _; rw [e1]
      · exact nomatch e
    · rcases keyIs_shape hb with ⟨j, u, rfl, e⟩ | ⟨y, u, rfl, e⟩
      · exact nomatch e
      · injection e with e1 _; rw [e1]
  byValue := fun k v h => by
    rcases keyIs_shape h with ⟨i, t, rfl, rfl⟩ | ⟨x, t, rfl, rfl⟩ <;> rfl
  pyHash := fun hv h => by
    rcases keyIs_shape hv with ⟨i, t, rfl, rfl⟩ | ⟨x, t, rfl, rfl⟩
    · exact wpAny_pyHash_int h
    · exact wpAny_pyHash_str h
  eqBool := fun hu hv h => by
    rcases keyIs_shape hu with ⟨i, t, rfl, rfl⟩ | ⟨x, t, rfl, rfl⟩
    · rcases keyIs_shape hv with ⟨j, u, rfl, rfl⟩ | ⟨y, u, rfl, rfl⟩
      · rw [key_ll] at h; exact wpAny_eqBool_int h
      · rw [key_lr] at h; exact SeqAt.EqAt.int_str i t y u _ _ _ _ h
    · rcases keyIs_shape hv with ⟨j, u, rfl, rfl⟩ | ⟨y, u, rfl, rfl⟩
      · rw [key_rl] at h; exact SeqAt.EqAt.str_int x t j u _ _ _ _ h
      · rw [key_rr] at h; exact wpAny_eqBool_str h
  «strs» := fun k x t v h => by
    rcases keyIs_shape h with ⟨i, u, rfl, e⟩ | ⟨y, u, rfl, e⟩
    · exact nomatch e
    · injection e with e1 _
      subst e1
      cases v <;> rfl

end L2

namespace L2
open PySem PySem.Spec PyProof.Rows

/-- a value, without the heap -/
inductive V where
  | non | bl (b : Bool) | int (i : Int) | str (x : Str) | byt (b : Array UInt8) | flt (b : UInt64) | ref (a : Addr) | ty (n : String)
  deriving DecidableEq

def RelV : V → Value → Prop
  | .non, u => u = Value.none
  | .bl b, u => u = Value.bool b
  | .int i, u => ∃ t, u = Value.int i t
  | .str x, u => ∃ t, u = Value.str x t
  | .byt b, u => ∃ t, u = Value.bytes b t
  | .flt b, u => ∃ t, u = Value.float b t
  | .ref a, u => u = Value.ref a
  | .ty n, u => u = Value.type n

abbrev Vals : List V → List Value → Prop := Paired RelV
theorem Vals.length {xs : List V} {us : List Value} (r : Vals xs us) : xs.length = us.length := Paired.length r
theorem Vals.get : ∀ {xs : List V} {us : List Value} {i : Nat} {x : V}, Vals xs us → xs[i]? = some x → ∃ u, us[i]? = some u ∧ RelV x u
  | _, _, _, _, .nil, e => by simp at e
  | _, _, 0, _, .cons r _, e => by simp at e; subst e; exact ⟨_, rfl, r⟩
  | _, _, i + 1, x, .cons _ t, e => by
    obtain ⟨u, h1, h2⟩ := Vals.get (i := i) (x := x) t (by simpa using e)
    exact ⟨u, by simpa using h1, h2⟩
theorem Vals.set {x : V} {u : Value} (r : RelV x u) : ∀ {xs : List V} {us : List Value} (i : Nat), Vals xs us → Vals (xs.set i x) (us.set i u)
  | _, _, _, .nil => .nil
  | _, _, 0, .cons _ t => .cons r t
  | _, _, i + 1, .cons q t => .cons q (Vals.set r i t)
theorem Vals.append : ∀ {xs ys : List V} {us ws : List Value}, Vals xs us → Vals ys ws → Vals (xs ++ ys) (us ++ ws)
  | _, _, _, _, .nil, s => s
  | _, _, _, _, .cons r t, s => .cons r (Vals.append t s)
theorem Vals.take : ∀ {xs : List V} {us : List Value} (n : Nat), Vals xs us → Vals (xs.take n) (us.take n)
  | _, _, 0, _ => .nil
  | _, _, _ + 1, .nil => .nil
  | _, _, n + 1, .cons r t => .cons r (Vals.take n t)
theorem Vals.drop : ∀ {xs : List V} {us : List Value} (n : Nat), Vals xs us → Vals (xs.drop n) (us.drop n)
  | _, _, 0, r => r
  | _, _, _ + 1, .nil => .nil
  | _, _, n + 1, .cons _ t => Vals.drop n t

def RelO : Option V → Option Value → Prop
  | some v, some u => RelV v u
  | none, none => True
  | _, _ => False
def KV {κ : Type} : List (κ × V) → List (κ × Value) → Prop := Paired fun (p : κ × V) (q : κ × Value) => p.1 = q.1 ∧ RelV p.2 q.2

/-- a key of a dict (00_mix): an int or a text -/
def kV : Key → V
  | .inl i => .int i
  | .inr x => .str x

/-- what stands at a tracked address -/
inductive HO where
  /-- a list -/
  | lst (xs : List V)
  /-- a tuple (never changes) -/
  | tup (xs : List V)
  /-- a dict whose keys are ints and texts; one whose keys are tuples of ints and texts (the empty one is both) -/
  | dK (kvs : List (Key × V)) | dT (kvs : List (List Key × V))
  /-- a set of ints: its members, its size -/
  | set (S : Int → Bool) (n : Nat)
  /-- an instance of the class at C, its dict at dx, its attributes -/
  | ins (C dx : Addr) (fs : List (Str × V))
  /-- the dict of the instance at x -/
  | own (x : Addr)
  /-- the dict of an exception -/
  | xd (fs : List (Str × V))
  /-- a bound method, f of x -/
  | met (f x : Addr)
  /-- a range object lo, lo + 1, .. below hi -/
  | rng (lo hi : Int)
  /-- a thing that is known to the object (the script; a dict while a loop walks it): read, never written while it is so -/
  | frz (o : Obj) (u : HO)
  /-- a code object's table -/
  | tbl (ps : Array Value)
  /-- any other thing, by what is true of its one object (a def of one's own: SetO a S n := HO.ext fun h => ..) -/
  | ext (φ : Heap → Prop)

abbrev Hp := Addr → Option HO
def upd (H : Hp) (a : Addr) (o : HO) : Hp := fun b => if b = a then some o else H b
theorem upd_same {H : Hp} {a : Addr} {o : HO} : upd H a o a = some o := by unfold upd; rw [if_pos rfl]
theorem upd_ne {H : Hp} {a b : Addr} {o : HO} (h : b ≠ a) : upd H a o b = H b := by unfold upd; rw [if_neg h]
theorem ne_of_none {H : Hp} {a b : Addr} {o : HO} (h : H a = some o) (h' : H b = none) : a ≠ b := by
  intro e; subst e; rw [h] at h'; cases h'

section
variable (P : Program) (w : World)
def ObjOk (H : Hp) (h : Heap) (a : Addr) : HO → Prop
  | .lst xs => xs.length ≤ sizeLine ∧ ∃ (its : List Value) (n : Nat), Vals xs its ∧ h.get? a = some { cls := .type "list", data := .seq its.toArray n }
  | .tup xs => xs.length ≤ sizeLine ∧ ∃ its : List Value, Vals xs its ∧ IsTup h a its.toArray
  | .dK kvs => kvs.length ≤ sizeLine ∧ (a == sysModules) = false ∧ ∃ vs, KV kvs vs ∧ h.DictOf (mixKind P w) a vs
  | .dT kvs => kvs.length ≤ sizeLine ∧ (a == sysModules) = false ∧ ∃ xs : List (List Key × Addr × Value),
      Paired (fun (p : List Key × V) (q : List Key × Addr × Value) => p.1 = q.1 ∧ H q.2.1 = some (.tup (p.1.map kV)) ∧ RelV p.2 q.2.2) kvs xs ∧
      ∃ o es ep, h.get? a = some o ∧ o.ExactDict ∧ o.data = .dict es ep ∧ es.toList = xs.map (entryOfKey (tupleKind (mixKind P w))) ∧ (xs.map (·.1)).Nodup
  | .set S n => h.SetOf (intKind P w) a S n
  | .ins C dx fs => H dx = some (.own a) ∧ fs.length ≤ 1000 ∧ dx ≠ a ∧ h.get? a = some (PySem.W.instObj C dx) ∧
      ∃ mA, h.Ns1 dx mA ∧ (∀ f, RelO (fs.lookup f) (mA f)) ∧ PySem.Within mA (fs.map (·.1))
  | .own _ => ∃ o, h.get? a = some o
  | .xd fs => ∃ mA, h.Ns1 a mA ∧ ∀ f, RelO (fs.lookup f) (mA f)
  | .rng lo hi => ∃ t u v, h.get? a = some { cls := .type "range", data := .fields #[.int lo t, .int hi u, .int 1 v] }
  | .frz o u => h.get? a = some o ∧ ObjOk H h a u
  | .tbl ps => h.get? a = some { cls := .none, data := .fields ps }
  | .met f x => h.get? a = some (PySem.W.methodObj (.ref f) (.ref x))
  | .ext φ => φ h ∧ (∃ o, h.get? a = some o) ∧ ∀ h1 h2 : Heap, φ h1 → (∀ o, h1.get? a = some o → h2.get? a = some o) → φ h2
/-- the abstract heap is held -/
def HOk (H : Hp) (h : Heap) : Prop := ∀ a o, H a = some o → ObjOk P w H h a o
end

section
variable {P : Program} {w : World} {H H' : Hp} {h h' : Heap} {a : Addr} {o : HO}
theorem ObjOk.lt (x : ObjOk P w H h a o) : a < h.objs.size := by
  cases o with
  | lst xs => obtain ⟨_, _, _, _, e⟩ := x; exact Heap.lt_size e
  | tup xs => obtain ⟨_, _, _, p⟩ := x; exact p.lt
  | dK kvs => obtain ⟨_, _, _, _, o, _, _, e, _⟩ := x; exact Heap.lt_size e
  | dT kvs => obtain ⟨_, _, _, _, o, _, _, e, _⟩ := x; exact Heap.lt_size e
  | set S n => obtain ⟨o, _, _, _, e, _⟩ := x; exact Heap.lt_size e
  | ins C dx fs => obtain ⟨_, _, _, e, _⟩ := x; exact Heap.lt_size e
  | own y => obtain ⟨_, e⟩ := x; exact Heap.lt_size e
  | xd fs => obtain ⟨_, ⟨_, _, _, e, _⟩, _⟩ := x; exact Heap.lt_size e
  | rng lo hi => obtain ⟨_, _, _, e⟩ := x; exact Heap.lt_size e
  | frz ob u => obtain ⟨e, _⟩ := x; exact Heap.lt_size e
  | tbl ps => exact Heap.lt_size (show h.get? a = some _ from x)
  | met f y => exact Heap.lt_size (show h.get? a = some _ from x)
  | ext φ => obtain ⟨_, ⟨_, e⟩, _⟩ := x; exact Heap.lt_size e
theorem Paired.mapP {α β : Type} {F G : α → β → Prop} : ∀ {l₁ : List α} {l₂ : List β}, Paired F l₁ l₂ → (∀ a b, F a b → G a b) → Paired G l₁ l₂
  | _, _, .nil, _ => .nil
  | _, _, .cons r t, f => .cons (f _ _ r) (Paired.mapP t f)
/-- what an object's description leans on: its own object, its own dict, the tuples -/
theorem ObjOk.stay (x : ObjOk P w H h a o) (k : ∀ b u, (b = a ∨ H b = some (.own a)) → h.get? b = some u → h'.get? b = some u)
    (ho : ∀ b, H b = some (.own a) → H' b = some (.own a)) (ht : ∀ b xs, H b = some (.tup xs) → H' b = some (.tup xs)) : ObjOk P w H' h' a o := by
  induction o with
  | lst xs => obtain ⟨z, its, n, r, e⟩ := x; exact ⟨z, its, n, r, k _ _ (.inl rfl) e⟩
  | tup xs => obtain ⟨z, its, r, ob, e, c⟩ := x; exact ⟨z, its, r, ob, k _ _ (.inl rfl) e, c⟩
  | dK kvs => obtain ⟨z, y, vs, r, ob, es, ep, e, c⟩ := x; exact ⟨z, y, vs, r, ob, es, ep, k _ _ (.inl rfl) e, c⟩
  | dT kvs =>
    obtain ⟨z, y, xs, r, ob, es, ep, e, c⟩ := x
    exact ⟨z, y, xs, Paired.mapP r fun p q z => ⟨z.1, ht _ _ z.2.1, z.2.2⟩, ob, es, ep, k _ _ (.inl rfl) e, c⟩
  | set S n => obtain ⟨ob, es, ep, t, e, c⟩ := x; exact ⟨ob, es, ep, t, k _ _ (.inl rfl) e, c⟩
  | ins C dx fs =>
    obtain ⟨d, z, ne, e, mA, ⟨od, es, ep, e2, c⟩, r⟩ := x
    exact ⟨ho _ d, z, ne, k _ _ (.inl rfl) e, mA, ⟨od, es, ep, k _ _ (.inr d) e2, c⟩, r⟩
  | own y => obtain ⟨ob, e⟩ := x; exact ⟨ob, k _ _ (.inl rfl) e⟩
  | xd fs => obtain ⟨mA, ⟨od, es, ep, e, c⟩, r⟩ := x; exact ⟨mA, ⟨od, es, ep, k _ _ (.inl rfl) e, c⟩, r⟩
  | rng lo hi => obtain ⟨t, u, v, e⟩ := x; exact ⟨t, u, v, k _ _ (.inl rfl) e⟩
  | frz ob u ih => obtain ⟨e, q⟩ := x; exact ⟨k _ _ (.inl rfl) e, ih q⟩
  | tbl ps =>
    have e : h.get? a = some { cls := .none, data := .fields ps } := x
    show h'.get? a = some { cls := .none, data := .fields ps }
    exact k a _ (.inl rfl) e
  | met f y =>
    have e : h.get? a = some (PySem.W.methodObj (.ref f) (.ref y)) := x
    show h'.get? a = some (PySem.W.methodObj (.ref f) (.ref y))
    exact k a _ (.inl rfl) e
  | ext φ => obtain ⟨p, ⟨o, e⟩, st⟩ := x; exact ⟨st _ _ p fun o q => k _ _ (.inl rfl) q, ⟨o, k _ _ (.inl rfl) e⟩, st⟩
theorem HOk.lt (x : HOk P w H h) (e : H a = some o) : a < h.objs.size := (x a o e).lt
theorem HOk.fresh (x : HOk P w H h) (e : h.objs.size ≤ a) : H a = none := by
  cases q : H a with
  | none => rfl
  | some u => exact absurd (Nat.lt_of_lt_of_le (x.lt q) e) (Nat.lt_irrefl _)
/-- every object of the heap is kept -/
theorem HOk.kept (x : HOk P w H h) (k : ∀ b u, h.get? b = some u → h'.get? b = some u) : HOk P w H h' := fun a o e =>
  (x a o e).stay (fun b u _ q => k b u q) (fun _ q => q) fun _ _ q => q
/-- a new object is laid and tracked -/
theorem HOk.laid (x : HOk P w H h) (k : ∀ b u, h.get? b = some u → h'.get? b = some u) (hp : h.objs.size ≤ a) (new : ObjOk P w (upd H a o) h' a o) : HOk P w (upd H a o) h' := fun b u e => by
  have hn := x.fresh hp
  by_cases hb : b = a
  · subst hb; rw [upd_same] at e; cases e; exact new
  · rw [upd_ne hb] at e
    exact (x b u e).stay (fun c v _ q => k c v q) (fun c q => by rw [upd_ne (ne_of_none q hn)]; exact q) fun c xs q => by rw [upd_ne (ne_of_none q hn)]; exact q
end

/-- what may be read as u: it is u, or a known u -/
def Rd (H : Hp) (a : Addr) (u : HO) : Prop := H a = some u ∨ ∃ o, H a = some (.frz o u)
theorem Rd.ok {P : Program} {w : World} {H : Hp} {h : Heap} {a : Addr} {u : HO} (r : Rd H a u) (x : HOk P w H h) : ObjOk P w H h a u := by
  rcases r with r | ⟨o, r⟩
  · exact x a u r
  · obtain ⟨_, q⟩ := x a _ r
    exact q
/-- what may be written -/
def Mut : Option HO → Prop
  | some (.lst _) => True
  | some (.dK _) => True
  | some (.dT _) => True
  | some (.set _ _) => True
  | some (.ins _ _ _) => True
  | some (.ext _) => True
  | _ => False
section
variable {P : Program} {w : World} {H : Hp} {h h' : Heap} {x e : Addr} {o' : HO}
/-- the object at e is changed: x itself, or the dict of the instance x -/
theorem HOk.write (ok : HOk P w H h) (mu : Mut (H x)) (he : e = x ∨ H e = some (.own x)) (k : ∀ b u, b ≠ e → h.get? b = some u → h'.get? b = some u) (heo : ∃ u, h'.get? e = some u)
    (new : ObjOk P w (upd H x o') h' x o') : HOk P w (upd H x o') h' := fun b u q => by
  have nown : ∀ c y, H c = some (.own y) → c ≠ x := fun c y r z => by subst z; rw [r] at mu; exact mu
  have ntup : ∀ c xs, H c = some (.tup xs) → c ≠ x := fun c xs r z => by subst z; rw [r] at mu; exact mu
  by_cases hb : b = x
  · subst hb; rw [upd_same] at q; cases q; exact new
  · rw [upd_ne hb] at q
    by_cases hbe : b = e
    · have q' : H b = some (.own x) := by
        rcases he with z | z
        · exact absurd (hbe.trans z) hb
        · rw [hbe]; exact z
      rw [q] at q'; cases q'
      obtain ⟨v, hv⟩ := heo
      exact ⟨v, by rw [hbe]; exact hv⟩
    · refine (ok b u q).stay (fun c v hc r => k c v ?_ r) (fun c r => by rw [upd_ne (nown c b r)]; exact r) fun c xs r => by rw [upd_ne (ntup c xs r)]; exact r
      rcases hc with rfl | hc
      · exact hbe
      · rintro rfl
        rcases he with z | z
        · exact nown c b hc z
        · rw [hc] at z; cases z; exact hb rfl
end

/-! ### kept unless tracked; of the frames at fs (the callers') the slots may change (an exception that passes writes there); of the records at ex (iterators) nothing is said -/
structure Un (fs ex : List Addr) (H H' : Hp) (h h' : Heap) : Prop where
  keep : ∀ b o, h.get? b = some o → H b = none → b ∉ fs → b ∉ ex → h'.get? b = some o
  slot : ∀ b o, h.get? b = some o → H b = none → b ∈ fs → b ∉ ex → ∃ sl, h'.get? b = some { o with slots := sl }
  free : ∀ b o, h.get? b = some o → H b = none → b ∉ ex → H' b = none
  there : ∀ b o, h.get? b = some o → b ∉ ex → ∃ o', h'.get? b = some o'
  tups : ∀ b xs, H b = some (.tup xs) → H' b = some (.tup xs)
  frzs : ∀ b o u, H b = some (.frz o u) → H' b = some (.frz o u)
  tbls : ∀ b ps, H b = some (.tbl ps) → ∃ more, H' b = some (.tbl (ps ++ more))
section
variable {fs fs' ex ex' : List Addr} {H H1 H2 : Hp} {h h1 h2 h' : Heap} {a x e : Addr} {o : HO}
theorem Un.any (u : Un fs ex H H1 h h1) {b : Addr} {ob : Obj} (q : h.get? b = some ob) (n : H b = none) (hx : b ∉ ex) : ∃ sl, h1.get? b = some { ob with slots := sl } := by
  by_cases hb : b ∈ fs
  · exact u.slot b ob q n hb hx
  · exact ⟨ob.slots, u.keep b ob q n hb hx⟩
theorem Un.kept (k : ∀ b u, h.get? b = some u → h'.get? b = some u) : Un fs ex H H h h' :=
  ⟨fun b ob q _ _ _ => k b ob q, fun b ob q _ _ _ => ⟨ob.slots, k b ob q⟩, fun _ _ _ n _ => n, fun b ob q _ => ⟨ob, k b ob q⟩, fun _ _ q => q, fun _ _ _ q => q, fun _ ps q => ⟨#[], by rw [q]; simp⟩⟩
theorem Un.refl : Un fs ex H H h h := Un.kept fun _ _ q => q
theorem Un.laid (k : ∀ b u, h.get? b = some u → h'.get? b = some u) (hp : h.objs.size ≤ a) (hn : H a = none) : Un fs ex H (upd H a o) h h' where
  keep := fun b u q _ _ _ => k b u q
  slot := fun b u q _ _ _ => ⟨u.slots, k b u q⟩
  free := fun b u q n _ => by rw [upd_ne (Nat.ne_of_lt (Nat.lt_of_lt_of_le (Heap.lt_size q) hp))]; exact n
  there := fun b u q _ => ⟨u, k b u q⟩
  tups := fun b xs q => by rw [upd_ne (ne_of_none q hn)]; exact q
  frzs := fun b u xs q => by rw [upd_ne (ne_of_none q hn)]; exact q
  tbls := fun b ps q => ⟨#[], by rw [upd_ne (ne_of_none q hn), q]; simp⟩
theorem Un.write (mu : Mut (H x)) (he : e = x ∨ H e = some (.own x)) (k : ∀ b u, b ≠ e → h.get? b = some u → h'.get? b = some u) (heo : ∃ u, h'.get? e = some u) : Un fs ex H (upd H x o) h h' := by
  have hx : ∀ b, H b = none → b ≠ x := fun b n z => by subst z; rw [n] at mu; exact mu
  have hb : ∀ b, H b = none → b ≠ e := fun b n z => by
    subst z
    rcases he with r | r
    · exact hx b n r
    · rw [n] at r; cases r
  have hm : ∀ b u, H b = some u → ¬ Mut (some u) → b ≠ x := fun b u q nm z => by subst z; rw [q] at mu; exact nm mu
  refine ⟨fun b u q n _ _ => k b u (hb b n) q, fun b u q n _ _ => ⟨u.slots, k b u (hb b n) q⟩, fun b u q n _ => by rw [upd_ne (hx b n)]; exact n, fun b u q _ => ?_,
    fun b xs q => by rw [upd_ne (hm b _ q fun z => z)]; exact q, fun b u xs q => by rw [upd_ne (hm b _ q fun z => z)]; exact q, fun b ps q => ⟨#[], by rw [upd_ne (hm b _ q fun z => z), q]; simp⟩⟩
  by_cases hbe : b = e
  · subst hbe; exact heo
  · exact ⟨u, k b u hbe q⟩
end

/-! ### the heap without what is tracked -/
def trk (h : Heap) (H : Hp) : List Addr := (List.range h.objs.size).filter fun a => (H a).isSome
def hidT (h : Heap) (H : Hp) : Heap := PySem.W.hideAll h (trk h H)
theorem hidT_size (h : Heap) (H : Hp) : (hidT h H).objs.size = h.objs.size := PySem.W.hideAll_size _ _
theorem hidT_get {h : Heap} {H : Hp} {b : Addr} {o : Obj} (e : h.get? b = some o) (n : H b = none) : (hidT h H).get? b = some o :=
  PySem.W.hideAll_get _ e fun hm => by
    have q : (H b).isSome = true := (List.mem_filter.mp hm).2
    rw [n] at q; simp at q
theorem of_hidT {h : Heap} {H : Hp} {b : Addr} {o : Obj} (e : (hidT h H).get? b = some o) : h.get? b = some o ∧ H b = none := by
  have e' : h.get? b = some o := PySem.W.of_hideAll (trk h H) e
  refine ⟨e', ?_⟩
  cases q : H b with
  | none => rfl
  | some x =>
    have hm : b ∈ trk h H := List.mem_filter.mpr ⟨List.mem_range.mpr (Heap.lt_size e'), by simp [q]⟩
    have z : (hidT h H).get? b = none := PySem.W.hideAll_none (trk h H) hm
    rw [z] at e; cases e

/-! ### OpenK's ledger, filled with every new object but one -/
end L2

namespace L2
open PySem PySem.Spec PyProof.Rows

/-- the module's facts, over the base: the heap at the law's entry without what is tracked there -/
structure Mod (K : PySem.W.Frag) (mg : Str → Option Value) (base : Heap) : Prop where
  kin : K.In base
  glob : base.Ns mainGlobals mg
  blt : ∃ mb, base.Ns builtinsNs mb ∧ ∀ x : Str, x ≠ "__name__" → mb x = bootBuiltins x
  nolimit : base.NoLimit

/-- the context: a def's body (or a comprehension's block) running. base: fixed through the whole law; s₀, H₀: the entry; outer: the frames whose slots others may change (a def's callers); stack: all frames that run;
   ex: iterators that were made ahead of the entry and are walked here (a comprehension's); fn: the names whose cells were made at the entry (a def: all; a comprehension's block: its own); calm: not within an except suite; pn: pins that every state bears; xe: what is wanted of an exception that leaves the code -/
structure Cx where
  prog : Program
  w : World
  K : PySem.W.Frag
  mg : Str → Option Value
  base : Heap
  A : Around
  N : List Str
  s₀ : Shared
  H₀ : Hp
  env : Env
  outer : List Env
  stack : List Env
  ex : List Addr
  fn : Str → Bool
  calm : Bool
  pn : List (Addr × Obj)
  xe : Value → Shared → Prop
/-- the callers' frames -/
def frs (l : List Env) : List Addr := l.filterMap (·.frame)
abbrev Cx.fs (X : Cx) : List Addr := frs X.outer

def Vis (sc : Scope) (x : Str) : Prop := sc.names.lookup x = some .local ∨ sc.names.lookup x = some .cell ∨ sc.names.lookup x = some .free
def Loc (sc : Scope) (x : Str) : Prop := sc.names.lookup x = some .local ∨ sc.names.lookup x = some .cell
def Look (env : Env) (h : Heap) (m : Str → Option Value) (x : Str) (u : Value) : Prop :=
  (env.kindOf x = some .local ∧ m x = some u) ∨ ((env.kindOf x = some .cell ∨ env.kindOf x = some .free) ∧ ∃ c, env.cells.lookup x = some c ∧ h.IsCell c (some u))

structure Cx.Ok (X : Cx) : Prop where
  mod : Mod X.K X.mg X.base
  kind : X.env.scope.kind = .function
  glob : X.env.globals = mainGlobals
  blt : X.env.builtins = builtinsNs
  above : X.s₀.heap.objs.size ≤ X.env.locals
  inj : ∀ x y c, X.env.cells.lookup x = some c → X.env.cells.lookup y = some c → x = y
  has : ∀ x, (X.env.kindOf x = some .cell ∨ X.env.kindOf x = some .free) → ∃ c, X.env.cells.lookup x = some c
  cab : ∀ x c, X.fn x = true → X.env.cells.lookup x = some c → X.s₀.heap.objs.size ≤ c
  hd : X.calm = true → X.A.handled = none
  frames : X.A.frames = some X.stack
  stk : X.stack = X.outer ∨ (X.stack = X.env :: X.outer ∧ X.env.frame = some X.env.locals)
  exf : ∀ b ∈ X.ex, b ≠ X.env.locals ∧ ∀ x c, X.env.cells.lookup x = some c → c ≠ b
  bs : ∀ b o, X.base.get? b = some o → X.s₀.heap.get? b = some o ∧ X.H₀ b = none
  bsz : X.base.objs.size ≤ X.s₀.heap.objs.size
  noex : ∀ b o, X.base.get? b = some o → b ∉ X.ex
  exfs : ∀ b ∈ X.ex, b ∉ X.fs
  funs : X.s₀.heap.FunFrames X.base X.outer
  frf : ∀ b ∈ X.fs, X.H₀ b = none

structure Inv (X : Cx) (pins : List (Addr × Obj)) (σ : List (Option V)) (H : Hp) (s : Shared) : Prop where
  ok : X.Ok
  os : s.os = X.s₀.os
  bare : AllBare s.gens
  base : Un X.fs X.ex X.H₀ H X.s₀.heap s.heap
  loc : ∃ m, s.heap.Ns X.env.locals m ∧ ∀ (i : Nat) (x : Str) (v : V), X.N[i]? = some x → σ[i]? = some (some v) → Vis X.env.scope x → ∃ u, RelV v u ∧ Look X.env s.heap m x u
  cell : ∀ x c, X.env.cells.lookup x = some c → ∃ v, s.heap.IsCell c v
  free : H X.env.locals = none
  freeC : ∀ x c, X.env.cells.lookup x = some c → H c = none
  pin : ∀ p ∈ X.pn ++ pins, s.heap.get? p.1 = some p.2 ∧ H p.1 = none ∧ p.1 ≠ X.env.locals ∧ p.1 ∉ X.fs ∧ ∀ v, p.2.data ≠ .cell v
  hok : HOk X.prog X.w H s.heap
  len : σ.length = X.N.length

section
variable {X : Cx} {pins : List (Addr × Obj)} {σ : List (Option V)} {H H' : Hp} {s : Shared} {h' : Heap}

theorem Cx.Ok.nofr (ok : X.Ok) {b : Addr} {o : Obj} (e : X.base.get? b = some o) : b ∉ X.fs := fun hb => by
  have := (ok.funs.mem hb).1
  rw [e] at this; cases this
theorem Inv.bs (I : Inv X pins σ H s) : ∀ b o, X.base.get? b = some o → s.heap.get? b = some o ∧ H b = none := fun b o e =>
  ⟨I.base.keep b o (I.ok.bs b o e).1 (I.ok.bs b o e).2 (I.ok.nofr e) (I.ok.noex b o e), I.base.free b o (I.ok.bs b o e).1 (I.ok.bs b o e).2 (I.ok.noex b o e)⟩
theorem Inv.bk (I : Inv X pins σ H s) : ∀ b o, X.base.get? b = some o → s.heap.get? b = some o := fun b o e => (I.bs b o e).1
theorem Inv.mod (I : Inv X pins σ H s) : Mod X.K X.mg X.base := I.ok.mod
theorem Inv.kIn (I : Inv X pins σ H s) : X.K.In s.heap := I.ok.mod.kin.keeps I.bk
theorem Inv.lt (I : Inv X pins σ H s) : X.env.locals < s.heap.objs.size := let ⟨_, hn, _⟩ := I.loc; hn.lt
theorem Inv.sz (I : Inv X pins σ H s) : X.s₀.heap.objs.size ≤ s.heap.objs.size := Nat.le_trans I.ok.above (Nat.le_of_lt I.lt)
theorem Inv.nofs (I : Inv X pins σ H s) {a : Addr} (h : s.heap.objs.size ≤ a) : a ∉ X.fs := fun hb => by
  obtain ⟨_, o, ho, _⟩ := I.ok.funs.mem hb
  exact absurd (Nat.lt_of_lt_of_le (Heap.lt_size ho) (Nat.le_trans I.sz h)) (Nat.lt_irrefl _)
theorem Inv.cne (I : Inv X pins σ H s) : ∀ x c, X.env.cells.lookup x = some c → c ≠ X.env.locals := fun x c e z => by
  obtain ⟨v, o, ho, hd⟩ := I.cell x c e
  obtain ⟨m, ⟨o', es, ep, ho', hd', _⟩, _⟩ := I.loc
  rw [z, ho'] at ho; cases ho; rw [hd'] at hd; cases hd
theorem Inv.funs (I : Inv X pins σ H s) : s.heap.FunFrames X.base X.outer := by
  have all : ∀ (l : List Env), (∀ b ∈ frs l, b ∈ X.fs) → X.s₀.heap.FunFrames X.base l → s.heap.FunFrames X.base l := by
    intro l
    induction l with
    | nil => intro _ _; trivial
    | cons env r ih =>
      intro hs hl
      obtain ⟨hk, ⟨L, o, hf, hn, ho, hd⟩, hr⟩ := hl
      have hL : L ∈ X.fs := hs L (by unfold frs; rw [List.filterMap_cons, hf]; exact List.mem_cons_self)
      obtain ⟨sl, e⟩ := I.base.slot L o ho (I.ok.frf L hL) hL fun z => I.ok.exfs L z hL
      exact ⟨hk, ⟨L, _, hf, hn, e, hd⟩, ih (fun b hb => hs b (by unfold frs; rw [List.filterMap_cons, hf]; exact List.mem_cons_of_mem _ hb)) hr⟩
  exact all X.outer (fun _ hb => hb) I.ok.funs

/-- the frames that run, for a call -/
theorem Inv.stack (I : Inv X pins σ H s) : s.heap.FunFrames X.base X.stack := by
  rcases I.ok.stk with e | ⟨e, hf⟩
  · rw [e]; exact I.funs
  · rw [e]
    obtain ⟨m, hn, _⟩ := I.loc
    refine .cons (by rw [I.ok.kind]; decide) hf hn ?_ I.funs
    exact Heap.get?_none_of_le (Nat.le_trans I.ok.bsz I.ok.above)
theorem Inv.stkSub (I : Inv X pins σ H s) : ∀ b ∈ frs X.stack, b ∈ X.env.locals :: X.fs := fun b hb => by
  rcases I.ok.stk with e | ⟨e, hf⟩
  · rw [e] at hb; exact List.mem_cons_of_mem _ hb
  · rw [e] at hb
    unfold frs at hb
    rw [List.filterMap_cons, hf] at hb
    exact hb
theorem Inv.stkFree (I : Inv X pins σ H s) : ∀ b ∈ frs X.stack, H b = none := fun b hb => by
  rcases List.mem_cons.mp (I.stkSub b hb) with e | hb
  · rw [e]; exact I.free
  · obtain ⟨_, o, ho, _⟩ := I.ok.funs.mem hb
    exact I.base.free b o ho (I.ok.frf b hb) fun z => I.ok.exfs b z hb

/-- THE STEP: the untracked objects but the frame and the records at ch are kept (the callers' frames up to slots), the frame's map is kept, the new abstract heap is held -/
theorem Inv.step {g' : Array GenState} {t' : Nat} {d' : Drawn} {ch : List Addr} (I : Inv X pins σ H s)
    (hch : ∀ b ∈ ch, (b ∈ X.ex ∨ X.s₀.heap.objs.size ≤ b) ∧ b ≠ X.env.locals ∧ (∀ x c, X.env.cells.lookup x = some c → c ≠ b) ∧ ∀ p ∈ X.pn ++ pins, p.1 ≠ b)
    (keep : ∀ b o, b ≠ X.env.locals → b ∉ X.fs → b ∉ ch → s.heap.get? b = some o → H b = none → h'.get? b = some o)
    (slot : ∀ b o, b ≠ X.env.locals → b ∈ X.fs → b ∉ ch → s.heap.get? b = some o → H b = none → ∃ sl, h'.get? b = some { o with slots := sl }) (free : ∀ b o, b ∉ ch → s.heap.get? b = some o → H b = none → H' b = none)
    (there : ∀ b o, b ∉ ch → s.heap.get? b = some o → ∃ o', h'.get? b = some o')
    (tups : ∀ b xs, H b = some (.tup xs) → H' b = some (.tup xs)) (frzs : ∀ b o u, H b = some (.frz o u) → H' b = some (.frz o u)) (tbls : ∀ b ps, H b = some (.tbl ps) → ∃ more, H' b = some (.tbl (ps ++ more)))
    (ns : ∀ m, s.heap.Ns X.env.locals m → h'.Ns X.env.locals m) (hok : HOk X.prog X.w H' h') (hg : AllBare g') :
    Inv X pins σ H' { s with heap := h', gens := g', drawn := d', toks := t' } := by
  have neL : ∀ b o, X.s₀.heap.get? b = some o → b ≠ X.env.locals := fun b o e => Nat.ne_of_lt (Nat.lt_of_lt_of_le (Heap.lt_size e) I.ok.above)
  have neC : ∀ b o, X.s₀.heap.get? b = some o → b ∉ X.ex → b ∉ ch := fun b o e hx hb => by
    rcases (hch b hb).1 with z | z
    · exact hx z
    · exact absurd (Nat.lt_of_lt_of_le (Heap.lt_size e) z) (Nat.lt_irrefl _)
  have cellK : ∀ x c, X.env.cells.lookup x = some c → ∀ v, s.heap.IsCell c v → h'.IsCell c v := fun x c e v ⟨o, ho, hd⟩ => by
    have nch : c ∉ ch := fun z => (hch c z).2.2.1 x c e rfl
    by_cases hc : c ∈ X.fs
    · obtain ⟨sl, q⟩ := slot c o (I.cne x c e) hc nch ho (I.freeC x c e)
      exact ⟨_, q, hd⟩
    · exact ⟨o, keep c o (I.cne x c e) hc nch ho (I.freeC x c e), hd⟩
  refine ⟨I.ok, I.os, hg, ⟨fun b o e n hb hx => ?_, fun b o e n hb hx => ?_, fun b o e n hx => ?_, fun b o e hx => ?_, fun b xs e => tups b xs (I.base.tups b xs e), fun b o xs e => frzs b o xs (I.base.frzs b o xs e), fun b ps e => ?_⟩, ?_, fun x c e => ?_, ?_, fun x c e => ?_, fun p hp => ?_, hok, I.len⟩
  · exact keep b o (neL b o e) hb (neC b o e hx) (I.base.keep b o e n hb hx) (I.base.free b o e n hx)
  · obtain ⟨sl, e1⟩ := I.base.slot b o e n hb hx
    obtain ⟨sl', e2⟩ := slot b _ (neL b o e) hb (neC b o e hx) e1 (I.base.free b o e n hx)
    exact ⟨sl', e2⟩
  · obtain ⟨o', e1⟩ := I.base.there b o e hx
    exact free b o' (neC b o e hx) e1 (I.base.free b o e n hx)
  · obtain ⟨o', e1⟩ := I.base.there b o e hx
    exact there b o' (neC b o e hx) e1
  · obtain ⟨m1, e1⟩ := I.base.tbls b ps e
    obtain ⟨m2, e2⟩ := tbls b _ e1
    exact ⟨m1 ++ m2, by rw [e2, Array.append_assoc]⟩
  · obtain ⟨m, hn, hl⟩ := I.loc
    refine ⟨m, ns m hn, fun i x v e1 e2 e3 => ?_⟩
    obtain ⟨u, r, l⟩ := hl i x v e1 e2 e3
    refine ⟨u, r, ?_⟩
    rcases l with l | ⟨k, c, e, z⟩
    · exact .inl l
    · exact .inr ⟨k, c, e, cellK x c e _ z⟩
  · obtain ⟨v, z⟩ := I.cell x c e
    exact ⟨v, cellK x c e v z⟩
  · obtain ⟨m, ⟨o, _, _, ho, _⟩, _⟩ := I.loc
    exact free _ o (fun z => (hch _ z).2.1 rfl) ho I.free
  · obtain ⟨v, o, ho, hd⟩ := I.cell x c e
    exact free c o (fun z => (hch c z).2.2.1 x c e rfl) ho (I.freeC x c e)
  · obtain ⟨e, n, ne, nf, d⟩ := I.pin p hp
    have nch : p.1 ∉ ch := fun z => (hch p.1 z).2.2.2 p hp rfl
    exact ⟨keep p.1 p.2 ne nf nch e n, free p.1 p.2 nch e n, ne, nf, d⟩
/-- .. where the frame's own object is kept too -/
theorem Inv.un {t' : Nat} (I : Inv X pins σ H s) (u : Un X.fs [] H H' s.heap h') (hok : HOk X.prog X.w H' h') : Inv X pins σ H' { s with heap := h', toks := t' } := by
  obtain ⟨m, ⟨o, es, ep, ho, r⟩, _⟩ := id I.loc
  obtain ⟨sl, hL⟩ := u.any ho I.free (by simp)
  exact I.step (g' := s.gens) (d' := s.drawn) (ch := []) (fun _ z => nomatch z) (fun b o _ hb _ e n => u.keep b o e n hb (by simp)) (fun b o _ hb _ e n => u.slot b o e n hb (by simp)) (fun b o _ e n => u.free b o e n (by simp)) (fun b o _ e => u.there b o e (by simp)) u.tups u.frzs u.tbls (fun m' hm => by
    obtain ⟨o', es', ep', ho', r'⟩ := hm
    rw [ho] at ho'; cases ho'
    exact ⟨_, es', ep', hL, r'⟩) hok I.bare
/-- behind a call (or a comprehension's block): the slots of this frame may have changed too, the records at ch may have turned -/
theorem Inv.call {g' : Array GenState} {t' : Nat} {d' : Drawn} {ch : List Addr} (I : Inv X pins σ H s) (u : Un (frs X.stack) ch H H' s.heap h') (hok : HOk X.prog X.w H' h') (hg : AllBare g')
    (hch : ∀ b ∈ ch, (b ∈ X.ex ∨ X.s₀.heap.objs.size ≤ b) ∧ b ≠ X.env.locals ∧ (∀ x c, X.env.cells.lookup x = some c → c ≠ b) ∧ ∀ p ∈ X.pn ++ pins, p.1 ≠ b) :
    Inv X pins σ H' { s with heap := h', gens := g', drawn := d', toks := t' } := by
  obtain ⟨m, ⟨o, es, ep, ho, r⟩, _⟩ := id I.loc
  obtain ⟨sl, hL⟩ := u.any ho I.free fun z => (hch _ z).2.1 rfl
  exact I.step (ch := ch) hch (fun b o hL hb hc e n => u.keep b o e n (fun z => (List.mem_cons.mp (I.stkSub b z)).elim hL hb) hc) (fun b o _ _ hc e n => u.any e n hc) (fun b o hc e n => u.free b o e n hc) (fun b o hc e => u.there b o e hc) u.tups u.frzs u.tbls (fun m' hm => by
    obtain ⟨o', es', ep', ho', r'⟩ := hm
    rw [ho] at ho'; cases ho'
    exact ⟨_, es', ep', hL, r'⟩) hok hg
/-- an untracked record of ours (an iterator) has turned -/
theorem Inv.turned {t' : Nat} {it : Addr} (I : Inv X pins σ H s) (k : ∀ b o, b ≠ it → s.heap.get? b = some o → h'.get? b = some o) (hn : H it = none) (hL : it ≠ X.env.locals)
    (h1 : it ∈ X.ex ∨ X.s₀.heap.objs.size ≤ it) (h2 : ∀ x c, X.env.cells.lookup x = some c → c ≠ it) (h3 : ∀ p ∈ X.pn ++ pins, p.1 ≠ it) : Inv X pins σ H { s with heap := h', toks := t' } := by
  have nit : ∀ b u, H b = some u → b ≠ it := fun b u e z => by rw [z, hn] at e; cases e
  refine I.step (g' := s.gens) (d' := s.drawn) (ch := [it]) (fun b hb => ?_) (fun b o _ _ hc e _ => k b o (fun z => hc (by simp [z])) e) (fun b o _ _ hc e _ => ⟨o.slots, k b o (fun z => hc (by simp [z])) e⟩) (fun _ _ _ _ n => n)
    (fun b o hc e => ⟨o, k b o (fun z => hc (by simp [z])) e⟩) (fun _ _ e => e) (fun _ _ _ e => e) (fun b ps e => ⟨#[], by rw [e]; simp⟩) (fun m hm => ?_) (fun b u e => ?_) I.bare
  · have e : b = it := by simpa using hb
    subst e
    exact ⟨h1, hL, h2, h3⟩
  · obtain ⟨o, es, ep, ho, r⟩ := hm
    exact ⟨o, es, ep, k _ o (Ne.symm hL) ho, r⟩
  · refine (I.hok b u e).stay (fun c v hc q => k c v ?_ q) (fun _ q => q) fun _ _ q => q
    rcases hc with z | z
    · rw [z]; exact nit b u e
    · exact nit c _ z
theorem Inv.tok (I : Inv X pins σ H s) (t : Nat) : Inv X pins σ H { s with toks := t } := I.un (h' := s.heap) (t' := t) Un.refl I.hok
/-- all objects kept -/
theorem Inv.kept {t' : Nat} (I : Inv X pins σ H s) (k : ∀ b u, s.heap.get? b = some u → h'.get? b = some u) : Inv X pins σ H { s with heap := h', toks := t' } := I.un (Un.kept k) (I.hok.kept k)
/-- a new object laid and tracked -/
theorem Inv.laid {a : Addr} {o : HO} {t' : Nat} (I : Inv X pins σ H s) (k : ∀ b u, s.heap.get? b = some u → h'.get? b = some u) (hp : s.heap.objs.size ≤ a) (new : ObjOk X.prog X.w (upd H a o) h' a o) :
    Inv X pins σ (upd H a o) { s with heap := h', toks := t' } := I.un (Un.laid k hp (I.hok.fresh hp)) (I.hok.laid k hp new)
/-- an object written -/
theorem Inv.write {x e : Addr} {o : HO} {t' : Nat} (I : Inv X pins σ H s) (mu : Mut (H x)) (he : e = x ∨ H e = some (.own x)) (k : ∀ b u, b ≠ e → s.heap.get? b = some u → h'.get? b = some u) (heo : ∃ u, h'.get? e = some u)
    (new : ObjOk X.prog X.w (upd H x o) h' x o) : Inv X pins σ (upd H x o) { s with heap := h', toks := t' } := I.un (Un.write mu he k heo) (I.hok.write mu he k heo new)
theorem Inv.pins_of {pins' : List (Addr × Obj)} (I : Inv X pins σ H s) (h : ∀ p ∈ pins', s.heap.get? p.1 = some p.2 ∧ H p.1 = none ∧ p.1 ≠ X.env.locals ∧ p.1 ∉ X.fs ∧ ∀ v, p.2.data ≠ .cell v) : Inv X pins' σ H s :=
  ⟨I.ok, I.os, I.bare, I.base, I.loc, I.cell, I.free, I.freeC, fun p hp => (List.mem_append.mp hp).elim (fun z => I.pin p (List.mem_append_left _ z)) (h p), I.hok, I.len⟩

theorem nodup_ix {N : List Str} (hN : N.Nodup) {i j : Nat} {x : Str} (a : N[i]? = some x) (b : N[j]? = some x) : i = j := by
  obtain ⟨h1, e1⟩ := List.getElem?_eq_some_iff.mp a
  obtain ⟨h2, e2⟩ := List.getElem?_eq_some_iff.mp b
  exact (List.getElem_inj hN).mp (e1.trans e2.symm)

/-- a name is stored; what changed -/
theorem store_ok2 {M : Model} {A : Around} {E : Value → Shared → Prop} {i : Nat} {x : Str} {v : V} {u : Value} {Q : Unit → Shared → Prop} (I : Inv X pins σ H s) (hN : X.N.Nodup) (hi : X.N[i]? = some x) (hx : Loc X.env.scope x) (r : RelV v u)
    (h : ∀ s', Inv X pins (σ.set i (some v)) H s' → (∃ a, Heap.SameBut a s.heap s'.heap ∧ (a = X.env.locals ∨ X.env.cells.lookup x = some a)) → Q () s') (hf : X.fn x = true ∨ X.env.scope.names.lookup x = some .local := by first | exact .inl rfl | exact .inr rfl | assumption) : wpAny M A (storeName X.env x u) Q E s := by
  obtain ⟨m, hn, hl⟩ := id I.loc
  have hcls : (X.env.scope.kind == .class || (X.env.scope.kind == .module && X.env.locals != X.env.globals)) = false := by rw [I.ok.kind]; rfl
  have hiσ : i < σ.length := by rw [I.len]; exact (List.getElem?_eq_some_iff.mp hi).1
  have cne := I.cne
  have tracked : ∀ {a : Addr} {h' : Heap}, (∃ o, s.heap.get? a = some o ∧ H a = none) → Heap.SameBut a s.heap h' → HOk X.prog X.w H h' := fun {a h'} ha hs b ob e => by
    obtain ⟨_, _, hfree⟩ := ha
    refine (I.hok b ob e).stay (fun c w' hc q => (hs.2 c ?_).trans q) (fun _ q => q) fun _ _ q => q
    rintro rfl
    rcases hc with rfl | hc
    · rw [hfree] at e; cases e
    · rw [hfree] at hc; cases hc
  rcases hx with hk | hk
  · refine wpAny_storeName_local hk hn (fun h' hn' hs => ?_) hcls
    obtain ⟨oL, _, _, hoL, _⟩ := id hn
    refine h _ ⟨I.ok, I.os, I.bare, ⟨fun b o e n hb hx => ?_, fun b o e n hb hx => ?_, I.base.free, fun b o e hx => ?_, I.base.tups, I.base.frzs, I.base.tbls⟩, ⟨_, hn', fun j y v' e1 e2 e3 => ?_⟩, fun y c e => ?_, I.free, I.freeC, fun p hp => ?_, tracked ⟨oL, hoL, I.free⟩ hs, by simpa using I.len⟩ ⟨_, hs, .inl rfl⟩
    · exact (hs.2 b (Nat.ne_of_lt (Nat.lt_of_lt_of_le (Heap.lt_size e) I.ok.above))).trans (I.base.keep b o e n hb hx)
    · obtain ⟨sl, e1⟩ := I.base.slot b o e n hb hx
      exact ⟨sl, (hs.2 b (Nat.ne_of_lt (Nat.lt_of_lt_of_le (Heap.lt_size e) I.ok.above))).trans e1⟩
    · obtain ⟨o', e1⟩ := I.base.there b o e hx
      exact ⟨o', (hs.2 b (Nat.ne_of_lt (Nat.lt_of_lt_of_le (Heap.lt_size e) I.ok.above))).trans e1⟩
    · by_cases hj : j = i
      · subst hj
        rw [hi] at e1; cases e1
        rw [List.getElem?_set_self hiσ] at e2
        cases e2
        exact ⟨u, r, .inl ⟨hk, by simp⟩⟩
      · rw [List.getElem?_set_ne (Ne.symm hj)] at e2
        obtain ⟨u', r', q⟩ := hl j y v' e1 e2 e3
        refine ⟨u', r', ?_⟩
        rcases q with ⟨k, e⟩ | ⟨k, c, e, z⟩
        · refine .inl ⟨k, ?_⟩
          have : y ≠ x := fun e => hj (nodup_ix hN e1 (e ▸ hi))
          simp [this, e]
        · exact .inr ⟨k, c, e, z.sameBut hs (cne y c e)⟩
    · obtain ⟨w', z⟩ := I.cell y c e
      exact ⟨w', z.sameBut hs (cne y c e)⟩
    · obtain ⟨e, n, ne, nf, d⟩ := I.pin p hp
      exact ⟨(hs.2 p.1 ne).trans e, n, ne, nf, d⟩
  · have hfn : X.fn x = true := by
      rcases hf with z | z
      · exact z
      · rw [z] at hk; cases hk
    obtain ⟨c, hc⟩ := I.ok.has x (.inl hk)
    obtain ⟨w', z⟩ := I.cell x c hc
    refine wpAny_storeName_cell I.ok.kind hk hc z (fun h' hc' hs => ?_)
    obtain ⟨oc, hoc, hocd⟩ := id z
    refine h { s with heap := h' } ⟨I.ok, I.os, I.bare, ⟨fun b o e n hb hx => ?_, fun b o e n hb hx => ?_, I.base.free, fun b o e hx => ?_, I.base.tups, I.base.frzs, I.base.tbls⟩, ⟨m, hn.sameBut hs (Ne.symm (cne x c hc)), fun j y v' e1 e2 e3 => ?_⟩, fun y c' e => ?_, I.free, I.freeC, fun p hp => ?_, tracked ⟨oc, hoc, I.freeC x c hc⟩ hs, by simpa using I.len⟩ ⟨c, hs, .inr hc⟩
    · exact (hs.2 b (Nat.ne_of_lt (Nat.lt_of_lt_of_le (Heap.lt_size e) (I.ok.cab x c hfn hc)))).trans (I.base.keep b o e n hb hx)
    · obtain ⟨sl, e1⟩ := I.base.slot b o e n hb hx
      exact ⟨sl, (hs.2 b (Nat.ne_of_lt (Nat.lt_of_lt_of_le (Heap.lt_size e) (I.ok.cab x c hfn hc)))).trans e1⟩
    · obtain ⟨o', e1⟩ := I.base.there b o e hx
      exact ⟨o', (hs.2 b (Nat.ne_of_lt (Nat.lt_of_lt_of_le (Heap.lt_size e) (I.ok.cab x c hfn hc)))).trans e1⟩
    · by_cases hj : j = i
      · subst hj
        rw [hi] at e1; cases e1
        rw [List.getElem?_set_self hiσ] at e2
        cases e2
        exact ⟨u, r, .inr ⟨.inl hk, c, hc, hc'⟩⟩
      · rw [List.getElem?_set_ne (Ne.symm hj)] at e2
        obtain ⟨u', r', q⟩ := hl j y v' e1 e2 e3
        refine ⟨u', r', ?_⟩
        rcases q with q | ⟨k, c', e, z'⟩
        · exact .inl q
        · refine .inr ⟨k, c', e, z'.sameBut hs ?_⟩
          rintro rfl
          exact hj (nodup_ix hN e1 (I.ok.inj _ _ _ e hc ▸ hi))
    · by_cases hcc : c' = c
      · subst hcc; exact ⟨_, hc'⟩
      · obtain ⟨w2, z2⟩ := I.cell y c' e
        exact ⟨w2, z2.sameBut hs hcc⟩
    · obtain ⟨e, n, ne, nf, d⟩ := I.pin p hp
      refine ⟨(hs.2 p.1 ?_).trans e, n, ne, nf, d⟩
      intro q
      rw [q, hoc] at e
      have q' : oc = p.2 := Option.some.inj e
      exact d w' (by rw [← q']; exact hocd)
theorem store_ok {M : Model} {A : Around} {E : Value → Shared → Prop} {i : Nat} {x : Str} {v : V} {u : Value} {Q : Unit → Shared → Prop} (I : Inv X pins σ H s) (hN : X.N.Nodup) (hi : X.N[i]? = some x) (hx : Loc X.env.scope x) (r : RelV v u)
    (h : ∀ s', Inv X pins (σ.set i (some v)) H s' → Q () s') (hf : X.fn x = true ∨ X.env.scope.names.lookup x = some .local := by first | exact .inl rfl | exact .inr rfl | assumption) : wpAny M A (storeName X.env x u) Q E s :=
  store_ok2 I hN hi hx r (fun s' I' _ => h s' I') hf
/-- behind a call or a block, the state as it is -/
theorem Inv.call' {s' : Shared} {ch : List Addr} (I : Inv X pins σ H s) (ho : s'.os = s.os) (u : Un (frs X.stack) ch H H' s.heap s'.heap) (hok : HOk X.prog X.w H' s'.heap) (hg : AllBare s'.gens)
    (hch : ∀ b ∈ ch, (b ∈ X.ex ∨ X.s₀.heap.objs.size ≤ b) ∧ b ≠ X.env.locals ∧ (∀ x c, X.env.cells.lookup x = some c → c ≠ b) ∧ ∀ p ∈ X.pn ++ pins, p.1 ≠ b) : Inv X pins σ H' s' := by
  obtain ⟨h', g', d', t', o'⟩ := s'
  have e : o' = s.os := ho
  subst e
  exact I.call (g' := g') (t' := t') (d' := d') u hok hg hch
end

/-! ### the judgements -/
/-- an exception: its class, its own dict's address (where it has one), the abstract heap behind it -/
abbrev XK := Value → Option Addr → Hp → Prop
abbrev St := List (Option V)
abbrev VK := V → Hp → Prop
/-- an expression's reading; a test's; an argument list's -/
abbrev TE := St → Hp → VK → Prop
abbrev TT := St → Hp → (Bool → Hp → Prop) → Prop
abbrev TA := St → Hp → (List V → Hp → Prop) → Prop
/-- what is wanted behind a statement -/
structure Ends where
  nx : St → Hp → Prop
  rt : VK
  bk : St → Hp → Prop := fun _ _ => False
  ct : St → Hp → Prop := fun _ _ => False
abbrev TS := Ends → St → Hp → Prop

def EP (X : Cx) (pins : List (Addr × Obj)) (σ : St) (Q : VK) (u : Value) (s' : Shared) : Prop := ∃ v H', Inv X pins σ H' s' ∧ RelV v u ∧ Q v H'
def TP (X : Cx) (pins : List (Addr × Obj)) (σ : St) (Q : Bool → Hp → Prop) (b : Bool) (s' : Shared) : Prop := ∃ H', Inv X pins σ H' s' ∧ Q b H'
def AP (X : Cx) (pins : List (Addr × Obj)) (σ : St) (Q : List V → Hp → Prop) (us : List Value) (s' : Shared) : Prop := ∃ vs H', Inv X pins σ H' s' ∧ Vals vs us ∧ Q vs H'
def SP (X : Cx) (pins : List (Addr × Obj)) (D : Ends) (f : Flow) (s' : Shared) : Prop :=
  match f with
  | .next => ∃ σ' H', Inv X pins σ' H' s' ∧ D.nx σ' H'
  | .brk => ∃ σ' H', Inv X pins σ' H' s' ∧ D.bk σ' H'
  | .cont => ∃ σ' H', Inv X pins σ' H' s' ∧ D.ct σ' H'
  | .ret u => ∃ v σ' H', Inv X pins σ' H' s' ∧ RelV v u ∧ D.rt v H'

def PE (X : Cx) (e : Expr) (t : TE) : Prop :=
  ∀ (pins : List (Addr × Obj)) (s : Shared) (σ : St) (H : Hp) (Q : VK), Inv X pins σ H s → t σ H Q → wpAny (model X.prog X.w) X.A (eval e X.env) (EP X pins σ Q) X.xe s
def PT (X : Cx) (e : Expr) (t : TT) : Prop :=
  ∀ (pins : List (Addr × Obj)) (s : Shared) (σ : St) (H : Hp) (Q : Bool → Hp → Prop), Inv X pins σ H s → t σ H Q → wpAny (model X.prog X.w) X.A (isTrue e X.env (eval e X.env)) (TP X pins σ Q) X.xe s
/-- a test whatever its 'whole' is (and, or) -/
def PW (X : Cx) (e : Expr) (t : TT) : Prop :=
  ∀ (whole : Sem Value) (pins : List (Addr × Obj)) (s : Shared) (σ : St) (H : Hp) (Q : Bool → Hp → Prop), Inv X pins σ H s → t σ H Q → wpAny (model X.prog X.w) X.A (isTrue e X.env whole) (TP X pins σ Q) X.xe s
theorem PW.pt {X : Cx} {e : Expr} {t : TT} (h : PW X e t) : PT X e t := h _
/-- an argument list (no star), from the left -/
def PA (X : Cx) (es : List Expr) (t : TA) : Prop :=
  ∀ (pos : Pos) (pins : List (Addr × Obj)) (s : Shared) (σ : St) (H : Hp) (Q : List V → Hp → Prop), Inv X pins σ H s → t σ H Q → wpAny (model X.prog X.w) X.A (spliced (backTo pos (starEach es X.env))) (AP X pins σ Q) X.xe s
def PS (X : Cx) (st : Stmt) (t : TS) : Prop :=
  ∀ (pins : List (Addr × Obj)) (s : Shared) (σ : St) (H : Hp) (D : Ends), Inv X pins σ H s → t D σ H → wpAny (model X.prog X.w) X.A (exec st X.env) (SP X pins D) X.xe s
def PSs (X : Cx) (st : List Stmt) (t : TS) : Prop :=
  ∀ (pins : List (Addr × Obj)) (s : Shared) (σ : St) (H : Hp) (D : Ends), Inv X pins σ H s → t D σ H → wpAny (model X.prog X.w) X.A (execs st X.env) (SP X pins D) X.xe s
/-- weaken the end -/
theorem thn {α : Type} {t : Sem α} {Q Q' : α → Shared → Prop} {M : Model} {A : Around} {E : Value → Shared → Prop} {s : Shared} (h : wpAny M A t Q E s) (hQ : ∀ a s, Q a s → Q' a s) : wpAny M A t Q' E s := wpAny_mono h hQ fun _ _ x => x
end L2

namespace L2
open PySem PySem.Spec PyProof.Rows
section
variable {X : Cx}


/-! ### names and constants -/
def tVar (i : Nat) : TE := fun σ H Q => ∃ v, σ[i]? = some (some v) ∧ Q v H
def tC (v : V) : TE := fun _ H Q => Q v H
theorem pe_var {i : Nat} {x : Str} {pos : Pos} (hN : X.N[i]? = some x) (hv : Vis X.env.scope x) (hd : (x == ("__debug__" : Str)) = false := by decide) (hcd : (x == ("__classdict__" : Str)) = false := by decide) : PE X (.Name x pos) (tVar i) := by
  intro pins s σ H Q I h
  obtain ⟨v, e, h⟩ := h
  obtain ⟨m, hn, hl⟩ := I.loc
  obtain ⟨u, r, l⟩ := hl i x v hN e hv
  have fin : EP X pins σ Q u s := ⟨v, H, I, r, h⟩
  rcases l with ⟨hk, hm⟩ | ⟨hk, c, hc, hcell⟩
  · exact wpAny_Name (wpAny_loadName_local I.ok.kind hk hn hm fin) hd
  · rcases hk with hk | hk
    · exact wpAny_Name (wpAny_loadName_cell I.ok.kind hk hc hcell fin) hd
    · exact wpAny_Name (wpAny_loadName_free I.ok.kind hk hc hcell fin hcd) hd
theorem pe_int {i j pos} : PE X (.Constant (.int i) j pos) (tC (.int i)) := fun _ _ _ H _ I h => wpAny_Constant_int ⟨.int i, H, I.tok _, ⟨_, rfl⟩, h⟩
theorem pe_bl {b j pos} : PE X (.Constant (.bool b) j pos) (tC (.bl b)) := fun _ _ _ H _ I h => Constant_bool ⟨.bl b, H, I, rfl, h⟩
theorem pe_non {j pos} : PE X (.Constant .none j pos) (tC .non) := fun _ _ _ H _ I h => Constant_none ⟨.non, H, I, rfl, h⟩
theorem pe_str {x j pos} : PE X (.Constant (.str x) j pos) (tC (.str x)) := fun _ _ _ H _ I h => Calls.Constant_str ⟨.str x, H, I.tok _, ⟨_, rfl⟩, h⟩

/-- a global name of the def -/
def Gl (X : Cx) (x : Str) : Prop := X.env.kindOf x = some .globalImplicit
theorem ld_glob {E : Value → Shared → Prop} {pins : List (Addr × Obj)} {s : Shared} {σ : St} {H : Hp} {x : Str} {u : Value} {pos : Pos} {Q : Value → Shared → Prop} (I : Inv X pins σ H s) (hg : Gl X x) (hm : X.mg x = some u) (h : Q u s)
    (hd : (x == ("__debug__" : Str)) = false := by decide) : wpAny (model X.prog X.w) X.A (eval (.Name x pos) X.env) Q E s :=
  Calls.Name_function_global I.ok.kind hg (Calls.loadGlobal_global (by rw [I.ok.glob]; exact I.mod.glob.keeps I.bk) hm h) hd
theorem ld_blt {E : Value → Shared → Prop} {pins : List (Addr × Obj)} {s : Shared} {σ : St} {H : Hp} {x : Str} {u : Value} {pos : Pos} {Q : Value → Shared → Prop} (I : Inv X pins σ H s) (hg : Gl X x) (hm : X.mg x = none) (hv : bootBuiltins x = some u) (h : Q u s)
    (hn : x ≠ "__name__" := by decide) (hd : (x == ("__debug__" : Str)) = false := by decide) : wpAny (model X.prog X.w) X.A (eval (.Name x pos) X.env) Q E s := by
  obtain ⟨mb, h1, h2⟩ := I.mod.blt
  exact Calls.Name_function_global I.ok.kind hg (Calls.loadGlobal_builtin (by rw [I.ok.glob]; exact I.mod.glob.keeps I.bk) hm (by rw [I.ok.blt]; exact h1.keeps I.bk) ((h2 x hn).trans hv) h) hd
theorem pe_bltn {x : Str} {v : V} {u : Value} {pos : Pos} (hg : Gl X x) (hm : X.mg x = none) (hv : bootBuiltins x = some u) (r : RelV v u) (hn : x ≠ "__name__" := by decide) (hd : (x == ("__debug__" : Str)) = false := by decide) : PE X (.Name x pos) (tC v) :=
  fun _ _ _ H _ I h => ld_blt I hg hm hv ⟨v, H, I, r, h⟩ hn hd

/-! ### arithmetic -/
variable {a b : Expr} {ta tb : TE} {pos : Pos}

/-! ### comparisons -/
def PC (X : Cx) (op : CmpOp) (a b : Expr) (t : TE) : Prop :=
  ∀ (pins : List (Addr × Obj)) (s : Shared) (σ : St) (H : Hp) (Q : VK), Inv X pins σ H s → t σ H Q →
    wpAny (model X.prog X.w) X.A (eval a X.env) (fun v s₁ => wpAny (model X.prog X.w) X.A (eval b X.env) (fun u s₂ => wpAny (model X.prog X.w) X.A (compareOp op v u) (EP X pins σ Q) X.xe s₂) X.xe s₁) X.xe s
theorem nobehind (b : Expr) {op : CmpOp} (h : op ≠ .In) (h2 : op ≠ .NotIn) : behindInMarks op b = false := by
  have e1 : (op == CmpOp.In) = false := by cases op <;> first | rfl | exact absurd rfl h
  have e2 : (op == CmpOp.NotIn) = false := by cases op <;> first | rfl | exact absurd rfl h2
  cases b <;> simp [behindInMarks, e1, e2]
/-- is None -/
def tIsN (ta : TE) : TE := fun σ H Q => ta σ H fun x H1 => Q (.bl (decide (x = .non))) H1
def tNotN (ta : TE) : TE := fun σ H Q => ta σ H fun x H1 => Q (.bl (!decide (x = .non))) H1
theorem RelV.none_iff {x : V} {v : Value} (r : RelV x v) : (v == Value.none) = decide (x = .non) := by
  cases x with
  | non => cases r; rfl
  | bl _ => cases r; rfl
  | int _ => obtain ⟨t, rfl⟩ := r; rfl
  | str _ => obtain ⟨t, rfl⟩ := r; rfl
  | byt _ => obtain ⟨t, rfl⟩ := r; rfl
  | flt _ => obtain ⟨t, rfl⟩ := r; rfl
  | ref _ => cases r; rfl
  | ty _ => cases r; rfl
theorem pc_isN {j pos'} (ha : PE X a ta) : PC X .Is a (.Constant .none j pos') (tIsN ta) := by
  intro pins s σ H Q I h
  refine thn (ha pins s σ H _ I h) fun v s1 ⟨x, H1, I1, r1, q1⟩ => ?_
  exact Constant_none (is_none_gen ⟨.bl _, H1, I1, by rw [r1.none_iff]; rfl, q1⟩)
theorem pc_notN {j pos'} (ha : PE X a ta) : PC X .IsNot a (.Constant .none j pos') (tNotN ta) := by
  intro pins s σ H Q I h
  refine thn (ha pins s σ H _ I h) fun v s1 ⟨x, H1, I1, r1, q1⟩ => ?_
  exact Constant_none (isnot_none_gen ⟨.bl _, H1, I1, by rw [r1.none_iff]; rfl, q1⟩)
/-- a comparison as a value, as a test -/
def tB (t : TE) : TT := fun σ H Q => t σ H fun x H1 => ∃ c, x = .bl c ∧ Q c H1
theorem pt_cmp {op : CmpOp} {t : TE} (h : PC X op a b t) (h1 : behindInMarks op b = false := by first | exact nobehind _ (by decide) (by decide) | rfl) : PT X (.Compare a [op] [b] pos) (tB t) := by
  intro pins s σ H Q I hw
  refine wpAny_isTrue_Compare1 (thn (h pins s σ H _ I hw) fun v s1 h1 => thn h1 fun u s2 h2 => thn h2 fun c s3 ⟨x, H1, I1, r1, q1⟩ => ?_) h1
  obtain ⟨d, rfl, q⟩ := q1
  cases r1
  exact wpAny_truthy_bool ⟨H1, I1, q⟩
/-- an expression whose value is a bool, as a test -/
theorem pt_val {e : Expr} {t : TE} (h : PE X e t) (he : ∀ whole, isTrue e X.env whole = (do let v ← whole; standAt e.pos; holding [v] (truthy v)) := by intro _; rfl) : PT X e (tB t) := by
  intro pins s σ H Q I hw
  refine isTrue_plain (thn (h pins s σ H _ I hw) fun v s1 ⟨x, H1, I1, r1, q1⟩ => ?_) (he _)
  obtain ⟨d, rfl, q⟩ := q1
  cases r1
  exact wpAny_truthy_bool ⟨H1, I1, q⟩

/-! ### and, or, not -/
variable {tA tB' : TT} {rest : List Expr}
def tAnd (t u : TT) : TT := fun σ H Q => t σ H fun c H1 => if c = true then u σ H1 Q else Q false H1
def tOr (t u : TT) : TT := fun σ H Q => t σ H fun c H1 => if c = true then Q true H1 else u σ H1 Q
def tNot (t : TT) : TT := fun σ H Q => t σ H fun c H1 => Q (!c) H1
theorem pw_and1 (ha : PT X a tA) : PW X (.BoolOp .And [a] pos) tA := by
  intro wh pins s σ H Q I h
  refine isTrue_and (thn (ha pins s σ H Q I h) fun c s1 e => ?_)
  cases c with
  | true => exact isTrue_and_nil e
  | false => exact e
theorem pw_or1 (ha : PT X a tA) : PW X (.BoolOp .Or [a] pos) tA := by
  intro wh pins s σ H Q I h
  refine isTrue_or (thn (ha pins s σ H Q I h) fun c s1 e => ?_)
  cases c with
  | false => exact isTrue_or_nil e
  | true => exact e
theorem pw_and (ha : PT X a tA) (hb : PW X (.BoolOp .And (b :: rest) pos) tB') : PW X (.BoolOp .And (a :: b :: rest) pos) (tAnd tA tB') := by
  intro wh pins s σ H Q I h
  refine isTrue_and (thn (ha pins s σ H _ I h) fun c s1 ⟨H1, I1, q1⟩ => ?_)
  cases c with
  | true => exact hb wh pins s1 σ H1 Q I1 q1
  | false => exact ⟨H1, I1, q1⟩
theorem pw_or (ha : PT X a tA) (hb : PW X (.BoolOp .Or (b :: rest) pos) tB') : PW X (.BoolOp .Or (a :: b :: rest) pos) (tOr tA tB') := by
  intro wh pins s σ H Q I h
  refine isTrue_or (thn (ha pins s σ H _ I h) fun c s1 ⟨H1, I1, q1⟩ => ?_)
  cases c with
  | true => exact ⟨H1, I1, q1⟩
  | false => exact hb wh pins s1 σ H1 Q I1 q1
theorem pt_not (ha : PT X a tA) : PT X (.UnaryOp .Not a pos) (tNot tA) := by
  intro pins s σ H Q I h
  exact isTrue_not (ha pins s σ H (fun c H1 => Q (!c) H1) I h)
/-- a if t else b -/
def tIf (t : TT) (ta tb : TE) : TE := fun σ H Q => t σ H fun c H1 => if c = true then ta σ H1 Q else tb σ H1 Q
theorem pe_ifExp {c : Expr} (hc : PT X c tA) (ha : PE X a ta) (hb : PE X b tb) : PE X (.IfExp c a b pos) (tIf tA ta tb) := by
  intro pins s σ H Q I h
  refine wpAny_IfExp (thn (hc pins s σ H _ I h) fun d s1 ⟨H1, I1, q1⟩ => ?_)
  cases d with
  | true => exact ha pins s1 σ H1 Q I1 q1
  | false => exact hb pins s1 σ H1 Q I1 q1
end
end L2

namespace L2
open PySem PySem.Spec PyProof.Rows

/-! ### a list, a tuple that is read: tracked, frozen, or an object of the module -/
def SqL (K : PySem.W.Frag) (H : Hp) (a : Addr) (xs : List V) : Prop :=
  Rd H a (.lst xs) ∨
    ∃ (o : Obj) (its : Array Value) (n : Nat), K.lookup a = some o ∧ o.cls = .type "list" ∧ o.dict = none ∧ o.data = .seq its n ∧ its.size ≤ sizeLine ∧ Vals xs its.toList
def SqT (K : PySem.W.Frag) (H : Hp) (a : Addr) (xs : List V) : Prop :=
  Rd H a (.tup xs) ∨
    ∃ (o : Obj) (its : Array Value) (n : Nat), K.lookup a = some o ∧ o.cls = .type "tuple" ∧ o.data = .seq its n ∧ its.size ≤ sizeLine ∧ Vals xs its.toList
def absV : Value → Option V
  | .none => some .non
  | .bool b => some (.bl b)
  | .int i _ => some (.int i)
  | .str x _ => some (.str x)
  | .bytes b _ => some (.byt b)
  | .float b _ => some (.flt b)
  | .ref a => some (.ref a)
  | .type n => some (.ty n)
  | _ => none
theorem RelV.abs {x : V} {u : Value} (r : RelV x u) : absV u = some x := by
  cases x with
  | non => cases r; rfl
  | bl _ => cases r; rfl
  | int _ => obtain ⟨t, rfl⟩ := r; rfl
  | str _ => obtain ⟨t, rfl⟩ := r; rfl
  | byt _ => obtain ⟨t, rfl⟩ := r; rfl
  | flt _ => obtain ⟨t, rfl⟩ := r; rfl
  | ref _ => cases r; rfl
  | ty _ => cases r; rfl
theorem RelV.inj {x y : V} {u : Value} (r : RelV x u) (q : RelV y u) : x = y := Option.some.inj (r.abs.symm.trans q.abs)
theorem Vals.inj : ∀ {xs ys : List V} {us : List Value}, Vals xs us → Vals ys us → xs = ys
  | _, _, _, .nil, .nil => rfl
  | _, _, _, .cons r t, .cons r' t' => by rw [r.inj r', Vals.inj t t']
section
variable {X : Cx} {pins : List (Addr × Obj)} {σ : St} {H : Hp} {s : Shared} {a : Addr} {xs ys : List V}
theorem SqL.of {K : PySem.W.Frag} (h : H a = some (.lst xs)) : SqL K H a xs := .inl (.inl h)
theorem SqT.of {K : PySem.W.Frag} (h : H a = some (.tup xs)) : SqT K H a xs := .inl (.inl h)
theorem Inv.list (I : Inv X pins σ H s) (h : SqL X.K H a xs) : ∃ its : List Value, Vals xs its ∧ PlainL s.heap a its.toArray ∧ xs.length ≤ sizeLine := by
  rcases h with h | ⟨o, its, n, hk, hc, hd, hs, hz, r⟩
  · obtain ⟨z, its, n, r, e⟩ := h.ok I.hok
    exact ⟨its, r, ⟨_, n, e, rfl, rfl, rfl⟩, z⟩
  · refine ⟨its.toList, r, ⟨o, n, I.kIn a o hk, hc, hd, by simpa using hs⟩, ?_⟩
    have e := r.length
    simp only [Array.length_toList] at e
    omega
theorem Inv.tuple (I : Inv X pins σ H s) (h : SqT X.K H a xs) : ∃ its : List Value, Vals xs its ∧ IsTup s.heap a its.toArray ∧ xs.length ≤ sizeLine := by
  rcases h with h | ⟨o, its, n, hk, hc, hs, hz, r⟩
  · obtain ⟨z, its, r, p⟩ := h.ok I.hok
    exact ⟨its, r, p, z⟩
  · refine ⟨its.toList, r, ⟨o, I.kIn a o hk, hc, n, by simpa using hs⟩, ?_⟩
    have e := r.length
    simp only [Array.length_toList] at e
    omega
theorem Inv.list_inj (I : Inv X pins σ H s) (h : SqL X.K H a xs) (h' : SqL X.K H a ys) : xs = ys := by
  obtain ⟨its, r, ⟨o, n, e, _, _, d⟩, _⟩ := I.list h
  obtain ⟨its', r', ⟨o', n', e', _, _, d'⟩, _⟩ := I.list h'
  rw [e] at e'; cases e'
  rw [d] at d'
  injection d' with d1 _
  have : its = its' := by simpa using congrArg Array.toList d1
  subst this
  exact r.inj r'
theorem Inv.tuple_inj (I : Inv X pins σ H s) (h : SqT X.K H a xs) (h' : SqT X.K H a ys) : xs = ys := by
  obtain ⟨its, r, ⟨o, e, _, n, d⟩, _⟩ := I.tuple h
  obtain ⟨its', r', ⟨o', e', _, n', d'⟩, _⟩ := I.tuple h'
  rw [e] at e'; cases e'
  rw [d] at d'
  injection d' with d1 _
  have : its = its' := by simpa using congrArg Array.toList d1
  subst this
  exact r.inj r'
end

/-! ### another wish about exceptions -/
abbrev Cx.wish (X : Cx) (E : Value → Shared → Prop) : Cx := { X with xe := E }
/-- no exception leaves -/
abbrev Cx.nox (X : Cx) : Cx := X.wish fun _ _ => False
theorem Cx.Ok.wish {X : Cx} (ok : X.Ok) (E : Value → Shared → Prop) : (X.wish E).Ok :=
  ⟨ok.mod, ok.kind, ok.glob, ok.blt, ok.above, ok.inj, ok.has, ok.cab, ok.hd, ok.frames, ok.stk, ok.exf, ok.bs, ok.bsz, ok.noex, ok.exfs, ok.funs, ok.frf⟩
theorem Cx.Ok.unwish {X : Cx} {E : Value → Shared → Prop} (ok : (X.wish E).Ok) : X.Ok :=
  ⟨ok.mod, ok.kind, ok.glob, ok.blt, ok.above, ok.inj, ok.has, ok.cab, ok.hd, ok.frames, ok.stk, ok.exf, ok.bs, ok.bsz, ok.noex, ok.exfs, ok.funs, ok.frf⟩
section
variable {X : Cx} {pins : List (Addr × Obj)} {σ : St} {H : Hp} {s : Shared} {E : Value → Shared → Prop}
theorem Inv.wish (I : Inv X pins σ H s) (E : Value → Shared → Prop) : Inv (X.wish E) pins σ H s := ⟨I.ok.wish E, I.os, I.bare, I.base, I.loc, I.cell, I.free, I.freeC, I.pin, I.hok, I.len⟩
theorem Inv.unwish (I : Inv (X.wish E) pins σ H s) : Inv X pins σ H s := ⟨I.ok.unwish, I.os, I.bare, I.base, I.loc, I.cell, I.free, I.freeC, I.pin, I.hok, I.len⟩
theorem SP.unwish {D : Ends} {f : Flow} {s' : Shared} (h : SP (X.wish E) pins D f s') : SP X pins D f s' := by
  cases f with
  | next => obtain ⟨σ', H', I, q⟩ := h; exact ⟨σ', H', I.unwish, q⟩
  | brk => obtain ⟨σ', H', I, q⟩ := h; exact ⟨σ', H', I.unwish, q⟩
  | cont => obtain ⟨σ', H', I, q⟩ := h; exact ⟨σ', H', I.unwish, q⟩
  | ret u => obtain ⟨v, σ', H', I, r, q⟩ := h; exact ⟨v, σ', H', I.unwish, r, q⟩
theorem PSs.nox {st : List Stmt} {t : TS} (h : PSs X.nox st t) : PSs X st t := fun pins s σ H D I hw =>
  wpAny_mono (h pins s σ H D (I.wish _) hw) (fun _ _ q => q.unwish) fun _ _ z => False.elim z
end

/-! ### blocks and small statements -/
section
variable {X : Cx} {st : Stmt} {rest : List Stmt} {t u : TS} {e : Expr} {te : TE} {pos : Pos}
def tNext : TS := fun D σ H => D.nx σ H
def tSeq (t u : TS) : TS := fun D σ H => t { D with nx := u D } σ H
theorem pss_nil : PSs X [] tNext := fun _ _ σ H _ I h => wpAny_execs_nil ⟨σ, H, I, h⟩
theorem pss_cons (h1 : PS X st t) (h2 : PSs X rest u) : PSs X (st :: rest) (tSeq t u) := by
  intro pins s σ H D I h
  refine wpAny_execs_cons (thn (h1 pins s σ H { D with nx := u D } I h) fun f s1 q => ?_)
  cases f with
  | next =>
    obtain ⟨σ', H', I', q⟩ := q
    exact h2 pins s1 σ' H' D I' q
  | ret v => exact q
  | brk => exact q
  | cont => exact q
theorem pss_one (h1 : PS X st t) : PSs X [st] t := by
  intro pins s σ H D I h
  refine wpAny_execs_cons (thn (h1 pins s σ H D I h) fun f s1 q => ?_)
  cases f with
  | next => exact wpAny_execs_nil q
  | ret v => exact q
  | brk => exact q
  | cont => exact q
/-- in a def's body nothing is shown -/
theorem Inv.quiet {pins : List (Addr × Obj)} {σ : St} {H : Hp} {s : Shared} (I : Inv X pins σ H s) : interactive X.env = false := by simp [interactive, I.ok.kind]
/-- an expression whose value is dropped -/
def tDrop (te : TE) : TS := fun D σ H => te σ H fun _ H1 => D.nx σ H1
theorem ps_expr (he : PE X e te) (hs : swapsWith e none pos.line X.env = pure false := by rfl) : PS X (.Expr e pos) (tDrop te) := by
  intro pins s σ H D I h
  exact wpAny_Expr_any (thn (he pins s σ H _ I h) fun v s1 ⟨x, H1, I1, r1, q1⟩ => ⟨σ, H1, I1, q1⟩) I.quiet hs
def tRet (te : TE) : TS := fun D σ H => te σ H D.rt
theorem ps_ret (he : PE X e te) : PS X (.Return (some e) pos) (tRet te) := by
  intro pins s σ H D I h
  exact wpAny_Return_some (thn (he pins s σ H _ I h) fun v s1 ⟨x, H1, I1, r1, q1⟩ => ⟨x, σ, H1, I1, r1, q1⟩)
def tIfS (c : TT) (t u : TS) : TS := fun D σ H => c σ H fun b H1 => if b = true then t D σ H1 else u D σ H1
theorem ps_if {c : Expr} {a b : List Stmt} {tc : TT} (hc : PT X c tc) (ha : PSs X a t) (hb : PSs X b u) : PS X (.If c a b pos) (tIfS tc t u) := by
  intro pins s σ H D I h
  refine wpAny_If (thn (hc pins s σ H _ I h) fun d s1 ⟨H1, I1, q1⟩ => ?_)
  cases d with
  | true => exact ha pins s1 σ H1 D I1 q1
  | false => exact hb pins s1 σ H1 D I1 q1
/-- code that the proof never comes to -/
def tNever : TS := fun _ _ _ => False
theorem pss_never {sts : List Stmt} : PSs X sts tNever := fun _ _ _ _ _ _ h => h.elim
end

/-! ### targets -/
abbrev TG := V → St → Hp → (St → Hp → Prop) → Prop
abbrev TGs := List V → St → Hp → (St → Hp → Prop) → Prop
def PG (X : Cx) (target : Expr) (t : TG) : Prop :=
  ∀ (pins : List (Addr × Obj)) (s : Shared) (σ : St) (H : Hp) (v : V) (u : Value) (Q : St → Hp → Prop), Inv X pins σ H s → RelV v u → t v σ H Q →
    wpAny (model X.prog X.w) X.A (assign target X.env u) (fun _ s' => ∃ σ' H', Inv X pins σ' H' s' ∧ Q σ' H') X.xe s
/-- several targets, one after another -/
def PGs (X : Cx) (ts : List Expr) (t : TGs) : Prop :=
  ∀ (pins : List (Addr × Obj)) (s : Shared) (σ : St) (H : Hp) (vs : List V) (us : List Value) (Q : St → Hp → Prop), Inv X pins σ H s → Vals vs us → t vs σ H Q →
    wpAny (model X.prog X.w) X.A (assignInOrder ((assignEach ts X.env).map (·.2)) us) (fun _ s' => ∃ σ' H', Inv X pins σ' H' s' ∧ Q σ' H') X.xe s
/-- o[i] = v, by values -/
abbrev TSet := V → V → V → Hp → (Hp → Prop) → Prop
def PSet (X : Cx) (t : TSet) : Prop :=
  ∀ (pins : List (Addr × Obj)) (s : Shared) (σ : St) (H : Hp) (o i v : V) (ov iv u : Value) (Q : Hp → Prop), Inv X pins σ H s → RelV o ov → RelV i iv → RelV v u → t o i v H Q →
    wpAny (model X.prog X.w) X.A (setItem ov iv u) (fun _ s' => ∃ H', Inv X pins σ H' s' ∧ Q H') X.xe s
section
variable {X : Cx} {pos : Pos}
def gName (i : Nat) : TG := fun v σ H Q => Q (σ.set i (some v)) H
theorem pg_name {i : Nat} {x : Str} (hN : X.N.Nodup) (hi : X.N[i]? = some x) (hx : Loc X.env.scope x) (hf : X.fn x = true ∨ X.env.scope.names.lookup x = some .local := by first | exact .inl rfl | exact .inr rfl | assumption) : PG X (.Name x pos) (gName i) := by
  intro pins s σ H v u Q I r h
  exact wpAny_assign_Name (store_ok I hN hi hx r (fun s' I' => ⟨_, H, I', h⟩) hf)
def gNil : TGs := fun vs σ H Q => vs = [] ∧ Q σ H
def gCons (t : TG) (u : TGs) : TGs := fun vs σ H Q => ∃ v r, vs = v :: r ∧ t v σ H fun σ' H' => u r σ' H' Q
theorem pgs_nil : PGs X [] gNil := by
  intro pins s σ H vs us Q I r h
  obtain ⟨e, h⟩ := h
  subst e
  cases r
  exact assignInOrder_nil ⟨σ, H, I, h⟩
theorem pgs_cons {e : Expr} {es : List Expr} {t : TG} {u : TGs} (h1 : PG X e t) (h2 : PGs X es u)
    (hs : (assignEach (e :: es) X.env).map (·.2) = assign e X.env :: (assignEach es X.env).map (·.2) := by rfl) : PGs X (e :: es) (gCons t u) := by
  intro pins s σ H vs us Q I r h
  obtain ⟨v, vr, e1, h⟩ := h
  subst e1
  cases r with
  | cons r rr =>
    rw [hs]
    refine assignInOrder_cons (thn (h1 pins s σ H _ _ _ I r h) fun _ s1 ⟨σ1, H1, I1, q1⟩ => ?_)
    exact h2 pins s1 σ1 H1 _ _ Q I1 rr q1
/-- (a, b, ..) = a tuple of that length -/
def gTup (K : PySem.W.Frag) (n : Nat) (t : TGs) : TG := fun v σ H Q => ∃ a xs, v = .ref a ∧ SqT K H a xs ∧ xs.length = n ∧ t xs σ H Q
theorem pg_tup {es : List Expr} {k : Nat} {t : TGs} {n : Nat} (hc : X.calm = true) (h : PGs X es t)
    (hn : (assignEach es X.env).length = n := by rfl) (hst : (assignEach es X.env).findIdx? (·.1) = none := by rfl) : PG X (.Tuple es k pos) (gTup X.K n t) := by
  intro pins s σ H v u Q I r hw
  obtain ⟨a, xs, e1, hq, hl, hw⟩ := hw
  subst e1
  cases r
  obtain ⟨its, rv, ht, hz⟩ := I.tuple hq
  refine assign_Tuple_tuple (I.ok.hd hc) ht (by simp [hn, ← hl, rv.length]) hst fun h' hx => ?_
  have I1 : Inv X pins σ H { s with heap := h' } := I.kept (t' := s.toks) fun b o e => hx b o (Nat.ne_of_lt (Heap.lt_size e)) e
  exact h pins _ σ H xs _ Q I1 (by simpa using rv) hw
/-- o[i] = .. -/
def gSub (to ti : TE) (t : TSet) : TG := fun v σ H Q => to σ H fun o H1 => ti σ H1 fun i H2 => t o i v H2 fun H3 => Q σ H3
theorem pg_sub {o i : Expr} {to ti : TE} {t : TSet} (ho : PE X o to) (hi : PE X i ti) (hs : PSet X t)
    (ha : ∀ v, assign (.Subscript o i pos) X.env v = (do
      let ov ← holding [v] (eval o X.env)
      let iv ← holding [v, ov] (eval i X.env)
      standAt pos
      holding [v, ov, iv] (setItem ov iv v)
      release [v, ov, iv] []) := by intro _; rfl) : PG X (.Subscript o i pos) (gSub to ti t) := by
  intro pins s σ H v u Q I r h
  rw [ha]
  refine wpAny_bind (wpAny_holding (thn (ho pins s σ H _ I h) fun ov s1 ⟨x, H1, I1, r1, q1⟩ => ?_))
  refine wpAny_bind (wpAny_holding (thn (hi pins s1 σ H1 _ I1 q1) fun iv s2 ⟨y, H2, I2, r2, q2⟩ => ?_))
  refine wpAny_bind (wpAny_standAt (wpAny_bind (wpAny_holding (thn (hs pins s2 σ H2 x y v ov iv u _ I2 r1 r2 r q2) fun _ s3 ⟨H3, I3, q3⟩ => ?_))))
  exact wpAny_release ⟨σ, H3, I3, q3⟩
/-- target = value -/
def tAsg (te : TE) (g : TG) : TS := fun D σ H => te σ H fun x H1 => g x σ H1 D.nx
theorem ps_asg {tg e : Expr} {te : TE} {g : TG} (he : PE X e te) (hg : PG X tg g) (hs : swapsWithSole [tg] e pos.line X.env = pure false := by rfl) (hw : swappedStores [tg] e X.env = pure none := by rfl)
    (h1 : (assignEach [tg] X.env).map (·.2) = [assign tg X.env] := by rfl) : PS X (.Assign [tg] e pos) (tAsg te g) := by
  intro pins s σ H D I h
  refine wpAny_Assign_stores (thn (he pins s σ H _ I h) fun v s1 ⟨x, H1, I1, r1, q1⟩ => ?_) hs hw
  rw [h1]
  exact thn (hg pins s1 σ H1 x v _ I1 r1 q1) fun _ s2 q => q
/-- name = value -/
theorem ps_set {i : Nat} {x : Str} {e : Expr} {te : TE} {pos' : Pos} (hN : X.N.Nodup) (hi : X.N[i]? = some x) (hx : Loc X.env.scope x) (he : PE X e te) (hs : swapsWith e (some (.Name x pos')) pos.line X.env = pure false := by rfl) (hf : X.fn x = true ∨ X.env.scope.names.lookup x = some .local := by first | exact .inl rfl | exact .inr rfl | assumption) :
    PS X (.Assign [.Name x pos'] e pos) (tAsg te (gName i)) := by
  intro pins s σ H D I h
  refine wpAny_Assign_Name (thn (he pins s σ H _ I h) fun v s1 ⟨y, H1, I1, r1, q1⟩ => ?_) hs
  exact store_ok I1 hN hi hx r1 (fun s2 I2 => ⟨_, H1, I2, q1⟩) hf
end

/-! ### while -/
section
variable {X : Cx} {pos : Pos}
/-- the invariant W with its measure -/
def tWhile (c : TT) (tb : TS) : TS := fun D σ H => ∃ W : Nat → St → Hp → Prop, (∃ m, W m σ H) ∧ ∀ m σ H, W m σ H →
  c σ H fun b H1 => if b = true then ∃ N : St → Hp → Prop, (∀ σ' H', N σ' H' → ∃ m', m' < m ∧ W m' σ' H') ∧ tb { D with nx := N, ct := N, bk := D.nx } σ H1 else D.nx σ H1
theorem ps_while {c : Expr} {body : List Stmt} {tc : TT} {tb : TS} (hp : PassesOwn (model X.prog X.w) X.A X.env X.xe) (hc : PT X c tc) (hb : PSs X body tb) : PS X (.While c body [] pos) (tWhile tc tb) := by
  intro pins s σ H D I h
  obtain ⟨W, ⟨m0, w0⟩, turn⟩ := h
  refine wpAny_While (codeAny_whileLoop (fun n s' => ∃ σ' H', Inv X pins σ' H' s' ∧ W n σ' H') ?_ m0 ⟨σ, H, I, w0⟩)
  rintro n s1 ⟨σ1, H1, I1, w1⟩
  refine wpAny_passesOwn hp (thn (hc pins s1 σ1 H1 _ I1 (turn n σ1 H1 w1)) fun b s2 ⟨H2, I2, q2⟩ => ?_)
  cases b with
  | true =>
    obtain ⟨N, hN, q2⟩ := q2
    rw [if_pos rfl]
    refine wpAny_passesOwn hp (thn (hb pins s2 σ1 H2 _ I2 q2) fun f s3 q3 => ?_)
    cases f with
    | next =>
      obtain ⟨σ3, H3, I3, n3⟩ := q3
      obtain ⟨m', hm, w3⟩ := hN σ3 H3 n3
      exact ⟨m', hm, σ3, H3, I3, w3⟩
    | cont =>
      obtain ⟨σ3, H3, I3, n3⟩ := q3
      obtain ⟨m', hm, w3⟩ := hN σ3 H3 n3
      exact ⟨m', hm, σ3, H3, I3, w3⟩
    | brk => exact q3
    | ret v => exact q3
  | false =>
    rw [if_neg Bool.false_ne_true]
    exact wpAny_execs_nil ⟨σ1, H2, I2, q2⟩
end

/-! ### what a loop or a comprehension walks -/
/-- at turn i: it yields x (the heap may grow), or it stops -/
structure It where
  go : Nat → Hp → Prop
  yld : Nat → Hp → V → Hp → Prop
  stop : Nat → Hp → Prop
/-- the iterator's own objects may turn: they are not the frame's, not pinned, younger than the entry (or a comprehension's own) -/
def FpOk (X : Cx) (pins : List (Addr × Obj)) (H : Hp) (b : Addr) : Prop :=
  H b = none ∧ b ≠ X.env.locals ∧ b ∉ X.fs ∧ (b ∈ X.ex ∨ X.s₀.heap.objs.size ≤ b) ∧ (∀ x c, X.env.cells.lookup x = some c → c ≠ b) ∧ ∀ p ∈ X.pn ++ pins, p.1 ≠ b
theorem Inv.fpOk {X : Cx} {pins : List (Addr × Obj)} {σ : St} {H H' : Hp} {s : Shared} {b : Addr} (I : Inv X pins σ H s) (hb : s.heap.objs.size ≤ b) (hn : H' b = none) : FpOk X pins H' b := by
  refine ⟨hn, Nat.ne_of_gt (Nat.lt_of_lt_of_le I.lt hb), I.nofs hb, .inr (Nat.le_trans I.sz hb), fun x c e z => ?_, fun p hp z => ?_⟩
  · obtain ⟨v, q⟩ := I.cell x c e
    exact absurd (Nat.lt_of_lt_of_le q.lt (by rw [z]; exact hb)) (Nat.lt_irrefl _)
  · exact absurd (Nat.lt_of_lt_of_le (Heap.lt_size (I.pin p hp).1) (by rw [z]; exact hb)) (Nat.lt_irrefl _)
structure Turn (P : Program) (w : World) (K : PySem.W.Frag) (tg : Expr) (J : It) (fp : List Addr) (it : Addr) (tn : Nat → Heap → Prop) : Prop where
  mem : it ∈ fp
  obj : ∀ i h, tn i h → ∀ b ∈ fp, ∃ o, h.get? b = some o ∧ ∀ v, o.data ≠ .cell v
  keep : ∀ i h h', tn i h → (∀ b ∈ fp, ∀ o, h.get? b = some o → h'.get? b = some o) → tn i h'
  item : ∀ (X : Cx), X.prog = P → X.w = w → X.K = K → X.calm = true → ∀ (i : Nat) (pins : List (Addr × Obj)) (s : Shared) (σ : St) (H : Hp) (E : Value → Shared → Prop), Inv X pins σ H s → (∀ b ∈ fp, FpOk X pins H b) → tn i s.heap → J.go i H →
    wpAny (model P w) X.A (pyNext (.ref it)) (fun r s1 => ∃ u, r = some u ∧
      wpAny (model P w) X.A (letOwnedTupleGo tg (.ref it) u) (fun _ s2 => ∃ x H', Inv X pins σ H' s2 ∧ RelV x u ∧ J.yld i H x H' ∧ tn (i + 1) s2.heap ∧ ∀ b ∈ fp, H' b = none) E s1) E s
  done : ∀ (X : Cx), X.prog = P → X.w = w → X.K = K → X.calm = true → ∀ (i : Nat) (pins : List (Addr × Obj)) (s : Shared) (σ : St) (H : Hp) (E : Value → Shared → Prop), Inv X pins σ H s → (∀ b ∈ fp, FpOk X pins H b) → tn i s.heap → J.stop i H →
    wpAny (model P w) X.A (pyNext (.ref it)) (fun r s1 => r = none ∧ Inv X pins σ H s1) E s
  self : ∀ (A : Around) (i : Nat) (s : Shared) (Q : Value → Shared → Prop) (E : Value → Shared → Prop), tn i s.heap → Q (.ref it) s → wpAny (model P w) A (pyIter (.ref it)) Q E s
abbrev TI := St → Hp → (It → Hp → Prop) → Prop
/-- an iterator has come -/
def PIE (X : Cx) (pins : List (Addr × Obj)) (σ : St) (tg : Expr) (R : It → Hp → Prop) (itv : Value) (s2 : Shared) : Prop :=
  ∃ (it : Addr) (fp : List Addr) (tn : Nat → Heap → Prop) (J : It) (H' : Hp), itv = .ref it ∧ Inv X pins σ H' s2 ∧ Turn X.prog X.w X.K tg J fp it tn ∧ tn 0 s2.heap ∧ (∀ b ∈ fp, FpOk X pins H' b) ∧ R J H'
def PI (X : Cx) (tg iter : Expr) (wi : TI) : Prop :=
  ∀ (pins : List (Addr × Obj)) (s : Shared) (σ : St) (H : Hp) (R : It → Hp → Prop), Inv X pins σ H s → wi σ H R →
    wpAny (model X.prog X.w) X.A (eval iter X.env) (fun v s1 => wpAny (model X.prog X.w) X.A (pyIter v) (PIE X pins σ tg R) X.xe s1) X.xe s

/-- the step ahead of the store is nothing for an iterator that keeps no tuple -/
theorem go_of {M : Model} {A : Around} {E : Value → Shared → Prop} {s : Shared} {tg : Expr} {it : Addr} {u : Value} {o : Obj} {n : String} {vs : Array Value} {Q : Unit → Shared → Prop} (ho : s.heap.get? it = some o) (hc : o.cls = .type n) (hd : o.data = .fields vs)
    (hn : ["enumerate", "zip", "dict_itemiterator", "dict_reverseitemiterator", "odict_iterator", "itertools.zip_longest", "itertools.pairwise"].contains n = false) (hQ : Q () s) : wpAny M A (letOwnedTupleGo tg (.ref it) u) Q E s := by
  unfold letOwnedTupleGo
  cases tg <;> first
    | exact wpAny_pure hQ
    | (cases u <;> first
        | exact wpAny_pure hQ
        | (refine wpAny_bind (wpAny_load ho ?_)
           rw [hc, hd]
           show wpAny M A (if (["enumerate", "zip", "dict_itemiterator", "dict_reverseitemiterator", "odict_iterator", "itertools.zip_longest", "itertools.pairwise"].contains n && vs[0]? == some (rawInt _)) = true then _ else _) Q E s
           rw [if_neg (by intro h; rw [hn, Bool.false_and] at h; cases h)]
           exact wpAny_pure hQ))

/-- the list at a, as it stands at each turn (a loop may append to it) -/
def Itl (K : PySem.W.Frag) (a : Addr) : It :=
  ⟨fun i H => ∃ xs x, SqL K H a xs ∧ xs[i]? = some x, fun i H x H' => H' = H ∧ ∀ xs, SqL K H a xs → xs[i]? = some x, fun i H => ∃ xs, SqL K H a xs ∧ xs.length ≤ i⟩
/-- lo, lo + 1, .. (n of them) -/
def Itr (lo : Int) (n : Nat) : It := ⟨fun i _ => i < n, fun i H x H' => H' = H ∧ x = .int (lo + i), fun i _ => n ≤ i⟩
theorem turn_list {P : Program} {w : World} {K : PySem.W.Frag} {tg : Expr} (a it : Addr) : Turn P w K tg (Itl K a) [it] it (fun i h => h.IsListIter it a i) where
  mem := by simp
  obj := fun i h st b hb => by
    have e : b = it := by simpa using hb
    subst e
    obtain ⟨o, e, c, d⟩ := st
    exact ⟨o, e, fun v z => by rw [d] at z; cases z⟩
  keep := fun i h h' st k => st.at fun o e => k it (by simp) o e
  item := by
    intro X hP hw hK hc i pins s σ H E I hf st hg
    subst hP hw hK
    obtain ⟨xs, x, hq, hx⟩ := hg
    obtain ⟨its, rv, p, hz⟩ := I.list hq
    obtain ⟨u, hu, ru⟩ := rv.get hx
    obtain ⟨f0, f1, f2, f3, f4, f5⟩ := hf it (by simp)
    refine wpAny_pyNext_list_item st p.isList (x := u) (by simpa using hu) fun h' st' sb => ?_
    have I1 : Inv X pins σ H { s with heap := h' } := I.turned (t' := s.toks) (fun b o hb e => (sb.2 b hb).trans e) f0 f1 f3 f4 f5
    obtain ⟨o, e, c, d⟩ := id st'
    exact ⟨u, rfl, go_of (s := { s with heap := h' }) e c d (by decide) ⟨x, H, I1, ru, ⟨rfl, fun ys hy => by rw [I.list_inj hy hq]; exact hx⟩, st', fun b hb => (hf b hb).1⟩⟩
  done := by
    intro X hP hw hK hc i pins s σ H E I hf st hg
    subst hP hw hK
    obtain ⟨xs, hq, hx⟩ := hg
    obtain ⟨its, rv, p, hz⟩ := I.list hq
    obtain ⟨f0, f1, f2, f3, f4, f5⟩ := hf it (by simp)
    have hl := rv.length
    exact wpAny_pyNext_list_end (I.ok.hd hc) st p.isList (by simp; omega) fun h' eb => ⟨rfl, I.turned (t' := s.toks) (fun b o hb e => eb b o hb e) f0 f1 f3 f4 f5⟩
  self := fun _ _ _ _ _ st h => wpAny_pyIter_listiter st h
theorem turn_range {P : Program} {w : World} {K : PySem.W.Frag} {tg : Expr} (it : Addr) (lo : Int) (n : Nat) : Turn P w K tg (Itr lo n) [it] it (fun i h => IsRangeIter h it (lo + (i : Nat) * 1) ((n : Int) - (i : Nat)) 1) where
  mem := by simp
  obj := fun i h st b hb => by
    have e : b = it := by simpa using hb
    subst e
    exact ⟨_, st, fun v z => by
      have z' : Data.fields _ = Data.cell v := z
      cases z'⟩
  keep := fun i h h' st k => k it (by simp) _ st
  item := by
    intro X hP hw hK hc i pins s σ H E I hf st hg
    subst hP hw hK
    obtain ⟨f0, f1, f2, f3, f4, f5⟩ := hf it (by simp)
    have W := Walks.range (prog := X.prog) (w := X.w) (I.ok.hd hc) it lo 1 n
    refine W.item i s _ _ hg st fun v h' tk hv st' kk => ?_
    obtain ⟨t, rfl⟩ := hv
    have I1 : Inv X pins σ H { s with heap := h', toks := tk } := I.turned (fun b o hb e => kk b o (by simpa using hb) e) f0 f1 f3 f4 f5
    refine ⟨_, rfl, go_of (s := { s with heap := h', toks := tk }) (n := "range_iterator") st' rfl rfl (by decide) ⟨.int (lo + i), H, I1, ⟨t, ?_⟩, ⟨rfl, rfl⟩, st', fun b hb => (hf b hb).1⟩⟩
    rw [Int.mul_one]
  done := by
    intro X hP hw hK hc i pins s σ H E I hf st hg
    subst hP hw hK
    obtain ⟨f0, f1, f2, f3, f4, f5⟩ := hf it (by simp)
    exact wpAny_pyNext_range_end (I.ok.hd hc) st (by have : n ≤ i := hg; omega) fun h' eb => ⟨rfl, I.turned (t' := s.toks) (fun b o hb e => eb b o hb e) f0 f1 f3 f4 f5⟩
  self := fun _ _ _ _ _ st h => wpAny_pyIter_rangeiter st h
end L2

namespace L2
open PySem PySem.Spec PyProof.Rows
section
variable {X : Cx} {tg : Expr}
def iList (K : PySem.W.Frag) (tl : TE) : TI := fun σ H R => tl σ H fun x H1 => ∃ a, x = .ref a ∧ (∃ xs, SqL K H1 a xs) ∧ R (Itl K a) H1
theorem pi_list {l : Expr} {tl : TE} (hl : PE X l tl) : PI X tg l (iList X.K tl) := by
  intro pins s σ H R I h
  refine thn (hl pins s σ H _ I h) fun v s1 ⟨x, H1, I1, r1, q1⟩ => ?_
  obtain ⟨a, e, ⟨xs, hq⟩, q⟩ := q1
  subst e
  cases r1
  obtain ⟨its, rv, p, hz⟩ := I1.list hq
  refine wpAny_pyIter_list p.isList ?_
  refine ⟨s1.heap.objs.size, [s1.heap.objs.size], _, _, H1, rfl, I1.kept (t' := s1.toks) fun b o e => Heap.get?_push_of_some _ e, turn_list a _, ⟨_, Heap.get?_push_size _ rfl, rfl, rfl⟩, fun b hb => ?_, q⟩
  have e : b = s1.heap.objs.size := by simpa using hb
  subst e
  exact I1.fpOk (Nat.le_refl _) (I1.hok.fresh (Nat.le_refl _))
/-- a range object just made, walked -/
theorem range_it {pins : List (Addr × Obj)} {σ : St} {H : Hp} {s : Shared} {R : It → Hp → Prop} {E : Value → Shared → Prop} {lo hi : Int} {t u v : Tok} {tk : Nat} (I : Inv X pins σ H s) (h1 : -(2 ^ 62) ≤ lo) (h2 : lo < 2 ^ 62) (h3 : -(2 ^ 62) ≤ hi) (h4 : hi < 2 ^ 62)
    (q : R (Itr lo (hi - lo).toNat) H) : wpAny (model X.prog X.w) X.A (pyIter (.ref s.heap.objs.size)) (PIE X pins σ tg R) E { s with heap := s.heap.push { cls := .type "range", data := .fields #[.int lo t, .int hi u, .int 1 v] }, toks := tk } := by
  refine wpAny_pyIter_range (IsRange.new ..) (small_one h1 h2 h3 h4) ?_
  have I1 : Inv X pins σ H { s with heap := s.heap.push { cls := .type "range", data := .fields #[.int lo t, .int hi u, .int 1 v] }, toks := tk } := I.kept fun b o e => Heap.get?_push_of_some _ e
  refine ⟨(s.heap.push { cls := .type "range", data := .fields #[.int lo t, .int hi u, .int 1 v] }).objs.size, [(s.heap.push { cls := .type "range", data := .fields #[.int lo t, .int hi u, .int 1 v] }).objs.size], _, _, H, rfl,
    I1.kept (t' := tk) fun b o e => Heap.get?_push_of_some _ e, turn_range _ lo (hi - lo).toNat, ?_, fun b hb => ?_, q⟩
  · have e1 : lo + ((0 : Nat) : Int) * 1 = lo := by simp
    have e2 : (((hi - lo).toNat : Nat) : Int) - ((0 : Nat) : Int) = Builtin.Range.rangeSize lo hi 1 := by rw [rangeSize_one]; split <;> omega
    show IsRangeIter _ _ (lo + ((0 : Nat) : Int) * 1) ((((hi - lo).toNat : Nat) : Int) - ((0 : Nat) : Int)) 1
    rw [e1, e2]
    exact Heap.get?_push_size _ rfl
  · have e : b = (s.heap.push { cls := .type "range", data := .fields #[.int lo t, .int hi u, .int 1 v] }).objs.size := by simpa using hb
    subst e
    exact I1.fpOk (Nat.le_refl _) (I1.hok.fresh (Nat.le_refl _))
def iRng1 (ta : TA) : TI := fun σ H R => ta σ H fun vs H1 => ∃ j : Int, vs = [.int j] ∧ -(2 ^ 62) ≤ j ∧ j < 2 ^ 62 ∧ R (Itr 0 j.toNat) H1
theorem pi_range1 {a : Expr} {ta : TA} {p pos : Pos} (hg : Gl X "range") (hm : X.mg "range" = none) (ha : PA X [a] ta) (hs : starEach [a] X.env = [(false, eval a X.env)] := by rfl) : PI X tg (.Call (.Name "range" p) [a] [] pos) (iRng1 ta) := by
  intro pins s σ H R I h
  refine Call_ (ld_blt I hg hm boot_range (PyProof.Rows.callWith_type1 (thn (ha pos pins s σ H _ I h) fun us s1 ⟨vs, H1, I1, r1, q1⟩ => ?_) hs rfl))
  obtain ⟨j, e, q1, q2, q⟩ := q1
  subst e
  cases r1 with
  | cons r rr =>
    cases rr
    obtain ⟨t, rfl⟩ := r
    exact call_range_1 (range_it I1 (by omega) (by omega) q1 q2 (by simpa using q))

/-! ### for -/
/-- W: the invariant by the turn and a measure; N: what the body is to reach -/
def tFor (wi : TI) (g : TG) (tb : TS) : TS := fun D σ H => wi σ H fun J H1 => ∃ W : Nat → Nat → St → Hp → Prop, (∃ m, W 0 m σ H1) ∧ ∀ i m σ H, W i m σ H →
  (J.stop i H ∧ D.nx σ H) ∨ (J.go i H ∧ ∃ N : St → Hp → Prop, (∀ σ' H', N σ' H' → ∃ m', m' < m ∧ W (i + 1) m' σ' H') ∧ ∀ x H', J.yld i H x H' → g x σ H' fun σ2 H2 => tb { D with nx := N, ct := N, bk := D.nx } σ2 H2)
/-- the records at fp as they stand -/
def pinsAt (fp : List Addr) (h : Heap) : List (Addr × Obj) := fp.filterMap fun b => (h.get? b).map fun o => (b, o)
theorem mem_pinsAt {fp : List Addr} {h : Heap} {b : Addr} {o : Obj} (hb : b ∈ fp) (e : h.get? b = some o) : (b, o) ∈ pinsAt fp h := List.mem_filterMap.mpr ⟨b, hb, by rw [e]; rfl⟩
theorem of_pinsAt {fp : List Addr} {h : Heap} {p : Addr × Obj} (hp : p ∈ pinsAt fp h) : p.1 ∈ fp ∧ h.get? p.1 = some p.2 := by
  obtain ⟨b, hb, e⟩ := List.mem_filterMap.mp hp
  cases q : h.get? b with
  | none => rw [q] at e; cases e
  | some o =>
    rw [q] at e
    have e' : (b, o) = p := Option.some.inj e
    subst e'
    exact ⟨hb, q⟩
theorem Inv.pinned {pins : List (Addr × Obj)} {σ : St} {H : Hp} {s : Shared} {fp : List Addr} (I : Inv X pins σ H s) (hf : ∀ b ∈ fp, FpOk X pins H b) (ho : ∀ b ∈ fp, ∃ o, s.heap.get? b = some o ∧ ∀ v, o.data ≠ .cell v) : Inv X (pins ++ pinsAt fp s.heap) σ H s :=
  I.pins_of fun p hp => (List.mem_append.mp hp).elim (fun z => I.pin p (List.mem_append_right _ z)) fun z => by
    obtain ⟨hb, e⟩ := of_pinsAt z
    obtain ⟨f0, f1, f2, _⟩ := hf p.1 hb
    obtain ⟨o, e', d⟩ := ho p.1 hb
    rw [e] at e'; cases e'
    exact ⟨e, f0, f1, f2, d⟩
theorem Inv.unpinned {pins pl : List (Addr × Obj)} {σ : St} {H : Hp} {s : Shared} (I : Inv X (pins ++ pl) σ H s) : Inv X pins σ H s := I.pins_of fun p hp => I.pin p (List.mem_append_right _ (List.mem_append_left _ hp))
theorem ps_for {iter : Expr} {body : List Stmt} {wi : TI} {g : TG} {tb : TS} {pos : Pos} (hp : PassesOwn (model X.prog X.w) X.A X.env X.xe) (hc : X.calm = true) (hi : PI X tg iter wi) (hg : PG X tg g) (hb : PSs X body tb)
    (hs : ∀ x, foldedSetIterable iter X.env x = pure x := by intro _; rfl) : PS X (.For tg iter body [] pos) (tFor wi g tb) := by
  intro pins s σ H D I h
  refine wpAny_For (thn (hi pins s σ H _ I h) fun v s1 h1 => thn h1 fun itv s2 h2 => ?_) hs
  obtain ⟨it, fp, tn, J, H2, e, I2, T, st2, f2, W, ⟨m0, w0⟩, turn⟩ := h2
  subst e
  -- what stays true of the iterator's objects through the loop
  have stat : ∀ {H' : Hp}, (∀ b ∈ fp, H' b = none) → ∀ b ∈ fp, FpOk X pins H' b := fun hn b hb => ⟨hn b hb, (f2 b hb).2⟩
  refine codeAny_forLoop_any (fun n s' => ∃ i σ' H', Inv X pins σ' H' s' ∧ tn i s'.heap ∧ (∀ b ∈ fp, H' b = none) ∧ W i n σ' H') ?_ m0 ⟨0, σ, H2, I2, st2, fun b hb => (f2 b hb).1, w0⟩
  rintro n s3 ⟨i, σ3, H3, I3, st3, fr3, w3⟩
  rcases turn i n σ3 H3 w3 with ⟨stop, qn⟩ | ⟨go, N, hN, step⟩
  · refine wpAny_passesOwn hp (thn (T.done X rfl rfl rfl hc i pins s3 σ3 H3 X.xe I3 (stat fr3) st3 stop) fun r s4 ⟨hr, I4⟩ => ?_)
    subst hr
    exact wpAny_execs_nil ⟨σ3, H3, I4, qn⟩
  · refine wpAny_passesOwn hp (thn (T.item X rfl rfl rfl hc i pins s3 σ3 H3 X.xe I3 (stat fr3) st3 go) fun r s4 ⟨u, hr, h4⟩ => ?_)
    subst hr
    refine wpAny_passesOwn hp (thn h4 fun _ s5 ⟨x, H5, I5, r5, y5, st5, fr5⟩ => ?_)
    have I5' := I5.pinned (stat fr5) (T.obj _ _ st5)
    refine wpAny_passesOwn hp (thn (hg _ s5 σ3 H5 x u _ I5' r5 (step x H5 y5)) fun _ s6 ⟨σ6, H6, I6, q6⟩ => ?_)
    refine wpAny_passesOwn hp (thn (hb _ s6 σ6 H6 _ I6 q6) fun f s7 q7 => ?_)
    have again : ∀ {σ7 : St} {H7 : Hp}, Inv X (pins ++ pinsAt fp s5.heap) σ7 H7 s7 → N σ7 H7 → ∃ m, m < n ∧ ∃ i σ' H', Inv X pins σ' H' s7 ∧ tn i s7.heap ∧ (∀ b ∈ fp, H' b = none) ∧ W i m σ' H' := fun {σ7 H7} I7 n7 => by
      obtain ⟨m', hm, w7⟩ := hN σ7 H7 n7
      refine ⟨m', hm, i + 1, σ7, H7, I7.unpinned, T.keep _ _ _ st5 fun b hb o e => (I7.pin (b, o) (List.mem_append_right _ (List.mem_append_right _ (mem_pinsAt hb e)))).1, fun b hb => ?_, w7⟩
      obtain ⟨o, e, d⟩ := T.obj _ _ st5 b hb
      exact (I7.pin (b, o) (List.mem_append_right _ (List.mem_append_right _ (mem_pinsAt hb e)))).2.1
    cases f with
    | next => obtain ⟨σ7, H7, I7, n7⟩ := q7; exact again I7 n7
    | cont => obtain ⟨σ7, H7, I7, n7⟩ := q7; exact again I7 n7
    | brk => obtain ⟨σ7, H7, I7, q7⟩ := q7; exact ⟨σ7, H7, I7.unpinned, q7⟩
    | ret v => obtain ⟨x7, σ7, H7, I7, r7, q7⟩ := q7; exact ⟨x7, σ7, H7, I7.unpinned, r7, q7⟩
end

/-! ### the forms one uses -/
end L2

namespace L2
open PySem PySem.Spec PyProof.Rows

abbrev R2 := V → V → Hp → VK → Prop
/-- a two-place operation on values: f is binaryOp op, inplaceOp op or compareOp op -/
def OpR (X : Cx) (f : Value → Value → Sem Value) (r : R2) : Prop :=
  ∀ (pins : List (Addr × Obj)) (s : Shared) (σ : St) (H : Hp) (x y : V) (v u : Value) (Q : VK), Inv X pins σ H s → RelV x v → RelV y u → r x y H Q →
    wpAny (model X.prog X.w) X.A (f v u) (EP X pins σ Q) X.xe s
/-- a one-place operation -/
def UnR (X : Cx) (f : Value → Sem Value) (r : V → Hp → VK → Prop) : Prop :=
  ∀ (pins : List (Addr × Obj)) (s : Shared) (σ : St) (H : Hp) (x : V) (v : Value) (Q : VK), Inv X pins σ H s → RelV x v → r x H Q →
    wpAny (model X.prog X.w) X.A (f v) (EP X pins σ Q) X.xe s
/-- a call of a value that is known (a builtin, a type) with values -/
def CallR (X : Cx) (f : Value) (r : List V → Hp → VK → Prop) : Prop :=
  ∀ (pins : List (Addr × Obj)) (s : Shared) (σ : St) (H : Hp) (xs : List V) (us : List Value) (Q : VK), Inv X pins σ H s → Vals xs us → r xs H Q →
    wpAny (model X.prog X.w) X.A (call f us) (EP X pins σ Q) X.xe s

def tOp (r : R2) (ta tb : TE) : TE := fun σ H Q => ta σ H fun x H1 => tb σ H1 fun y H2 => r x y H2 Q
def tUn (r : V → Hp → VK → Prop) (ta : TE) : TE := fun σ H Q => ta σ H fun x H1 => r x H1 Q
/-- ints in, under C, and a value out -/
def rI (C : Int → Int → Prop) (g : Int → Int → V) : R2 := fun x y H Q => ∃ i j, x = .int i ∧ y = .int j ∧ C i j ∧ Q (g i j) H
def rI0 (g : Int → Int → V) : R2 := fun x y H Q => ∃ i j, x = .int i ∧ y = .int j ∧ Q (g i j) H
def rU (g : Int → V) : V → Hp → VK → Prop := fun x H Q => ∃ i, x = .int i ∧ Q (g i) H

section
variable {X : Cx} {a b c : Expr} {ta tb tc : TE} {pos : Pos}

theorem binT (ha : PE X a ta) (hb : PE X b tb) {pins : List (Addr × Obj)} {s : Shared} {σ : St} {H : Hp} {R : V → V → Hp → Prop} (I : Inv X pins σ H s)
    (h : ta σ H fun x H1 => tb σ H1 fun y H2 => R x y H2) {Q : Value → Shared → Prop} {f : Value → Value → Sem Value}
    (hf : ∀ v u s2 x y H2, Inv X pins σ H2 s2 → RelV x v → RelV y u → R x y H2 → wpAny (model X.prog X.w) X.A (f v u) Q X.xe s2) :
    wpAny (model X.prog X.w) X.A (eval a X.env) (fun v s₁ => wpAny (model X.prog X.w) X.A (eval b X.env) (fun u s₂ => wpAny (model X.prog X.w) X.A (f v u) Q X.xe s₂) X.xe s₁) X.xe s := by
  refine thn (ha pins s σ H _ I h) fun v s1 ⟨x, H1, I1, r1, q1⟩ => ?_
  refine thn (hb pins s1 σ H1 _ I1 q1) fun u s2 ⟨y, H2, I2, r2, q2⟩ => ?_
  exact hf v u s2 x y H2 I2 r1 r2 q2

theorem pe_op {op : Operator} {r : R2} (ho : OpR X (binaryOp op) r) (ha : PE X a ta) (hb : PE X b tb) : PE X (.BinOp a op b pos) (tOp r ta tb) := by
  intro pins s σ H Q I h
  exact wpAny_BinOp (binT ha hb I h fun v u s2 x y H2 I2 rx ry q => ho pins s2 σ H2 x y v u Q I2 rx ry q)
theorem pe_un {op : UnaryOp} {r : V → Hp → VK → Prop} (ho : UnR X (unaryOp op) r) (ha : PE X a ta) : PE X (.UnaryOp op a pos) (tUn r ta) := by
  intro pins s σ H Q I h
  exact UnaryOp_ (thn (ha pins s σ H _ I h) fun v s1 ⟨x, H1, I1, r1, q1⟩ => ho pins s1 σ H1 x v Q I1 r1 q1)

/-! ### ints -/
theorem opI {f : Value → Value → Sem Value} {C : Int → Int → Prop} {g : Int → Int → Int}
    (rule : ∀ (i j : Int) (t u : Tok) (s : Shared) (Q : Value → Shared → Prop) (E : Value → Shared → Prop), C i j → Q (.int (g i j) s.toks) { s with toks := s.toks + 1 } → wpAny (model X.prog X.w) X.A (f (.int i t) (.int j u)) Q E s) :
    OpR X f (rI C fun i j => .int (g i j)) := by
  intro pins s σ H x y v u Q I rx ry h
  obtain ⟨i, j, rfl, rfl, hc, q⟩ := h
  obtain ⟨t, rfl⟩ := rx
  obtain ⟨t', rfl⟩ := ry
  exact rule i j t t' s _ _ hc ⟨.int (g i j), H, I.tok _, ⟨_, rfl⟩, q⟩
theorem opI0 {f : Value → Value → Sem Value} {g : Int → Int → Int}
    (rule : ∀ (i j : Int) (t u : Tok) (s : Shared) (Q : Value → Shared → Prop) (E : Value → Shared → Prop), Q (.int (g i j) s.toks) { s with toks := s.toks + 1 } → wpAny (model X.prog X.w) X.A (f (.int i t) (.int j u)) Q E s) :
    OpR X f (rI0 fun i j => .int (g i j)) := by
  intro pins s σ H x y v u Q I rx ry h
  obtain ⟨i, j, rfl, rfl, q⟩ := h
  obtain ⟨t, rfl⟩ := rx
  obtain ⟨t', rfl⟩ := ry
  exact rule i j t t' s _ _ ⟨.int (g i j), H, I.tok _, ⟨_, rfl⟩, q⟩
theorem opB0 {f : Value → Value → Sem Value} {g : Int → Int → Bool}
    (rule : ∀ (i j : Int) (t u : Tok) (s : Shared) (Q : Value → Shared → Prop) (E : Value → Shared → Prop), Q (.bool (g i j)) s → wpAny (model X.prog X.w) X.A (f (.int i t) (.int j u)) Q E s) :
    OpR X f (rI0 fun i j => .bl (g i j)) := by
  intro pins s σ H x y v u Q I rx ry h
  obtain ⟨i, j, rfl, rfl, q⟩ := h
  obtain ⟨t, rfl⟩ := rx
  obtain ⟨t', rfl⟩ := ry
  exact rule i j t t' s _ _ ⟨.bl (g i j), H, I, rfl, q⟩

def CPow (i j : Int) : Prop := 0 ≤ j ∧ j ≤ 1000000 ∧ i.natAbs < 2 ^ 64
def CMul (i j : Int) : Prop := (-(2 ^ 64) < i ∧ i < 2 ^ 64) ∨ (-(2 ^ 64) < j ∧ j < 2 ^ 64)
theorem CMul.ok {i j : Int} (h : CMul i j) : IntMulOk i j := by
  rcases h with ⟨h1, h2⟩ | ⟨h1, h2⟩
  · exact .of_left (intBits_le_64 h1 h2)
  · exact .of_right (intBits_le_64 h1 h2)

theorem op_add : OpR X (binaryOp .Add) (rI0 fun i j => .int (i + j)) := opI0 fun _ _ _ _ _ _ _ q => add_int q
theorem op_sub : OpR X (binaryOp .Sub) (rI0 fun i j => .int (i - j)) := opI0 fun _ _ _ _ _ _ _ q => sub_int q
theorem op_mul : OpR X (binaryOp .Mult) (rI CMul fun i j => .int (i * j)) := opI fun _ _ _ _ _ _ _ hc q => mul_int q hc.ok
/-- % by a positive divisor of any size -/
theorem op_mod : OpR X (binaryOp .Mod) (rI (fun _ j => 0 < j) fun i j => .int (i % j)) := opI fun i j _ _ _ _ _ hc q => by
  have h1 : (0 : Int) < j := hc
  exact mod_int' (by omega) (by rw [Int.fmod_eq_emod_of_nonneg i (by omega)]; exact q)
theorem op_pow : OpR X (binaryOp .Pow) (rI CPow fun i j => .int (i ^ j.toNat)) := opI fun _ _ _ _ _ _ _ hc q => pow_int_small hc.1 hc.2.1 hc.2.2 q


theorem unI {f : Value → Sem Value} {g : Int → Int}
    (rule : ∀ (i : Int) (t : Tok) (s : Shared) (Q : Value → Shared → Prop) (E : Value → Shared → Prop), Q (.int (g i) s.toks) { s with toks := s.toks + 1 } → wpAny (model X.prog X.w) X.A (f (.int i t)) Q E s) :
    UnR X f (rU fun i => .int (g i)) := by
  intro pins s σ H x v Q I rx h
  obtain ⟨i, rfl, q⟩ := h
  obtain ⟨t, rfl⟩ := rx
  exact rule i t s _ _ ⟨.int (g i), H, I.tok _, ⟨_, rfl⟩, q⟩
theorem un_neg : UnR X (unaryOp .USub) (rU fun i => .int (-i)) := unI fun _ _ _ _ _ q => neg_int q

/-! ### bools among ints: n += (a < b) -/
end

/-! ### comparisons -/
/-- the scalars that == tells apart as data does -/
def scal : V → V → Bool
  | .non, .non => true | .non, .int _ => true | .int _, .non => true | .non, .bl _ => true | .bl _, .non => true | .non, .str _ => true | .str _, .non => true
  | .int _, .int _ => true | .bl _, .bl _ => true | .str _, .str _ => true | .byt _, .byt _ => true
  | .int _, .str _ => true | .str _, .int _ => true | .bl _, .str _ => true | .str _, .bl _ => true
  | _, _ => false
def rEq : R2 := fun x y H Q => scal x y = true ∧ Q (.bl (decide (x = y))) H
def rNe : R2 := fun x y H Q => scal x y = true ∧ Q (.bl (!decide (x = y))) H

theorem dec_int {i j : Int} : decide (V.int i = V.int j) = (i == j) := by
  rw [Bool.eq_iff_iff]
  simp
theorem dec_bl {i j : Bool} : decide (V.bl i = V.bl j) = (i == j) := by
  rw [Bool.eq_iff_iff]
  simp
theorem dec_str {i j : Str} : decide (V.str i = V.str j) = (i == j) := by
  rw [Bool.eq_iff_iff]
  simp
theorem dec_byt {i j : Array UInt8} : decide (V.byt i = V.byt j) = (i.toList == j.toList) := by
  rw [Bool.eq_iff_iff]
  cases i
  cases j
  simp

section
variable {X : Cx} {a b c : Expr} {ta tb tc : TE} {pos : Pos}
theorem fin_bl {pins : List (Addr × Obj)} {σ : St} {H : Hp} {s : Shared} {Q : VK} {k k' : Bool} (I : Inv X pins σ H s) (q : Q (.bl k) H) (e : k = k') : EP X pins σ Q (.bool k') s := by
  subst e
  exact ⟨.bl k, H, I, rfl, q⟩
theorem op_eq : OpR X (compareOp .Eq) rEq := by
  intro pins s σ H x y v u Q I rx ry h
  obtain ⟨hs, q⟩ := h
  cases x with
  | non =>
    cases rx
    cases y with
    | non => cases ry; exact PySem.EqNone.eq_none_none (fin_bl I q (by simp))
    | bl j => cases ry; exact PySem.EqNone.eq_none_bool (fin_bl I q (by simp))
    | int j => obtain ⟨t', rfl⟩ := ry; exact PySem.EqNone.eq_none_int (fin_bl I q (by simp))
    | str j => obtain ⟨t', rfl⟩ := ry; exact PySem.EqNone.eq_none_str (fin_bl I q (by simp))
    | _ => exact absurd (show false = true from hs) Bool.false_ne_true
  | bl i =>
    cases rx
    cases y with
    | non => cases ry; exact PySem.EqNone.eq_bool_none (fin_bl I q (by simp))
    | bl j => cases ry; exact eq_bool (fin_bl I q dec_bl)
    | str j => obtain ⟨t', rfl⟩ := ry; exact PySem.EqMixed.eq_bool_str (fin_bl I q (by simp))
    | _ => exact absurd (show false = true from hs) Bool.false_ne_true
  | int i =>
    obtain ⟨t, rfl⟩ := rx
    cases y with
    | non => cases ry; exact PySem.EqNone.eq_int_none (fin_bl I q (by simp))
    | int j => obtain ⟨t', rfl⟩ := ry; exact eq_int (fin_bl I q dec_int)
    | str j => obtain ⟨t', rfl⟩ := ry; exact PySem.EqMixed.eq_int_str (fin_bl I q (by simp))
    | _ => exact absurd (show false = true from hs) Bool.false_ne_true
  | str i =>
    obtain ⟨t, rfl⟩ := rx
    cases y with
    | non => cases ry; exact PySem.EqNone.eq_str_none (fin_bl I q (by simp))
    | bl j => cases ry; exact PySem.EqMixed.eq_str_bool (fin_bl I q (by simp))
    | int j => obtain ⟨t', rfl⟩ := ry; exact PySem.EqMixed.eq_str_int (fin_bl I q (by simp))
    | str j => obtain ⟨t', rfl⟩ := ry; exact eq_str (fin_bl I q dec_str)
    | _ => exact absurd (show false = true from hs) Bool.false_ne_true
  | byt i =>
    obtain ⟨t, rfl⟩ := rx
    cases y with
    | byt j => obtain ⟨t', rfl⟩ := ry; exact PySem.W.eq_bytes (fin_bl I q dec_byt)
    | _ => exact absurd (show false = true from hs) Bool.false_ne_true
  | _ => cases y <;> exact absurd (show false = true from hs) Bool.false_ne_true
theorem op_ne : OpR X (compareOp .NotEq) rNe := by
  intro pins s σ H x y v u Q I rx ry h
  obtain ⟨hs, q⟩ := h
  cases x with
  | non =>
    cases rx
    cases y with
    | non => cases ry; exact PySem.EqNone.ne_none_none (fin_bl I q (by simp))
    | bl j => cases ry; exact PySem.EqNone.ne_none_bool (fin_bl I q (by simp))
    | int j => obtain ⟨t', rfl⟩ := ry; exact PySem.EqNone.ne_none_int (fin_bl I q (by simp))
    | str j => obtain ⟨t', rfl⟩ := ry; exact PySem.EqNone.ne_none_str (fin_bl I q (by simp))
    | _ => exact absurd (show false = true from hs) Bool.false_ne_true
  | bl i =>
    cases rx
    cases y with
    | non => cases ry; exact PySem.EqNone.ne_bool_none (fin_bl I q (by simp))
    | bl j => cases ry; exact ne_bool (fin_bl I q (congrArg not dec_bl))
    | str j => obtain ⟨t', rfl⟩ := ry; exact PySem.EqMixed.ne_bool_str (fin_bl I q (by simp))
    | _ => exact absurd (show false = true from hs) Bool.false_ne_true
  | int i =>
    obtain ⟨t, rfl⟩ := rx
    cases y with
    | non => cases ry; exact PySem.EqNone.ne_int_none (fin_bl I q (by simp))
    | int j => obtain ⟨t', rfl⟩ := ry; exact ne_int (fin_bl I q (congrArg not dec_int))
    | str j => obtain ⟨t', rfl⟩ := ry; exact PySem.EqMixed.ne_int_str (fin_bl I q (by simp))
    | _ => exact absurd (show false = true from hs) Bool.false_ne_true
  | str i =>
    obtain ⟨t, rfl⟩ := rx
    cases y with
    | non => cases ry; exact PySem.EqNone.ne_str_none (fin_bl I q (by simp))
    | bl j => cases ry; exact PySem.EqMixed.ne_str_bool (fin_bl I q (by simp))
    | int j => obtain ⟨t', rfl⟩ := ry; exact PySem.EqMixed.ne_str_int (fin_bl I q (by simp))
    | str j => obtain ⟨t', rfl⟩ := ry; exact ne_str (fin_bl I q (congrArg not dec_str))
    | _ => exact absurd (show false = true from hs) Bool.false_ne_true
  | byt i =>
    obtain ⟨t, rfl⟩ := rx
    cases y with
    | byt j => obtain ⟨t', rfl⟩ := ry; exact PySem.W.ne_bytes (fin_bl I q (congrArg not dec_byt))
    | _ => exact absurd (show false = true from hs) Bool.false_ne_true
  | _ => cases y <;> exact absurd (show false = true from hs) Bool.false_ne_true

theorem op_lt : OpR X (compareOp .Lt) (rI0 fun i j => .bl (decide (i < j))) := opB0 fun _ _ _ _ _ _ _ q => lt_int q
theorem op_le : OpR X (compareOp .LtE) (rI0 fun i j => .bl (decide (i ≤ j))) := opB0 fun _ _ _ _ _ _ _ q => le_int q
theorem op_gt : OpR X (compareOp .Gt) (rI0 fun i j => .bl (decide (j < i))) := opB0 fun _ _ _ _ _ _ _ q => gt_int q
theorem op_ge : OpR X (compareOp .GtE) (rI0 fun i j => .bl (decide (j ≤ i))) := opB0 fun _ _ _ _ _ _ _ q => ge_int q




theorem nomark (b : Expr) {op : CmpOp} (h : op ≠ .In := by decide) (h2 : op ≠ .NotIn := by decide) : behindInMarks op b = false := by
  have e1 : (op == CmpOp.In) = false := by cases op <;> first | rfl | exact absurd rfl h
  have e2 : (op == CmpOp.NotIn) = false := by cases op <;> first | rfl | exact absurd rfl h2
  cases b <;> simp [behindInMarks, e1, e2]
/-- a comparison as a value; hm: nomark b, or (for in, not in) by with_unfolding_all rfl -/
theorem pe_cmpR {op : CmpOp} {r : R2} (ho : OpR X (compareOp op) r) (ha : PE X a ta) (hb : PE X b tb) (hm : behindInMarks op b = false) : PE X (.Compare a [op] [b] pos) (tOp r ta tb) := by
  intro pins s σ H Q I h
  exact wpAny_Compare1 (binT ha hb I h fun v u s2 x y H2 I2 rx ry q => ho pins s2 σ H2 x y v u Q I2 rx ry q) hm
/-- a reading of a value as a test -/
def tTest (t : TE) : TT := fun σ H Q => t σ H fun x H' => ∃ k, x = .bl k ∧ Q k H'
theorem pt_cmpR {op : CmpOp} {r : R2} (ho : OpR X (compareOp op) r) (ha : PE X a ta) (hb : PE X b tb) (hm : behindInMarks op b = false) : PT X (.Compare a [op] [b] pos) (tTest (tOp r ta tb)) := by
  intro pins s σ H Q I h
  refine wpAny_isTrue_Compare1 (thn (ha pins s σ H _ I h) fun v s1 ⟨x, H1, I1, r1, q1⟩ => thn (hb pins s1 σ H1 _ I1 q1) fun u s2 ⟨y, H2, I2, r2, q2⟩ =>
    thn (ho pins s2 σ H2 x y v u _ I2 r1 r2 q2) fun c s3 ⟨z, H3, I3, r3, k, e, q3⟩ => ?_) hm
  subst e
  cases r3
  exact wpAny_truthy_bool ⟨H3, I3, q3⟩

/-! ### truth -/
theorem line63 : (sizeLine : Nat) < 2 ^ 63 := by rw [sizeLine_eq]; decide

/-! ### strs and bytes -/


/-! ### scalar builtins, by CallR -/
theorem vals1 {x : V} {us : List Value} (r : Vals [x] us) : ∃ u, us = [u] ∧ RelV x u := by
  cases r with
  | cons r1 r2 => cases r2; exact ⟨_, rfl, r1⟩
theorem vals2 {x y : V} {us : List Value} (r : Vals [x, y] us) : ∃ u w', us = [u, w'] ∧ RelV x u ∧ RelV y w' := by
  cases r with
  | cons r1 r2 =>
    cases r2 with
    | cons r3 r4 => cases r4; exact ⟨_, _, rfl, r1, r3⟩
theorem call_abs : CallR X (.builtin "abs") (fun xs H Q => ∃ i, xs = [.int i] ∧ Q (.int (if i < 0 then -i else i)) H) := by
  intro pins s σ H xs us Q I r h
  obtain ⟨i, rfl, q⟩ := h
  obtain ⟨u, rfl, t, rfl⟩ := vals1 r
  exact call_abs_int fun u tk => ⟨.int (if i < 0 then -i else i), H, I.tok _, ⟨_, rfl⟩, q⟩
theorem call_max2 (hc : X.calm = true) : CallR X (.builtin "max") (fun xs H Q => ∃ i j, xs = [.int i, .int j] ∧ Q (.int (if j > i then j else i)) H) := by
  intro pins s σ H xs us Q I r h
  obtain ⟨i, j, rfl, q⟩ := h
  obtain ⟨u, w', rfl, ⟨t, rfl⟩, ⟨t', rfl⟩⟩ := vals2 r
  refine max_two_ints (I.ok.hd hc) fun h' tk k => ⟨_, H, I.kept k, ?_, q⟩
  by_cases hj : j > i
  · rw [if_pos hj, if_pos hj]; exact ⟨_, rfl⟩
  · rw [if_neg hj, if_neg hj]; exact ⟨_, rfl⟩
theorem call_min2 (hc : X.calm = true) : CallR X (.builtin "min") (fun xs H Q => ∃ i j, xs = [.int i, .int j] ∧ Q (.int (if j < i then j else i)) H) := by
  intro pins s σ H xs us Q I r h
  obtain ⟨i, j, rfl, q⟩ := h
  obtain ⟨u, w', rfl, ⟨t, rfl⟩, ⟨t', rfl⟩⟩ := vals2 r
  refine min_two_ints (I.ok.hd hc) fun h' tk k => ⟨_, H, I.kept k, ?_, q⟩
  by_cases hj : j < i
  · rw [if_pos hj, if_pos hj]; exact ⟨_, rfl⟩
  · rw [if_neg hj, if_neg hj]; exact ⟨_, rfl⟩
theorem call_int1 : CallR X (.type "int") (fun xs H Q => (∃ i, xs = [.int i] ∧ Q (.int i) H) ∨ ∃ k, xs = [.bl k] ∧ Q (.int (if k then 1 else 0)) H) := by
  intro pins s σ H xs us Q I r h
  rcases h with ⟨i, rfl, q⟩ | ⟨k, rfl, q⟩
  · obtain ⟨u, rfl, t, rfl⟩ := vals1 r
    exact call_int_int ⟨.int i, H, I, ⟨_, rfl⟩, q⟩
  · obtain ⟨u, rfl, r1⟩ := vals1 r
    cases r1
    exact call_int_bool ⟨.int (if k then 1 else 0), H, I.tok _, ⟨_, rfl⟩, q⟩
end
end L2

namespace L2
open PySem PySem.Spec PyProof.Rows

/-! ### an instance, its attributes a map -/
structure ObjM (h : Heap) (x dx C : Addr) (mA : Str → Option Value) : Prop where
  obj : h.get? x = some (PySem.W.instObj C dx)
  ns : h.Ns1 dx mA
  ne : dx ≠ x

theorem lookIn_ns {h : Heap} {dx : Addr} {mA : Str → Option Value} (n : h.Ns1 dx mA) : ∃ od, h.get? dx = some od ∧ ∀ name, PySem.W.lookIn name od = some (mA name) := by
  obtain ⟨o, es, ep, ho, hd, hk, _, hm⟩ := n
  refine ⟨o, ho, fun name => ?_⟩
  have e := hm name
  unfold nsFind findBy at e
  rw [← Array.find?_toList] at e
  unfold PySem.W.lookIn
  rw [hd]
  dsimp only
  split
  · rename_i y q
    rw [q] at e
    exact congrArg some e
  · rename_i q
    rw [q] at e
    have a : es.toList.any (·.refKey) = false := by
      rw [List.any_eq_false]
      intro y hy
      obtain ⟨z, t, hkey⟩ := hk y (Array.mem_toList_iff.mp hy)
      simp [DictEntry.refKey, hkey]
    have a' : ¬ es.toList.any (·.refKey) = true := by rw [a]; exact Bool.false_ne_true
    rw [if_neg a']
    exact congrArg some e

theorem ObjM.look {h : Heap} {x dx C : Addr} {mA : Str → Option Value} (I : ObjM h x dx C mA) : ∃ od, PySem.W.InstAt h x (PySem.W.instObj C dx) C (some od) ∧ ∀ name, PySem.W.lookIn name od = some (mA name) :=
  let ⟨od, ho, hl⟩ := lookIn_ns I.ns
  ⟨od, ⟨I.obj, rfl, rfl, ho⟩, hl⟩

section
variable {prog : Program} {w : World} {A : Around} {E : Value → Shared → Prop} {s : Shared} {K : PySem.W.Frag} {x dx C f : Addr} {mA : Str → Option Value} {name : Str} {v : Value}





end

/-! ### the attributes as a list of pairs -/


section
variable {P : Program} {w : World} {H H' : Hp} {h h' : Heap} {a C dx : Addr} {fs fs' : List (Str × V)}
theorem ins_get (hok : HOk P w H h) (e : H a = some (.ins C dx fs)) : ∃ mA, ObjM h a dx C mA ∧ (∀ f, RelO (fs.lookup f) (mA f)) ∧ PySem.Within mA (fs.map (·.1)) ∧ fs.length ≤ 1000 ∧ H dx = some (.own a) := by
  obtain ⟨d, z, ne, ob, mA, n, r, q⟩ := (show ObjOk P w H h a (.ins C dx fs) from hok a _ e)
  exact ⟨mA, ⟨ob, n, ne⟩, r, q, z, d⟩
end

/-! ### what of the text a class must have -/
structure Cls (K : PySem.W.Frag) (C : Addr) : Prop where
  pg : PySem.W.plainGet K C Str.empty = true
  hd : PySem.W.hasDictIn K C = true
  po : PySem.W.plainOver K C = true
  sa : PySem.W.findIn K (.ref C) "__setattr__" = some (some (.builtin "object.__setattr__"))
theorem Cls.get {K : PySem.W.Frag} {C : Addr} (c : Cls K C) (f : Str) : PySem.W.plainGet K C f = true := c.pg

section
variable {X : Cx} {pins : List (Addr × Obj)} {σ : St} {H : Hp} {s : Shared} {a C dx : Addr} {fs : List (Str × V)} {f : Str} {v : V} {A : Around} {E : Value → Shared → Prop}






end

/-! ### readings and rules -/

section
variable {X : Cx} {o e value : Expr} {f : Str} {pos pos' tpos : Pos} {ta tv : TE}

end

/-! ### isinstance -/
section
variable {X : Cx} {pins : List (Addr × Obj)} {σ : St} {H : Hp} {s : Shared} {A : Around} {E : Value → Shared → Prop} {Q : Value → Shared → Prop} {c : Value} {b : Bool}
/-- the type of a value, as the fragment's deciders take it; for an instance its class -/
inductive TyOf (K : PySem.W.Frag) (H : Hp) : V → Value → Prop where
  | non : TyOf K H .non (.type "NoneType")
  | bl (x : Bool) : TyOf K H (.bl x) (.type "bool")
  | int (i : Int) : TyOf K H (.int i) (.type "int")
  | str (x : Str) : TyOf K H (.str x) (.type "str")
  | flt (x : UInt64) : TyOf K H (.flt x) (.type "float")
  | lst {a : Addr} {xs : List V} (e : H a = some (.lst xs)) : TyOf K H (.ref a) (.type "list")
  | frz {a : Addr} {o : Obj} {xs : List V} (e : H a = some (.frz o (.lst xs))) : TyOf K H (.ref a) (.type "list")
  | tup {a : Addr} {xs : List V} (e : H a = some (.tup xs)) : TyOf K H (.ref a) (.type "tuple")
  | dK {a : Addr} {kvs : List (Key × V)} (e : H a = some (.dK kvs)) : TyOf K H (.ref a) (.type "dict")
  | dT {a : Addr} {kvs : List (List Key × V)} (e : H a = some (.dT kvs)) : TyOf K H (.ref a) (.type "dict")
  | ins {a C dx : Addr} {fs : List (Str × V)} (e : H a = some (.ins C dx fs)) (cl : Cls K C) (ha : PySem.W.findIn K (.ref C) "__class__" = some (some (.builtin "object.__class__")))
      (hn : PySem.W.specialIn K (.builtin "object.__class__") "__get__" = some (some (.builtin "getset_descriptor.__get__"))) (htk : PySem.W.takesIn K (.builtin "object.__class__") = some true)
      (hm : PySem.W.mroIn K C (.type "object") = some true) : TyOf K H (.ref a) (.ref C)
/-- isinstance(x, c) for one class c, a built-in or an own one: kitOne's answer -/
theorem isinst_ok {x : V} {u t : Value} (I : Inv X pins σ H s) (rx : RelV x u) (ty : TyOf X.K H x t) (e : PySem.W.kitOne X.K t c = some b) (h : ∀ tk, Q (.bool b) { s with toks := tk }) :
    wpAny (model X.prog X.w) A (call (.builtin "isinstance") [u, c]) Q E s := by
  cases ty with
  | non => cases (show u = Value.none from rx); exact PySem.W.kia_one PySem.W.kitx_none I.kIn True.intro e (fun z => nomatch z) h
  | bl y => cases (show u = Value.bool y from rx); exact PySem.W.kia_one PySem.W.kitx_bool I.kIn True.intro e (fun z => nomatch z) h
  | int i => obtain ⟨t, q⟩ := (show ∃ t, u = Value.int i t from rx); cases q; exact PySem.W.kia_one PySem.W.kitx_int I.kIn True.intro e (fun z => nomatch z) h
  | str y => obtain ⟨t, q⟩ := (show ∃ t, u = Value.str y t from rx); cases q; exact PySem.W.kia_one PySem.W.kitx_str I.kIn True.intro e (fun z => nomatch z) h
  | flt y => obtain ⟨t, q⟩ := (show ∃ t, u = Value.float y t from rx); cases q; exact PySem.W.kia_one PySem.W.kitx_float I.kIn True.intro e (fun z => nomatch z) h
  | @lst a xs ea =>
    cases (show u = Value.ref a from rx)
    obtain ⟨_, _, n, _, h1⟩ := (show ObjOk X.prog X.w H s.heap a (.lst xs) from I.hok a _ ea)
    exact PySem.W.kia_one PySem.W.kitx_list I.kIn ⟨_, h1, rfl⟩ e (fun z => nomatch z) h
  | @frz a ob xs ea =>
    cases (show u = Value.ref a from rx)
    obtain ⟨_, _, _, n, _, h1⟩ := (show ObjOk X.prog X.w H s.heap a (.frz ob (.lst xs)) from I.hok a _ ea)
    exact PySem.W.kia_one PySem.W.kitx_list I.kIn ⟨_, h1, rfl⟩ e (fun z => nomatch z) h
  | @tup a xs ea =>
    cases (show u = Value.ref a from rx)
    obtain ⟨_, _, _, p⟩ := (show ObjOk X.prog X.w H s.heap a (.tup xs) from I.hok a _ ea)
    obtain ⟨o, h1, h2, _⟩ := p
    exact PySem.W.kia_one PySem.W.kitx_tuple I.kIn ⟨o, h1, h2⟩ e (fun z => nomatch z) h
  | @dK a kvs ea =>
    cases (show u = Value.ref a from rx)
    obtain ⟨_, _, vs, _, p⟩ := (show ObjOk X.prog X.w H s.heap a (.dK kvs) from I.hok a _ ea)
    obtain ⟨o, es, ep, h1, h2, _⟩ := p
    exact PySem.W.kia_one PySem.W.kitx_dict I.kIn ⟨o, h1, h2.1⟩ e (fun z => nomatch z) h
  | @dT a kvs ea =>
    cases (show u = Value.ref a from rx)
    obtain ⟨_, _, xs, _, o, es, ep, h1, h2, _⟩ := (show ObjOk X.prog X.w H s.heap a (.dT kvs) from I.hok a _ ea)
    exact PySem.W.kia_one PySem.W.kitx_dict I.kIn ⟨o, h1, h2.1⟩ e (fun z => nomatch z) h
  | @ins a C dx fs ea cl ha hn htk hm =>
    cases (show u = Value.ref a from rx)
    obtain ⟨mA, O, _⟩ := ins_get I.hok ea
    obtain ⟨od, J, _⟩ := O.look
    exact PySem.W.kia_one (PySem.W.kitx_own (cl.get _) cl.hd ha hn htk hm) I.kIn J e (fun z => nomatch z) h
end
end L2

namespace L2
open PySem PySem.Spec PyProof.Rows

/-! ### room -/
structure Room (k : Nat) (A : Around) : Prop where
  hd : A.handled = none
  dp : A.depth + 3 * k + 5 < recursionLimit
  un : A.units + 16 * k + 200 < cLine
theorem Room.mono {j k : Nat} {A : Around} (r : Room k A) (h : j ≤ k) : Room j A := ⟨r.hd, by have := r.dp; omega, by have := r.un; omega⟩
theorem Room.deeper {k : Nat} {A : Around} (r : Room (k + 1) A) (env : Env) : Room k (A.deeper env) :=
  ⟨r.hd, by have := r.dp; show A.depth + 1 + 3 * k + 5 < _; omega, by have := r.un; show A.units + 3 + 16 * k + 200 < _; omega⟩
theorem Room.depth {k : Nat} {A : Around} (r : Room k A) : A.depth < recursionLimit := by have := r.dp; omega
theorem Room.units {k : Nat} {A : Around} (r : Room k A) : A.units + 64 < cLine := by have := r.un; omega

/-! ### argument lists and displays -/
def tNil : TA := fun _ H Q => Q [] H
def tCons (ta : TE) (tr : TA) : TA := fun σ H Q => ta σ H fun x H1 => tr σ H1 fun xs H2 => Q (x :: xs) H2
section
variable {X : Cx} {e : Expr} {es : List Expr} {te : TE} {t : TA} {pos : Pos}
theorem pa_nil : PA X [] tNil := fun _ _ _ _ H Q I h => Calls.spliced_nil ⟨[], H, I, .nil, h⟩
theorem pa_cons (ha : PE X e te) (hr : PA X es t) (hs : starEach (e :: es) X.env = (false, eval e X.env) :: starEach es X.env := by rfl) : PA X (e :: es) (tCons te t) := by
  intro pos pins s σ H Q I h
  rw [hs]
  show wpAny _ _ (spliced ((false, eval e X.env) :: backTo pos (starEach es X.env))) _ _ s
  refine Calls.spliced_cons (thn (ha pins s σ H _ I h) fun u s1 ⟨x, H1, I1, r1, q1⟩ => ?_)
  exact thn (hr pos pins s1 σ H1 _ I1 q1) fun us s2 ⟨xs, H2, I2, r2, q2⟩ => ⟨x :: xs, H2, I2, .cons r1 r2, q2⟩

/-- a tuple, a list of written items -/
def tTup (t : TA) : TE := fun σ H Q => t σ H fun xs H1 => xs.length ≤ sizeLine ∧ ∀ p, H1 p = none → Q (.ref p) (upd H1 p (.tup xs))
def tLst (t : TA) : TE := fun σ H Q => t σ H fun xs H1 => xs.length ≤ sizeLine ∧ ∀ p, H1 p = none → Q (.ref p) (upd H1 p (.lst xs))
theorem pe_tup {x1} (h : PA X es t) : PE X (.Tuple es x1 pos) (tTup t) := by
  intro pins s σ H Q I hq
  refine wpAny_Tuple_spliced (thn (h pos pins s σ H _ I hq) fun us s1 ⟨xs, H1, I1, r, z, q⟩ => ⟨by rw [← r.length]; exact z, ?_⟩)
  have hf : H1 s1.heap.objs.size = none := I1.hok.fresh (Nat.le_refl _)
  refine ⟨.ref s1.heap.objs.size, upd H1 s1.heap.objs.size (.tup xs), I1.laid (t' := s1.toks) (fun b u e => Heap.get?_push_of_some _ e) (Nat.le_refl _) ?_, rfl, q _ hf⟩
  exact ⟨z, us, r, ⟨_, Heap.get?_push_size _ rfl, rfl, _, rfl⟩⟩
theorem pe_lst (h : PA X es t) : PE X (.List es pos) (tLst t) := by
  intro pins s σ H Q I hq
  refine wpAny_List_spliced (thn (h pos pins s σ H _ I hq) fun us s1 ⟨xs, H1, I1, r, z, q⟩ => ⟨by rw [← r.length]; exact z, ?_⟩)
  have hf : H1 s1.heap.objs.size = none := I1.hok.fresh (Nat.le_refl _)
  refine ⟨.ref s1.heap.objs.size, upd H1 s1.heap.objs.size (.lst xs), I1.laid (t' := s1.toks) (fun b u e => Heap.get?_push_of_some _ e) (Nat.le_refl _) ?_, rfl, q _ hf⟩
  exact ⟨z, us, 0, r, Heap.get?_push_size _ rfl⟩
end

/-! ### what a def promises -/
/-- a def's promise: the bound arguments in the parameters' order, the heap, the wanted end, the wanted exception -/
abbrev Sp := List V → Hp → VK → XK → Prop
/-- how an exception lies behind a call (file 08 gives it): the callers' frames, abstract heap and state ahead of the call, the wish, the exception, the state -/
abbrev CXT := List Env → Hp → Shared → XK → Value → Shared → Prop

/-- the state at a call -/
structure Env0 (P : Program) (w : World) (K : PySem.W.Frag) (mg : Str → Option Value) (base : Heap) (A : Around) (outer : List Env) (s : Shared) (H : Hp) : Prop where
  frames : A.frames = some outer
  mod : Mod K mg base
  bs : ∀ b o, base.get? b = some o → s.heap.get? b = some o ∧ H b = none
  bsz : base.objs.size ≤ s.heap.objs.size
  funs : s.heap.FunFrames base outer
  frf : ∀ b ∈ frs outer, H b = none
  hok : HOk P w H s.heap
  bare : AllBare s.gens
/-- a call's end -/
def CE (outer : List Env) (P : Program) (w : World) (H : Hp) (s : Shared) (Q : VK) (u : Value) (s' : Shared) : Prop :=
  ∃ v H', s'.os = s.os ∧ AllBare s'.gens ∧ Un (frs outer) [] H H' s.heap s'.heap ∧ HOk P w H' s'.heap ∧ RelV v u ∧ Q v H'
def CR (CX : CXT) (outer : List Env) (P : Program) (w : World) (H : Hp) (s : Shared) (Q : VK) (E : XK) (r : Result) (s' : Shared) : Prop :=
  match r with
  | .ok (.ret u) => CE outer P w H s Q u s'
  | .ok _ => False
  | .error e => CX outer H s E e s'
structure FnOk (P : Program) (w : World) (K : PySem.W.Frag) (mg : Str → Option Value) (base : Heap) (CX : CXT) (k : Nat) (f : Addr) (fd : FuncData) (ps : List Str) (sp : Sp) : Prop where
  len : ∀ vs H Q E, sp vs H Q E → vs.length = ps.length
  run : ∀ (A : Around) (outer : List Env) (s : Shared) (H : Hp) (args : Args) (us : List Value) (vs : List V) (Q : VK) (E : XK), Room k A → Env0 P w K mg base A outer s H → BindsTo s fd args (ps.zip us) → Vals vs us → sp vs H Q E →
    codeAny (model P w) A (.call (.ref f) args) (CR CX outer P w H s Q E) s


section
variable {X : Cx} {pins : List (Addr × Obj)} {σ : St} {H : Hp} {s s' : Shared}
/-- from a body: what a callee wants -/
theorem Inv.env0 (I : Inv X pins σ H s) : Env0 X.prog X.w X.K X.mg X.base X.A X.stack s H :=
  ⟨I.ok.frames, I.ok.mod, I.bs, Nat.le_trans I.ok.bsz I.sz, I.stack, I.stkFree, I.hok, I.bare⟩
/-- behind a call -/
theorem Inv.after {Q : VK} {u : Value} (I : Inv X pins σ H s) (h : CE X.stack X.prog X.w H s Q u s') : EP X pins σ Q u s' := by
  obtain ⟨v, H', os, bare, un, hok, r, q⟩ := h
  obtain ⟨hh, g, d, t, os'⟩ := s'
  obtain rfl : os' = s.os := os
  exact ⟨v, H', I.call (h' := hh) (g' := g) (d' := d) (t' := t) (ch := []) un hok bare (fun b z => absurd z (by simp)), r, q⟩
end

/-! ### calls -/
/-- f(..): the written arguments, then the defaults dvs; E: what is wanted of an exception -/
def tCall (sp : Sp) (dvs : List V) (E : XK) (t : TA) : TE := fun σ H Q => t σ H fun vs H1 => sp (vs ++ dvs) H1 Q E

/-- how the parameters are bound: us the positional arguments, kw the keywords' values by name, ds the defaults that fill up -/
def Binds (K : PySem.W.Frag) (fd : FuncData) (ps : List Str) (ds : List Value) : Prop :=
  ∀ (s : Shared) (us : List Value), K.In s.heap → (us ++ ds).length = ps.length → BindsTo s fd ⟨us, []⟩ (ps.zip (us ++ ds))
/-- every parameter is given -/
theorem Binds.all {K : PySem.W.Frag} {fd : FuncData} {ps : List Str} (h : ∀ us : List Value, us.length = ps.length → bindArgs fd ⟨us, []⟩ = pure (ps.zip us)) : Binds K fd ps [] := fun s us _ hl => by
  rw [List.append_nil] at hl ⊢
  exact .of_eq (h us hl)

/-- an exception of a callee reaches what this body wants of exceptions -/
def Passes (CX : CXT) (X : Cx) (E : XK) : Prop := ∀ (pins : List (Addr × Obj)) (σ : St) (H : Hp) (s : Shared) (e : Value) (s' : Shared), Inv X pins σ H s → CX X.stack H s E e s' → X.xe e s'

section
variable {X : Cx} {CX : CXT} {k : Nat} {f C : Addr} {fd : FuncData} {ps : List Str} {sp : Sp} {dvs : List V} {ds : List Value} {E : XK} {x m : Str} {p pos apos : Pos} {e o : Expr} {es : List Expr} {ta : TE} {t : TA}

/-- the callee runs -/
theorem run_fn {pins : List (Addr × Obj)} {σ : St} {H : Hp} {s : Shared} {Q : VK} {us : List Value} {vs : List V} (F : FnOk X.prog X.w X.K X.mg X.base CX k f fd ps sp) (hr : Room k X.A) (hb : Binds X.K fd ps ds) (hd : Vals dvs ds) (hx : Passes CX X E)
    (I : Inv X pins σ H s) (r : Vals vs us) (h : sp (vs ++ dvs) H Q E) : wpAny (model X.prog X.w) X.A (call (.ref f) us) (EP X pins σ Q) X.xe s := by
  have r2 : Vals (vs ++ dvs) (us ++ ds) := r.append hd
  have hl : (us ++ ds).length = ps.length := by rw [← r2.length]; exact F.len _ _ _ _ h
  refine wpAny_call (codeAny_mono (F.run X.A X.stack s H ⟨us, []⟩ (us ++ ds) (vs ++ dvs) Q E hr I.env0 (hb s us I.kIn hl) r2 h) fun r s' hq => ?_)
  cases r with
  | error e => exact hx pins σ H s e s' I hq
  | ok fl =>
    cases fl with
    | ret u => exact I.after hq
    | next => exact False.elim hq
    | brk => exact False.elim hq
    | cont => exact False.elim hq

theorem pe_call (F : FnOk X.prog X.w X.K X.mg X.base CX k f fd ps sp) (hr : Room k X.A) (hg : Gl X x) (hm : X.mg x = some (.ref f)) (hk : PySem.W.keepIn X.K (.ref f) = true) (hb : Binds X.K fd ps ds) (hd : Vals dvs ds) (hx : Passes CX X E)
    (ha : PA X (e :: es) t) (hdb : (x == ("__debug__" : Str)) = false := by decide) (he : starEach (e :: es) X.env = (false, eval e X.env) :: starEach es X.env := by rfl) (hpl : (backTo pos (starEach es X.env)).any (·.1) = false := by rfl) :
    PE X (.Call (.Name x p) (e :: es) [] pos) (tCall sp dvs E t) := by
  intro pins s σ H Q I h
  refine wpAny_Call_Name_kw (ld_glob I hg hm ?_ hdb)
  refine PySem.W.callWith_K (h₀ := X.base) I.ok.mod.kin hk (thn (ha pos pins s σ H _ I h) fun us s1 ⟨vs, H1, I1, r, q⟩ => ⟨I1.kIn, ?_⟩) he hpl
  exact run_fn F hr hb hd hx I1 r q



end

/-! ### keywords -/
section
variable {X : Cx} {CX : CXT} {k : Nat} {f C : Addr} {fd : FuncData} {ps ks : List Str} {sp : Sp} {E : XK} {x m : Str} {p pos apos kpos : Pos} {e o : Expr} {es : List Expr} {kws : List Keyword} {te ta : TE} {t tk : TA} {nm : Option Str}

variable {g : List Value → List Value → List Value} {gV : List V → List V → List V}
end

/-! ### a def's body keeps its promise -/
/-- names: the parameters first -/
structure FnScope (N P : List Str) (sc : Scope) : Prop where
  kind : sc.kind = .function
  co : sc.isCoroutine = false
  gen : sc.isGenerator = false
  nd : N.Nodup
  pre : N.take P.length = P
  par : ∀ x ∈ P, sc.names.lookup x = some .local ∨ sc.names.lookup x = some .cell
  nofree : ∀ y ∈ sc.names, y.2 ≠ .free

theorem bindL_out {kindOf : Str → Option NameKind} {x : Str} : ∀ {binds : List (Str × Value)} {m : Str → Option Value}, (∀ v, (x, v) ∉ binds) → bindL kindOf binds m x = m x
  | [], _, _ => rfl
  | (n, v) :: r, m, h => by
    unfold bindL
    rw [bindL_out fun w hw => h w (List.mem_cons_of_mem _ hw)]
    split
    · have : x ≠ n := by rintro rfl; exact h v List.mem_cons_self
      simp [this]
    · rfl
theorem bindC_out {kindOf : Str → Option NameKind} {x : Str} : ∀ {binds : List (Str × Value)} {m : Str → Option Value}, (∀ v, (x, v) ∉ binds) → bindC kindOf binds m x = m x
  | [], _, _ => rfl
  | (n, v) :: r, m, h => by
    unfold bindC
    rw [bindC_out fun w hw => h w (List.mem_cons_of_mem _ hw)]
    split
    · rfl
    · have : x ≠ n := by rintro rfl; exact h v List.mem_cons_self
      simp [this]
theorem bindL_get {kindOf : Str → Option NameKind} {x : Str} {v : Value} : ∀ {P : List Str} {vs : List Value} {i : Nat} {m : Str → Option Value}, P.Nodup → P[i]? = some x → vs[i]? = some v → kindOf x = some .local →
    bindL kindOf (P.zip vs) m x = some v
  | [], _, _, _, _, h, _, _ => by simp at h
  | _ :: _, [], _, _, _, _, h, _ => by simp at h
  | p :: P, w :: vs, 0, m, nd, h1, h2, hk => by
    simp at h1 h2; subst h1; subst h2
    show bindL kindOf ((p, w) :: P.zip vs) m p = _
    unfold bindL
    rw [bindL_out fun v hv => (List.nodup_cons.mp nd).1 (List.of_mem_zip hv).1, if_pos hk]
    simp
  | p :: P, w :: vs, i + 1, m, nd, h1, h2, hk => by
    show bindL kindOf ((p, w) :: P.zip vs) m x = _
    unfold bindL
    exact bindL_get (i := i) (List.nodup_cons.mp nd).2 (by simpa using h1) (by simpa using h2) hk
theorem bindC_get {kindOf : Str → Option NameKind} {x : Str} {v : Value} : ∀ {P : List Str} {vs : List Value} {i : Nat} {m : Str → Option Value}, P.Nodup → P[i]? = some x → vs[i]? = some v → kindOf x ≠ some .local →
    bindC kindOf (P.zip vs) m x = some v
  | [], _, _, _, _, h, _, _ => by simp at h
  | _ :: _, [], _, _, _, _, h, _ => by simp at h
  | p :: P, w :: vs, 0, m, nd, h1, h2, hk => by
    simp at h1 h2; subst h1; subst h2
    show bindC kindOf ((p, w) :: P.zip vs) m p = _
    unfold bindC
    rw [bindC_out fun v hv => (List.nodup_cons.mp nd).1 (List.of_mem_zip hv).1, if_neg hk]
    simp
  | p :: P, w :: vs, i + 1, m, nd, h1, h2, hk => by
    show bindC kindOf ((p, w) :: P.zip vs) m x = _
    unfold bindC
    exact bindC_get (i := i) (List.nodup_cons.mp nd).2 (by simpa using h1) (by simpa using h2) hk

/-- the names' values at the entry -/
def start (N : List Str) (vs : List V) : St := vs.map some ++ List.replicate (N.length - vs.length) none

/-- the context of a def's body, at its entry; an exception leaves the frame, then lies as CX says -/
def cxOf (CX : CXT) (P : Program) (w : World) (K : PySem.W.Frag) (mg : Str → Option Value) (base : Heap) (N : List Str) (qual : Str) (scope : Scope) (f : Addr) (cd : Value) (A : Around) (outer : List Env) (s : Shared) (H : Hp) (E : XK) : Cx where
  prog := P
  w := w
  K := K
  mg := mg
  base := base
  A := A.deeper (envOfC qual scope s.heap.objs.size f cd)
  N := N
  s₀ := s
  H₀ := H
  env := envOfC qual scope s.heap.objs.size f cd
  outer := outer
  stack := envOfC qual scope s.heap.objs.size f cd :: outer
  ex := []
  calm := true
  fn := fun _ => true
  pn := []
  xe := fun e s' => wpAny (model P w) (A.deeper (envOfC qual scope s.heap.objs.size f cd)) (leaving (envOfC qual scope s.heap.objs.size f cd) e) (fun _ s'' => CX outer H s E e s'') (fun e' s'' => CX outer H s E e' s'') s'

theorem cell_has {sc : Scope} {n : Nat} {x : Str} (h : sc.names.lookup x = some .cell) : ∃ c, (cellsFrom n sc.names []).lookup x = some c := by
  have q := PySem.W.cellsFrom_some sc.names n [] (.inl h)
  exact Option.isSome_iff_exists.mp q

theorem inv_start {CX : CXT} {P : Program} {w : World} {K : PySem.W.Frag} {mg : Str → Option Value} {base : Heap} {N ps : List Str} {qual : Str} {scope : Scope} {f : Addr} {cd : Value} {A : Around} {outer : List Env} {s s1 : Shared} {H : Hp} {E : XK} {us : List Value} {vs : List V}
    (S : FnScope N ps scope) (hd : A.handled = none) (e0 : Env0 P w K mg base A outer s H) (hl : vs.length = ps.length) (r : Vals vs us)
    (x : InCallC s s.heap.objs.size (bindL (envOfC qual scope s.heap.objs.size f cd).kindOf (ps.zip us) fun _ => none) (cellsFrom (s.heap.objs.size + 1) scope.names []) (bindC (envOfC qual scope s.heap.objs.size f cd).kindOf (ps.zip us) fun _ => none) s1) :
    Inv (cxOf CX P w K mg base N qual scope f cd A outer s H E) [] (start N vs) H s1 := by
  have hpl : ps.length ≤ N.length := by have := congrArg List.length S.pre; rw [List.length_take] at this; omega
  obtain ⟨h1, tk, rfl, hk⟩ := x.done
  have noA : ∀ b : Addr, b ∉ (cxOf CX P w K mg base N qual scope f cd A outer s H E).ex := fun b z => absurd (show b ∈ ([] : List Addr) from z) (by simp)
  refine ⟨⟨e0.mod, S.kind, rfl, rfl, Nat.le_refl _, fun y z c h1 h2 => ?_, fun y hy => ?_, fun y c _ h => ?_, fun _ => hd, Around.frames_deeper e0.frames, .inr ⟨rfl, rfl⟩, fun b z => absurd z (noA b), e0.bs, e0.bsz, fun b _ _ => noA b, fun b z => absurd z (noA b), e0.funs, e0.frf⟩,
    rfl, e0.bare, Un.kept hk, ⟨_, x.toInCall.ns, fun i y v h1 h2 h3 => ?_⟩, fun y c h => ⟨_, x.cell y c h⟩, e0.hok.fresh (Nat.le_refl _), fun y c h => ?_, fun p hp => absurd (show p ∈ ([] : List (Addr × Obj)) from hp) (by simp), e0.hok.kept hk, ?_⟩
  · exact name_of_addr x.apart (PySem.mem_of_lookup h1) (PySem.mem_of_lookup h2)
  · have hy : scope.names.lookup y = some .cell ∨ scope.names.lookup y = some .free := hy
    rcases hy with hy | hy
    · exact cell_has hy
    · exact absurd rfl (S.nofree _ (PySem.mem_of_lookup hy))
  · exact Nat.le_of_lt (x.above y c (PySem.mem_of_lookup h))
  · have hi : i < vs.length := by
      unfold start at h2
      by_cases hi : i < vs.length
      · exact hi
      · rw [List.getElem?_append_right (by simpa using hi)] at h2
        rw [List.getElem?_replicate] at h2
        split at h2 <;> cases h2
    have ha : vs[i]? = some v := by
      unfold start at h2
      rw [List.getElem?_append_left (by simpa using hi), List.getElem?_map] at h2
      cases e : vs[i]? with
      | none => rw [e] at h2; cases h2
      | some a => rw [e] at h2; cases h2; rfl
    obtain ⟨u, hu, rv⟩ := r.get ha
    have hp : ps[i]? = some y := by
      rw [← S.pre, List.getElem?_take_of_lt (by omega)]; exact h1
    have ndP : ps.Nodup := by rw [← S.pre]; exact S.nd.sublist (List.take_sublist _ _)
    refine ⟨u, rv, ?_⟩
    rcases S.par y (List.mem_of_getElem? hp) with k | k
    · exact .inl ⟨k, bindL_get ndP hp hu k⟩
    · obtain ⟨c, e⟩ := cell_has (n := s.heap.objs.size + 1) k
      refine .inr ⟨.inl k, c, e, ?_⟩
      have q := x.cell y c e
      rw [bindC_get ndP hp hu (by show scope.names.lookup y ≠ _; rw [k]; decide)] at q
      exact q
  · exact e0.hok.fresh (Nat.le_of_lt (x.above y c (PySem.mem_of_lookup h)))
  · unfold start
    show _ = N.length
    rw [List.length_append, List.length_map, List.length_replicate]
    omega

/-- THE RULE: a def (or a method) of the text, by its body. The body's reading t is chosen for each entry; it is run at the parameters' values -/
theorem fn_of {CX : CXT} {P : Program} {w : World} {K : PySem.W.Frag} {mg : Str → Option Value} {base : Heap} {k : Nat} {f : Addr} {name qual : Str} {params : Arguments} {body : List Stmt} {scope : Scope} {dV kV doc pm cdv ct oc : Value} {an od : Option Addr}
    {osl : Array (Option Value)} {N ps : List Str} {sp : Sp} (lk : K.lookup f = some ⟨oc, od, .func (PySem.W.fnOf name qual params body scope dV kV doc pm an cdv ct), osl⟩) (hcd : PySem.W.codeIn K cdv qual = true) (S : FnScope N ps scope)
    (len : ∀ vs H Q E, sp vs H Q E → vs.length = ps.length)
    (hbody : ∀ (A : Around) (outer : List Env) (s : Shared) (H : Hp) (vs : List V) (Q : VK) (E : XK), Room k (A.deeper (envOfC qual scope s.heap.objs.size f cdv)) → sp vs H Q E →
      ∃ t, PSs (cxOf CX P w K mg base N qual scope f cdv A outer s H E) body t ∧ t { nx := fun _ H' => Q .non H', rt := Q } (start N vs) H) :
    FnOk P w K mg base CX (k + 1) f (PySem.W.fnOf name qual params body scope dV kV doc pm an cdv ct) ps sp := by
  refine ⟨len, fun A outer s H args us vs Q E hr e0 hb r hsp => ?_⟩
  have hl := len _ _ _ _ hsp
  have KX : K.In s.heap := e0.mod.kin.keeps fun b o e => (e0.bs b o e).1
  have lim : s.heap.NoLimit := e0.mod.nolimit.keeps fun b o e => (e0.bs b o e).1
  have hkind : ∀ y ∈ ps.zip us, scope.names.lookup y.1 = some .local ∨ (scope.names.lookup y.1 = some .cell ∧ ((cellsFrom (s.heap.objs.size + 1) scope.names []).lookup y.1).isSome = true) := fun ⟨n, v⟩ hy => by
    rcases S.par n (List.of_mem_zip hy).1 with q | q
    · exact .inl q
    · exact .inr ⟨q, PySem.W.cellsFrom_some _ _ _ (.inl q)⟩
  refine codeAny_call_function hr.depth (KX _ _ lk) rfl S.co S.gen rfl (PySem.W.codeRec_of KX hcd) (hb _ _ _ _ ?_)
  refine wpAny_newFunctionEnv_cells S.kind hkind fun env he s1 x => ?_
  subst he
  refine ⟨lim.keeps x.toInCall.keep, codeAny_func ?_⟩
  obtain ⟨t, ht, hq⟩ := hbody A outer s H vs Q E (hr.deeper _) hsp
  have I : Inv (cxOf CX P w K mg base N qual scope f cdv A outer s H E) [] (start N vs) H s1 := inv_start S hr.hd e0 hl r x
  refine wpAny_mono (ht [] s1 (start N vs) H _ I hq) (fun fl s' hs => ?_) fun e s' hs => hs
  have fin : ∀ {σ' : St} {H' : Hp} {v : V} {u : Value}, Inv (cxOf CX P w K mg base N qual scope f cdv A outer s H E) [] σ' H' s' → RelV v u → Q v H' → CE outer P w H s Q u s' :=
    fun {σ' H' v u} J rv q => ⟨v, H', J.os, J.bare, J.base, J.hok, rv, q⟩
  cases fl with
  | ret u =>
    obtain ⟨v, σ', H', J, rv, q⟩ := hs
    exact fin J rv q
  | next =>
    obtain ⟨σ', H', J, q⟩ := hs
    exact fin (v := V.non) (u := Value.none) J rfl q
  | brk =>
    obtain ⟨_, _, _, q⟩ := hs
    exact False.elim q
  | cont =>
    obtain ⟨_, _, _, q⟩ := hs
    exact False.elim q
end L2

namespace L2
open PySem PySem.Spec PyProof.Rows
section
variable {X : Cx} {x : Str} {p pos : Pos} {e : Expr} {es : List Expr} {t : TA} {id T : String} {r : List V → Hp → VK → Prop}

def tCB (r : List V → Hp → VK → Prop) (t : TA) : TE := fun σ H Q => t σ H fun vs H1 => r vs H1 Q
/-- f(e, ..), f a built-in function -/
theorem pe_callB (hc : CallR X (.builtin id) r) (hg : Gl X x) (hm : X.mg x = none) (hv : bootBuiltins x = some (.builtin id)) (ha : PA X (e :: es) t) (hn : x ≠ "__name__" := by decide) (hdb : (x == ("__debug__" : Str)) = false := by decide)
    (he : starEach (e :: es) X.env = (false, eval e X.env) :: starEach es X.env := by rfl) (hpl : (backTo pos (starEach es X.env)).any (·.1) = false := by rfl) : PE X (.Call (.Name x p) (e :: es) [] pos) (tCB r t) := by
  intro pins s σ H Q I h
  refine wpAny_Call_Name_kw (ld_blt I hg hm hv ?_ hn hdb)
  exact PyProof.Rows.callWith_builtin1 (thn (ha pos pins s σ H _ I h) fun us s1 ⟨vs, H1, I1, r1, q1⟩ => hc pins s1 σ H1 vs us Q I1 r1 q1) he hpl
/-- T(e, ..), T a built-in type -/
theorem pe_callTy (hc : CallR X (.type T) r) (hg : Gl X x) (hm : X.mg x = none) (hv : bootBuiltins x = some (.type T)) (ha : PA X (e :: es) t) (hn : x ≠ "__name__" := by decide) (hdb : (x == ("__debug__" : Str)) = false := by decide)
    (he : starEach (e :: es) X.env = (false, eval e X.env) :: starEach es X.env := by rfl) (hpl : (backTo pos (starEach es X.env)).any (·.1) = false := by rfl) : PE X (.Call (.Name x p) (e :: es) [] pos) (tCB r t) := by
  intro pins s σ H Q I h
  refine wpAny_Call_Name_kw (ld_blt I hg hm hv ?_ hn hdb)
  exact PyProof.Rows.callWith_type1 (thn (ha pos pins s σ H _ I h) fun us s1 ⟨vs, H1, I1, r1, q1⟩ => hc pins s1 σ H1 vs us Q I1 r1 q1) he hpl
end
end L2

set_option Elab.async false
set_option linter.all false
set_option maxRecDepth 100000
namespace L2
open PySem PySem.Spec PyProof.Rows

/-! ### lists of pairs as tables -/
section
variable {κ : Type} [DecidableEq κ]



end


/-! ### a tracked dict, its keys ints and texts or tuples of these -/


section
variable {P : Program} {w : World} {H : Hp} {h : Heap} {a : Addr}
end



section
variable {X : Cx} {pins : List (Addr × Obj)} {σ : St} {H : Hp} {s : Shared} {a : Addr} {y v : V} {u r : Value} {o : Option V} {A : Around} {E : Value → Shared → Prop}


end

section
variable {X : Cx} {pins : List (Addr × Obj)} {σ : St} {H : Hp} {s : Shared} {a : Addr} {kvs : List (Key × V)} {k : Key} {u : Value} {A : Around} {E : Value → Shared → Prop}
end


/-! ### readings and rules -/



section
variable {X : Cx} {o i e value : Expr} {pos pos' tpos : Pos} {td ty tv : TE}
end


/-! ### displays -/
section
variable {X : Cx} {pos : Pos}
end




/-! ### methods -/


section
variable {X : Cx} {pins : List (Addr × Obj)} {σ : St} {H : Hp} {s : Shared} {a : Addr} {y d : V} {u r : Value} {o : Option V} {A : Around} {E : Value → Shared → Prop}
end

section
variable {X : Cx} {o e f : Expr} {apos cpos : Pos} {td ty tx : TE}
end

/-! ### dict(d): a copy -/
section
variable {X : Cx} {pins : List (Addr × Obj)} {σ : St} {H : Hp} {s : Shared} {a : Addr} {kvs : List (Key × V)} {A : Around} {E : Value → Shared → Prop}
end


section
variable {X : Cx} {pins : List (Addr × Obj)} {σ : St} {H : Hp} {s : Shared} {a : Addr} {y : V} {u : Value} {A : Around} {E : Value → Shared → Prop}
end
end L2

namespace HT
open PySem PyProof.Rows



section
open PySem.SeqAt
open PySem.AutoSeq1 (wpAny_loadPart')
open PySem.MeetsSeq PySem.MeetsSeq2 PySem.MeetsSeq3

end

section
variable {prog : Program} {w : World} {A : Around} {E : Value → Shared → Prop} {s : Shared}



/-! ### t[a:b], not the whole -/
/-- a slice's bound as a place among n (d where it is left out) -/
def sIx (n d : Nat) : Option Int → Nat
  | none => d
  | some v => if v < 0 then (v + (n : Int)).toNat else min v.toNat n
theorem sIx_nat (n d k : Nat) : sIx n d (some (k : Int)) = min k n := by
  show (if (k : Int) < 0 then ((k : Int) + (n : Int)).toNat else min (k : Int).toNat n) = min k n
  rw [if_neg (by omega), Int.toNat_natCast]
theorem sIx_le (n d : Nat) (hd : d ≤ n) (o : Option Int) : sIx n d o ≤ n := by
  cases o with
  | none => exact hd
  | some v =>
    show (if v < 0 then (v + (n : Int)).toNat else min v.toNat n) ≤ n
    by_cases hv : v < 0
    · rw [if_pos hv]; omega
    · rw [if_neg hv]; exact Nat.min_le_right _ _
theorem clip_eq (v : Int) (n d : Nat) : (if v < 0 then max (v + (n : Int)) 0 else min v (n : Int)) = ((sIx n d (some v) : Nat) : Int) := by
  show (if v < 0 then max (v + (n : Int)) 0 else min v (n : Int)) = (((if v < 0 then (v + (n : Int)).toNat else min v.toNat n) : Nat) : Int)
  by_cases hv : v < 0
  · simp only [if_pos hv]; omega
  · simp only [if_neg hv]; omega
theorem adjust_gen (lo hi : Option Int) (n : Nat) : Builtin.Slice.sliceAdjust lo hi 1 (n : Int) = (((sIx n 0 lo : Nat) : Int), ((sIx n n hi : Nat) : Int)) := by
  have h1 : ¬ ((1 : Int) < 0) := by omega
  unfold Builtin.Slice.sliceAdjust
  simp only [h1, if_false]
  refine Prod.ext ?_ ?_
  · cases lo with
    | none => rfl
    | some v => exact clip_eq v n 0
  · cases hi with
    | none => rfl
    | some v => exact clip_eq v n n
theorem places_gen (i j : Nat) : Builtin.Slice.slicePlaces (i : Int) (j : Int) 1 = j - i := by
  unfold Builtin.Slice.slicePlaces
  have h1 : (1 : Int) > 0 := by omega
  simp only [h1, if_true, Int.ediv_one]
  split <;> omega
theorem slicePart_ {v : Value} {o : Option Int} {Q : Option Int → Shared → Prop} (p : IsPart v o) (h : Q o s) : wpAny (model prog w) A (Builtin.Slice.slicePartIndex v) Q E s := by
  cases p with
  | none => exact slicePart_none h
  | int i t => exact slicePart_int h
theorem sliceApplied_gen {sl : Addr} {vl vu : Value} {lo hi : Option Int} {n : Nat} {Q : Int × Int × Nat → Shared → Prop} (hs : s.heap.IsSliceOf sl vl vu .none) (pl : IsPart vl lo) (pu : IsPart vu hi)
    (h : Q (((sIx n 0 lo : Nat) : Int), 1, sIx n n hi - sIx n 0 lo) s) : wpAny (model prog w) A (Builtin.Slice.sliceApplied (.ref sl) (pure (n : Int))) Q E s := by
  obtain ⟨os, hos, hcs, hds⟩ := id hs
  unfold Builtin.Slice.sliceApplied Builtin.Slice.sliceFields
  refine wpAny_bind (wpAny_bind (wpAny_field hos hds (x := vl) rfl (wpAny_bind (wpAny_field hos hds (x := vu) rfl (wpAny_bind (wpAny_field hos hds (x := .none) rfl (wpAny_pure ?_)))))))
  refine wpAny_bind (slicePart_none ?_)
  show wpAny _ _ (if ((1 : Int) == 0) = true then _ else _) _ _ s
  rw [if_neg (by decide)]
  refine wpAny_bind (slicePart_ pl (wpAny_bind (slicePart_ pu (wpAny_bind (wpAny_pure ?_)))))
  show wpAny _ _ (match Builtin.Slice.sliceAdjust lo hi 1 (n : Int) with | (lo, hi) => pure (lo, (1 : Int), Builtin.Slice.slicePlaces lo hi 1)) _ _ s
  rw [adjust_gen lo hi n]
  show wpAny _ _ (pure (((sIx n 0 lo : Nat) : Int), (1 : Int), Builtin.Slice.slicePlaces ((sIx n 0 lo : Nat) : Int) ((sIx n n hi : Nat) : Int) 1)) _ _ s
  rw [places_gen]
  exact wpAny_pure h
theorem pick_gen (xs : Array Value) (i k : Nat) : ((List.range k).filterMap fun (m : Nat) => xs[((i : Int) + (m : Int) * 1).toNat]?).toArray = ((xs.toList.drop i).take k).toArray := by
  have e : (fun (m : Nat) => xs[((i : Int) + (m : Int) * 1).toNat]?) = fun m => xs[i + m]? := by
    funext m
    have : ((i : Int) + (m : Int) * 1).toNat = i + m := by omega
    rw [this]
  rw [e]
  have := pick_run xs i k
  rw [List.filterMap_map] at this
  have e2 : ((fun x => xs[x]?) ∘ fun x => i + x) = fun m => xs[i + m]? := rfl
  rw [e2] at this
  rw [this]

theorem getItem_tuple_cut {t sl : Addr} {items : Array Value} {vl vu : Value} {lo hi : Option Int} {Q : Value → Shared → Prop} (ht : IsTup s.heap t items) (hs : s.heap.IsSliceOf sl vl vu .none) (pl : IsPart vl lo) (pu : IsPart vu hi)
    (hw : ¬ (sIx items.size 0 lo = 0 ∧ sIx items.size items.size hi = items.size))
    (h : Q (.ref s.heap.objs.size) { s with heap := s.heap.push { cls := .type "tuple", data := .seq ((items.toList.drop (sIx items.size 0 lo)).take (sIx items.size items.size hi - sIx items.size 0 lo)).toArray } })
    (hsz : items.size ≤ sizeLine) : wpAny (model prog w) A (getItem (.ref t) (.ref sl)) Q E s := by
  have htake : sizeOk (.seq ((items.toList.drop (sIx items.size 0 lo)).take (sIx items.size items.size hi - sIx items.size 0 lo)).toArray) := by
    show ((items.toList.drop (sIx items.size 0 lo)).take (sIx items.size items.size hi - sIx items.size 0 lo)).toArray.size ≤ sizeLine
    rw [List.size_toArray, List.length_take, List.length_drop, Array.length_toList]
    omega
  have hj : sIx items.size items.size hi ≤ items.size := sIx_le _ _ (Nat.le_refl _) hi
  obtain ⟨os, hos, hcs, hds⟩ := id hs
  have hTs : s.TypeIs (.ref sl) "slice" := ⟨os, hos, hcs⟩
  unfold getItem
  try with_reducible refine wpAny_holding ?_
  first | refine wpAny_bind (wpAny_pure ?_) | skip
  refine wpAny_bind (wpAny_sequenceKey ht.typeIs (by decide) ?_)
  refine wpAny_bind (wpAny_callSpecial?_slot (name := Str.ofString "__getitem__") ht.typeIs PyProof.Rows.slot_tuple_getitem
    (wpAny_call_entry PyProof.Rows.slot_tuple_getitem ht.typeIs entry_tuple_getitem ?_ (args_tuple_getitem _ _)))
  show wpAny _ _ (Builtin.Tuple.tupleItemsOf (.ref t) >>= _) _ _ s
  refine wpAny_bind (tupleItemsOf_ ht ?_)
  refine wpAny_bind (wpAny_typeOf hTs ?_)
  rw [if_pos (by decide)]
  refine wpAny_bind (sliceApplied_gen hs pl pu ?_)
  have hno : ¬ ((((sIx items.size 0 lo : Nat) : Int) == 0 && (1 : Int) == 1 && (sIx items.size items.size hi - sIx items.size 0 lo) == items.size) = true) := by
    intro q
    rw [Bool.and_eq_true, Bool.and_eq_true] at q
    have q1 : ((sIx items.size 0 lo : Nat) : Int) = 0 := eq_of_beq q.1.1
    have q2 : sIx items.size items.size hi - sIx items.size 0 lo = items.size := eq_of_beq q.2
    exact hw ⟨by omega, by omega⟩
  show wpAny _ _ (if (((sIx items.size 0 lo : Nat) : Int) == 0 && (1 : Int) == 1 && (sIx items.size items.size hi - sIx items.size 0 lo) == items.size) = true then _ else _) _ _ s
  rw [if_neg hno, pick_gen]
  first
    | exact wpAny_bind (m := Builtin.Tuple.tupleExact _) (wpAny_newObj_type (wpAny_pure ⟨_, rfl, wpAny_pure h⟩) htake)
    | exact wpAny_bind (m := Builtin.Tuple.tupleExact _) (wpAny_newObj_type (wpAny_bind (wpAny_pure (wpAny_pure ⟨_, rfl, wpAny_pure h⟩))) htake)
    | exact wpAny_bind (wpAny_bind (m := Builtin.Tuple.tupleExact _) (wpAny_newObj_type (wpAny_pure (wpAny_pure ⟨_, rfl, wpAny_pure h⟩)) htake))
    | exact wpAny_bind (wpAny_bind (m := Builtin.Tuple.tupleExact _) (wpAny_newObj_type (wpAny_pure ⟨_, rfl, wpAny_pure h⟩) htake))
end
end HT

namespace L2
open PySem PySem.Spec PyProof.Rows

/-! ### the parts of a slice -/
abbrev TO := St → Hp → (Option Int → Hp → Prop) → Prop
/-- a slice's part (left out, or an int) -/
def PO (X : Cx) (e : Option Expr) (t : TO) : Prop :=
  ∀ (pins : List (Addr × Obj)) (s : Shared) (σ : St) (H : Hp) (Q : Option Int → Hp → Prop), Inv X pins σ H s → t σ H Q →
    wpAny (model X.prog X.w) X.A (evalPart e X.env) (fun u s' => ∃ o H', Inv X pins σ H' s' ∧ IsPart u o ∧ Q o H') X.xe s
def tNoPart : TO := fun _ H Q => Q none H
def tPart (t : TE) : TO := fun σ H Q => t σ H fun x H1 => ∃ i, x = .int i ∧ Q (some i) H1


section
variable {X : Cx} {e : Expr} {te : TE} {lo hi : Option Expr} {tl th : TO} {pos p2 : Pos}

theorem po_none : PO X none tNoPart := by
  intro pins s σ H Q I h
  rw [evalPart_none]
  exact wpAny_pure ⟨none, H, I, .none, h⟩
theorem po_some (h : PE X e te) : PO X (some e) (tPart te) := by
  intro pins s σ H Q I hw
  rw [evalPart_some]
  refine thn (h pins s σ H _ I hw) fun u s1 ⟨x, H1, I1, r1, q1⟩ => ?_
  obtain ⟨i, rfl, q⟩ := q1
  obtain ⟨t, rfl⟩ := r1
  exact ⟨some i, H1, I1, .int i t, q⟩

/-- what a slice of a value is, by values: the slice object stands at sl -/
def SlR (X : Cx) (r : V → Option Int → Option Int → Hp → VK → Prop) : Prop :=
  ∀ (pins : List (Addr × Obj)) (s : Shared) (σ : St) (H : Hp) (x : V) (v vl vu : Value) (lo hi : Option Int) (sl : Addr) (Q : VK), Inv X pins σ H s → RelV x v → s.heap.IsSliceOf sl vl vu .none → IsPart vl lo → IsPart vu hi → r x lo hi H Q →
    ∃ T id, typeLookup (.type T) "__getitem__" = pure (some (.builtin id)) ∧ s.TypeIs v T ∧ wpAny (model X.prog X.w) X.A (getItem v (.ref sl)) (EP X pins σ Q) X.xe s
def tSl (r : V → Option Int → Option Int → Hp → VK → Prop) (te : TE) (tl th : TO) : TE := fun σ H Q => te σ H fun x H1 => tl σ H1 fun l H2 => th σ H2 fun u H3 => r x l u H3 Q
/-- a[lo:hi], any a -/
theorem pe_slice {r : V → Option Int → Option Int → Hp → VK → Prop} (hr : SlR X r) (he : PE X e te) (hl : PO X lo tl) (hu : PO X hi th) : PE X (.Subscript e (.Slice lo hi none p2) pos) (tSl r te tl th) := by
  intro pins s σ H Q I h
  refine Subscript_ (thn (he pins s σ H _ I h) fun v s1 ⟨x, H1, I1, r1, q1⟩ => ?_)
  refine wpAny_Slice (thn (hl pins s1 σ H1 _ I1 q1) fun vl s2 ⟨l, H2, I2, pl, q2⟩ => thn (hu pins s2 σ H2 _ I2 q2) fun vu s3 ⟨u, H3, I3, pu, q3⟩ => ?_)
  rw [evalPart_none]
  refine wpAny_pure ?_
  have I4 : Inv X pins σ H3 { s3 with heap := s3.heap.push { cls := .type "slice", data := .fields #[vl, vu, .none] } } := I3.kept (t' := s3.toks) fun b ob q => Heap.get?_push_of_some _ q
  obtain ⟨T, id, hT, ht, hg⟩ := hr pins { s3 with heap := s3.heap.push { cls := .type "slice", data := .fields #[vl, vu, .none] } } σ H3 x v vl vu l u s3.heap.objs.size Q I4 r1 (Heap.IsSliceOf.new ..) pl pu q3
  show wpAny (model X.prog X.w) X.A (subscriptTail e (.Slice lo hi none p2) v (.ref s3.heap.objs.size)) (EP X pins σ Q) X.xe { s3 with heap := s3.heap.push { cls := .type "slice", data := .fields #[vl, vu, .none] } }
  exact tail_any (ops := [.ref s3.heap.objs.size, v]) ht hT hg (by with_unfolding_all rfl)

/-- the items of xs[lo:hi] -/
def cutV (xs : List V) (lo hi : Option Int) : List V := (xs.drop (HT.sIx xs.length 0 lo)).take (HT.sIx xs.length xs.length hi - HT.sIx xs.length 0 lo)
theorem cutV_length (xs : List V) (lo hi : Option Int) : (cutV xs lo hi).length ≤ xs.length := by
  unfold cutV
  rw [List.length_take, List.length_drop]
  omega
/-- t[lo:hi], not the whole of it (the whole would be t itself) -/
def rSlT (K : PySem.W.Frag) : V → Option Int → Option Int → Hp → VK → Prop := fun x lo hi H Q => ∃ a xs, x = .ref a ∧ SqT K H a xs ∧
  ¬ (HT.sIx xs.length 0 lo = 0 ∧ HT.sIx xs.length xs.length hi = xs.length) ∧ ∀ p, H p = none → Q (.ref p) (upd H p (.tup (cutV xs lo hi)))
theorem sl_tup : SlR X (rSlT X.K) := by
  intro pins s σ H x v vl vu lo hi sl Q I rx hs pl pu h
  obtain ⟨a, xs, rfl, hx, hw, q⟩ := h
  cases rx
  obtain ⟨its, r, ht, hz⟩ := I.tuple hx
  have hlen : its.toArray.size = xs.length := by rw [List.size_toArray]; exact r.length.symm
  refine ⟨"tuple", _, PyProof.Rows.slot_tuple_getitem.lookup, ht.typeIs, ?_⟩
  refine HT.getItem_tuple_cut ht hs pl pu (by rw [hlen]; exact hw) ?_ (by rw [hlen]; exact hz)
  rw [hlen]
  refine ⟨.ref s.heap.objs.size, _, I.laid (t' := s.toks) (o := .tup (cutV xs lo hi)) (fun b ob q => Heap.get?_push_of_some _ q) (Nat.le_refl _) ?_, rfl, q _ (I.hok.fresh (Nat.le_refl _))⟩
  exact ⟨Nat.le_trans (cutV_length xs lo hi) hz, _, (r.drop (HT.sIx xs.length 0 lo)).take (HT.sIx xs.length xs.length hi - HT.sIx xs.length 0 lo), IsTup.new _ _⟩

/-! ### t < u, t + u -/
end
end L2

namespace L2
open PySem PySem.Spec PyProof.Rows

/-! ### places -/
/-- the place that an index of any sign means -/
def ixN (n : Nat) (i : Int) : Option Nat := if 0 ≤ i then (if i < n then some i.toNat else none) else if -(n : Int) ≤ i then some (i + n).toNat else none
def atI {α : Type} (xs : List α) (i : Int) : Option α := (ixN xs.length i).bind fun j => xs[j]?
theorem ixN_seq {n : Nat} {i : Int} {j : Nat} (h : ixN n i = some j) : seqIndex? i n = some j ∧ j < n ∧ -(n : Int) ≤ i ∧ i < n := by
  unfold ixN at h
  by_cases h0 : 0 ≤ i
  · rw [if_pos h0] at h
    by_cases h1 : i < n
    · rw [if_pos h1] at h
      have e : i.toNat = j := Option.some.inj h
      exact ⟨by rw [seqIndex_of h0 h1, e], by omega, by omega, h1⟩
    · rw [if_neg h1] at h; cases h
  · rw [if_neg h0] at h
    by_cases h1 : -(n : Int) ≤ i
    · rw [if_pos h1] at h
      have e : (i + n).toNat = j := Option.some.inj h
      exact ⟨by rw [seqIndex_neg (by omega) h1, e], by omega, h1, by omega⟩
    · rw [if_neg h1] at h; cases h
theorem atI_get {α : Type} {xs : List α} {i : Int} {v : α} (h : atI xs i = some v) : ∃ j, seqIndex? i xs.length = some j ∧ xs[j]? = some v ∧ j < xs.length ∧ -(xs.length : Int) ≤ i ∧ i < xs.length := by
  unfold atI at h
  cases e : ixN xs.length i with
  | none => rw [e] at h; cases h
  | some j =>
    rw [e] at h
    obtain ⟨h1, h2, h3, h4⟩ := ixN_seq e
    exact ⟨j, h1, h, h2, h3, h4⟩
theorem atI_nat {α : Type} {xs : List α} {j : Nat} {v : α} (h : xs[j]? = some v) : atI xs (j : Int) = some v := by
  have hj : j < xs.length := (List.getElem?_eq_some_iff.mp h).1
  have e : ixN xs.length (j : Int) = some j := by
    unfold ixN
    rw [if_pos (by omega), if_pos (by omega)]; simp
  unfold atI; rw [e]; exact h
theorem atI_last {α : Type} (xs : List α) (v : α) : atI (xs ++ [v]) (-1) = some v := by
  have hl : (xs ++ [v]).length = xs.length + 1 := by simp
  have e : ixN (xs ++ [v]).length (-1) = some xs.length := by
    unfold ixN
    rw [hl, if_neg (by decide), if_pos (by omega)]
    congr 1
    omega
  unfold atI
  rw [e]
  show (xs ++ [v])[xs.length]? = some v
  simp

/-! ### what may be subscripted -/
/-- what stands as an index of a plain subscript -/
def PlainIx (b : Expr) : Prop := ∀ o i, subscripted b false o i = operate [o, i] (getItem o i)
/-- a subscript by values -/
def IxR (X : Cx) (r : R2) : Prop :=
  ∀ (value slice : Expr) (pins : List (Addr × Obj)) (s : Shared) (σ : St) (H : Hp) (x y : V) (v u : Value) (Q : VK), Inv X pins σ H s → RelV x v → RelV y u → r x y H Q →
    subscripted slice false v u = operate [v, u] (getItem v u) → wpAny (model X.prog X.w) X.A (subscriptTail value slice v u) (EP X pins σ Q) X.xe s
/-- a call of a builtin's method by values: the receiver, the arguments -/
def MtR (X : Cx) (id : String) (r : V → List V → Hp → VK → Prop) : Prop :=
  ∀ (pins : List (Addr × Obj)) (s : Shared) (σ : St) (H : Hp) (x : V) (xs : List V) (v : Value) (us : List Value) (Q : VK), Inv X pins σ H s → RelV x v → Vals xs us → r x xs H Q →
    wpAny (model X.prog X.w) X.A (call (.builtin id) (v :: us)) (EP X pins σ Q) X.xe s
section
variable {X : Cx} {a b : Expr} {ta tb : TE} {pos : Pos}
theorem IxR.or {r r' : R2} (h : IxR X r) (h' : IxR X r') : IxR X (fun x y H Q => r x y H Q ∨ r' x y H Q) := by
  intro value slice pins s σ H x y v u Q I rx ry q hs
  rcases q with q | q
  · exact h value slice pins s σ H x y v u Q I rx ry q hs
  · exact h' value slice pins s σ H x y v u Q I rx ry q hs
/-- a[b] -/
theorem pe_ix {r : R2} (hr : IxR X r) (ha : PE X a ta) (hb : PE X b tb) (hs : PlainIx b) : PE X (.Subscript a b pos) (tOp r ta tb) := by
  intro pins s σ H Q I h
  exact Subscript_ (binT ha hb I h fun v u s2 x y H2 I2 rx ry q => hr a b pins s2 σ H2 x y v u Q I2 rx ry q (hs _ _))

def rIxL (K : PySem.W.Frag) : R2 := fun x y H Q => ∃ p xs i v, x = .ref p ∧ y = .int i ∧ SqL K H p xs ∧ atI xs i = some v ∧ Q v H
def rIxT (K : PySem.W.Frag) : R2 := fun x y H Q => ∃ p xs i v, x = .ref p ∧ y = .int i ∧ SqT K H p xs ∧ atI xs i = some v ∧ Q v H
def rIxS : R2 := fun x y H Q => ∃ z i c, x = .str z ∧ y = .int i ∧ z.length ≤ sizeLine ∧ atI z.cps.toList i = some c ∧ Q (.str ⟨#[c]⟩) H
theorem ix_list : IxR X (rIxL X.K) := by
  intro value slice pins s σ H x y v u Q I rx ry h hs
  obtain ⟨p, xs, i, z, rfl, rfl, hq, he, q⟩ := h
  cases rx
  obtain ⟨t, rfl⟩ := ry
  obtain ⟨its, r, pl, hz⟩ := I.list hq
  obtain ⟨j, h1, h2, h3, h4, h5⟩ := atI_get he
  obtain ⟨w, ew, rw'⟩ := r.get h2
  have hl := r.length
  have hn := line63
  have fin : EP X pins σ Q w s := ⟨z, H, I, rw', q⟩
  by_cases h0 : 0 ≤ i
  · have hj : i.toNat = j := by
      rw [seqIndex_of h0 h5] at h1
      exact Option.some.inj h1
    exact item_listR pl.isList h0 (by omega) (by rw [hj]; simpa using ew) fin hs
  · have hj : (i + (its.toArray.size : Int)).toNat = j := by
      rw [seqIndex_neg (by omega) h4] at h1
      rw [List.size_toArray, ← hl]
      exact Option.some.inj h1
    exact subscriptTail_builtinR (x := w) pl.isList.typeIs slot_list_getitem.lookup
      (wpAny_getItem_list_neg (Q := fun r s' => r = w ∧ EP X pins σ Q r s') pl.isList (by omega) (by rw [List.size_toArray] <;> omega) (by omega) (by rw [hj]; simpa using ew) ⟨rfl, fin⟩) hs
theorem ix_tup : IxR X (rIxT X.K) := by
  intro value slice pins s σ H x y v u Q I rx ry h hs
  obtain ⟨p, xs, i, z, rfl, rfl, hq, he, q⟩ := h
  cases rx
  obtain ⟨t, rfl⟩ := ry
  obtain ⟨its, r, pl, hz⟩ := I.tuple hq
  obtain ⟨j, h1, h2, h3, h4, h5⟩ := atI_get he
  obtain ⟨w, ew, rw'⟩ := r.get h2
  have hl := r.length
  have hn := line63
  have fin : EP X pins σ Q w s := ⟨z, H, I, rw', q⟩
  exact subscriptTail_builtinR (x := w) pl.typeIs slot_tuple_getitem.lookup
    (getItem_tuple (j := j) (Q := fun r s' => r = w ∧ EP X pins σ Q r s') pl (by omega) (by omega) (by rw [List.size_toArray, ← hl]; exact h1) (by simpa using ew) ⟨rfl, fin⟩) hs
theorem ix_str : IxR X rIxS := by
  intro value slice pins s σ H x y v u Q I rx ry h hs
  obtain ⟨z, i, c, rfl, rfl, hz, he, q⟩ := h
  obtain ⟨t, rfl⟩ := rx
  obtain ⟨t', rfl⟩ := ry
  obtain ⟨j, h1, h2, h3, h4, h5⟩ := atI_get he
  have hl : z.cps.toList.length = z.length := by simp [Str.length]
  rw [hl] at h1 h4 h5
  have hn := line63
  exact tail_any (typeIs_str s z t) slot_str_getitem.lookup (getItem_str (c := c) (by
    have e1 : decide (i < -(2 ^ 63 : Int)) = false := decide_eq_false (by omega)
    have e2 : decide (i ≥ 2 ^ 63) = false := decide_eq_false (by omega)
    rw [e1, e2, Bool.or_false]) (by rw [h1]; simpa using h2) ⟨.str ⟨#[c]⟩, H, I.tok _, ⟨_, rfl⟩, q⟩) hs
/-- list, tuple or str -/
def rIx (K : PySem.W.Frag) : R2 := fun x y H Q => rIxL K x y H Q ∨ rIxT K x y H Q ∨ rIxS x y H Q
theorem ix_seq : IxR X (rIx X.K) := ix_list.or (ix_tup.or ix_str)

/-! ### xs[i] = v, any sign -/
/-- the list's object behind a store -/
theorem mapSeq_set (its : List Value) (n j : Nat) (u : Value) : Obj.mapSeq (·.setIfInBounds j u) { cls := .type "list", data := .seq its.toArray n } = { cls := .type "list", data := .seq (its.set j u).toArray n } := by
  simp [Obj.mapSeq]
theorem Inv.lst {pins : List (Addr × Obj)} {σ : St} {H : Hp} {s : Shared} {p : Addr} {xs : List V} (I : Inv X pins σ H s) (h : H p = some (.lst xs)) :
    ∃ (its : List Value) (n : Nat), Vals xs its ∧ s.heap.get? p = some { cls := .type "list", data := .seq its.toArray n } ∧ xs.length ≤ sizeLine := by
  obtain ⟨z, its, n, r, e⟩ := I.hok p _ h
  exact ⟨its, n, r, e, z⟩
/-- the list at p is written by an update of its object -/
theorem Inv.lstUpd {pins : List (Addr × Obj)} {σ : St} {H : Hp} {s : Shared} {p : Addr} {xs ys : List V} {its its' : List Value} {n n' : Nat} {f : Obj → Obj} (I : Inv X pins σ H s) (h : H p = some (.lst xs))
    (ho : s.heap.get? p = some { cls := .type "list", data := .seq its.toArray n }) (hf : f { cls := .type "list", data := .seq its.toArray n } = { cls := .type "list", data := .seq its'.toArray n' }) (r : Vals ys its') (hz : ys.length ≤ sizeLine) (t : Nat) :
    Inv X pins σ (upd H p (.lst ys)) { s with heap := s.heap.update p f, toks := t } := by
  have e : (s.heap.update p f).get? p = some { cls := .type "list", data := .seq its'.toArray n' } := by
    rw [Heap.get?_update_self f ho (by rw [hf] <;> rfl), hf]
  refine I.write (x := p) (e := p) (by rw [h]; trivial) (.inl rfl) (fun b u hb q => (Heap.get?_update_other _ _ (Ne.symm hb)).trans q) ⟨_, e⟩ ?_
  exact ⟨hz, its', n', r, e⟩
def rSetL : V → V → V → Hp → (Hp → Prop) → Prop := fun o i v H Q => ∃ p xs k j, o = .ref p ∧ i = .int k ∧ H p = some (.lst xs) ∧ ixN xs.length k = some j ∧ Q (upd H p (.lst (xs.set j v)))
theorem set_list : PSet X rSetL := by
  intro pins s σ H o i v ov iv u Q I ro ri rv h
  obtain ⟨p, xs, k, j, rfl, rfl, hp, hj, q⟩ := h
  cases ro
  obtain ⟨t, rfl⟩ := ri
  obtain ⟨its, n, r, ho, hz⟩ := I.lst hp
  obtain ⟨h1, h2, h3, h4⟩ := ixN_seq hj
  have hl := r.length
  have hn := line63
  have I' : Inv X pins σ (upd H p (.lst (xs.set j v))) { s with heap := s.heap.update p (Obj.mapSeq (·.setIfInBounds j u)) } :=
    I.lstUpd hp ho (mapSeq_set its n j u) (r.set rv j) (by rw [List.length_set]; exact hz) s.toks
  by_cases h0 : 0 ≤ k
  · have hk : k.toNat = j := by
      rw [seqIndex_of h0 h4] at h1
      exact Option.some.inj h1
    exact PySem.W.ki_setAt ho h0 (by omega) (by rw [List.size_toArray, ← hl]; exact h4) (by rw [hk]; exact ⟨_, I', q⟩)
  · have hk : (k + (its.toArray.size : Int)).toNat = j := by
      rw [seqIndex_neg (by omega) h3] at h1
      rw [List.size_toArray, ← hl]
      exact Option.some.inj h1
    exact PySem.W.ki_setBack ho (by omega) (by rw [List.size_toArray, ← hl]; exact h3) (by omega) (by rw [hk]; exact ⟨_, I', q⟩)

/-! ### slices -/
theorem slice_bounds (lo hi : Option Int) (n : Nat) : (sliceBounds lo hi none n).1 = ((HT.sIx n 0 lo : Nat) : Int) ∧ (sliceBounds lo hi none n).2.1 = ((HT.sIx n n hi : Nat) : Int) ∧ (sliceBounds lo hi none n).2.2 = 1 := by
  refine ⟨?_, ?_, rfl⟩
  · cases lo with
    | none => simp [sliceBounds, HT.sIx]
    | some i =>
      simp only [sliceBounds, HT.sIx, Option.getD_none, show (1 : Int) > 0 by decide, if_true]
      by_cases h : i < 0
      · simp only [h, if_true] <;> omega
      · simp only [h, if_false] <;> omega
  · cases hi with
    | none => simp [sliceBounds, HT.sIx]
    | some i =>
      simp only [sliceBounds, HT.sIx, Option.getD_none, show (1 : Int) > 0 by decide, if_true]
      by_cases h : i < 0
      · simp only [h, if_true] <;> omega
      · simp only [h, if_false] <;> omega
theorem slicePick_cut (its : List Value) (lo hi : Option Int) : slicePick its.toArray lo hi none = ((its.drop (HT.sIx its.length 0 lo)).take (HT.sIx its.length its.length hi - HT.sIx its.length 0 lo)).toArray := by
  obtain ⟨h1, h2, h3⟩ := slice_bounds lo hi its.toArray.size
  unfold slicePick
  rw [h1, h2, h3]
  simp only [sliceRange_one, pick_run, List.size_toArray] <;> rfl
/-- xs[lo:hi] of a list: a new list -/
def rSlL (K : PySem.W.Frag) : V → Option Int → Option Int → Hp → VK → Prop := fun x lo hi H Q => ∃ a xs, x = .ref a ∧ SqL K H a xs ∧ ∀ p, H p = none → Q (.ref p) (upd H p (.lst (cutV xs lo hi)))
theorem sl_list : SlR X (rSlL X.K) := by
  intro pins s σ H x v vl vu lo hi sl Q I rx hs pl pu h
  obtain ⟨a, xs, rfl, hx, q⟩ := h
  cases rx
  obtain ⟨its, r, ht, hz⟩ := I.list hx
  have hlen := r.length
  refine ⟨"list", _, slot_list_getitem.lookup, ht.isList.typeIs, ?_⟩
  refine wpAny_getItem_list_slice ht.isList hs pl pu .none (by simp) ?_ (by rw [List.size_toArray] <;> omega)
  rw [slicePick_cut, ← hlen]
  refine ⟨.ref s.heap.objs.size, _, I.laid (t' := s.toks) (o := .lst (cutV xs lo hi)) (fun b ob q => Heap.get?_push_of_some _ q) (Nat.le_refl _) ?_, rfl, q _ (I.hok.fresh (Nat.le_refl _))⟩
  exact ⟨Nat.le_trans (cutV_length xs lo hi) hz, _, 0, (r.drop (HT.sIx xs.length 0 lo)).take (HT.sIx xs.length xs.length hi - HT.sIx xs.length 0 lo), Heap.get?_push_size _ rfl⟩

/-! ### in, not in: flat items -/
def flatV : V → Bool
  | .non => true
  | .bl _ => true
  | .int _ => true
  | .str _ => true
  | _ => false
/-- == of flat values -/
def eqV : V → V → Bool
  | .non, .non => true
  | .bl a, .bl b => a == b
  | .bl a, .int b => (if a then 1 else 0) == b
  | .int a, .bl b => a == (if b then 1 else 0)
  | .int a, .int b => a == b
  | .str a, .str b => a == b
  | _, _ => false
theorem eqAt_V {A : Around} {s : Shared} {y x : V} {u v : Value} (ry : RelV y u) (rx : RelV x v) (fy : flatV y = true) (fx : flatV x = true) : SeqAt.EqAt A s u v (eqV y x) := by
  cases y with
  | non =>
    cases ry
    cases x with
    | non => cases rx; exact SeqAt.EqAt.same _
    | bl b => cases rx; exact SeqAt.EqAt.none_bool b
    | int b => obtain ⟨t, rfl⟩ := rx; exact SeqAt.EqAt.none_int b t
    | str b => obtain ⟨t, rfl⟩ := rx; exact SeqAt.EqAt.none_str b t
    | _ => exact absurd (show false = true from fx) Bool.false_ne_true
  | bl a =>
    cases ry
    cases x with
    | non => cases rx; exact SeqAt.EqAt.bool_none a
    | bl b => cases rx; exact SeqAt.EqAt.bool_bool a b
    | int b => obtain ⟨t, rfl⟩ := rx; exact SeqAt.EqAt.bool_int a b t
    | str b => obtain ⟨t, rfl⟩ := rx; exact SeqAt.EqAt.bool_str a b t
    | _ => exact absurd (show false = true from fx) Bool.false_ne_true
  | int a =>
    obtain ⟨t', rfl⟩ := ry
    cases x with
    | non => cases rx; exact SeqAt.EqAt.int_none a t'
    | bl b => cases rx; exact SeqAt.EqAt.int_bool a t' b
    | int b => obtain ⟨t, rfl⟩ := rx; exact SeqAt.EqAt.int_int a t' b t
    | str b => obtain ⟨t, rfl⟩ := rx; exact SeqAt.EqAt.int_str a t' b t
    | _ => exact absurd (show false = true from fx) Bool.false_ne_true
  | str a =>
    obtain ⟨t', rfl⟩ := ry
    cases x with
    | non => cases rx; exact SeqAt.EqAt.str_none a t'
    | bl b => cases rx; exact SeqAt.EqAt.str_bool a t' b
    | int b => obtain ⟨t, rfl⟩ := rx; exact SeqAt.EqAt.str_int a t' b t
    | str b => obtain ⟨t, rfl⟩ := rx; exact SeqAt.EqAt.str_str a t' b t
    | _ => exact absurd (show false = true from fx) Bool.false_ne_true
  | _ => exact absurd (show false = true from fy) Bool.false_ne_true
/-- the items' answers, read off the values (a value's own answer does not lean on its token) -/
def eqU (x : V) (u : Value) : Bool := match u with
  | .none => eqV .non x
  | .bool b => eqV (.bl b) x
  | .int i _ => eqV (.int i) x
  | .str z _ => eqV (.str z) x
  | _ => false
theorem eqU_of {x y : V} {u : Value} (r : RelV y u) (f : flatV y = true) : eqU x u = eqV y x := by
  cases y with
  | non => cases r; rfl
  | bl b => cases r; rfl
  | int i => obtain ⟨t, rfl⟩ := r; rfl
  | str z => obtain ⟨t, rfl⟩ := r; rfl
  | _ => exact absurd (show false = true from f) Bool.false_ne_true
theorem any_eqU {x : V} : ∀ {xs : List V} {us : List Value}, Vals xs us → xs.all flatV = true → us.any (eqU x) = xs.any fun y => eqV y x
  | _, _, .nil, _ => rfl
  | y :: xs, u :: us, .cons r t, f => by
    rw [List.all_cons, Bool.and_eq_true] at f
    rw [List.any_cons, List.any_cons, eqU_of r f.1, any_eqU t f.2]
theorem mem_eqAt {A : Around} {s : Shared} {x : V} {v : Value} (rx : RelV x v) (fx : flatV x = true) : ∀ {xs : List V} {us : List Value}, Vals xs us → xs.all flatV = true → ∀ u ∈ us, SeqAt.EqAt A s u v (eqU x u)
  | _, _, .nil, _ => fun u hu => by cases hu
  | y :: xs, u :: us, .cons r t, f => fun u' hu => by
    rw [List.all_cons, Bool.and_eq_true] at f
    rcases List.mem_cons.mp hu with rfl | hu
    · rw [eqU_of r f.1]; exact eqAt_V r rx f.1 fx
    · exact mem_eqAt rx fx t f.2 u' hu
def inV (x : V) (xs : List V) : Bool := xs.any fun y => eqV y x
/-- x in a list or tuple of flat items -/
def rIn (K : PySem.W.Frag) (neg : Bool) : R2 := fun x y H Q => ∃ p xs, y = .ref p ∧ (SqL K H p xs ∨ SqT K H p xs) ∧ flatV x = true ∧ xs.all flatV = true ∧ Q (.bl (if neg then !inV x xs else inV x xs)) H
theorem op_notIn_seq : OpR X (compareOp .NotIn) (rIn X.K true) := by
  intro pins s σ H x y v u Q I rx ry h
  obtain ⟨p, xs, rfl, hq, fx, fs, q⟩ := h
  cases ry
  rcases hq with hq | hq
  · obtain ⟨its, r, pl, hz⟩ := I.list hq
    refine SeqAt.notIn_listAt (eqU x) pl.isList (fun w hw => mem_eqAt rx fx r fs w (by simpa using hw)) ⟨.bl _, H, I, rfl, ?_⟩
    rw [show its.toArray.any (eqU x) = its.any (eqU x) by simp, any_eqU r fs]
    exact q
  · obtain ⟨its, r, pl, hz⟩ := I.tuple hq
    refine SeqAt.notIn_tupleAt (eqU x) pl (fun w hw => mem_eqAt rx fx r fs w (by simpa using hw)) ⟨.bl _, H, I, rfl, ?_⟩
    rw [show its.toArray.any (eqU x) = its.any (eqU x) by simp, any_eqU r fs]
    exact q

/-! ### len, list(x), tuple(x) of any list or tuple that is read -/
theorem call_len_seq : CallR X (.builtin "len") (fun xs H Q => ∃ p ys, xs = [.ref p] ∧ (SqL X.K H p ys ∨ SqT X.K H p ys) ∧ Q (.int ys.length) H) := by
  intro pins s σ H xs us Q I r h
  obtain ⟨p, ys, rfl, hq, q⟩ := h
  obtain ⟨u, rfl, rx⟩ := vals1 r
  cases rx
  have hn := line63
  rcases hq with hq | hq
  · obtain ⟨its, r', pl, hz⟩ := I.list hq
    have hlen := r'.length
    exact Calls.call_len_list pl.isList (by simp only [List.size_toArray] <;> omega) ⟨.int ys.length, H, I.tok _, ⟨s.toks + 1, by rw [List.size_toArray, hlen]⟩, q⟩
  · obtain ⟨its, r', pl, hz⟩ := I.tuple hq
    have hlen := r'.length
    exact len_tuple pl (by simp only [List.size_toArray] <;> omega) ⟨.int ys.length, H, I.tok _, ⟨s.toks + 1, by rw [List.size_toArray, hlen]⟩, q⟩
theorem call_list_of : CallR X (.type "list") (fun xs H Q => ∃ p ys, xs = [.ref p] ∧ (SqL X.K H p ys ∨ SqT X.K H p ys) ∧ ∀ l, H l = none → Q (.ref l) (upd H l (.lst ys))) := by
  intro pins s σ H xs us Q I r h
  obtain ⟨p, ys, rfl, hq, q⟩ := h
  obtain ⟨u, rfl, rx⟩ := vals1 r
  cases rx
  have fin : ∀ (its : List Value), Vals ys its → ys.length ≤ sizeLine → ∀ (h' : Heap) (c' : Nat), (∀ b o', s.heap.get? b = some o' → h'.get? b = some o') →
      h'.get? s.heap.objs.size = some { cls := .type "list", dict := none, data := .seq its.toArray c', slots := #[] } → EP X pins σ Q (.ref s.heap.objs.size) { s with heap := h' } := fun its r' hz h' c' kp e =>
    ⟨.ref s.heap.objs.size, _, I.laid (t' := s.toks) kp (Nat.le_refl _) (show ObjOk X.prog X.w _ h' _ (.lst ys) from ⟨hz, its, c', r', e⟩), rfl, q _ (I.hok.fresh (Nat.le_refl _))⟩
  rcases hq with hq | hq
  · obtain ⟨its, r', pl, hz⟩ := I.list hq
    have hlen := r'.length
    obtain ⟨o, ho, hc, n, hd⟩ := pl.isList
    exact call_list_seq p (.inl rfl) ho hc hd (fun h' c' kp e => fin its r' hz h' c' kp e) (by simp only [List.size_toArray] <;> omega)
  · obtain ⟨its, r', pl, hz⟩ := I.tuple hq
    have hlen := r'.length
    obtain ⟨o, ho, hc, n, hd⟩ := pl
    exact call_list_seq p (.inr rfl) ho hc hd (fun h' c' kp e => fin its r' hz h' c' kp e) (by simp only [List.size_toArray] <;> omega)

/-! ### the call of a builtin's method: o.m(..) -/
/-- the value is of that builtin type -/
def tyV (K : PySem.W.Frag) (T : String) (x : V) (H : Hp) : Prop := match x with
  | .str _ => T = "str"
  | .int _ => T = "int"
  | .ref p => (T = "list" ∧ ∃ xs, SqL K H p xs) ∨ (T = "tuple" ∧ ∃ o, K.lookup p = some o ∧ o.cls = .type "tuple" ∧ o.dict = none) ∨
      (T = "dict" ∧ ((∃ kvs, H p = some (.dK kvs)) ∨ ∃ kvs, H p = some (.dT kvs))) ∨ (T = "set" ∧ ∃ S n, H p = some (.set S n))
  | _ => False
theorem tyV_is {pins : List (Addr × Obj)} {σ : St} {H : Hp} {s : Shared} {T : String} {x : V} {v : Value} (I : Inv X pins σ H s) (r : RelV x v) (ty : tyV X.K T x H) :
    s.TypeIs v T ∧ ∀ a, v = .ref a → ∃ ob, s.heap.get? a = some ob ∧ ob.dict = none := by
  cases x with
  | str z =>
    obtain ⟨t, rfl⟩ := r
    cases (show T = "str" from ty)
    exact ⟨typeIs_str s z t, fun _ e => nomatch e⟩
  | int i =>
    obtain ⟨t, rfl⟩ := r
    cases (show T = "int" from ty)
    exact ⟨typeIs_int s i t, fun _ e => nomatch e⟩
  | ref p =>
    cases r
    rcases ty with ⟨rfl, xs, hq⟩ | ⟨rfl, o, hk, hc, hd⟩ | ⟨rfl, hk⟩ | ⟨rfl, S, n, hk⟩
    · obtain ⟨its, _, pl, _⟩ := I.list hq
      refine ⟨pl.isList.typeIs, fun a e => ?_⟩
      cases e
      obtain ⟨o, n, e, c, hd, _⟩ := pl
      exact ⟨o, e, hd⟩
    · refine ⟨⟨o, I.kIn p o hk, hc⟩, fun a e => ?_⟩
      cases e
      exact ⟨o, I.kIn _ o hk, hd⟩
    · have z : ∃ o, s.heap.get? p = some o ∧ o.ExactDict := by
        rcases hk with ⟨kvs, hk⟩ | ⟨kvs, hk⟩
        · obtain ⟨_, _, _, _, o, _, _, e, ex, _⟩ := I.hok p _ hk
          exact ⟨o, e, ex⟩
        · obtain ⟨_, _, _, _, o, _, _, e, ex, _⟩ := I.hok p _ hk
          exact ⟨o, e, ex⟩
      obtain ⟨o, e, ex⟩ := z
      refine ⟨⟨o, e, ex.1⟩, fun a e2 => ?_⟩
      cases e2
      exact ⟨o, e, ex.2.1⟩
    · obtain ⟨o, _, _, _, e, ex, _⟩ := I.hok p _ hk
      refine ⟨⟨o, e, ex.1⟩, fun a e2 => ?_⟩
      cases e2
      exact ⟨o, e, ex.2.1⟩
  | _ => exact False.elim ty
def tBM0 (K : PySem.W.Frag) (T : String) (r : V → List V → Hp → VK → Prop) (to : TE) : TE := fun σ H Q => to σ H fun x H1 => tyV K T x H1 ∧ r x [] H1 Q
def tBM (K : PySem.W.Frag) (T : String) (r : V → List V → Hp → VK → Prop) (to : TE) (t : TA) : TE := fun σ H Q => to σ H fun x H1 => tyV K T x H1 ∧ t σ H1 fun xs H2 => r x xs H2 Q
variable {o e : Expr} {es : List Expr} {to : TE} {t : TA} {name : Str} {apos cpos : Pos} {T id : String} {r : V → List V → Hp → VK → Prop}
theorem pe_bm0 (pa : PlainAttrs T) (slot : Slot T name id) (hty : typeOf (.builtin id) = pure (.type "method_descriptor")) (hm : MtR X id r) (ho : PE X o to)
    (hbase : attributeBase o name X.env (eval o X.env) = eval o X.env := by rfl) (hline : (apos.endLine == cpos.line) = true := by rfl) : PE X (.Call (.Attribute o name apos) [] [] cpos) (tBM0 X.K T r to) := by
  intro pins s σ H Q I h
  refine wpAny_Call_method0_late hbase hline (thn (ho pins s σ H _ I h) fun v s1 ⟨x, H1, I1, r1, ty, q1⟩ => ?_)
  obtain ⟨h1, h2⟩ := tyV_is I1 r1 ty
  exact ⟨T, id, pa, slot, hty, h1, h2, Calls.callWith_builtin rfl (PySem.evalArgs_none (hm pins s1 σ H1 x [] v [] Q I1 r1 .nil q1))⟩
theorem pe_bm (pa : PlainAttrs T) (slot : Slot T name id) (hty : typeOf (.builtin id) = pure (.type "method_descriptor")) (hm : MtR X id r) (ho : PE X o to) (ha : PA X (e :: es) t)
    (hbase : attributeBase o name X.env (eval o X.env) = eval o X.env := by rfl)
    (hfew : ((backTo cpos (starEach (e :: es) X.env)).all (fun x => !x.1) && (backToKw cpos (keywordEach [] X.env)).all (fun x => x.1.isSome)
      && decide ((e :: es).length + ([] : List Keyword).length + (if ([] : List Keyword).isEmpty then 0 else 1) < 30)) = true := by rfl)
    (hline : (apos.endLine == cpos.line) = true := by rfl) (hs : starEach (e :: es) X.env = (false, eval e X.env) :: starEach es X.env := by rfl) (hplain : (backTo cpos (starEach es X.env)).any (·.1) = false := by rfl) :
    PE X (.Call (.Attribute o name apos) (e :: es) [] cpos) (tBM X.K T r to t) := by
  intro pins s σ H Q I h
  refine wpAny_Call_method_late hbase hfew hline rfl (thn (ho pins s σ H _ I h) fun v s1 ⟨x, H1, I1, r1, ty, q1⟩ => ?_)
  obtain ⟨h1, h2⟩ := tyV_is I1 r1 ty
  refine ⟨T, id, pa, slot, hty, h1, h2, ?_⟩
  have hA := ha cpos pins s1 σ H1 _ I1 q1
  rw [hs] at hA ⊢
  refine Calls.callWith_builtin (by show (false || (backTo cpos (starEach es X.env)).any (·.1)) = false; rw [hplain] <;> rfl) (Calls.evalArgs_plain ?_)
  exact thn hA fun us s2 ⟨vs, H2, I2, r2, q2⟩ => hm pins s2 σ H2 x vs v us Q I2 r1 r2 q2
/- xs.append(e), list.index on a module's tuple .. are MtR facts of 06m -/
end
end L2

namespace L2
open PySem PySem.Spec PyProof.Rows

def MtM (X : Cx) (id : String) (r : V → List V → Hp → VK → Prop) : Prop :=
  ∀ (pins : List (Addr × Obj)) (s : Shared) (σ : St) (H : Hp) (x : V) (xs : List V) (v : Value) (us : List Value) (Q : VK), Inv X pins σ H s → RelV x v → Vals xs us → r x xs H Q →
    wpAny (model X.prog X.w) X.A (call (.builtin id) (v :: us)) (EP X pins σ Q) X.xe s

/-! ### lists of values -/
theorem Vals.one : ∀ {x : V} {us : List Value}, Vals [x] us → ∃ u, us = [u] ∧ RelV x u
  | _, _, .cons r .nil => ⟨_, rfl, r⟩
theorem Vals.two : ∀ {x y : V} {us : List Value}, Vals [x, y] us → ∃ u v, us = [u, v] ∧ RelV x u ∧ RelV y v
  | _, _, _, .cons r (.cons q .nil) => ⟨_, _, rfl, r, q⟩
theorem Vals.zero : ∀ {us : List Value}, Vals [] us → us = []
  | _, .nil => rfl
theorem Vals.dropLast {xs : List V} {us : List Value} (h : Vals xs us) : Vals xs.dropLast us.dropLast := by
  induction h with
  | nil => exact .nil
  | cons r t ih =>
    cases t with
    | nil => exact .nil
    | cons q t' => exact .cons r ih
theorem Vals.eraseIdx : ∀ {xs : List V} {us : List Value} (i : Nat), Vals xs us → Vals (xs.eraseIdx i) (us.eraseIdx i)
  | _, _, _, .nil => .nil
  | _, _, 0, .cons _ t => t
  | _, _, i + 1, .cons r t => .cons r (Vals.eraseIdx i t)
theorem Vals.rep {xs : List V} {us : List Value} (h : Vals xs us) : ∀ k : Nat, Vals (List.replicate k xs).flatten (List.replicate k us).flatten
  | 0 => .nil
  | k + 1 => by
    rw [List.replicate_succ, List.replicate_succ, List.flatten_cons, List.flatten_cons]
    exact Vals.append h (Vals.rep h k)
theorem erase_last {α : Type} (l : List α) : l.eraseIdx (l.length - 1) = l.dropLast := by
  induction l with
  | nil => rfl
  | cons a r ih =>
    cases r with
    | nil => rfl
    | cons b r =>
      have e : (a :: b :: r).length - 1 = ((b :: r).length - 1) + 1 := by
        have h1 : (a :: b :: r).length = r.length + 2 := rfl
        have h2 : (b :: r).length = r.length + 1 := rfl
        omega
      rw [e, List.eraseIdx_cons_succ, ih]
      all_goals rfl
theorem len_erase {α : Type} : ∀ (l : List α) (i : Nat), (l.eraseIdx i).length ≤ l.length
  | [], _ => Nat.le_refl _
  | _ :: _, 0 => Nat.le_succ _
  | _ :: r, i + 1 => Nat.succ_le_succ (len_erase r i)
theorem foldl_rep (its : List Value) : ∀ (k : Nat) (acc : List Value),
    List.foldl (fun x1 x2 => x1 ++ x2) acc.toArray (List.replicate k its.toArray) = (acc ++ (List.replicate k its).flatten).toArray
  | 0, acc => by simp
  | k + 1, acc => by
    have e : acc.toArray ++ its.toArray = (acc ++ its).toArray := by simp
    have e2 : (acc ++ its) ++ (List.replicate k its).flatten = acc ++ (List.replicate (k + 1) its).flatten := by
      rw [List.replicate_succ, List.flatten_cons, List.append_assoc]
    rw [← e2, ← foldl_rep its k (acc ++ its), ← e, List.replicate_succ, List.foldl_cons]

section
variable {X : Cx} {pins : List (Addr × Obj)} {σ : St} {H : Hp} {s : Shared} {l b : Addr} {xs ys zs : List V}

/-! ### the two steps: a tracked list is rewritten, a new list is laid -/
theorem Inv.lset {its its' : List Value} {n : Nat} {f : Array Value → Array Value} {t' : Nat} (I : Inv X pins σ H s) (hH : H l = some (.lst xs))
    (e : s.heap.get? l = some { cls := .type "list", data := .seq its.toArray n }) (hf : f its.toArray = its'.toArray) (hv : Vals ys its') (hz : ys.length ≤ sizeLine) :
    Inv X pins σ (upd H l (.lst ys)) { s with heap := s.heap.update l (Obj.mapSeq f), toks := t' } := by
  have q := PySem.IsL.update e f
  rw [hf] at q
  refine I.write (x := l) (e := l) (by rw [hH]; exact trivial) (.inl rfl) (fun b' u hb hu => (Heap.get?_update_other s.heap (Obj.mapSeq f) (Ne.symm hb)).trans hu) ⟨_, q⟩ ?_
  exact ⟨hz, its', _, hv, q⟩
theorem Inv.lnew {its : List Value} {t' : Nat} (I : Inv X pins σ H s) (hv : Vals ys its) (hz : ys.length ≤ sizeLine) :
    Inv X pins σ (upd H s.heap.objs.size (.lst ys)) { s with heap := s.heap.push { cls := .type "list", data := .seq its.toArray }, toks := t' } :=
  I.laid (fun _ _ q => Heap.get?_push_of_some _ q) (Nat.le_refl _) ⟨hz, its, 0, hv, Heap.get?_push_size _ rfl⟩
theorem Inv.fresh (I : Inv X pins σ H s) : H s.heap.objs.size = none := I.hok.fresh (Nat.le_refl _)
theorem Inv.lstM (I : Inv X pins σ H s) (hH : H l = some (.lst xs)) : xs.length ≤ sizeLine ∧ ∃ (its : List Value) (n : Nat), Vals xs its ∧ xs.length = its.length ∧ s.heap.get? l = some { cls := .type "list", data := .seq its.toArray n } := by
  obtain ⟨z, its, n, r, e⟩ := I.hok l _ hH
  exact ⟨z, its, n, r, r.length, e⟩

theorem notLongL {n : Nat} (h : n ≤ sizeLine) : Builtin.List.listTooLong n = false := by
  unfold Builtin.List.listTooLong
  exact decide_eq_false (by omega)
end

section
variable {X : Cx}

/-! ### methods -/
def rAppend : V → List V → Hp → VK → Prop := fun x vs H Q => ∃ l xs y, x = .ref l ∧ vs = [y] ∧ H l = some (.lst xs) ∧ xs.length < sizeLine ∧ Q .non (upd H l (.lst (xs ++ [y])))
theorem mt_append : MtM X "list.append" rAppend := by
  intro pins s σ H x vs v us Q I rx rv h
  obtain ⟨l, xs, y, rfl, rfl, hH, hz, q⟩ := h
  cases rx
  obtain ⟨u, rfl, ru⟩ := rv.one
  obtain ⟨z, its, n, r, hl, e⟩ := I.lstM hH
  refine call_meets F.slot_list_append ⟨_, e, rfl⟩ F.entry_list_append (F.args_list_append_2 _ _) (PySem.list_append l its.toArray n u (by rw [List.size_toArray]; omega)) ⟨e, ?_⟩
  refine ⟨.non, _, I.lset (its' := its ++ [u]) hH e (by simp) (r.append (.cons ru .nil)) ?_, rfl, q⟩
  rw [List.length_append, List.length_singleton]
  omega


def rPop : V → List V → Hp → VK → Prop := fun x vs H Q => ∃ l xs y, x = .ref l ∧ vs = [] ∧ H l = some (.lst xs) ∧ xs[xs.length - 1]? = some y ∧ Q y (upd H l (.lst xs.dropLast))
theorem mt_pop : MtM X "list.pop" rPop := by
  intro pins s σ H x vs v us Q I rx rv h
  obtain ⟨l, xs, y, rfl, rfl, hH, hy, q⟩ := h
  cases rx
  have hus := rv.zero
  subst hus
  obtain ⟨z, its, n, r, hl, e⟩ := I.lstM hH
  obtain ⟨u, hu, ru⟩ := r.get hy
  have hy' : its.toArray[its.toArray.size - 1]? = some u := by
    show its.toArray[its.length - 1]? = some u
    rw [← Array.getElem?_toList, ← hl]
    exact hu
  refine call_meets F.slot_list_pop ⟨_, e, rfl⟩ F.entry_list_pop (F.args_list_pop_1 _) (MeetsSeq.list_pop_last l its.toArray n u hy' (by rw [List.size_toArray]; omega)) ⟨e, ?_⟩
  refine ⟨y, _, I.lset (its' := its.dropLast) hH e ?_ r.dropLast ?_, ru, q⟩
  · show its.toArray.eraseIdxIfInBounds (its.toArray.size - 1) = its.dropLast.toArray
    rw [List.size_toArray, List.eraseIdxIfInBounds_toArray, erase_last]
  · rw [List.length_dropLast]
    omega

def rPopAt : V → List V → Hp → VK → Prop := fun x vs H Q => ∃ l xs i k y, x = .ref l ∧ vs = [.int i] ∧ H l = some (.lst xs) ∧ -(2 ^ 63) ≤ i ∧ i < 2 ^ 63 ∧ seqIndex? i xs.length = some k ∧ xs[k]? = some y ∧ Q y (upd H l (.lst (xs.eraseIdx k)))
theorem mt_popAt : MtM X "list.pop" rPopAt := by
  intro pins s σ H x vs v us Q I rx rv h
  obtain ⟨l, xs, i, k, y, rfl, rfl, hH, h1, h2, hk, hy, q⟩ := h
  cases rx
  obtain ⟨u, rfl, ru⟩ := rv.one
  obtain ⟨t, rfl⟩ := ru
  obtain ⟨z, its, n, r, hl, e⟩ := I.lstM hH
  obtain ⟨w, hw, rw'⟩ := r.get hy
  refine call_meets F.slot_list_pop ⟨_, e, rfl⟩ F.entry_list_pop (F.args_list_pop_2 _ _)
    (MeetsSeq.list_pop_at l its.toArray n i t k w (fitsIndex_both h1 h2) (by rw [List.size_toArray, ← hl]; exact hk) (by rw [← Array.getElem?_toList]; exact hw) (by rw [List.size_toArray]; omega)) ⟨e, ?_⟩
  refine ⟨y, _, I.lset (its' := its.eraseIdx k) hH e ?_ (r.eraseIdx k) ?_, rw', q⟩
  · show its.toArray.eraseIdxIfInBounds k = (its.eraseIdx k).toArray
    rw [List.eraseIdxIfInBounds_toArray]
  · have := len_erase xs k
    omega



/-! ### list + list, list += list, list * int -/
def rCat : R2 := fun x y H Q => ∃ l b xs zs, x = .ref l ∧ y = .ref b ∧ H l = some (.lst xs) ∧ H b = some (.lst zs) ∧ xs.length + zs.length ≤ sizeLine ∧ ∀ p, H p = none → Q (.ref p) (upd H p (.lst (xs ++ zs)))
theorem op_cat : OpR X (binaryOp .Add) rCat := by
  intro pins s σ H x y v u Q I rx ry h
  obtain ⟨l, b, xs, zs, rfl, rfl, hH, hB, hz, q⟩ := h
  cases rx
  cases ry
  obtain ⟨z, its, n, r, hl, e⟩ := I.lstM hH
  obtain ⟨z2, its2, n2, r2, hl2, e2⟩ := I.lstM hB
  refine PySem.P.add_list e e2 ?_ (by rw [List.size_toArray, List.size_toArray]; omega)
  have ea : its.toArray ++ its2.toArray = (its ++ its2).toArray := by simp
  rw [ea]
  exact ⟨.ref _, _, I.lnew (t' := s.toks) (r.append r2) (by rw [List.length_append]; omega), rfl, q _ I.fresh⟩
/-- a list times an int (a negative one is nothing) -/
def rRep : R2 := fun x y H Q => ∃ l k xs, x = .ref l ∧ y = .int k ∧ H l = some (.lst xs) ∧ -(2 ^ 63) ≤ k ∧ k < 2 ^ 63 ∧ xs.length * k.toNat ≤ sizeLine ∧
  ∀ p, H p = none → Q (.ref p) (upd H p (.lst (List.replicate k.toNat xs).flatten))
theorem len_rep {α : Type} (xs : List α) (k : Nat) : (List.replicate k xs).flatten.length = k * xs.length := by
  induction k with
  | zero => simp
  | succ k ih => rw [List.replicate_succ, List.flatten_cons, List.length_append, ih, Nat.succ_mul, Nat.add_comm]
theorem op_rep : OpR X (binaryOp .Mult) rRep := by
  intro pins s σ H x y v u Q I rx ry h
  obtain ⟨l, k, xs, rfl, rfl, hH, h1, h2, hz, q⟩ := h
  cases rx
  obtain ⟨t, rfl⟩ := ry
  obtain ⟨z, its, n, r, hl, e⟩ := I.lstM hH
  have hlen : its.toArray.size * k.toNat ≤ sizeLine := by rw [List.size_toArray, ← hl]; exact hz
  have hcap : ¬ its.toArray.size * k.toNat > (2 ^ 63 - 1) / 8 := by
    have : (sizeLine : Nat) ≤ (2 ^ 63 - 1) / 8 := by decide
    omega
  have hfit : ¬ (!Builtin.List.listFitsIndex k) = true := by
    rw [fitsIndex_both h1 h2]
    exact Bool.false_ne_true
  have hlong : ¬ Builtin.List.listTooLong (its.toArray.size * k.toNat) = true := by
    rw [notLongL hlen]
    exact Bool.false_ne_true
  have hnew : List.foldl (fun x1 x2 => x1 ++ x2) #[] (List.replicate (if its.toArray.isEmpty = true then 0 else k.toNat) its.toArray) = (List.replicate k.toNat its).flatten.toArray := by
    have f0 : ∀ m : Nat, List.foldl (fun x1 x2 => x1 ++ x2) #[] (List.replicate m its.toArray) = (List.replicate m its).flatten.toArray := fun m => by
      have := foldl_rep its m []
      rw [List.nil_append] at this
      exact this
    rw [f0]
    cases its with
    | nil => simp
    | cons a r' => rw [if_neg (by simp)]
  refine wpAny_binaryOp_repeat_ref (T := "list") (U := "int") (by decide) ⟨_, e, rfl⟩ (fun s' => typeIs_int s' k t) noFill_list_mul F.fills_int_mul F.slot_int_rmul repeat_list F.slot_int_index.lookup
    (call_meets F.slot_int_rmul (typeIs_int s k t) F.entry_int_rmul (F.args_int_rmul_2 _ _) (int___rmul___int_list k t l its.toArray n)
      ⟨e, rfl, ⟨_, e, rfl⟩, call_meets F.slot_list_mul ⟨_, e, rfl⟩ F.entry_list_mul (F.args_list_mul_2 _ _) (AutoListH.list___mul___list_int_3 l its.toArray n k t hfit hcap hlong) ⟨e, ?_⟩⟩)
  rw [hnew]
  exact ⟨.ref _, _, I.lnew (t' := s.toks) (r.rep k.toNat) (by rw [len_rep, Nat.mul_comm]; exact hz), rfl, q _ I.fresh⟩

/-! ### del xs[i] -/
end

/-! ### xs[a:b] = ys -/
section
variable {prog : Program} {w : World} {A : Around} {E : Value → Shared → Prop} {s : Shared}
set_option maxRecDepth 100000 in
end

section
variable {X : Cx}
end
end L2

set_option Elab.async false
set_option linter.all false
set_option maxRecDepth 100000

namespace Att
open PySem PySem.W PySem.Calls PyProof.Rows

/-! ### the script -/
theorem ints_of_wellAll {P : Params} {h : Heap} : ∀ (ns : List Int) (vs : List Value), WellAll P h vs (ns.map WData.int) → IntsAre vs ns := by
  intro ns
  induction ns with
  | nil =>
    intro vs w
    rw [List.map_nil] at w
    cases w
    exact .nil
  | cons n ns ih =>
    intro vs w
    rw [List.map_cons] at w
    cases w with
    | cons a b =>
      cases a
      exact .cons _ _ (ih _ b)

theorem script_of {l : OpenLaw} {n : Nat} (hn : l.most = some n) {P : Params} {h : Heap} {args : List WData} {vals : List Value}
    (hpre : l.row.toRowW.claim.pre args = true) (hwl : WellAll P h vals args) :
    ∃ a vs ns, vals = [Value.ref a] ∧ args = [WData.list (ns.map WData.int)] ∧ h.get? a = some { cls := .type "list", data := .seq vs.toArray } ∧ IntsAre vs ns ∧ ns.length ≤ n := by
  have hsh : WShape.hasAll [] args [.list .int] = true := (pre_splitW hpre).1
  have hc : l.pre.holds [] { args := args } = true := (pre_splitW hpre).2
  obtain ⟨d, r, rfl, h1, h2⟩ := hasAllW_cons hsh
  obtain rfl := hasAllW_nil h2
  obtain ⟨xs, rfl, h3⟩ := hasW_list h1
  obtain ⟨ns, rfl⟩ := items_int h3
  have hlen : ns.length ≤ n := by
    unfold OpenLaw.pre at hc
    have h4 : (WTm.not (.lt (.lit (.int (n : Int))) (.len (.arg 0)))).holds [] { args := [.list (ns.map .int)] } = true := by
      have h4 := (holds_andW hc).1
      rw [hn] at h4
      exact h4
    have h5 := condW_of h4 (w_not (w_lt w_lit (w_len_list (w_arg rfl))))
    rw [List.length_map] at h5
    refine Nat.le_of_not_lt fun q => ?_
    have q' : (n : Int) < ((ns.length : Nat) : Int) := by omega
    first
      | (rw [decide_eq_true q'] at h5; exact absurd h5 (by decide))
      | (simp at h5; omega)
  cases hwl with
  | cons w1 w2 =>
    cases w2
    cases w1 with
    | list ho hall => exact ⟨_, _, ns, rfl, rfl, ho, ints_of_wellAll ns _ hall, hlen⟩

theorem post_true (l : OpenLaw) (args : List WData) : l.row.toRowW.claim.post args (.bool true) args = true :=
  postW_of (r := l.row.toRowW) (X := (true == true))
    (show WShape.has [] (.bool true) .bool = true by first | rfl | decide | simp [WShape.has, WShape.arms, WShape.armsAll])
    (show (WTm.eq .res (.lit (.bool true))).value [] { args := args, res := some (.bool true), after := args } = some (.bool (true == true)) from w_eq_bool (w_res rfl) w_lit) rfl

/-! ### the attachment: holds_open's last premise (the goal 'hc' behind k_head) from a wpAny of the law's body -/

/-- the same from a codeAny of the CALL (for a layer whose function contracts speak of calls) -/
theorem attach_call {l : OpenLaw} {n : Nat} {q : Program} {loose : List Str} {XP : (Str → Option Value) → Heap → Prop} {YP : World → Heap → Prop} {d : DefRec}
    (hn : l.most = some n) (hdf : d.params.defaults = [])
    (call : ∀ (w : World) (s₀ s₁ : Shared) (mg mb : Str → Option Value) (fa : Addr) (o : Obj) (pm cd doc : Value) (a : Addr) (vs : List Value) (ns : List Int),
      Ground q loose [] XP w s₀ mg mb s₁.heap → YP w s₁.heap →
      s₁.heap.get? fa = some o → o.data = .func (docDef d.name d.params d.body d.scope pm cd doc) → s₁.heap.CodeRec cd d.name → mg d.name = some (.ref fa) →
      s₁.heap.get? a = some { cls := .type "list", data := .seq vs.toArray } → IntsAre vs ns → ns.length ≤ n → s₁.gens = #[] →
      codeAny (model l.prog w) callerA (.call (.ref fa) ⟨[.ref a], []⟩) (fun r s' => r = .ok (.ret (.bool true)) ∧ OldK s₁.heap s'.heap ∧ s'.os = s₁.os ∧ AllBare s'.gens) s₁) :
    WalkO q loose XP YP l.row.toRowW d [] (fun f vs => PySem.call f vs) := by
  intro w s₀ s₁ mg mb G Y fa o pm cd doc dV kV ho hd hcd hD hmg hg args vals as hpre hlay hrd hwl hlo
  obtain rfl : dV = .none := Dflts.none hD hdf
  obtain rfl : kV = .none := Dflts.noKw hD
  obtain ⟨a, vs, ns, rfl, rfl, hobj, hints, hlen⟩ := script_of hn hpre hwl
  refine enter_call (codeAny_mono (call w s₀ s₁ mg mb fa o pm cd doc a vs ns G Y ho (fd_plain hd) hcd hmg hobj hints hlen hg) fun r s' hq => ?_)
  obtain ⟨rfl, h2, h3, h4⟩ := hq
  exact ⟨.inl ⟨.bool true, .bool true, [], rfl, fun _ => rfl, .bool true, post_true l _, fun _ => ⟨List.Pairwise.nil, fun _ hm => (nomatch hm)⟩⟩, h2, h3, h4⟩


/-! ### rules over ANY heap (no ledger) from facts about the written part K: the library's own take a ledger (News) for what they write -/
section
variable {prog : Program} {w : World} {A : Around} {E : Value → Shared → Prop} {s : Shared} {K : Frag}





/-! the whole heap as the ledger: makes every rule that writes through a ledger a rule over any heap -/

end
end Att

namespace L2
open PySem PySem.Spec PyProof.Rows

theorem vals_ints : ∀ {vs : List Value} {ns : List Int}, IntsAre vs ns → Vals (ns.map V.int) vs
  | _, _, .nil => .nil
  | _, _, .cons n t h => .cons ⟨t, rfl⟩ (vals_ints h)

/-- nothing is tracked but the script, known to the object (or it is an object of the module) -/
def Only (H : Hp) : Prop := ∀ b, H b = none ∨ ∃ o xs, H b = some (.frz o (.lst xs))

/-- THE HEAD: the law's promise, at the heap behind the top. F, the promise of the law's def, may use that base is part of the heap (so K.In base, base.Ns mainGlobals mg stand in Mod) -/
theorem law_call {P : Program} {w : World} {K : PySem.W.Frag} {mg mb : Str → Option Value} {CX : CXT} {k : Nat} {fa a : Addr} {fd : FuncData} {x : Str} {sp : Sp} {s₁ : Shared} {vs : List Value} {ns : List Int}
    (KX : K.In s₁.heap) (hns : s₁.heap.Ns mainGlobals mg) (hb : s₁.heap.Ns builtinsNs mb) (hbb : ∀ x : Str, x ≠ "__name__" → mb x = bootBuiltins x) (hlim : s₁.heap.NoLimit) (hg : s₁.gens = #[])
    (ha : s₁.heap.get? a = some { cls := .type "list", data := .seq vs.toArray }) (hi : IntsAre vs ns) (hl : ns.length ≤ sizeLine) (hr : Room k callerA)
    (F : ∀ base : Heap, K.In base → base.Ns mainGlobals mg → FnOk P w K mg base CX k fa fd [x] sp) (hbind : ∀ (s : Shared) (u : Value), BindsTo s fd ⟨[u], []⟩ [(x, u)])
    (hsp : ∀ H : Hp, Only H → SqL K H a (ns.map V.int) → sp [.ref a] H (fun v _ => v = .bl true) fun _ _ _ => False)
    (hCX : ∀ H e s', CX [] H s₁ (fun _ _ _ => False) e s' → False) :
    codeAny (model P w) callerA (.call (.ref fa) ⟨[.ref a], []⟩) (fun r s' => r = .ok (.ret (.bool true)) ∧ OldK s₁.heap s'.heap ∧ s'.os = s₁.os ∧ AllBare s'.gens) s₁ := by
  have rv := vals_ints hi
  have lenV := hi.length
  -- from an abstract heap in which nothing but the script may be tracked
  have core : ∀ H : Hp, Only H → SqL K H a (ns.map V.int) → HOk P w H s₁.heap → (∀ b, H b ≠ none → b = a) → (H a ≠ none → K.lookup a = none) →
      codeAny (model P w) callerA (.call (.ref fa) ⟨[.ref a], []⟩) (fun r s' => r = .ok (.ret (.bool true)) ∧ OldK s₁.heap s'.heap ∧ s'.os = s₁.os ∧ AllBare s'.gens) s₁ := by
    intro H hO hS hok hA hK
    have base_of : ∀ {b : Addr} {o : Obj}, s₁.heap.get? b = some o → H b = none → (hidT s₁.heap H).get? b = some o := fun e n => hidT_get e n
    have noA : ∀ {b : Addr} {o : Obj} {es : Array DictEntry} {ep : Nat}, s₁.heap.get? b = some o → o.data = .dict es ep → H b = none := fun {b o es ep} e d => by
      cases q : H b with
      | none => rfl
      | some u =>
        have e' : b = a := hA b (by rw [q]; simp)
        subst e'
        rw [ha] at e; cases e
        have d' : Data.seq vs.toArray _ = Data.dict es ep := d
        cases d'
    have nsK : ∀ {b : Addr} {m : Str → Option Value}, s₁.heap.Ns b m → (hidT s₁.heap H).Ns b m := fun {b m} ⟨o, es, ep, e, d, r⟩ => ⟨o, es, ep, base_of e (noA e d), d, r⟩
    have hKb : K.In (hidT s₁.heap H) := fun b o e => base_of (KX b o e) (by
      cases q : H b with
      | none => rfl
      | some u =>
        have e' : b = a := hA b (by rw [q]; simp)
        subst e'
        rw [hK (by rw [q]; simp)] at e; cases e)
    have hM : Mod K mg (hidT s₁.heap H) := ⟨hKb, nsK hns, ⟨mb, nsK hb, hbb⟩, let ⟨mc, h1, h2⟩ := hlim; ⟨mc, nsK h1, h2⟩⟩
    have e0 : Env0 P w K mg (hidT s₁.heap H) callerA [] s₁ H := ⟨rfl, hM, fun b o e => of_hidT e, Nat.le_of_eq (hidT_size _ _), trivial, fun b hb => absurd (show b ∈ ([] : List Addr) from hb) (by simp), hok, .of_eq hg⟩
    refine codeAny_mono ((F _ hKb (nsK hns)).run callerA [] s₁ H ⟨[.ref a], []⟩ [.ref a] [.ref a] _ _ hr e0 (hbind s₁ (.ref a)) (.cons rfl .nil) (hsp H hO hS)) fun r s' h => ?_
    cases r with
    | error e => exact (hCX H e s' h).elim
    | ok fl =>
      cases fl with
      | next => exact False.elim h
      | brk => exact False.elim h
      | cont => exact False.elim h
      | ret u =>
        obtain ⟨v, H', os, bare, un, hok', r', q⟩ := h
        have q' : v = .bl true := q
        subst q'
        obtain rfl : u = Value.bool true := r'
        refine ⟨rfl, OldK.of_keep fun b o e => ?_, os, bare⟩
        cases q : H b with
        | none => exact un.keep b o e q (by intro z; exact absurd (show b ∈ ([] : List Addr) from z) (by simp)) (by simp)
        | some u =>
          rcases hO b with z | ⟨ob, xs, z⟩
          · rw [q] at z; cases z
          · have z2 := un.frzs b ob _ z
            obtain ⟨e1, _⟩ := hok b _ z
            obtain ⟨e2, _⟩ := hok' b _ z2
            rw [e] at e1; cases e1
            exact e2
  cases hk : K.lookup a with
  | some o =>
    -- the script is one of the module's own objects
    have e := KX a o hk
    rw [ha] at e
    cases e
    refine core (fun _ => none) (fun _ => .inl rfl) (.inr ⟨_, vs.toArray, _, hk, rfl, rfl, rfl, by rw [List.size_toArray, lenV]; exact hl, by simpa using rv⟩) (fun b u z => by have z' : (none : Option HO) = some u := z; cases z') (fun b z => absurd rfl z) fun z => absurd rfl z
  | none =>
    refine core (fun b => if b = a then some (.frz { cls := .type "list", data := .seq vs.toArray } (.lst (ns.map V.int))) else none) (fun b => ?_) (.inl (.inr ⟨{ cls := .type "list", data := .seq vs.toArray }, if_pos rfl⟩)) (fun b u z => ?_) (fun b z => ?_) fun _ => hk
    · by_cases hb : b = a
      · exact .inr ⟨_, _, if_pos hb⟩
      · exact .inl (if_neg hb)
    · by_cases hb : b = a
      · have z' := (if_pos hb).symm.trans z
        cases z'
        subst hb
        exact ⟨ha, by rw [List.length_map]; exact hl, vs, _, rv, ha⟩
      · have z' := (if_neg hb).symm.trans z
        cases z'
    · by_cases hb : b = a
      · exact hb
      · exact absurd (if_neg hb) z
end L2

namespace L2
open PySem PySem.Spec PyProof.Rows


/-- the goal that k_head leaves (case hc), from the law's promise. F gives the function object fd (K's own) once, then the promise over every base -/
theorem walk_of {l : PySem.W.OpenLaw} {n k : Nat} {q : Program} {loose : List Str} {XP : (Str → Option Value) → Heap → Prop} {YP : World → Heap → Prop} {d : DefRec} {K : Params → PySem.W.Frag} {CX : World → CXT} {sp : World → Sp} {x : Str}
    (hn : l.most = some n) (hn2 : n ≤ sizeLine) (hdf : d.params.defaults = []) (hr : Room k callerA)
    (hY : ∀ (w : World) (h : Heap), YP w h → (K w.params).In h)
    (F : ∀ (w : World) (mg : Str → Option Value) (fa : Addr) (h : Heap), (K w.params).In h → h.Ns mainGlobals mg → mg d.name = some (.ref fa) →
      ∃ fd : FuncData, (∀ (s : Shared) (u : Value), BindsTo s fd ⟨[u], []⟩ [(x, u)]) ∧
        ∀ base : Heap, (K w.params).In base → base.Ns mainGlobals mg → FnOk l.prog w (K w.params) mg base (CX w) k fa fd [x] (sp w))
    (hsp : ∀ (w : World) (H : Hp) (a : Addr) (ns : List Int), ns.length ≤ n → Only H → SqL (K w.params) H a (ns.map V.int) → sp w [.ref a] H (fun v _ => v = .bl true) fun _ _ _ => False)
    (hCX : ∀ (w : World) (H : Hp) (s : Shared) (e : Value) (s' : Shared), CX w [] H s (fun _ _ _ => False) e s' → False) :
    PySem.W.WalkO q loose XP YP l.row.toRowW d [] (fun f vs => PySem.call f vs) := by
  refine Att.attach_call hn hdf fun w s₀ s₁ mg mb fa o pm cd doc a vs ns G Y ho hd hcd hmg hobj hints hlen hg => ?_
  have KX := hY w _ Y
  obtain ⟨fd, hb, hF⟩ := F w mg fa _ KX G.T.g hmg
  exact law_call KX G.T.g G.T.b G.T.builtins G.T.nolimit hg hobj hints (Nat.le_trans hlen hn2) hr hF hb (fun H hO hS => hsp w H a ns hlen hO hS) fun H e s' => hCX w H s₁ e s'
end L2

/- THE LAST THEOREM (shape; LID, My.* are yours):
   My.Adr: a structure of the addresses that your layer names (classes, functions); My.Txt K t: a structure (Prop) of the equations over K;
   My.txt_mk : {K} {implicit addresses ..} (e1 : nsIn K mainGlobals "law" = some (some (.ref f))) (e2 : K.lookup f = some ⟨oc, od, .func (fnOf "law" "law" params body scope dV kV doc pm an cdv ct), sl⟩) (e3 : codeIn K cdv "law" = true) .. : ∃ t, My.Txt K t

set_option maxRecDepth 100000 in
set_option maxHeartbeats 0 in
theorem PySem.Challenge.cw_LID_holds : PySem.Challenge.rw_LID.Holds := by
  w_on; o_law; k_head; (case hw => w_witness2)
  k_fill
  refine L2.walk_of (l := PySem.Challenge.rw_LID) (n := 63) (k := 40) (x := "script") (CX := fun w => ..) (sp := fun _ => My.sp_law) rfl (by decide) rfl ⟨rfl, by decide, by decide⟩ (fun w h Y => PySem.W.kIn_of Y) ?F ?S ?C
  case F =>
    intro w mg fa h KX G hmg
    have T : ∃ t, My.Txt (L2.KOf KX) t := by
      dsimp only [L2.KOf]                          -- K must stand as «<heap const> w.params» for k_is
      refine' My.txt_mk ?e1 ?e2 ?e3 ..
      (case e1 => PySem.W.k_is)                    -- in the order: a name -> its address -> its object -> its parts
      (case e2 => PySem.W.k_is)
      ..
    obtain ⟨t, T⟩ := T
    have e0 := hmg.symm.trans (PySem.W.mg_of KX G T.law)
    cases e0                                       -- fa is the law's own address
    exact ⟨_, fun s u => .of_eq rfl, fun base kb nb => My.law_fn T kb nb⟩     -- if «.of_eq rfl» comes too early: refine' ⟨_, ?b, fun base kb nb => My.law_fn T kb nb⟩; exact fun s u => .of_eq rfl
  case S => exact fun w H a ns hl hO hS => ..
  case C => exact ..
(the tactic k_is has no namespace: write k_is) -/

/-! SHORT WORDS over the layer: a def of the text, its body, what a loop and a test want. -/
namespace L2
open PySem PySem.Spec PyProof.Rows

/-! ### the text by places -/
def defArgs (s : Stmt) : Arguments := match s with
  | .FunctionDef _ a _ _ _ _ _ _ _ _ => a
  | _ => { posonlyargs := [], args := [], vararg := none, kwonlyargs := [], kw_defaults := [], kwarg := none, defaults := [] }
def defBody (s : Stmt) : List Stmt := match s with
  | .FunctionDef _ _ b _ _ _ _ _ _ _ => b
  | _ => []
def defScope (s : Stmt) : Scope := match s with
  | .FunctionDef _ _ _ _ _ _ sc _ _ _ => sc
  | _ => { kind := .function, names := [], isGenerator := false, isCoroutine := false }

/-! ### no exception leaves a def -/
abbrev CX0 : CXT := fun _ _ _ _ _ _ => False
abbrev E0 : XK := fun _ _ _ => False
theorem pass0 {X : Cx} : Passes CX0 X E0 := fun _ _ _ _ _ _ _ h => h.elim

/-! ### a def (or method) of the text as it stands behind the top -/
structure Fun (K : PySem.W.Frag) (x qual : Str) (st : Stmt) (f : Addr) (fd : FuncData) : Prop where
  ex : ∃ (oc : Value) (od : Option Addr) (kV doc pm : Value) (an : Option Addr) (cdv ct : Value) (osl : Array (Option Value)),
    fd = PySem.W.fnOf x qual (defArgs st) (defBody st) (defScope st) .none kV doc pm an cdv ct ∧ K.lookup f = some ⟨oc, od, .func fd, osl⟩ ∧ PySem.W.codeIn K cdv qual = true
  kp : PySem.W.keepIn K (.ref f) = true
section
variable {P : Program} {w : World} {K : PySem.W.Frag} {mg : Str → Option Value} {base : Heap}
/-- THE RULE for a def: its body as a term of rules, and the reading of that term -/
theorem Fun.ok {x qual : Str} {st : Stmt} {f : Addr} {fd : FuncData} {N ps : List Str} {k : Nat} {sp : Sp} (F : Fun K x qual st f fd) (S : FnScope N ps (defScope st)) (len : ∀ vs H Q E, sp vs H Q E → vs.length = ps.length)
    (hbody : ∀ (cdv : Value) (A : Around) (outer : List Env) (s : Shared) (H : Hp) (vs : List V) (Q : VK) (E : XK), Room k (A.deeper (envOfC qual (defScope st) s.heap.objs.size f cdv)) → sp vs H Q E →
      ∃ t, PSs (cxOf CX0 P w K mg base N qual (defScope st) f cdv A outer s H E).nox (defBody st) t ∧ t { nx := fun _ H' => Q .non H', rt := Q } (start N vs) H) : FnOk P w K mg base CX0 (k + 1) f fd ps sp := by
  obtain ⟨oc, od, kV, doc, pm, an, cdv, ct, osl, rfl, lk, hcd⟩ := F.ex
  refine fn_of lk hcd S len fun A outer s H vs Q E hr hsp => ?_
  obtain ⟨t, h, q⟩ := hbody cdv A outer s H vs Q E hr hsp
  exact ⟨t, h.nox, q⟩
/-- how its arguments bind (no defaults): h is «fun _ _ _ _ _ _ us hl => match us, hl with | [_, _], _ => rfl», one _ a parameter -/
theorem Fun.binds {x qual : Str} {st : Stmt} {f : Addr} {fd : FuncData} {ps : List Str} (F : Fun K x qual st f fd)
    (h : ∀ (kV doc pm : Value) (an : Option Addr) (cdv ct : Value) (us : List Value), us.length = ps.length → bindArgs (PySem.W.fnOf x qual (defArgs st) (defBody st) (defScope st) .none kV doc pm an cdv ct) ⟨us, []⟩ = pure (ps.zip us)) : Binds K fd ps [] := by
  obtain ⟨oc, od, kV, doc, pm, an, cdv, ct, osl, rfl, lk, hcd⟩ := F.ex
  exact .all (h kV doc pm an cdv ct)
theorem fun_mk {x qual : Str} {st : Stmt} {f : Addr} {oc : Value} {od an : Option Addr} {osl : Array (Option Value)} {kV doc pm cdv ct : Value} (l : K.lookup f = some ⟨oc, od, .func (PySem.W.fnOf x qual (defArgs st) (defBody st) (defScope st) .none kV doc pm an cdv ct), osl⟩)
    (c : PySem.W.codeIn K cdv qual = true) (k : PySem.W.keepIn K (.ref f) = true) : Fun K x qual st f (PySem.W.fnOf x qual (defArgs st) (defBody st) (defScope st) .none kV doc pm an cdv ct) := ⟨⟨oc, od, kV, doc, pm, an, cdv, ct, osl, rfl, l, c⟩, k⟩
end
theorem small1000 {n : Nat} (h : n ≤ 1000) : n < sizeLine := Nat.lt_of_le_of_lt h (by decide)

/-! ### expressions in short: the name that stands in the i-th slot -/
section
variable {X : Cx}
end

/-! ### tests -/

/-! ### heaps -/
/-- all that was tracked is as it was -/
def Same (H H' : Hp) : Prop := ∀ b o, H b = some o → H' b = some o
theorem Same.refl (H : Hp) : Same H H := fun _ _ h => h
theorem Same.trans {H H1 H2 : Hp} (a : Same H H1) (b : Same H1 H2) : Same H H2 := fun c o h => b c o (a c o h)
theorem Same.seq {K : PySem.W.Frag} {H H' : Hp} {a : Addr} {xs : List V} (e : Same H H') (h : SqL K H a xs) : SqL K H' a xs := by
  rcases h with (h | ⟨o, h⟩) | h
  · exact .inl (.inl (e _ _ h))
  · exact .inl (.inr ⟨o, e _ _ h⟩)
  · exact .inr h

/-! ### a dict's pairs: keys that differ -/
section
variable {κ : Type} [DecidableEq κ]
end
end L2

set_option Elab.async false
set_option linter.all false
set_option maxRecDepth 100000
set_option maxHeartbeats 4000000
namespace L2
open PySem PySem.Spec PyProof.Rows

/-! ### // by a divisor below 2^64 -/
def CDivL (i j : Int) : Prop := 0 < j ∧ j < 2 ^ 64
theorem log2_small {n : Nat} (h : n < 2 ^ 64) : n.log2 < 9000 := by
  by_cases h0 : n = 0
  · subst h0; decide
  · exact Nat.lt_of_lt_of_le ((Nat.log2_lt h0).mpr h) (by decide)
theorem op_fdivL {X : Cx} : OpR X (binaryOp .FloorDiv) (rI CDivL fun i j => .int (i / j)) := opI fun i j _ _ _ _ _ hc q => by
  have h1 : (0 : Int) < j := hc.1
  have h2 : j < 2 ^ 64 := hc.2
  exact floordiv_int (by omega) (by rw [Int.fdiv_eq_ediv_of_nonneg i (by omega)]; exact q) (.inl (PyProof.noPylong_of_log2 (log2_small (by omega))))

/-! ### data -/
mutual
def Rep (H : Hp) : PyData → V → Prop
  | .none, v => v = .non
  | .bool b, v => v = .bl b
  | .int i, v => v = .int i
  | .str x, v => v = .str x
  | .list ds, v => ∃ a xs, v = .ref a ∧ H a = some (.lst xs) ∧ RepAll H ds xs
  | .tuple ds, v => ∃ a xs, v = .ref a ∧ H a = some (.tup xs) ∧ RepAll H ds xs
  | .dict _, _ => False
def RepAll (H : Hp) : List PyData → List V → Prop
  | [], xs => xs = []
  | d :: ds, xs => ∃ y ys, xs = y :: ys ∧ Rep H d y ∧ RepAll H ds ys
end
mutual
theorem Rep.mono {H H' : Hp} (s : Same H H') : ∀ {d : PyData} {v : V}, Rep H d v → Rep H' d v
  | .none, _, h => h
  | .bool _, _, h => h
  | .int _, _, h => h
  | .str _, _, h => h
  | .list _, _, ⟨a, xs, e, h, r⟩ => ⟨a, xs, e, s a _ h, RepAll.mono s r⟩
  | .tuple _, _, ⟨a, xs, e, h, r⟩ => ⟨a, xs, e, s a _ h, RepAll.mono s r⟩
  | .dict _, _, h => h
theorem RepAll.mono {H H' : Hp} (s : Same H H') : ∀ {ds : List PyData} {xs : List V}, RepAll H ds xs → RepAll H' ds xs
  | [], _, h => h
  | _ :: _, _, ⟨y, ys, e, r, rs⟩ => ⟨y, ys, e, Rep.mono s r, RepAll.mono s rs⟩
end
theorem RepAll.length {H : Hp} : ∀ {ds : List PyData} {xs : List V}, RepAll H ds xs → ds.length = xs.length
  | [], _, h => by cases h; rfl
  | _ :: _, _, ⟨_, _, e, _, rs⟩ => by subst e; simp [rs.length]
theorem RepAll.get {H : Hp} : ∀ {ds : List PyData} {xs : List V} {i : Nat} {d : PyData}, RepAll H ds xs → ds[i]? = some d → ∃ x, xs[i]? = some x ∧ Rep H d x
  | [], _, _, _, _, e => by simp at e
  | _ :: _, _, 0, _, ⟨y, ys, e1, r, _⟩, e => by simp at e; subst e e1; exact ⟨y, rfl, r⟩
  | _ :: _, _, i + 1, d, ⟨y, ys, e1, _, rs⟩, e => by
    obtain ⟨x, h1, h2⟩ := RepAll.get (i := i) (d := d) rs (by simpa using e)
    subst e1
    exact ⟨x, by simpa using h1, h2⟩
mutual
theorem Rep.reads {P : Program} {w : World} {H : Hp} {h : Heap} (ok : HOk P w H h) : ∀ {d : PyData} {v : V} {u : Value}, Rep H d v → RelV v u → ∃ as, Reads h u d as
  | .none, _, _, e, r => by cases e; cases (show _ = Value.none from r); exact ⟨_, .none⟩
  | .bool b, _, _, e, r => by cases e; cases (show _ = Value.bool b from r); exact ⟨_, .bool b⟩
  | .int i, _, _, e, r => by cases e; obtain ⟨t, rfl⟩ := (show ∃ t, _ = Value.int i t from r); exact ⟨_, .int i t⟩
  | .str x, _, _, e, r => by cases e; obtain ⟨t, rfl⟩ := (show ∃ t, _ = Value.str x t from r); exact ⟨_, .str x t⟩
  | .list ds, _, _, ⟨a, xs, e, hh, rs⟩, r => by
    subst e
    cases (show _ = Value.ref a from r)
    obtain ⟨_, its, n, rv, ho⟩ := (show ObjOk P w H h a (.lst xs) from ok a _ hh)
    obtain ⟨as, q⟩ := RepAll.reads ok rs rv
    exact ⟨_, .list ho rfl rfl q⟩
  | .tuple ds, _, _, ⟨a, xs, e, hh, rs⟩, r => by
    subst e
    cases (show _ = Value.ref a from r)
    obtain ⟨_, its, rv, o, ho, hc, n, hd⟩ := (show ObjOk P w H h a (.tup xs) from ok a _ hh)
    obtain ⟨as, q⟩ := RepAll.reads ok rs rv
    exact ⟨_, .tuple ho hc hd q⟩
  | .dict _, _, _, e, _ => e.elim
theorem RepAll.reads {P : Program} {w : World} {H : Hp} {h : Heap} (ok : HOk P w H h) : ∀ {ds : List PyData} {xs : List V} {us : List Value}, RepAll H ds xs → Vals xs us → ∃ as, ReadsAll h us ds as
  | [], _, _, e, r => by cases e; cases r; exact ⟨_, .nil⟩
  | d :: ds, _, us, ⟨y, ys, e, hr, hs⟩, r => by
    subst e
    cases r with
    | cons r1 r2 =>
      obtain ⟨as, q⟩ := Rep.reads ok hr r1
      obtain ⟨bs, q'⟩ := RepAll.reads ok hs r2
      exact ⟨_, .cons q q'⟩
end

section
variable {X : Cx}
/-- == and != of data -/
def rEqD : R2 := fun x y H Q => ∃ d1 d2 : PyData, Rep H d1 x ∧ Rep H d2 y ∧ d1.canLay0 = true ∧ d2.canLay0 = true ∧ min d1.depth d2.depth ≤ 64 ∧ Q (.bl (PyData.eqv d1 d2)) H
def rNeD : R2 := fun x y H Q => ∃ d1 d2 : PyData, Rep H d1 x ∧ Rep H d2 y ∧ d1.canLay0 = true ∧ d2.canLay0 = true ∧ min d1.depth d2.depth ≤ 64 ∧ Q (.bl (!PyData.eqv d1 d2)) H
theorem op_eqD (hu : X.A.units + 64 < cLine) : OpR X (compareOp .Eq) rEqD := by
  intro pins s σ H x y v u Q I rx ry ⟨d1, d2, r1, r2, c1, c2, hd, q⟩
  obtain ⟨as, q1⟩ := r1.reads I.hok rx
  obtain ⟨bs, q2⟩ := r2.reads I.hok ry
  exact SeqAt.rcAt_reads q1 q2 c1 c2 (by omega) _ _ _ _ ⟨.bl _, H, I, rfl, q⟩
theorem op_neD (hu : X.A.units + 64 < cLine) : OpR X (compareOp .NotEq) rNeD := by
  intro pins s σ H x y v u Q I rx ry ⟨d1, d2, r1, r2, c1, c2, hd, q⟩
  obtain ⟨as, q1⟩ := r1.reads I.hok rx
  obtain ⟨bs, q2⟩ := r2.reads I.hok ry
  exact SeqAt.rcNeAt_reads q1 q2 c1 c2 (by omega) _ _ _ _ ⟨.bl _, H, I, rfl, q⟩
theorem call_isinst : CallR X (.builtin "isinstance") (fun xs H Q => ∃ x T t b, xs = [x, .ty T] ∧ TyOf X.K H x t ∧ PySem.W.kitOne X.K t (.type T) = some b ∧ Q (.bl b) H) := by
  intro pins s σ H xs us Q I rv ⟨x, T, t, b, e, ty, hk, q⟩
  subst e
  obtain ⟨u, w', rfl, r1, r2⟩ := vals2 rv
  cases (show w' = Value.type T from r2)
  exact isinst_ok I r1 ty hk fun tk => ⟨.bl _, H, I.tok tk, rfl, q⟩
end

/-! ### next of a tuple's iterator, inside a built-in -/
section
variable {prog : Program} {w : World} {A : Around} {E : Value → Shared → Prop} {s : Shared}
theorem nextOf_tuple_item {it l : Addr} {i : Nat} {items} {x : Value} {Q : Value → Shared → Prop} (hit : s.heap.IsTupleIter it l i)
    (hl : s.heap.IsTuple l items) (hx : items[i]? = some x)
    (hQ : ∀ h', h'.IsTupleIter it l (i + 1) → Heap.SameBut it s.heap h' → Q x { s with heap := h' }) :
    wpAny (model prog w) A (Builtin.SmallTypes.nextOf (.ref it)) Q E s := by
  obtain ⟨o, ho, hc, hd⟩ := id hit
  obtain ⟨ol, hol, _, nl, hdl⟩ := hl
  unfold Builtin.SmallTypes.nextOf
  refine wpAny_bind (wpAny_callSpecial?_slot (name := Str.ofString "__next__") hit.typeIs F.slot_tuple_iterator_next
    (wpAny_call_entry F.slot_tuple_iterator_next hit.typeIs F.entry_tuple_iterator_next ?_ (F.args_tuple_iterator_next_1 _)))
  show wpAny _ _ (field (.ref it) 0 >>= _) _ _ s
  refine wpAny_bind (wpAny_field ho hd (x := .ref l) rfl ?_)
  show wpAny _ _ (if (Value.ref l == Value.none) = true then _ else _) _ _ s
  rw [if_neg (show ¬ ((Value.ref l == Value.none) = true) from Bool.false_ne_true)]
  show wpAny _ _ (field (.ref it) 1 >>= _) _ _ s
  refine wpAny_bind (wpAny_field ho hd (x := .int i 0) rfl ?_)
  show wpAny _ _ (seqItems? (.ref l) >>= _) _ _ s
  refine wpAny_bind (wpAny_seqItems hol hdl ?_)
  simp only [Int.toNat_natCast, hx]
  refine wpAny_bind (wpAny_setField ho hd (by simp) (wpAny_pure ⟨x, rfl, wpAny_pure (hQ _ ?_ (Heap.SameBut.update ..))⟩))
  exact ⟨_, Heap.get?_update_self _ ho (Obj.isFreed_of_fields (Obj.data_mapFields hd _)), (Obj.cls_mapFields ..).trans hc, by
    rw [Obj.data_mapFields hd]; simp [rawInt]⟩
theorem nextOf_tuple_end {it l : Addr} {i : Nat} {items} {Q : Value → Shared → Prop} (hh : A.handled = none)
    (hit : s.heap.IsTupleIter it l i) (hl : s.heap.IsTuple l items) (hx : items[i]? = none)
    (hE : ∀ h' e, Heap.ExtBut it s.heap h' → (∃ o, h'.get? e = some o ∧ o.cls = .type "StopIteration") → E (.ref e) { s with heap := h' }) :
    wpAny (model prog w) A (Builtin.SmallTypes.nextOf (.ref it)) Q E s := by
  obtain ⟨o, ho, hc, hd⟩ := id hit
  obtain ⟨ol, hol, _, nl, hdl⟩ := hl
  unfold Builtin.SmallTypes.nextOf
  refine wpAny_bind (wpAny_callSpecial?_slot (name := Str.ofString "__next__") hit.typeIs F.slot_tuple_iterator_next
    (wpAny_call_entry F.slot_tuple_iterator_next hit.typeIs F.entry_tuple_iterator_next ?_ (F.args_tuple_iterator_next_1 _)))
  show wpAny _ _ (field (.ref it) 0 >>= _) _ _ s
  refine wpAny_bind (wpAny_field ho hd (x := .ref l) rfl ?_)
  show wpAny _ _ (if (Value.ref l == Value.none) = true then _ else _) _ _ s
  rw [if_neg (show ¬ ((Value.ref l == Value.none) = true) from Bool.false_ne_true)]
  show wpAny _ _ (field (.ref it) 1 >>= _) _ _ s
  refine wpAny_bind (wpAny_field ho hd (x := .int i 0) rfl ?_)
  show wpAny _ _ (seqItems? (.ref l) >>= _) _ _ s
  refine wpAny_bind (wpAny_seqItems hol hdl ?_)
  simp only [Int.toNat_natCast, hx]
  refine wpAny_bind (wpAny_rule (wpAny_bind (wpAny_setField ho hd (by simp) ?_)))
  show wpAny _ _ (newExc (.type "StopIteration") [] >>= _) _ _ _
  refine wpAny_bind ?_
  simp only [newExc, newTuple]
  refine wpAny_bind (wpAny_newObj_type ?_ (by size_fits))
  refine wpAny_bind (m := firstArgMember _ _) (wpAny_of_eq (a := Value.none) (by first | rfl | (simp only [firstArgMember]; rfl)) ?_)
  refine wpAny_newObj_type ?_ (by size_fits)
  simp only [raiseNew]
  refine wpAny_bind (wpAny_handled ?_)
  first | rw [show A.in1.handled = none from hh] | rw [hh]
  refine wpAny_bind (wpAny_pure (wpAny_throw ?_))
  exact hE _ _ (((Heap.SameBut.update ..).extBut.push _).push _) ⟨_, Heap.get?_push_size _ rfl, rfl⟩
end
end L2

set_option Elab.async false
set_option linter.all false
set_option maxRecDepth 100000
set_option maxHeartbeats 4000000
namespace L2
open PySem PySem.Spec PyProof.Rows

/-! ### zip of two lists or tuples -/
/-- an iterator inside a zip: it stands at i over the thing at l -/
structure Nx (prog : Program) (w : World) (it l : Addr) (has : Heap → Nat → Option Value → Prop) (st : Nat → Heap → Prop) : Prop where
  obj : ∀ i h, st i h → ∃ o, h.get? it = some o ∧ ∀ v, o.data ≠ .cell v
  keep : ∀ i h h', st i h → (∀ o, h.get? it = some o → h'.get? it = some o) → st i h'
  hkeep : ∀ i x h h', has h i x → (∀ o, h.get? l = some o → h'.get? l = some o) → has h' i x
  item : ∀ (A : Around) (E : Value → Shared → Prop) (i : Nat) (s : Shared) (x : Value) (Q : Value → Shared → Prop), st i s.heap → has s.heap i (some x) →
    (∀ h', st (i + 1) h' → Heap.SameBut it s.heap h' → Q x { s with heap := h' }) → wpAny (model prog w) A (Builtin.SmallTypes.nextOf (.ref it)) Q E s
  done : ∀ (A : Around) (E : Value → Shared → Prop) (i : Nat) (s : Shared) (Q : Value → Shared → Prop), A.handled = none → st i s.heap → has s.heap i none →
    (∀ h' e, Heap.ExtBut it s.heap h' → (∃ o, h'.get? e = some o ∧ o.cls = .type "StopIteration") → E (.ref e) { s with heap := h' }) → wpAny (model prog w) A (Builtin.SmallTypes.nextOf (.ref it)) Q E s
def hasL (l : Addr) (h : Heap) (i : Nat) (x : Option Value) : Prop := ∃ its : Array Value, h.IsList l its ∧ its[i]? = x
def hasT (l : Addr) (h : Heap) (i : Nat) (x : Option Value) : Prop := ∃ its : Array Value, h.IsTuple l its ∧ its[i]? = x
theorem nx_list {prog : Program} {w : World} (it l : Addr) : Nx prog w it l (hasL l) (fun i h => h.IsListIter it l i) where
  obj := fun i h st => by
    obtain ⟨o, e, c, d⟩ := st
    exact ⟨o, e, fun v z => by rw [d] at z; cases z⟩
  keep := fun i h h' st k => st.at k
  hkeep := fun i x h h' ⟨its, hl, e⟩ k => ⟨its, hl.at k, e⟩
  item := fun A E i s x Q st ⟨its, hl, e⟩ hQ => wpAny_nextOf_list_item st hl e hQ
  done := fun A E i s Q hh st ⟨its, hl, e⟩ hE => wpAny_nextOf_list_end hh st hl e hE
theorem nx_tup {prog : Program} {w : World} (it l : Addr) : Nx prog w it l (hasT l) (fun i h => h.IsTupleIter it l i) where
  obj := fun i h st => by
    obtain ⟨o, e, c, d⟩ := st
    exact ⟨o, e, fun v z => by rw [d] at z; cases z⟩
  keep := fun i h h' ⟨o, e, c⟩ k => ⟨o, k _ e, c⟩
  hkeep := fun i x h h' ⟨its, ⟨o, e1, c⟩, e⟩ k => ⟨its, ⟨o, k _ e1, c⟩, e⟩
  item := fun A E i s x Q st ⟨its, hl, e⟩ hQ => nextOf_tuple_item st hl e hQ
  done := fun A E i s Q hh st ⟨its, hl, e⟩ hE => nextOf_tuple_end hh st hl e hE

section
variable {prog : Program} {w : World} {A : Around} {E : Value → Shared → Prop} {s : Shared}
theorem zipN_item {z TI TO i1 i2 l1 l2 : Addr} {k1 k2 : Nat} {hs1 hs2 : Heap → Nat → Option Value → Prop} {st1 st2 : Nat → Heap → Prop} {x y a b : Value} {Q : Value → Shared → Prop} (D : ZipApart z TI TO i1 i2 l1 l2)
    (N1 : Nx prog w i1 l1 hs1 st1) (N2 : Nx prog w i2 l2 hs2 st2)
    (hz : IsZip s.heap z TI TO .none) (hTI : IsPair s.heap TI (.ref i1) (.ref i2)) (hTO : IsPair s.heap TO a b)
    (h1 : st1 k1 s.heap) (h2 : st2 k2 s.heap) (hx : hs1 s.heap k1 (some x)) (hy : hs2 s.heap k2 (some y))
    (hQ : ∀ h', IsZip h' z TI TO (rawInt s.heap.objs.size) → IsPair h' TO x y → st1 (k1 + 1) h' → st2 (k2 + 1) h' → IsPair h' s.heap.objs.size x y → h'.objs.size = s.heap.objs.size + 1 →
      (∀ c o, c ≠ z → c ≠ TO → c ≠ i1 → c ≠ i2 → s.heap.get? c = some o → h'.get? c = some o) → Q (.ref s.heap.objs.size) { s with heap := h' }) :
    wpAny (model prog w) A (Builtin.«zip.__next__» ⟨[.ref z], []⟩) (fun fin s' => ∃ v, fin = .done (.ret v) ∧ Q v s') E s := by
  show wpAny _ _ (field (.ref z) 2 >>= _) _ _ _
  refine wpAny_bind (wpAny_field hz rfl (x := .bool false) rfl ?_)
  show wpAny _ _ (field (.ref z) 3 >>= _) _ _ _
  refine wpAny_bind (wpAny_field hz rfl (x := .ref TI) rfl ?_)
  refine wpAny_bind (wpAny_seqItems hTI rfl ?_)
  show wpAny _ _ (Builtin.SmallTypes.ownedTupleIsFree (.ref z) >>= _) _ _ _
  refine wpAny_bind ?_
  unfold Builtin.SmallTypes.ownedTupleIsFree
  refine wpAny_bind (wpAny_field hz rfl (x := .none) rfl (wpAny_pure ?_))
  simp only [if_true]
  refine wpAny_bind (wpAny_rule ?_)
  refine wpAny_bind (wpAny_field hz rfl (x := .ref TO) rfl ?_)
  refine wpAny_bind (wpAny_setField_rec hz (by simp) fun h₁ hz₁ hs₁ => ?_)
  replace hz₁ : IsZip h₁ z TI TO .ellipsis := hz₁
  refine wpAny_bind ?_
  simp only [List.zipIdx_cons, List.zipIdx_nil, List.forIn_cons, List.forIn_nil]
  refine wpAny_bind (wpAny_bind (wpAny_onRaise ?_))
  show wpAny _ _ (Builtin.SmallTypes.nextOf (.ref i1) >>= _) _ _ _
  refine wpAny_bind (N1.item _ _ k1 { s with heap := h₁ } x _ (N1.keep _ _ _ h1 fun o e => hs₁.extBut _ _ D.i1z e) (N1.hkeep _ _ _ _ hx fun o e => hs₁.extBut _ _ D.l1z e) fun h₂ h1₂ hs₂ => wpAny_pure ?_)
  have hTO₂ : IsPair h₂ TO a b := hs₂.extBut _ _ D.TOi1 (hs₁.extBut _ _ D.TOz hTO)
  refine wpAny_bind (wpAny_seqItems hTO₂ rfl ?_)
  refine wpAny_bind (wpAny_updateSeq_pair hTO₂ fun h₃ hTO₃ hs₃ => ?_)
  replace hTO₃ : IsPair h₃ TO x b := hTO₃
  refine wpAny_bind (wpAny_letGo (wpAny_pure ?_))
  refine wpAny_bind (wpAny_bind (wpAny_onRaise ?_))
  show wpAny _ _ (Builtin.SmallTypes.nextOf (.ref i2) >>= _) _ _ _
  refine wpAny_bind (N2.item _ _ k2 { s with heap := h₃ } y _ (N2.keep _ _ _ h2 fun o e => hs₃.extBut _ _ D.TOi2.symm (hs₂.extBut _ _ D.i12.symm (hs₁.extBut _ _ D.i2z e)))
    (N2.hkeep _ _ _ _ hy fun o e => hs₃.extBut _ _ D.l2TO (hs₂.extBut _ _ D.l2i1 (hs₁.extBut _ _ D.l2z e))) fun h₄ h2₄ hs₄ => wpAny_pure ?_)
  have hTO₄ : IsPair h₄ TO x b := hs₄.extBut _ _ D.TOi2 hTO₃
  refine wpAny_bind (wpAny_seqItems hTO₄ rfl ?_)
  refine wpAny_bind (wpAny_updateSeq_pair hTO₄ fun h₅ hTO₅ hs₅ => ?_)
  replace hTO₅ : IsPair h₅ TO x y := hTO₅
  refine wpAny_bind (wpAny_letGo (wpAny_pure (wpAny_pure ?_)))
  refine wpAny_bind (wpAny_seqItems hTO₅ rfl ?_)
  refine wpAny_bind (wpAny_newTuple ?_)
  have hsz : h₅.objs.size = s.heap.objs.size := by rw [hs₅.1, hs₄.1, hs₃.1, hs₂.1, hs₁.1]
  have hz₅ : IsZip h₅ z TI TO .ellipsis := hs₅.extBut _ _ D.TOz.symm (hs₄.extBut _ _ D.i2z.symm (hs₃.extBut _ _ D.TOz.symm (hs₂.extBut _ _ D.i1z.symm hz₁)))
  have hk₅ : ∀ c o, c ≠ z → c ≠ TO → c ≠ i1 → c ≠ i2 → s.heap.get? c = some o → h₅.get? c = some o := fun c o c1 c2 c3 c4 e =>
    hs₅.extBut _ _ c2 (hs₄.extBut _ _ c4 (hs₃.extBut _ _ c2 (hs₂.extBut _ _ c3 (hs₁.extBut _ _ c1 e))))
  have h1₅ : st1 (k1 + 1) h₅ := N1.keep _ _ _ h1₂ fun o e => hs₅.extBut _ _ D.TOi1.symm (hs₄.extBut _ _ D.i12 (hs₃.extBut _ _ D.TOi1.symm e))
  have h2₅ : st2 (k2 + 1) h₅ := N2.keep _ _ _ h2₄ fun o e => hs₅.extBut _ _ D.TOi2.symm e
  have hzlt : z < h₅.objs.size := Heap.lt_size hz₅
  have hTOlt : TO < h₅.objs.size := Heap.lt_size hTO₅
  show wpAny _ _ (Builtin.SmallTypes.ownedTupleHandOut (.ref z) (.ref h₅.objs.size) >>= _) _ _ _
  refine wpAny_bind ?_
  unfold Builtin.SmallTypes.ownedTupleHandOut
  have hz₆ : IsZip (h₅.push { cls := .type "tuple", data := .seq #[x, y] }) z TI TO .ellipsis := Heap.get?_push_of_some _ hz₅
  refine wpAny_bind (wpAny_setField_rec hz₆ (by simp) fun h₇ hz₇ hs₇ => ?_)
  replace hz₇ : IsZip h₇ z TI TO (rawInt h₅.objs.size) := hz₇
  refine wpAny_setField_rec hz₇ (by simp) fun h₈ hz₈ hs₈ => ?_
  replace hz₈ : IsZip h₈ z TI TO (rawInt h₅.objs.size) := hz₈
  have up : ∀ c o, c ≠ z → h₅.get? c = some o → h₈.get? c = some o := fun c o c1 e => hs₈.extBut _ _ c1 (hs₇.extBut _ _ c1 (Heap.get?_push_of_some _ e))
  have hT₈ : IsPair h₈ h₅.objs.size x y := hs₈.extBut _ _ (Nat.ne_of_gt hzlt) (hs₇.extBut _ _ (Nat.ne_of_gt hzlt) (Heap.get?_push_size _ rfl))
  have hz8 : h₈.objs.size = h₅.objs.size + 1 := by rw [hs₈.1, hs₇.1, Heap.size_push]
  rw [hsz] at hz₈ hT₈ hz8
  refine wpAny_pure ⟨_, rfl, ?_⟩
  show Q (.ref h₅.objs.size) _
  rw [hsz]
  exact hQ h₈ hz₈ (up _ _ D.TOz hTO₅) (N1.keep _ _ _ h1₅ fun o e => up _ o D.i1z e) (N2.keep _ _ _ h2₅ fun o e => up _ o D.i2z e) hT₈ hz8 fun c o c1 c2 c3 c4 e => up c o c1 (hk₅ c o c1 c2 c3 c4 e)

theorem zipN_end {z TI TO i1 i2 l1 l2 : Addr} {k1 k2 : Nat} {hs1 hs2 : Heap → Nat → Option Value → Prop} {st1 st2 : Nat → Heap → Prop} {a b : Value} {Q : Fin → Shared → Prop} (hh : A.handled = none) (D : ZipApart z TI TO i1 i2 l1 l2)
    (N1 : Nx prog w i1 l1 hs1 st1) (N2 : Nx prog w i2 l2 hs2 st2)
    (hz : IsZip s.heap z TI TO .none) (hTI : IsPair s.heap TI (.ref i1) (.ref i2)) (hTO : IsPair s.heap TO a b)
    (h1 : st1 k1 s.heap) (h2 : st2 k2 s.heap) (hend : hs1 s.heap k1 none ∨ (∃ x, hs1 s.heap k1 (some x)) ∧ hs2 s.heap k2 none)
    (hE : ∀ h' e, (∀ c o, c ≠ z → c ≠ TO → c ≠ i1 → c ≠ i2 → s.heap.get? c = some o → h'.get? c = some o) → (∃ o, h'.get? e = some o ∧ o.cls = .type "StopIteration") → E (.ref e) { s with heap := h' }) :
    wpAny (model prog w) A (Builtin.«zip.__next__» ⟨[.ref z], []⟩) Q E s := by
  show wpAny _ _ (field (.ref z) 2 >>= _) _ _ _
  refine wpAny_bind (wpAny_field hz rfl (x := .bool false) rfl ?_)
  show wpAny _ _ (field (.ref z) 3 >>= _) _ _ _
  refine wpAny_bind (wpAny_field hz rfl (x := .ref TI) rfl ?_)
  refine wpAny_bind (wpAny_seqItems hTI rfl ?_)
  show wpAny _ _ (Builtin.SmallTypes.ownedTupleIsFree (.ref z) >>= _) _ _ _
  refine wpAny_bind ?_
  unfold Builtin.SmallTypes.ownedTupleIsFree
  refine wpAny_bind (wpAny_field hz rfl (x := .none) rfl (wpAny_pure ?_))
  simp only [if_true]
  refine wpAny_bind (wpAny_rule ?_)
  refine wpAny_bind (wpAny_field hz rfl (x := .ref TO) rfl ?_)
  refine wpAny_bind (wpAny_setField_rec hz (by simp) fun h₁ hz₁ hs₁ => ?_)
  replace hz₁ : IsZip h₁ z TI TO .ellipsis := hz₁
  refine wpAny_bind ?_
  simp only [List.zipIdx_cons, List.zipIdx_nil, List.forIn_cons, List.forIn_nil]
  refine wpAny_bind (wpAny_bind (wpAny_onRaise ?_))
  show wpAny _ _ (Builtin.SmallTypes.nextOf (.ref i1) >>= _) _ _ _
  rcases hend with hx | ⟨⟨x, hx⟩, hy⟩
  · refine wpAny_bind (N1.done _ _ k1 { s with heap := h₁ } _ hh (N1.keep _ _ _ h1 fun o e => hs₁.extBut _ _ D.i1z e) (N1.hkeep _ _ _ _ hx fun o e => hs₁.extBut _ _ D.l1z e) fun h₂ e hs₂ he => ?_)
    obtain ⟨oe, hoe, hce⟩ := he
    have hz₂ : IsZip h₂ z TI TO .ellipsis := hs₂ _ _ D.i1z.symm hz₁
    have hez : e ≠ z := fun x => by subst x; rw [hz₂] at hoe; cases hoe; simp at hce
    refine wpAny_setField_rec hz₂ (by simp) fun h₃ _ hs₃ => hE h₃ e (fun c o c1 _ c3 _ x => hs₃.extBut _ _ c1 (hs₂ _ _ c3 (hs₁.extBut _ _ c1 x))) ⟨oe, hs₃.extBut _ _ hez hoe, hce⟩
  · refine wpAny_bind (N1.item _ _ k1 { s with heap := h₁ } x _ (N1.keep _ _ _ h1 fun o e => hs₁.extBut _ _ D.i1z e) (N1.hkeep _ _ _ _ hx fun o e => hs₁.extBut _ _ D.l1z e) fun h₂ h1₂ hs₂ => wpAny_pure ?_)
    have hTO₂ : IsPair h₂ TO a b := hs₂.extBut _ _ D.TOi1 (hs₁.extBut _ _ D.TOz hTO)
    refine wpAny_bind (wpAny_seqItems hTO₂ rfl ?_)
    refine wpAny_bind (wpAny_updateSeq_pair hTO₂ fun h₃ hTO₃ hs₃ => ?_)
    refine wpAny_bind (wpAny_letGo (wpAny_pure ?_))
    refine wpAny_bind (wpAny_bind (wpAny_onRaise ?_))
    show wpAny _ _ (Builtin.SmallTypes.nextOf (.ref i2) >>= _) _ _ _
    refine wpAny_bind (N2.done _ _ k2 { s with heap := h₃ } _ hh (N2.keep _ _ _ h2 fun o e => hs₃.extBut _ _ D.TOi2.symm (hs₂.extBut _ _ D.i12.symm (hs₁.extBut _ _ D.i2z e)))
      (N2.hkeep _ _ _ _ hy fun o e => hs₃.extBut _ _ D.l2TO (hs₂.extBut _ _ D.l2i1 (hs₁.extBut _ _ D.l2z e))) fun h₄ e hs₄ he => ?_)
    obtain ⟨oe, hoe, hce⟩ := he
    have hz₄ : IsZip h₄ z TI TO .ellipsis := hs₄ _ _ D.i2z.symm (hs₃.extBut _ _ D.TOz.symm (hs₂.extBut _ _ D.i1z.symm hz₁))
    have hez : e ≠ z := fun x => by subst x; rw [hz₄] at hoe; cases hoe; simp at hce
    refine wpAny_setField_rec hz₄ (by simp) fun h₅ _ hs₅ => hE h₅ e (fun c o c1 c2 c3 c4 x => hs₅.extBut _ _ c1 (hs₄ _ _ c4 (hs₃.extBut _ _ c2 (hs₂.extBut _ _ c3 (hs₁.extBut _ _ c1 x))))) ⟨oe, hs₅.extBut _ _ hez hoe, hce⟩

theorem pyNext_zipN_item {z TI TO i1 i2 l1 l2 : Addr} {k1 k2 : Nat} {hs1 hs2 : Heap → Nat → Option Value → Prop} {st1 st2 : Nat → Heap → Prop} {x y a b : Value} {Q : Option Value → Shared → Prop} (D : ZipApart z TI TO i1 i2 l1 l2)
    (N1 : Nx prog w i1 l1 hs1 st1) (N2 : Nx prog w i2 l2 hs2 st2)
    (hz : IsZip s.heap z TI TO .none) (hTI : IsPair s.heap TI (.ref i1) (.ref i2)) (hTO : IsPair s.heap TO a b)
    (h1 : st1 k1 s.heap) (h2 : st2 k2 s.heap) (hx : hs1 s.heap k1 (some x)) (hy : hs2 s.heap k2 (some y))
    (hQ : ∀ h', IsZip h' z TI TO (rawInt s.heap.objs.size) → IsPair h' TO x y → st1 (k1 + 1) h' → st2 (k2 + 1) h' → IsPair h' s.heap.objs.size x y → h'.objs.size = s.heap.objs.size + 1 →
      (∀ c o, c ≠ z → c ≠ TO → c ≠ i1 → c ≠ i2 → s.heap.get? c = some o → h'.get? c = some o) → Q (some (.ref s.heap.objs.size)) { s with heap := h' }) :
    wpAny (model prog w) A (pyNext (.ref z)) Q E s := by
  have hT : s.TypeIs (.ref z) "zip" := ⟨_, hz, rfl⟩
  unfold pyNext
  exact wpAny_bind (wpAny_attempt (wpAny_callSpecial?_slot (name := Str.ofString "__next__") hT F.slot_zip_next
    (wpAny_call_entry F.slot_zip_next hT F.entry_zip_next
      (zipN_item D N1 N2 hz hTI hTO h1 h2 hx hy fun h' a1 a2 a3 a4 a5 a6 a7 => wpAny_pure (hQ h' a1 a2 a3 a4 a5 a6 a7)) (F.args_zip_next_1 _))))
theorem pyNext_zipN_end {z TI TO i1 i2 l1 l2 : Addr} {k1 k2 : Nat} {hs1 hs2 : Heap → Nat → Option Value → Prop} {st1 st2 : Nat → Heap → Prop} {a b : Value} {Q : Option Value → Shared → Prop} (hh : A.handled = none) (D : ZipApart z TI TO i1 i2 l1 l2)
    (N1 : Nx prog w i1 l1 hs1 st1) (N2 : Nx prog w i2 l2 hs2 st2)
    (hz : IsZip s.heap z TI TO .none) (hTI : IsPair s.heap TI (.ref i1) (.ref i2)) (hTO : IsPair s.heap TO a b)
    (h1 : st1 k1 s.heap) (h2 : st2 k2 s.heap) (hend : hs1 s.heap k1 none ∨ (∃ x, hs1 s.heap k1 (some x)) ∧ hs2 s.heap k2 none)
    (hQ : ∀ h', (∀ c o, c ≠ z → c ≠ TO → c ≠ i1 → c ≠ i2 → s.heap.get? c = some o → h'.get? c = some o) → Q none { s with heap := h' }) : wpAny (model prog w) A (pyNext (.ref z)) Q E s := by
  have hT : s.TypeIs (.ref z) "zip" := ⟨_, hz, rfl⟩
  unfold pyNext
  refine wpAny_bind (wpAny_attempt (wpAny_callSpecial?_slot (name := Str.ofString "__next__") hT F.slot_zip_next
    (wpAny_call_entry F.slot_zip_next hT F.entry_zip_next (zipN_end hh D N1 N2 hz hTI hTO h1 h2 hend fun h' e hk he => ?_) (F.args_zip_next_1 _))))
  obtain ⟨o, ho, hc⟩ := he
  refine wpAny_bind (wpAny_isInstance (T := "StopIteration") (b := true) ⟨o, ho, hc⟩ isSubtype_stop ?_)
  exact wpAny_pure (hQ _ hk)
end

/-! zip(a, b) made: the iterators of a and b stand at n, n + 1; the zip at n + 4 -/
def itObj (T : String) (l : Addr) : Obj := { cls := .type T, data := .fields #[.ref l, .int 0 0] }
def zipO (h : Heap) (o1 o2 : Obj) : Heap :=
  ((((h.push o1).push o2).push { cls := .type "tuple", data := .seq #[.ref h.objs.size, .ref (h.objs.size + 1)] }).push { cls := .type "tuple", data := .seq #[.none, .none] }).push
    { cls := .type "zip", data := .fields #[.none, .bool false, .bool false, .ref (h.objs.size + 2), .ref (h.objs.size + 3)] }
theorem meets_zipTT (l1 l2 : Addr) (xs ys : Array Value) :
    Meets (Builtin.«zip.__new__» ⟨[.type "zip", .ref l1, .ref l2], []⟩) (fun _ R s => s.heap.IsTuple l1 xs ∧ s.heap.IsTuple l2 ys ∧
      R (.ok (.ret (.ref (s.heap.objs.size + 4)))) { s with heap := zipO s.heap (itObj "tuple_iterator" l1) (itObj "tuple_iterator" l2) }) :=
  .of_wp fun prog w A R s h => by
    obtain ⟨hp, g, d, tk, os⟩ := s; obtain ⟨hl1, hl2, h⟩ := h
    have hsub := sub_zip
    have hL1 : Heap.IsTuple (Shared.heap ⟨hp, g, d, tk, os⟩) l1 xs := hl1
    have hL2 : Heap.IsTuple (Shared.heap ⟨hp.push { cls := .type "tuple_iterator", data := .fields #[.ref l1, .int 0 0] }, g, d, tk, os⟩) l2 ys := Heap.IsTuple.push hl2 _
    wp_walk using wpAny_pyIter_tuple hL1, wpAny_pyIter_tuple hL2
    refine ⟨_, rfl, ?_⟩
    have e : ∀ (h : Heap) (o : Obj), (h.push o).objs.size = h.objs.size + 1 := fun h o => Heap.size_push ..
    simp only [zipO, itObj, e] at h ⊢
    exact h
end L2

set_option Elab.async false
set_option linter.all false
set_option maxRecDepth 100000
set_option maxHeartbeats 4000000
namespace L2
open PySem PySem.Spec PyProof.Rows

section
variable {X : Cx} {pins : List (Addr × Obj)} {σ : St} {H : Hp} {s : Shared} {h' : Heap}
/-- several records of ours have turned -/
theorem Inv.turnedL {t' : Nat} {ch : List Addr} (I : Inv X pins σ H s) (hf : ∀ b ∈ ch, FpOk X pins H b) (k : ∀ b o, b ∉ ch → s.heap.get? b = some o → h'.get? b = some o) : Inv X pins σ H { s with heap := h', toks := t' } := by
  have nit : ∀ b u, H b = some u → b ∉ ch := fun b u e z => by rw [(hf b z).1] at e; cases e
  refine I.step (g' := s.gens) (d' := s.drawn) (ch := ch) (fun b hb => ?_) (fun b o _ _ hc e _ => k b o hc e) (fun b o _ _ hc e _ => ⟨o.slots, k b o hc e⟩) (fun _ _ _ _ n => n)
    (fun b o hc e => ⟨o, k b o hc e⟩) (fun _ _ e => e) (fun _ _ _ e => e) (fun b ps e => ⟨#[], by rw [e]; simp⟩) (fun m hm => ?_) (fun b u e => ?_) I.bare
  · obtain ⟨_, f1, f2, f3, f4, f5⟩ := hf b hb
    exact ⟨f3, f1, f4, f5⟩
  · obtain ⟨o, es, ep, ho, r⟩ := hm
    exact ⟨o, es, ep, k _ o (fun z => (hf _ z).2.1 rfl) ho, r⟩
  · refine (I.hok b u e).stay (fun c v hc q => k c v ?_ q) (fun _ q => q) fun _ _ q => q
    rcases hc with z | z
    · rw [z]; exact nit b u e
    · exact nit c _ z
/-- a thing of ours that was not tracked is tracked from now on -/
theorem Inv.track {t' : Nat} {T : Addr} {o : HO} (I : Inv X pins σ H s) (hf : FpOk X pins H T) (new : ObjOk X.prog X.w (upd H T o) s.heap T o) : Inv X pins σ (upd H T o) { s with toks := t' } := by
  have hn := hf.1
  refine I.step (h' := s.heap) (g' := s.gens) (d' := s.drawn) (ch := [T]) (fun b hb => ?_) (fun b o _ _ _ e _ => e) (fun b o _ _ _ e _ => ⟨o.slots, e⟩) (fun b o hc _ n => ?_)
    (fun b o _ e => ⟨o, e⟩) (fun b xs e => ?_) (fun b o u e => ?_) (fun b ps e => ⟨#[], ?_⟩) (fun m hm => hm) (fun b u e => ?_) I.bare
  · obtain ⟨_, f1, f2, f3, f4, f5⟩ := hf
    have e : b = T := by simpa using hb
    subst e
    exact ⟨f3, f1, f4, f5⟩
  · rw [upd_ne (fun z => hc (by simp [z]))]; exact n
  · rw [upd_ne (ne_of_none e hn)]; exact e
  · rw [upd_ne (ne_of_none e hn)]; exact e
  · rw [upd_ne (ne_of_none e hn), e]; simp
  · by_cases hb : b = T
    · subst hb; rw [upd_same] at e; cases e; exact new
    · rw [upd_ne hb] at e
      exact (I.hok b u e).stay (fun c v _ q => q) (fun c q => by rw [upd_ne (ne_of_none q hn)]; exact q) fun c xs q => by rw [upd_ne (ne_of_none q hn)]; exact q
end

/-! ### a list or a tuple, by kind -/
inductive SK where
  | L | T
def SqK (K : PySem.W.Frag) : SK → Hp → Addr → List V → Prop
  | .L => SqL K
  | .T => SqT K
def hasK : SK → Addr → Heap → Nat → Option Value → Prop
  | .L => hasL
  | .T => hasT
def stK : SK → Addr → Addr → Nat → Heap → Prop
  | .L => fun it l i h => h.IsListIter it l i
  | .T => fun it l i h => h.IsTupleIter it l i
def itN : SK → String
  | .L => "list_iterator"
  | .T => "tuple_iterator"
theorem nxK {prog : Program} {w : World} : ∀ (k : SK) (it l : Addr), Nx prog w it l (hasK k l) (stK k it l)
  | .L, it, l => nx_list it l
  | .T, it, l => nx_tup it l
section
variable {X : Cx} {pins : List (Addr × Obj)} {σ : St} {H : Hp} {s : Shared} {a : Addr} {xs ys : List V}
theorem Inv.srcK (I : Inv X pins σ H s) : ∀ {k : SK}, SqK X.K k H a xs → ∃ its : List Value, Vals xs its ∧ xs.length ≤ sizeLine ∧ ∀ i, hasK k a s.heap i its[i]?
  | .L, h => by
    obtain ⟨its, r, p, z⟩ := I.list h
    obtain ⟨o, n, ho, hc, hd, hdt⟩ := p
    exact ⟨its, r, z, fun i => ⟨its.toArray, ⟨o, ho, hc, n, hdt⟩, by simp⟩⟩
  | .T, h => by
    obtain ⟨its, r, p, z⟩ := I.tuple h
    exact ⟨its, r, z, fun i => ⟨its.toArray, p, by simp⟩⟩
theorem Inv.K_inj (I : Inv X pins σ H s) : ∀ {k : SK}, SqK X.K k H a xs → SqK X.K k H a ys → xs = ys
  | .L, h, h' => I.list_inj h h'
  | .T, h, h' => I.tuple_inj h h'
end
theorem Same.new {H : Hp} {p : Addr} (h : H p = none) (o : HO) : Same H (upd H p o) := fun b u q => by rw [upd_ne (ne_of_none q h)]; exact q

/-! ### zip made -/
theorem meets_zipLL (l1 l2 : Addr) (xs ys : Array Value) :
    Meets (Builtin.«zip.__new__» ⟨[.type "zip", .ref l1, .ref l2], []⟩) (fun _ R s => s.heap.IsList l1 xs ∧ s.heap.IsList l2 ys ∧
      R (.ok (.ret (.ref (s.heap.objs.size + 4)))) { s with heap := zipO s.heap (itObj "list_iterator" l1) (itObj "list_iterator" l2) }) :=
  .of_wp fun prog w A R s h => by
    obtain ⟨hp, g, d, tk, os⟩ := s; obtain ⟨hl1, hl2, h⟩ := h
    have hsub := sub_zip
    have hL1 : Heap.IsList (Shared.heap ⟨hp, g, d, tk, os⟩) l1 xs := hl1
    have hL2 : Heap.IsList (Shared.heap ⟨hp.push { cls := .type "list_iterator", data := .fields #[.ref l1, .int 0 0] }, g, d, tk, os⟩) l2 ys := Heap.IsList.push hl2 _
    wp_walk using wpAny_pyIter_list hL1, wpAny_pyIter_list hL2
    refine ⟨_, rfl, ?_⟩
    have e : ∀ (h : Heap) (o : Obj), (h.push o).objs.size = h.objs.size + 1 := fun h o => Heap.size_push ..
    simp only [zipO, itObj, e] at h ⊢
    exact h
theorem meets_zipTL (l1 l2 : Addr) (xs ys : Array Value) :
    Meets (Builtin.«zip.__new__» ⟨[.type "zip", .ref l1, .ref l2], []⟩) (fun _ R s => s.heap.IsTuple l1 xs ∧ s.heap.IsList l2 ys ∧
      R (.ok (.ret (.ref (s.heap.objs.size + 4)))) { s with heap := zipO s.heap (itObj "tuple_iterator" l1) (itObj "list_iterator" l2) }) :=
  .of_wp fun prog w A R s h => by
    obtain ⟨hp, g, d, tk, os⟩ := s; obtain ⟨hl1, hl2, h⟩ := h
    have hsub := sub_zip
    have hL1 : Heap.IsTuple (Shared.heap ⟨hp, g, d, tk, os⟩) l1 xs := hl1
    have hL2 : Heap.IsList (Shared.heap ⟨hp.push { cls := .type "tuple_iterator", data := .fields #[.ref l1, .int 0 0] }, g, d, tk, os⟩) l2 ys := Heap.IsList.push hl2 _
    wp_walk using wpAny_pyIter_tuple hL1, wpAny_pyIter_list hL2
    refine ⟨_, rfl, ?_⟩
    have e : ∀ (h : Heap) (o : Obj), (h.push o).objs.size = h.objs.size + 1 := fun h o => Heap.size_push ..
    simp only [zipO, itObj, e] at h ⊢
    exact h
theorem meets_zipLT (l1 l2 : Addr) (xs ys : Array Value) :
    Meets (Builtin.«zip.__new__» ⟨[.type "zip", .ref l1, .ref l2], []⟩) (fun _ R s => s.heap.IsList l1 xs ∧ s.heap.IsTuple l2 ys ∧
      R (.ok (.ret (.ref (s.heap.objs.size + 4)))) { s with heap := zipO s.heap (itObj "list_iterator" l1) (itObj "tuple_iterator" l2) }) :=
  .of_wp fun prog w A R s h => by
    obtain ⟨hp, g, d, tk, os⟩ := s; obtain ⟨hl1, hl2, h⟩ := h
    have hsub := sub_zip
    have hL1 : Heap.IsList (Shared.heap ⟨hp, g, d, tk, os⟩) l1 xs := hl1
    have hL2 : Heap.IsTuple (Shared.heap ⟨hp.push { cls := .type "list_iterator", data := .fields #[.ref l1, .int 0 0] }, g, d, tk, os⟩) l2 ys := Heap.IsTuple.push hl2 _
    wp_walk using wpAny_pyIter_list hL1, wpAny_pyIter_tuple hL2
    refine ⟨_, rfl, ?_⟩
    have e : ∀ (h : Heap) (o : Obj), (h.push o).objs.size = h.objs.size + 1 := fun h o => Heap.size_push ..
    simp only [zipO, itObj, e] at h ⊢
    exact h
section
variable {prog : Program} {w : World} {A : Around} {E : Value → Shared → Prop} {s : Shared}
theorem zipO_ty {h : Heap} {o1 o2 : Obj} : (zipO h o1 o2).get? (h.objs.size + 4) = some { cls := .type "zip", data := .fields #[.none, .bool false, .bool false, .ref (h.objs.size + 2), .ref (h.objs.size + 3)] } := by
  unfold zipO
  have e : h.objs.size + 4 = ((((h.push o1).push o2).push { cls := .type "tuple", data := .seq #[.ref h.objs.size, .ref (h.objs.size + 1)] }).push { cls := .type "tuple", data := .seq #[.none, .none] }).objs.size := by simp only [Heap.size_push]
  rw [e]
  exact Heap.get?_push_size _ rfl
theorem call_zipK {l1 l2 : Addr} : ∀ {k1 k2 : SK} {n1 n2 : Option Value} {Q : Value → Shared → Prop} (hl1 : hasK k1 l1 s.heap 0 n1) (hl2 : hasK k2 l2 s.heap 0 n2)
    (h : Q (.ref (s.heap.objs.size + 4)) { s with heap := zipO s.heap (itObj (itN k1) l1) (itObj (itN k2) l2) }), wpAny (model prog w) A (call (.type "zip") [.ref l1, .ref l2]) Q E s
  | .T, .T, _, _, _, ⟨xs, hl1, _⟩, ⟨ys, hl2, _⟩, h => callType_new F.called_zip (by decide) (F.typeCall_zip_2 _ _) (F.newCall_zip_2 _ _) (fun obj => F.args_object_init_3 obj _ _) F.entry_zip_new
      (meets_zipTT l1 l2 xs ys) ⟨hl1, hl2, ⟨⟨_, zipO_ty, rfl⟩, h⟩⟩
  | .L, .L, _, _, _, ⟨xs, hl1, _⟩, ⟨ys, hl2, _⟩, h => callType_new F.called_zip (by decide) (F.typeCall_zip_2 _ _) (F.newCall_zip_2 _ _) (fun obj => F.args_object_init_3 obj _ _) F.entry_zip_new
      (meets_zipLL l1 l2 xs ys) ⟨hl1, hl2, ⟨⟨_, zipO_ty, rfl⟩, h⟩⟩
  | .T, .L, _, _, _, ⟨xs, hl1, _⟩, ⟨ys, hl2, _⟩, h => callType_new F.called_zip (by decide) (F.typeCall_zip_2 _ _) (F.newCall_zip_2 _ _) (fun obj => F.args_object_init_3 obj _ _) F.entry_zip_new
      (meets_zipTL l1 l2 xs ys) ⟨hl1, hl2, ⟨⟨_, zipO_ty, rfl⟩, h⟩⟩
  | .L, .T, _, _, _, ⟨xs, hl1, _⟩, ⟨ys, hl2, _⟩, h => callType_new F.called_zip (by decide) (F.typeCall_zip_2 _ _) (F.newCall_zip_2 _ _) (fun obj => F.args_object_init_3 obj _ _) F.entry_zip_new
      (meets_zipLT l1 l2 xs ys) ⟨hl1, hl2, ⟨⟨_, zipO_ty, rfl⟩, h⟩⟩
end
end L2

set_option Elab.async false
set_option linter.all false
set_option maxRecDepth 100000
set_option maxHeartbeats 4000000
namespace L2
open PySem PySem.Spec PyProof.Rows

/-- the pairs of two lists or tuples -/
def Itz (K : PySem.W.Frag) (k1 k2 : SK) (a b : Addr) : It :=
  ⟨fun i H => ∃ xs ys x y, SqK K k1 H a xs ∧ SqK K k2 H b ys ∧ xs[i]? = some x ∧ ys[i]? = some y,
   fun i H v H' => ∃ p x y, v = .ref p ∧ H p = none ∧ H' = upd H p (.tup [x, y]) ∧ (∀ xs, SqK K k1 H a xs → xs[i]? = some x) ∧ ∀ ys, SqK K k2 H b ys → ys[i]? = some y,
   fun i H => ∃ xs ys, SqK K k1 H a xs ∧ SqK K k2 H b ys ∧ (xs.length ≤ i ∨ ys.length ≤ i)⟩
def tnZ (k1 k2 : SK) (z TI TO i1 i2 a b : Addr) (i : Nat) (h : Heap) : Prop :=
  IsZip h z TI TO .none ∧ IsPair h TI (.ref i1) (.ref i2) ∧ (∃ x y, IsPair h TO x y) ∧ stK k1 i1 a i h ∧ stK k2 i2 b i h
theorem hasK_none {k : SK} {a : Addr} {h : Heap} {i : Nat} {its : List Value} (hh : ∀ i, hasK k a h i its[i]?) (e : its.length ≤ i) : hasK k a h i none := by
  have q := hh i
  rw [List.getElem?_eq_none e] at q
  exact q
theorem turn_zip {P : Program} {w : World} {K : PySem.W.Frag} {elts : List Expr} {ek : Nat} {epos : Pos} {k1 k2 : SK} {a b z TI TO i1 i2 : Addr} (D : ZipApart z TI TO i1 i2 a b) :
    Turn P w K (.Tuple elts ek epos) (Itz K k1 k2 a b) [z, TI, TO, i1, i2] z (tnZ k1 k2 z TI TO i1 i2 a b) where
  mem := by simp
  obj := fun i h st c hc => by
    obtain ⟨hz, hTI, ⟨x, y, hTO⟩, s1, s2⟩ := st
    simp only [List.mem_cons, List.not_mem_nil, or_false] at hc
    rcases hc with rfl | rfl | rfl | rfl | rfl
    · exact ⟨_, hz, fun v e => nomatch e⟩
    · exact ⟨_, hTI, fun v e => nomatch e⟩
    · exact ⟨_, hTO, fun v e => nomatch e⟩
    · exact (nxK (prog := P) (w := w) k1 _ a).obj i h s1
    · exact (nxK (prog := P) (w := w) k2 _ b).obj i h s2
  keep := fun i h h' st k => by
    obtain ⟨hz, hTI, ⟨x, y, hTO⟩, s1, s2⟩ := st
    exact ⟨k z (by simp) _ hz, k TI (by simp) _ hTI, ⟨x, y, k TO (by simp) _ hTO⟩, (nxK (prog := P) (w := w) k1 _ a).keep i h h' s1 fun o e => k i1 (by simp) o e, (nxK (prog := P) (w := w) k2 _ b).keep i h h' s2 fun o e => k i2 (by simp) o e⟩
  item := by
    intro X hP hw hK hc i pins s σ H E I hf st hg
    subst hP hw hK
    obtain ⟨hz, hTI, ⟨ta, tb, hTO⟩, s1, s2⟩ := st
    obtain ⟨xs, ys, x, y, q1, q2, hx, hy⟩ := hg
    obtain ⟨its1, r1, z1, g1⟩ := I.srcK q1
    obtain ⟨its2, r2, z2, g2⟩ := I.srcK q2
    obtain ⟨u1, hu1, ru1⟩ := r1.get hx
    obtain ⟨u2, hu2, ru2⟩ := r2.get hy
    refine pyNext_zipN_item D (nxK k1 i1 a) (nxK k2 i2 b) hz hTI hTO s1 s2 (x := u1) (y := u2) (by rw [← hu1]; exact g1 i) (by rw [← hu2]; exact g2 i) fun h' a1 a2 a3 a4 a5 a6 a7 => ?_
    refine ⟨_, rfl, wpAny_letOwnedTupleGo_zip a1 fun h2 hz2 hs2 => ?_⟩
    have hTlt : s.heap.objs.size ≠ z := Nat.ne_of_gt (Heap.lt_size hz)
    have hlt : ∀ c o, s.heap.get? c = some o → s.heap.objs.size ≠ c := fun c o e => Nat.ne_of_gt (Heap.lt_size e)
    have kp : ∀ c o, c ∉ [z, TI, TO, i1, i2] → s.heap.get? c = some o → h2.get? c = some o := fun c o hc e => by
      simp only [List.mem_cons, List.not_mem_nil, or_false, not_or] at hc
      exact hs2.extBut _ _ hc.1 (a7 c o hc.1 hc.2.2.1 hc.2.2.2.1 hc.2.2.2.2 e)
    have I1 : Inv X pins σ H { s with heap := h2, toks := s.toks } := I.turnedL hf kp
    have hT2 : IsPair h2 s.heap.objs.size u1 u2 := hs2.extBut _ _ hTlt a5
    have hfr : H s.heap.objs.size = none := I.hok.fresh (Nat.le_refl _)
    have I2 : Inv X pins σ (upd H s.heap.objs.size (.tup [x, y])) { s with heap := h2, toks := s.toks } :=
      I1.track (t' := s.toks) (I.fpOk (Nat.le_refl _) hfr) ⟨by show 2 ≤ sizeLine; decide, [u1, u2], .cons ru1 (.cons ru2 .nil), ⟨_, hT2, rfl, _, rfl⟩⟩
    refine ⟨.ref s.heap.objs.size, _, I2, rfl, ⟨_, x, y, rfl, hfr, rfl, fun xs' h => by rw [I.K_inj h q1]; exact hx, fun ys' h => by rw [I.K_inj h q2]; exact hy⟩, ?_, fun c hc => ?_⟩
    · have e1 : ∀ c o, c ≠ z → h'.get? c = some o → h2.get? c = some o := fun c o hc e => hs2.extBut _ _ hc e
      exact ⟨hz2, e1 _ _ D.TIz (a7 _ _ D.TIz D.TITO D.TIi1 D.TIi2 hTI), ⟨_, _, e1 _ _ D.TOz a2⟩, (nxK (prog := X.prog) (w := X.w) k1 _ a).keep _ _ _ a3 fun o e => e1 _ _ D.i1z e, (nxK (prog := X.prog) (w := X.w) k2 _ b).keep _ _ _ a4 fun o e => e1 _ _ D.i2z e⟩
    · have hne : c ≠ s.heap.objs.size := by
        have : ∃ o, s.heap.get? c = some o := by
          simp only [List.mem_cons, List.not_mem_nil, or_false] at hc
          rcases hc with rfl | rfl | rfl | rfl | rfl
          · exact ⟨_, hz⟩
          · exact ⟨_, hTI⟩
          · exact ⟨_, hTO⟩
          · obtain ⟨o, e, _⟩ := (nxK (prog := X.prog) (w := X.w) k1 _ a).obj _ _ s1; exact ⟨o, e⟩
          · obtain ⟨o, e, _⟩ := (nxK (prog := X.prog) (w := X.w) k2 _ b).obj _ _ s2; exact ⟨o, e⟩
        obtain ⟨o, e⟩ := this
        exact (hlt c o e).symm
      rw [upd_ne hne]
      exact (hf c hc).1
  done := by
    intro X hP hw hK hc i pins s σ H E I hf st hg
    subst hP hw hK
    obtain ⟨hz, hTI, ⟨ta, tb, hTO⟩, s1, s2⟩ := st
    obtain ⟨xs, ys, q1, q2, he⟩ := hg
    obtain ⟨its1, r1, z1, g1⟩ := I.srcK q1
    obtain ⟨its2, r2, z2, g2⟩ := I.srcK q2
    have l1 := r1.length
    have l2 := r2.length
    have hend : hasK k1 a s.heap i none ∨ (∃ x, hasK k1 a s.heap i (some x)) ∧ hasK k2 b s.heap i none := by
      by_cases h1 : its1.length ≤ i
      · exact .inl (hasK_none g1 h1)
      · refine .inr ⟨⟨its1[i], ?_⟩, hasK_none g2 (by omega)⟩
        have q := g1 i
        rw [List.getElem?_eq_getElem (by omega)] at q
        exact q
    exact pyNext_zipN_end (I.ok.hd hc) D (nxK k1 i1 a) (nxK k2 i2 b) hz hTI hTO s1 s2 hend fun h' k => ⟨rfl, I.turnedL (t' := s.toks) hf fun c o hc e => by
      simp only [List.mem_cons, List.not_mem_nil, or_false, not_or] at hc
      exact k c o hc.1 hc.2.2.1 hc.2.2.2.1 hc.2.2.2.2 e⟩
  self := fun _ _ _ _ _ st h => wpAny_pyIter_zip st.1 h

def iZip (K : PySem.W.Frag) (k1 k2 : SK) (ta : TA) : TI := fun σ H R => ta σ H fun vs H1 => ∃ a b, vs = [.ref a, .ref b] ∧ (∃ xs, SqK K k1 H1 a xs) ∧ (∃ ys, SqK K k2 H1 b ys) ∧ R (Itz K k1 k2 a b) H1
theorem sqK_lt {X : Cx} {pins : List (Addr × Obj)} {σ : St} {H : Hp} {s : Shared} {a : Addr} {xs : List V} (I : Inv X pins σ H s) : ∀ {k : SK}, SqK X.K k H a xs → a < s.heap.objs.size
  | .L, h => by
    obtain ⟨its, r, ⟨o, n, ho, _⟩, z⟩ := I.list h
    exact Heap.lt_size ho
  | .T, h => by
    obtain ⟨its, r, ⟨o, ho, _⟩, z⟩ := I.tuple h
    exact Heap.lt_size ho
theorem pi_zip (k1 k2 : SK) {X : Cx} {elts : List Expr} {ek : Nat} {epos : Pos} {a b : Expr} {ta : TA} {p pos : Pos} (hg : Gl X "zip") (hm : X.mg "zip" = none) (ha : PA X [a, b] ta) (hs : starEach [a, b] X.env = [(false, eval a X.env), (false, eval b X.env)] := by rfl) (hs2 : starEach [b] X.env = [(false, eval b X.env)] := by rfl) :
    PI X (.Tuple elts ek epos) (.Call (.Name "zip" p) [a, b] [] pos) (iZip X.K k1 k2 ta) := by
  intro pins s σ H R I h
  refine Call_ (ld_blt I hg hm boot_zip (PyProof.Rows.callWith_type1 (thn (ha pos pins s σ H _ I h) fun us s1 ⟨vs, H1, I1, r1, q1⟩ => ?_) (by rw [hs, hs2]) (by rw [hs2]; rfl)))
  obtain ⟨l1, l2, e, ⟨xs, hq1⟩, ⟨ys, hq2⟩, q⟩ := q1
  subst e
  obtain ⟨u1, u2, rfl, ru1, ru2⟩ := vals2 r1
  cases (show u1 = Value.ref l1 from ru1)
  cases (show u2 = Value.ref l2 from ru2)
  obtain ⟨its1, _, _, g1⟩ := I1.srcK hq1
  obtain ⟨its2, _, _, g2⟩ := I1.srcK hq2
  have e5 : ∀ (h : Heap) (o : Obj), (h.push o).objs.size = h.objs.size + 1 := fun h o => Heap.size_push ..
  refine call_zipK (g1 0) (g2 0) ?_
  refine wpAny_pyIter_zip (s := { s1 with heap := zipO s1.heap (itObj (itN k1) l1) (itObj (itN k2) l2) }) zipO_ty ?_
  have kp : ∀ c o, s1.heap.get? c = some o → (zipO s1.heap (itObj (itN k1) l1) (itObj (itN k2) l2)).get? c = some o := fun c o x =>
    Heap.get?_push_of_some _ (Heap.get?_push_of_some _ (Heap.get?_push_of_some _ (Heap.get?_push_of_some _ (Heap.get?_push_of_some _ x))))
  refine ⟨s1.heap.objs.size + 4, [s1.heap.objs.size + 4, s1.heap.objs.size + 2, s1.heap.objs.size + 3, s1.heap.objs.size, s1.heap.objs.size + 1], _, _, H1, rfl, I1.kept (t' := s1.toks) kp, turn_zip (PyProof.Rows.zipApart_new (sqK_lt I1 hq1) (sqK_lt I1 hq2)), ?_, fun c hc => ?_, q⟩
  · have g5 := zipO_ty (h := s1.heap) (o1 := itObj (itN k1) l1) (o2 := itObj (itN k2) l2)
    have z1 : (s1.heap.push (itObj (itN k1) l1)).objs.size = s1.heap.objs.size + 1 := e5 _ _
    have z2 : ((s1.heap.push (itObj (itN k1) l1)).push (itObj (itN k2) l2)).objs.size = s1.heap.objs.size + 2 := by rw [e5, z1]
    have p4 : (zipO s1.heap (itObj (itN k1) l1) (itObj (itN k2) l2)).get? (s1.heap.objs.size + 3) = some { cls := .type "tuple", data := .seq #[.none, .none] } := by
      unfold zipO
      refine Heap.get?_push_of_some _ ?_
      have e : s1.heap.objs.size + 3 = (((s1.heap.push (itObj (itN k1) l1)).push (itObj (itN k2) l2)).push { cls := .type "tuple", data := .seq #[.ref s1.heap.objs.size, .ref (s1.heap.objs.size + 1)] }).objs.size := by rw [e5, z2]
      rw [e]
      exact Heap.get?_push_size _ rfl
    have p3 : (zipO s1.heap (itObj (itN k1) l1) (itObj (itN k2) l2)).get? (s1.heap.objs.size + 2) = some { cls := .type "tuple", data := .seq #[.ref s1.heap.objs.size, .ref (s1.heap.objs.size + 1)] } := by
      unfold zipO
      refine Heap.get?_push_of_some _ (Heap.get?_push_of_some _ ?_)
      rw [← z2]
      exact Heap.get?_push_size _ rfl
    have p2 : (zipO s1.heap (itObj (itN k1) l1) (itObj (itN k2) l2)).get? (s1.heap.objs.size + 1) = some (itObj (itN k2) l2) := by
      unfold zipO
      refine Heap.get?_push_of_some _ (Heap.get?_push_of_some _ (Heap.get?_push_of_some _ ?_))
      rw [← z1]
      exact Heap.get?_push_size _ rfl
    have p1 : (zipO s1.heap (itObj (itN k1) l1) (itObj (itN k2) l2)).get? s1.heap.objs.size = some (itObj (itN k1) l1) := by
      unfold zipO
      exact Heap.get?_push_of_some _ (Heap.get?_push_of_some _ (Heap.get?_push_of_some _ (Heap.get?_push_of_some _ (Heap.get?_push_size _ rfl))))
    refine ⟨g5, p3, ⟨_, _, p4⟩, ?_, ?_⟩
    · cases k1 <;> exact ⟨_, p1, rfl, rfl⟩
    · cases k2 <;> exact ⟨_, p2, rfl, rfl⟩
  · have hle : s1.heap.objs.size ≤ c := by
      simp only [List.mem_cons, List.not_mem_nil, or_false] at hc
      rcases hc with rfl | rfl | rfl | rfl | rfl <;> omega
    exact I1.fpOk hle (I1.hok.fresh hle)

end L2

set_option Elab.async false
set_option linter.all false
set_option maxRecDepth 100000
set_option maxHeartbeats 4000000
namespace L2
open PySem PySem.Spec PyProof.Rows

/-! ### a dict of the module: its keys ints and texts -/
section
variable {X : Cx} {pins : List (Addr × Obj)} {σ : St} {H : Hp} {s : Shared} {a : Addr} {kvs : List (Key × V)} {k : Key} {v : V} {u : Value} {A : Around} {E : Value → Shared → Prop}
end
section
variable {X : Cx} {o i : Expr} {pos : Pos} {td ty : TE}
end
end L2

set_option Elab.async false
set_option linter.all false
set_option maxRecDepth 100000
set_option maxHeartbeats 4000000
namespace L2
open PySem PySem.Spec PyProof.Rows

/-! ### a def of the text with its promise, as a caller wants it -/
structure Dn (P : Program) (w : World) (K : PySem.W.Frag) (mg : Str → Option Value) (base : Heap) (k : Nat) (x : Str) (f : Addr) (fd : FuncData) (ps : List Str) (sp : Sp) : Prop where
  ok : FnOk P w K mg base CX0 k f fd ps sp
  b : Binds K fd ps []
  kp : PySem.W.keepIn K (.ref f) = true
  m : mg x = some (.ref f)
section
variable {X : Cx} {k j : Nat} {f : Addr} {fd : FuncData} {ps : List Str} {sp : Sp} {x : Str} {p pos : Pos} {e : Expr} {es : List Expr} {t : TA}
theorem pe_callD (D : Dn X.prog X.w X.K X.mg X.base k x f fd ps sp) (hr : Room j X.A) (ha : PA X (e :: es) t) (hk : k ≤ j := by first | exact Nat.le_refl _ | decide | omega) (hg : Gl X x := by rfl)
    (hdb : (x == ("__debug__" : Str)) = false := by decide) (he : starEach (e :: es) X.env = (false, eval e X.env) :: starEach es X.env := by rfl) (hpl : (backTo pos (starEach es X.env)).any (·.1) = false := by rfl) :
    PE X (.Call (.Name x p) (e :: es) [] pos) (tCall sp [] E0 t) := pe_call D.ok (hr.mono hk) hg D.m D.kp D.b .nil pass0 ha hdb he hpl
end
/-- a built-in type as a value -/
theorem pe_ty {X : Cx} {x : Str} {T : String} {pos : Pos} (hm : X.mg x = none) (hv : bootBuiltins x = some (.type T)) (hg : Gl X x := by rfl) (hn : x ≠ "__name__" := by decide) (hd : (x == ("__debug__" : Str)) = false := by decide) : PE X (.Name x pos) (tC (.ty T)) := pe_bltn hg hm hv rfl hn hd
section
variable {X : Cx} {a b : Expr} {ta tb : TE} {pos : Pos}
end

/-! ### what stays but for two things -/
def Kp (t g : Addr) (H H' : Hp) : Prop := ∀ b o, H b = some o → b ≠ t → b ≠ g → H' b = some o

/-! ### the tray of a law: the great cells' rests, the number at hand, the fold, the count -/
end L2
namespace L2
open PySem PySem.Spec PyProof.Rows
theorem canAll_ints : ∀ ns : List Int, PyData.canLayAll0 (ns.map PyData.int) = true
  | [] => rfl
  | n :: r => by
    have h := canAll_ints r
    simp only [List.map_cons, PyData.canLayAll0, PyData.canLay0, h, Bool.and_self]
end L2

set_option Elab.async false
set_option linter.all false
set_option maxRecDepth 100000
set_option maxHeartbeats 4000000
namespace L2
open PySem PySem.Spec PyProof.Rows
/-! ### isinstance of data -/
def tyD : PyData → String
  | .none => "NoneType"
  | .bool _ => "bool"
  | .int _ => "int"
  | .str _ => "str"
  | .list _ => "list"
  | .tuple _ => "tuple"
  | .dict _ => "dict"
theorem tyOf_rep {K : PySem.W.Frag} {H : Hp} : ∀ {d : PyData} {x : V}, Rep H d x → TyOf K H x (.type (tyD d))
  | .none, _, h => by cases h; exact .non
  | .bool b, _, h => by cases h; exact .bl b
  | .int i, _, h => by cases h; exact .int i
  | .str s, _, h => by cases h; exact .str s
  | .list ds, _, ⟨a, xs, e, h, _⟩ => by subst e; exact .lst h
  | .tuple ds, _, ⟨a, xs, e, h, _⟩ => by subst e; exact .tup h
  | .dict _, _, h => h.elim
def isD (d : PyData) (T : String) : Bool := tyD d == T || (tyD d == "bool" && T == "int")
theorem kit_isD {K : PySem.W.Frag} {H : Hp} {T : String} (hT : T = "bool" ∨ T = "int" ∨ T = "str" ∨ T = "list" ∨ T = "tuple") : ∀ {d : PyData} {x : V}, Rep H d x → PySem.W.kitOne K (.type (tyD d)) (.type T) = some (isD d T)
  | .none, _, _ => by rcases hT with rfl | rfl | rfl | rfl | rfl <;> rfl
  | .bool b, _, _ => by rcases hT with rfl | rfl | rfl | rfl | rfl <;> rfl
  | .int i, _, _ => by rcases hT with rfl | rfl | rfl | rfl | rfl <;> rfl
  | .str s, _, _ => by rcases hT with rfl | rfl | rfl | rfl | rfl <;> rfl
  | .list ds, _, _ => by rcases hT with rfl | rfl | rfl | rfl | rfl <;> rfl
  | .tuple ds, _, _ => by rcases hT with rfl | rfl | rfl | rfl | rfl <;> rfl
  | .dict _, _, h => h.elim
section
variable {X : Cx}
def rIsi (T : String) : List V → Hp → VK → Prop := fun xs H Q => ∃ x d, xs = [x, .ty T] ∧ Rep H d x ∧ Q (.bl (isD d T)) H
theorem call_isiD (T : String) (hT : T = "bool" ∨ T = "int" ∨ T = "str" ∨ T = "list" ∨ T = "tuple") : CallR X (.builtin "isinstance") (rIsi T) := by
  intro pins s σ H xs us Q I rv ⟨x, d, e, r, q⟩
  exact call_isinst pins s σ H xs us Q I rv ⟨x, T, .type (tyD d), isD d T, e, tyOf_rep r, kit_isD hT r, q⟩
variable {e : Expr} {te : TE} {p pi pos : Pos} {x : Str}
/-- isinstance(e, T) -/
theorem pe_isi (T : String) (mi : X.mg "isinstance" = none) (mT : X.mg x = none) (hb : bootBuiltins x = some (.type T)) (he : PE X e te) (hT : T = "bool" ∨ T = "int" ∨ T = "str" ∨ T = "list" ∨ T = "tuple" := by simp)
    (gi : Gl X "isinstance" := by rfl) (gT : Gl X x := by rfl) (hn : x ≠ "__name__" := by decide) (hd : (x == ("__debug__" : Str)) = false := by decide)
    (h1 : starEach [e, .Name x p] X.env = (false, eval e X.env) :: starEach [.Name x p] X.env := by rfl) :
    PE X (.Call (.Name "isinstance" pi) [e, .Name x p] [] pos) (tCB (rIsi T) (tCons te (tCons (tC (.ty T)) tNil))) :=
  pe_callB (call_isiD T hT) gi mi PyProof.Rows.boot_isinstance (pa_cons he (pa_cons (pe_ty mT hb gT hn hd) pa_nil rfl) h1) (by decide) (by decide) h1 rfl
end
end L2
namespace L2
open PySem PySem.Spec PyProof.Rows
end L2
namespace L2
open PySem PySem.Spec PyProof.Rows
mutual
/-- no list or tuple in it has a million places -/
def Sm : PyData → Prop
  | .list ds => ds.length < 1000000 ∧ SmAll ds
  | .tuple ds => ds.length < 1000000 ∧ SmAll ds
  | _ => True
def SmAll : List PyData → Prop
  | [] => True
  | d :: ds => Sm d ∧ SmAll ds
end
theorem SmAll.get : ∀ {ds : List PyData} {i : Nat} {d : PyData}, SmAll ds → ds[i]? = some d → Sm d
  | [], _, _, _, h => by simp at h
  | x :: r, 0, d, s, h => by simp at h; subst h; exact s.1
  | x :: r, i + 1, d, s, h => SmAll.get (ds := r) (i := i) s.2 (by simpa using h)
end L2

set_option Elab.async false
set_option linter.all false
set_option maxRecDepth 100000
set_option maxHeartbeats 4000000
namespace L2
open PySem PySem.Spec PyProof.Rows
/-! ### displays of constants -/
def constV : Expr → Option V
  | .Constant (.str x) _ _ => some (.str x)
  | .Constant (.int i) _ _ => some (.int i)
  | .Constant (.bool b) _ _ => some (.bl b)
  | .Constant .none _ _ => some .non
  | _ => none
def constVs : List Expr → Option (List V)
  | [] => some []
  | e :: r => match constV e, constVs r with
    | some v, some vs => some (v :: vs)
    | _, _ => none
def tK (vs : List V) : TA := fun _ H Q => Q vs H
theorem star_const (e : Expr) (es : List Expr) (env : Env) (h : (constV e).isSome = true) : starEach (e :: es) env = (false, eval e env) :: starEach es env := by
  cases e with
  | Constant c j pos => rfl
  | _ => exact absurd h Bool.false_ne_true
theorem pe_constV {X : Cx} {e : Expr} {v : V} (h : constV e = some v) : PE X e (tC v) := by
  cases e with
  | Constant c j pos =>
    cases c with
    | str x => cases h; exact pe_str
    | int i => cases h; exact pe_int
    | bool b => cases h; exact pe_bl
    | none => cases h; exact pe_non
    | _ => exact nomatch h
  | _ => exact nomatch h
theorem pa_consts {X : Cx} : ∀ {es : List Expr} {vs : List V}, constVs es = some vs → PA X es (tK vs)
  | [], vs, h => by cases h; exact pa_nil
  | e :: r, vs, h => by
    unfold constVs at h
    cases h1 : constV e with
    | none => rw [h1] at h; cases h
    | some v =>
      cases h2 : constVs r with
      | none => rw [h1, h2] at h; cases h
      | some ws =>
        rw [h1, h2] at h
        cases h
        exact pa_cons (pe_constV h1) (pa_consts h2) (star_const e r X.env (by rw [h1]; rfl))
end L2

set_option Elab.async false
set_option linter.all false
set_option maxRecDepth 100000
set_option maxHeartbeats 4000000
namespace L2
open PySem PySem.Spec PyProof.Rows
/-! ### the judgements, sealed: a sealed one does not unfold, so that a term of rules is put together fast -/
structure SE (X : Cx) (e : Expr) (t : TE) : Prop where
  run : PE X e t
structure ST (X : Cx) (e : Expr) (t : TT) : Prop where
  run : PT X e t
structure SW (X : Cx) (e : Expr) (t : TT) : Prop where
  run : PW X e t
structure SA (X : Cx) (es : List Expr) (t : TA) : Prop where
  run : PA X es t
structure SS (X : Cx) (st : Stmt) (t : TS) : Prop where
  run : PS X st t
structure SSs (X : Cx) (st : List Stmt) (t : TS) : Prop where
  run : PSs X st t
structure SG (X : Cx) (e : Expr) (t : TG) : Prop where
  run : PG X e t
structure SGs (X : Cx) (e : List Expr) (t : TGs) : Prop where
  run : PGs X e t
structure SI (X : Cx) (tg e : Expr) (t : TI) : Prop where
  run : PI X tg e t
structure SO (X : Cx) (e : Option Expr) (t : TO) : Prop where
  run : PO X e t
def noStar : Expr → Bool
  | .Starred _ _ => false
  | _ => true
theorem star_of {e : Expr} (es : List Expr) (env : Env) (h : noStar e = true) : starEach (e :: es) env = (false, eval e env) :: starEach es env := by
  cases e with
  | Starred _ _ => exact nomatch h
  | _ => rfl
theorem star_any {pos : Pos} {env : Env} : ∀ {es : List Expr}, es.all noStar = true → (backTo pos (starEach es env)).any (·.1) = false
  | [], _ => rfl
  | e :: r, h => by
    rw [List.all_cons, Bool.and_eq_true] at h
    rw [star_of r env h.1]
    have q := star_any (pos := pos) (env := env) h.2
    unfold backTo at q ⊢
    simpa using q
section
variable {X : Cx} {st : Stmt} {rest a b : List Stmt} {t u : TS} {e c l r o i : Expr} {es : List Expr} {te ta tb tc to ti tl tr : TE} {tt tu : TT} {ts : TA} {pos p pos' apos cpos : Pos} {j : Nat} {x : Str}
/-! statements -/
theorem ss_nil : SSs X [] tNext := ⟨pss_nil⟩
theorem ss_cons (h1 : SS X st t) (h2 : SSs X rest u) : SSs X (st :: rest) (tSeq t u) := ⟨pss_cons h1.run h2.run⟩
theorem ss_one (h1 : SS X st t) : SSs X [st] t := ⟨pss_one h1.run⟩
theorem ss_never {sts : List Stmt} : SSs X sts tNever := ⟨pss_never⟩
theorem s_ret (he : SE X e te) : SS X (.Return (some e) pos) (tRet te) := ⟨ps_ret he.run⟩
theorem s_expr (he : SE X e te) (hs : swapsWith e none pos.line X.env = pure false := by rfl) : SS X (.Expr e pos) (tDrop te) := ⟨ps_expr he.run hs⟩
theorem s_if (hc : ST X c tt) (ha : SSs X a t) (hb : SSs X b u) : SS X (.If c a b pos) (tIfS tt t u) := ⟨ps_if hc.run ha.run hb.run⟩
theorem s_set (i : Nat) (hN : X.N.Nodup) (he : SE X e te) (hi : X.N[i]? = some x := by rfl) (hx : Loc X.env.scope x := by first | exact Or.inl rfl | exact Or.inr rfl) (hs : swapsWith e (some (.Name x pos')) pos.line X.env = pure false := by rfl)
    (hf : X.fn x = true ∨ X.env.scope.names.lookup x = some .local := by first | exact .inl rfl | exact .inr rfl | assumption) : SS X (.Assign [.Name x pos'] e pos) (tAsg te (gName i)) := ⟨ps_set hN hi hx he.run hs hf⟩
theorem s_asg {tg : Expr} {g : TG} (he : SE X e te) (hg : SG X tg g) (hs : swapsWithSole [tg] e pos.line X.env = pure false := by rfl) (hw : swappedStores [tg] e X.env = pure none := by rfl)
    (h1 : (assignEach [tg] X.env).map (·.2) = [assign tg X.env] := by rfl) : SS X (.Assign [tg] e pos) (tAsg te g) := ⟨ps_asg he.run hg.run hs hw h1⟩
theorem s_while {body : List Stmt} {tb : TS} (hc : ST X c tt) (hb : SSs X body tb) (hp : PassesOwn (model X.prog X.w) X.A X.env X.xe := by exact PassesOwn.never) : SS X (.While c body [] pos) (tWhile tt tb) := ⟨ps_while hp hc.run hb.run⟩
theorem s_for {tg iter : Expr} {body : List Stmt} {wi : TI} {g : TG} {tb : TS} (hi : SI X tg iter wi) (hg : SG X tg g) (hb : SSs X body tb) (hp : PassesOwn (model X.prog X.w) X.A X.env X.xe := by exact PassesOwn.never) (hc : X.calm = true := by rfl)
    (hs : ∀ x, foldedSetIterable iter X.env x = pure x := by intro _; rfl) : SS X (.For tg iter body [] pos) (tFor wi g tb) := ⟨ps_for hp hc hi.run hg.run hb.run hs⟩
/-! targets -/
theorem g_name (i : Nat) (hN : X.N.Nodup) (hi : X.N[i]? = some x := by rfl) (hx : Loc X.env.scope x := by first | exact Or.inl rfl | exact Or.inr rfl) (hf : X.fn x = true ∨ X.env.scope.names.lookup x = some .local := by first | exact .inl rfl | exact .inr rfl | assumption) : SG X (.Name x pos) (gName i) := ⟨pg_name hN hi hx hf⟩
theorem g_sub {t : TSet} (ho : SE X o to) (hi : SE X i ti) (hs : PSet X t)
    (ha : ∀ v, assign (.Subscript o i pos) X.env v = (do
      let ov ← holding [v] (eval o X.env)
      let iv ← holding [v, ov] (eval i X.env)
      standAt pos
      holding [v, ov, iv] (setItem ov iv v)
      release [v, ov, iv] []) := by intro _; rfl) : SG X (.Subscript o i pos) (gSub to ti t) := ⟨pg_sub ho.run hi.run hs ha⟩
theorem gs_nil : SGs X [] gNil := ⟨pgs_nil⟩
theorem gs_cons {tg : TG} {tgs : TGs} (h1 : SG X e tg) (h2 : SGs X es tgs) (hs : (assignEach (e :: es) X.env).map (·.2) = assign e X.env :: (assignEach es X.env).map (·.2) := by rfl) : SGs X (e :: es) (gCons tg tgs) := ⟨pgs_cons h1.run h2.run hs⟩
/-! what a loop walks -/
theorem i_list {tg : Expr} (hl : SE X l tl) : SI X tg l (iList X.K tl) := ⟨pi_list hl.run⟩
theorem i_range1 {tg : Expr} (hm : X.mg "range" = none) (ha : SA X [e] ts) (hn : noStar e = true := by rfl) (hg : Gl X "range" := by rfl) : SI X tg (.Call (.Name "range" p) [e] [] pos) (iRng1 ts) :=
  ⟨pi_range1 hg hm ha.run (star_of [] X.env hn)⟩
theorem i_zip (k1 k2 : SK) {elts : List Expr} {ek : Nat} {epos : Pos} (hm : X.mg "zip" = none) (ha : SA X [e, c] ts) (hn : noStar e = true := by rfl) (hn2 : noStar c = true := by rfl) (hg : Gl X "zip" := by rfl) :
    SI X (.Tuple elts ek epos) (.Call (.Name "zip" p) [e, c] [] pos) (iZip X.K k1 k2 ts) :=
  ⟨pi_zip k1 k2 hg hm ha.run (by rw [star_of [c] X.env hn, star_of [] X.env hn2]; rfl) (star_of [] X.env hn2)⟩
/-! argument lists, displays -/
theorem a_nil : SA X [] tNil := ⟨pa_nil⟩
theorem a_cons (ha : SE X e te) (hr : SA X es ts) (hs : noStar e = true := by rfl) : SA X (e :: es) (tCons te ts) := ⟨pa_cons ha.run hr.run (star_of es X.env hs)⟩
theorem a_consts {vs : List V} (h : constVs es = some vs) : SA X es (tK vs) := ⟨pa_consts h⟩
theorem e_tup {k : Nat} (h : SA X es ts) : SE X (.Tuple es k pos) (tTup ts) := ⟨pe_tup h.run⟩
theorem e_lst (h : SA X es ts) : SE X (.List es pos) (tLst ts) := ⟨pe_lst h.run⟩
/-! names, constants -/
theorem e_v (i : Nat) (hN : X.N[i]? = some x := by rfl) (hv : Vis X.env.scope x := by first | exact Or.inl rfl | exact Or.inr (Or.inl rfl) | exact Or.inr (Or.inr rfl)) (hd : (x == ("__debug__" : Str)) = false := by decide)
    (hcd : (x == ("__classdict__" : Str)) = false := by decide) : SE X (.Name x pos) (tVar i) := ⟨pe_var hN hv hd hcd⟩
theorem e_int {n : Int} : SE X (.Constant (.int n) j pos) (tC (.int n)) := ⟨pe_int⟩
theorem e_bl {k : Bool} : SE X (.Constant (.bool k) j pos) (tC (.bl k)) := ⟨pe_bl⟩
theorem e_non : SE X (.Constant .none j pos) (tC .non) := ⟨pe_non⟩
theorem e_str {s : Str} : SE X (.Constant (.str s) j pos) (tC (.str s)) := ⟨pe_str⟩
/-! operations -/
theorem e_op {op : Operator} {r2 : R2} (ho : OpR X (binaryOp op) r2) (ha : SE X l tl) (hb : SE X r tr) : SE X (.BinOp l op r pos) (tOp r2 tl tr) := ⟨pe_op ho ha.run hb.run⟩
theorem e_un {op : UnaryOp} {r1 : V → Hp → VK → Prop} (ho : UnR X (unaryOp op) r1) (ha : SE X l tl) : SE X (.UnaryOp op l pos) (tUn r1 tl) := ⟨pe_un ho ha.run⟩
theorem e_cmp {op : CmpOp} {r2 : R2} (ho : OpR X (compareOp op) r2) (ha : SE X l tl) (hb : SE X r tr) (h1 : op ≠ .In := by decide) (h2 : op ≠ .NotIn := by decide) : SE X (.Compare l [op] [r] pos) (tOp r2 tl tr) := ⟨pe_cmpR ho ha.run hb.run (nomark r h1 h2)⟩
theorem t_cmp {op : CmpOp} {r2 : R2} (ho : OpR X (compareOp op) r2) (ha : SE X l tl) (hb : SE X r tr) (h1 : op ≠ .In := by decide) (h2 : op ≠ .NotIn := by decide) : ST X (.Compare l [op] [r] pos) (tTest (tOp r2 tl tr)) := ⟨pt_cmpR ho ha.run hb.run (nomark r h1 h2)⟩
theorem t_in {op : CmpOp} {r2 : R2} (ho : OpR X (compareOp op) r2) (ha : SE X l tl) (hb : SE X r tr) (hm : behindInMarks op r = false := by with_unfolding_all rfl) : ST X (.Compare l [op] [r] pos) (tTest (tOp r2 tl tr)) := ⟨pt_cmpR ho ha.run hb.run hm⟩
theorem t_isN {k : Nat} (ha : SE X l tl) : ST X (.Compare l [.Is] [.Constant .none k pos'] pos) (tB (tIsN tl)) := ⟨pt_cmp (pc_isN ha.run)⟩
theorem t_notN {k : Nat} (ha : SE X l tl) : ST X (.Compare l [.IsNot] [.Constant .none k pos'] pos) (tB (tNotN tl)) := ⟨pt_cmp (pc_notN ha.run)⟩
theorem w_and1 (ha : ST X e tt) : SW X (.BoolOp .And [e] pos) tt := ⟨pw_and1 ha.run⟩
theorem w_or1 (ha : ST X e tt) : SW X (.BoolOp .Or [e] pos) tt := ⟨pw_or1 ha.run⟩
theorem w_and (ha : ST X e tt) (hb : SW X (.BoolOp .And (c :: es) pos) tu) : SW X (.BoolOp .And (e :: c :: es) pos) (tAnd tt tu) := ⟨pw_and ha.run hb.run⟩
theorem w_or (ha : ST X e tt) (hb : SW X (.BoolOp .Or (c :: es) pos) tu) : SW X (.BoolOp .Or (e :: c :: es) pos) (tOr tt tu) := ⟨pw_or ha.run hb.run⟩
theorem t_w (h : SW X e tt) : ST X e tt := ⟨h.run.pt⟩
theorem t_not (ha : ST X e tt) : ST X (.UnaryOp .Not e pos) (tNot tt) := ⟨pt_not ha.run⟩
theorem t_b (h : SE X e te) (he : ∀ whole, isTrue e X.env whole = (do let v ← whole; standAt e.pos; holding [v] (truthy v)) := by intro _; rfl) : ST X e (tB te) := ⟨pt_val h.run he⟩
theorem e_if (hc : ST X c tt) (ha : SE X l tl) (hb : SE X r tr) : SE X (.IfExp c l r pos) (tIf tt tl tr) := ⟨pe_ifExp hc.run ha.run hb.run⟩
/-! subscripts -/
theorem e_ix (ha : SE X l tl) (hb : SE X r tr) (hs : PlainIx r := by exact fun _ _ => rfl) : SE X (.Subscript l r pos) (tOp (rIx X.K) tl tr) := ⟨pe_ix ix_seq ha.run hb.run hs⟩
theorem o_none : SO X none tNoPart := ⟨po_none⟩
theorem o_some (h : SE X e te) : SO X (some e) (tPart te) := ⟨po_some h.run⟩
theorem e_sl {lo hi : Option Expr} {tlo thi : TO} {r4 : V → Option Int → Option Int → Hp → VK → Prop} (hr : SlR X r4) (he : SE X e te) (hl : SO X lo tlo) (hu : SO X hi thi) : SE X (.Subscript e (.Slice lo hi none p) pos) (tSl r4 te tlo thi) := ⟨pe_slice hr he.run hl.run hu.run⟩
/-! calls -/
theorem e_call {k j : Nat} {f : Addr} {fd : FuncData} {ps : List Str} {sp : Sp} (D : Dn X.prog X.w X.K X.mg X.base k x f fd ps sp) (hr : Room j X.A) (ha : SA X (e :: es) ts) (hk : k ≤ j := by first | exact Nat.le_refl _ | decide | omega) (hs : (e :: es).all noStar = true := by rfl) (hg : Gl X x := by rfl)
    (hdb : (x == ("__debug__" : Str)) = false := by decide) : SE X (.Call (.Name x p) (e :: es) [] pos) (tCall sp [] E0 ts) :=
  ⟨pe_callD D hr ha.run hk hg hdb (star_of es X.env (by rw [List.all_cons, Bool.and_eq_true] at hs; exact hs.1)) (star_any (by rw [List.all_cons, Bool.and_eq_true] at hs; exact hs.2))⟩
theorem e_callB {id : String} {rr : List V → Hp → VK → Prop} (hc : CallR X (.builtin id) rr) (hm : X.mg x = none) (hv : bootBuiltins x = some (.builtin id)) (ha : SA X (e :: es) ts) (hs : (e :: es).all noStar = true := by rfl) (hg : Gl X x := by rfl) (hn : x ≠ "__name__" := by decide) (hdb : (x == ("__debug__" : Str)) = false := by decide) :
    SE X (.Call (.Name x p) (e :: es) [] pos) (tCB rr ts) :=
  ⟨pe_callB hc hg hm hv ha.run hn hdb (star_of es X.env (by rw [List.all_cons, Bool.and_eq_true] at hs; exact hs.1)) (star_any (by rw [List.all_cons, Bool.and_eq_true] at hs; exact hs.2))⟩
theorem e_callTy {T : String} {rr : List V → Hp → VK → Prop} (hc : CallR X (.type T) rr) (hm : X.mg x = none) (hv : bootBuiltins x = some (.type T)) (ha : SA X (e :: es) ts) (hs : (e :: es).all noStar = true := by rfl) (hg : Gl X x := by rfl) (hn : x ≠ "__name__" := by decide) (hdb : (x == ("__debug__" : Str)) = false := by decide) :
    SE X (.Call (.Name x p) (e :: es) [] pos) (tCB rr ts) :=
  ⟨pe_callTy hc hg hm hv ha.run hn hdb (star_of es X.env (by rw [List.all_cons, Bool.and_eq_true] at hs; exact hs.1)) (star_any (by rw [List.all_cons, Bool.and_eq_true] at hs; exact hs.2))⟩
theorem e_bm0 {name : Str} {T id : String} {rr : V → List V → Hp → VK → Prop} (pa : PlainAttrs T) (slot : Slot T name id) (hty : typeOf (.builtin id) = pure (.type "method_descriptor")) (hm : MtR X id rr) (ho : SE X o to)
    (hbase : attributeBase o name X.env (eval o X.env) = eval o X.env := by rfl) (hline : (apos.endLine == cpos.line) = true := by rfl) : SE X (.Call (.Attribute o name apos) [] [] cpos) (tBM0 X.K T rr to) := ⟨pe_bm0 pa slot hty hm ho.run hbase hline⟩
theorem e_bm {name : Str} {T id : String} {rr : V → List V → Hp → VK → Prop} (pa : PlainAttrs T) (slot : Slot T name id) (hty : typeOf (.builtin id) = pure (.type "method_descriptor")) (hm : MtR X id rr) (ho : SE X o to) (ha : SA X (e :: es) ts)
    (hs : (e :: es).all noStar = true := by rfl)
    (hbase : attributeBase o name X.env (eval o X.env) = eval o X.env := by rfl)
    (hfew : ((backTo cpos (starEach (e :: es) X.env)).all (fun x => !x.1) && (backToKw cpos (keywordEach [] X.env)).all (fun x => x.1.isSome)
      && decide ((e :: es).length + ([] : List Keyword).length + (if ([] : List Keyword).isEmpty then 0 else 1) < 30)) = true := by rfl)
    (hline : (apos.endLine == cpos.line) = true := by rfl) : SE X (.Call (.Attribute o name apos) (e :: es) [] cpos) (tBM X.K T rr to ts) :=
  ⟨pe_bm pa slot hty hm ho.run ha.run hbase hfew hline (star_of es X.env (by rw [List.all_cons, Bool.and_eq_true] at hs; exact hs.1)) (star_any (by rw [List.all_cons, Bool.and_eq_true] at hs; exact hs.2))⟩
theorem e_isi {T : String} (mi : X.mg "isinstance" = none) (mT : X.mg x = none) (hb : bootBuiltins x = some (.type T)) (he : SE X e te) (hT : T = "bool" ∨ T = "int" ∨ T = "str" ∨ T = "list" ∨ T = "tuple" := by simp)
    (h1 : noStar e = true := by rfl) (gi : Gl X "isinstance" := by rfl) (gT : Gl X x := by rfl) (hn : x ≠ "__name__" := by decide) (hd : (x == ("__debug__" : Str)) = false := by decide) :
    SE X (.Call (.Name "isinstance" pos') [e, .Name x p] [] pos) (tCB (rIsi T) (tCons te (tCons (tC (.ty T)) tNil))) := ⟨pe_isi T mi mT hb he.run hT gi gT hn hd (star_of [.Name x p] X.env h1)⟩
end
/-- THE RULE for a def -/
theorem Fun.okS {P : Program} {w : World} {K : PySem.W.Frag} {mg : Str → Option Value} {base : Heap} {x qual : Str} {st : Stmt} {f : Addr} {fd : FuncData} {N ps : List Str} {k : Nat} {sp : Sp} (F : Fun K x qual st f fd) (S : FnScope N ps (defScope st)) (len : ∀ vs H Q E, sp vs H Q E → vs.length = ps.length)
    (hbody : ∀ (cdv : Value) (A : Around) (outer : List Env) (s : Shared) (H : Hp) (vs : List V) (Q : VK) (E : XK), Room k (A.deeper (envOfC qual (defScope st) s.heap.objs.size f cdv)) → sp vs H Q E →
      ∃ t, SSs (cxOf CX0 P w K mg base N qual (defScope st) f cdv A outer s H E).nox (defBody st) t ∧ t { nx := fun _ H' => Q .non H', rt := Q } (start N vs) H) : FnOk P w K mg base CX0 (k + 1) f fd ps sp :=
  F.ok S len fun cdv A outer s H vs Q E hr h => by
    obtain ⟨t, h1, h2⟩ := hbody cdv A outer s H vs Q E hr h
    exact ⟨t, h1.run, h2⟩
end L2

set_option Elab.async false
set_option linter.all false
set_option maxRecDepth 100000
set_option maxHeartbeats 4000000
namespace L2
open PySem PySem.Spec PyProof.Rows
/-! ### the cells that a block captures -/
def capL (cells : List (Str × Addr)) : List (Str × NameKind) → List (Str × Addr) → List (Str × Addr)
  | [], cs => cs
  | (n, k) :: r, cs => capL cells r (if k == .free then (match cells.lookup n with | some a => (n, a) :: cs | none => cs) else cs)
theorem cap_forIn {env : Env} : ∀ (ns : List (Str × NameKind)) (cs : List (Str × Addr)), (∀ y ∈ ns, y.2 = .free → ∃ c, env.cells.lookup y.1 = some c) →
    (forIn ns cs fun x r => match x with | (name, kind) => if (kind == NameKind.free) = true then do let a ← cellOf env name; pure (ForInStep.yield ((name, a) :: r)) else pure (ForInStep.yield r)) = (pure (capL env.cells ns cs) : Sem (List (Str × Addr)))
  | [], cs, _ => rfl
  | (n, k) :: r, cs, h => by
    have ih := fun cs' => cap_forIn (env := env) r cs' fun y hy => h y (List.mem_cons_of_mem _ hy)
    rw [List.forIn_cons]
    cases hk : k == NameKind.free with
    | false =>
      have e : capL env.cells ((n, k) :: r) cs = capL env.cells r cs := by simp [capL, hk]
      rw [e, ← ih cs]
      simp [hk]
    | true =>
      have hk' : k = .free := by simpa using hk
      obtain ⟨c, hc⟩ := h (n, k) List.mem_cons_self hk'
      have hc' : env.cells.lookup n = some c := hc
      have e : capL env.cells ((n, k) :: r) cs = capL env.cells r ((n, c) :: cs) := by simp [capL, hk, hc']
      rw [e, ← ih ((n, c) :: cs)]
      have hco : cellOf env n = pure c := by unfold cellOf; rw [hc']
      simp [hk, hco]
theorem closure_of {scope : Scope} {env : Env} (h : ∀ y ∈ scope.names, y.2 = .free → ∃ c, env.cells.lookup y.1 = some c) : closureFor scope env = pure (capL env.cells scope.names []) := by
  unfold closureFor
  have := cap_forIn (env := env) scope.names [] h
  simp only at this ⊢
  rw [this]
  rfl
theorem cap_sub {cells : List (Str × Addr)} {x : Str} {c : Addr} : ∀ (ns : List (Str × NameKind)) (cs : List (Str × Addr)), (∀ z d, cs.lookup z = some d → cells.lookup z = some d) → (capL cells ns cs).lookup x = some c → cells.lookup x = some c
  | [], cs, h, e => h x c e
  | (n, k) :: r, cs, h, e => by
    refine cap_sub r _ (fun z d => ?_) e
    split
    · split
      · rename_i a ha
        intro q
        rw [List.lookup_cons] at q
        split at q
        · rename_i hz
          have : z = n := by simpa using hz
          subst this; cases q; exact ha
        · exact h z d q
      · exact h z d
    · exact h z d
theorem cap_has {cells : List (Str × Addr)} {x : Str} : ∀ (ns : List (Str × NameKind)) (cs : List (Str × Addr)), ((cs.lookup x).isSome = true ∨ ((x, NameKind.free) ∈ ns ∧ (cells.lookup x).isSome = true)) → ((capL cells ns cs).lookup x).isSome = true
  | [], cs, h => by
    rcases h with h | ⟨h, _⟩
    · exact h
    · cases h
  | (n, k) :: r, cs, h => by
    refine cap_has r _ ?_
    have keep : (cs.lookup x).isSome = true → ((if k == .free then (match cells.lookup n with | some a => (n, a) :: cs | none => cs) else cs).lookup x).isSome = true := fun q => by
      split
      · split
        · rw [List.lookup_cons]; split
          · rfl
          · exact q
        · exact q
      · exact q
    rcases h with h | ⟨h, hc⟩
    · exact .inl (keep h)
    · rcases List.mem_cons.mp h with e | e
      · injection e with e1 e2
        subst e1; subst e2
        left
        cases q : cells.lookup x with
        | none => rw [q] at hc; cases hc
        | some a => simp
      · exact .inr ⟨e, hc⟩
theorem rel_mem {env : Env} {x : Str} {k' : NameKind} : ∀ {names : List (Str × NameKind)}, (names.map fun (n, k) => if (k == NameKind.free && env.scope.kind == .function && env.kindOf n == some .cell) then (n, NameKind.cell) else (n, k)).lookup x = some k' →
    ∃ k, (x, k) ∈ names ∧ (k' = k ∨ (k = .free ∧ k' = .cell))
  | [], h => by simp at h
  | (n, k) :: r, h => by
    have ih := @rel_mem env x k' r
    rw [List.map_cons] at h
    by_cases hc : (k == NameKind.free && env.scope.kind == .function && env.kindOf n == some .cell) = true
    · simp only [hc, if_true, List.lookup_cons] at h
      split at h
      · rename_i hz
        have : x = n := by simpa using hz
        subst this; cases h
        have hk : k = .free := by
          rw [Bool.and_eq_true, Bool.and_eq_true] at hc
          simpa using hc.1.1
        exact ⟨k, List.mem_cons_self, .inr ⟨hk, rfl⟩⟩
      · obtain ⟨k2, m, q⟩ := ih h
        exact ⟨k2, List.mem_cons_of_mem _ m, q⟩
    · simp only [hc, Bool.false_eq_true, if_false, List.lookup_cons] at h
      split at h
      · rename_i hz
        have : x = n := by simpa using hz
        subst this; cases h
        exact ⟨_, List.mem_cons_self, .inl rfl⟩
      · obtain ⟨k2, m, q⟩ := ih h
        exact ⟨k2, List.mem_cons_of_mem _ m, q⟩
theorem mem_of_lookup {x : Str} {k : NameKind} : ∀ (l : List (Str × NameKind)), l.lookup x = some k → (x, k) ∈ l
  | [], q => by cases q
  | (n, k2) :: r, q => by
    rw [List.lookup_cons] at q
    split at q
    · rename_i hz
      have : x = n := by simpa using hz
      subst this; cases q; exact List.mem_cons_self
    · exact List.mem_cons_of_mem _ (mem_of_lookup r q)
/-! ### the block's context -/
def blkX (X : Cx) (scope : Scope) (N' : List Str) (s₀ : Shared) (H₀ : Hp) (C : Addr) (ex : List Addr) : Cx :=
  { X with N := N', s₀ := s₀, H₀ := H₀, env := compEnvC scope (capL X.env.cells scope.names []) C X.env, outer := X.stack, stack := X.stack, ex := ex, fn := fun _ => false, calm := true, pn := [], xe := fun _ _ => False }
/-- the block's slots at a turn's beginning: what is captured -/
def blk (ix : List (Option Nat)) (σ : St) : St := ix.map fun o => match o with | none => none | some j => (σ[j]?).join
/-- what a block's scope must be -/
structure BlkOk (X : Cx) (scope : Scope) (N' : List Str) (ix : List (Option Nat)) : Prop where
  kind : scope.kind = .function
  nocell : scope.names.all (fun y => y.2 != .cell) = true
  free : scope.names.all (fun y => y.2 != .free || (X.env.scope.names.lookup y.1 == some .cell || X.env.scope.names.lookup y.1 == some .free)) = true
  loc : scope.names.all (fun y => y.2 != .local || scope.names.lookup y.1 == some .local) = true
  len : N'.length = ix.length
  ok : (N'.zip ix).all (fun p => match p.2 with | none => true | some j => X.N[j]? == some p.1 && scope.names.lookup p.1 == some .free && (X.env.scope.names.lookup p.1 == some .cell || X.env.scope.names.lookup p.1 == some .free)) = true
section
variable {X : Cx} {scope : Scope} {N' : List Str} {ix : List (Option Nat)} {pins : List (Addr × Obj)} {σ : St} {H : Hp} {s₂ s₃ s : Shared} {fp : List Addr} {m : Str → Option Value} {D C : Addr}
theorem BlkOk.has (B : BlkOk X scope N' ix) (ok : X.Ok) : ∀ y ∈ scope.names, y.2 = .free → ∃ c, X.env.cells.lookup y.1 = some c := fun y hy e => by
  have := (List.all_eq_true.mp B.free) y hy
  rw [e] at this
  simp at this
  rcases this with q | q
  · exact ok.has y.1 (.inl q)
  · exact ok.has y.1 (.inr q)
theorem BlkOk.ncell (B : BlkOk X scope N' ix) : ∀ y ∈ scope.names, y.2 ≠ .cell := fun y hy => by
  have := (List.all_eq_true.mp B.nocell) y hy
  simpa using this
theorem BlkOk.names (B : BlkOk X scope N' ix) : ∀ y ∈ scope.names, y.2 = .local → scope.names.lookup y.1 = some .local := fun y hy e => by
  have := (List.all_eq_true.mp B.loc) y hy
  rw [e] at this
  simpa using this
/-- the block is entered: s₂ with the new list D and the block's names C -/
theorem Inv.block (I : Inv X pins σ H s₂) (B : BlkOk X scope N' ix) (hc : X.calm = true) (hfp : ∀ b ∈ fp, FpOk X pins H b) (hfo : ∀ b ∈ fp, ∃ o, s₂.heap.get? b = some o) (e3 : s₃.os = s₂.os) (hD : D = s₂.heap.objs.size) (k3 : ∀ b o, s₂.heap.get? b = some o → s₃.heap.get? b = some o) (hC : C = s₃.heap.objs.size) (hDC : D < C) (sz3 : s₂.heap.objs.size ≤ s₃.heap.objs.size)
    (eo : s.os = s₂.os) (eg : s.gens = s₂.gens) (k4 : ∀ b o, s₃.heap.get? b = some o → s.heap.get? b = some o) (hn : s.heap.Ns C m) : Inv (blkX X scope N' s₃ H C (D :: fp)) [] (blk ix σ) H s := by
  have hlt := I.lt
  have hD' : (D : Nat) = s₂.heap.objs.size := hD
  have hC' : (C : Nat) = s₃.heap.objs.size := hC
  have capS : ∀ x c, (capL X.env.cells scope.names []).lookup x = some c → X.env.cells.lookup x = some c := fun x c e => cap_sub _ _ (fun z d q => by cases q) e
  have celllt : ∀ x c, X.env.cells.lookup x = some c → c < s₂.heap.objs.size := fun x c e => let ⟨v, q⟩ := I.cell x c e; q.lt
  have fplt : ∀ b ∈ fp, b < s₂.heap.objs.size := fun b hb => let ⟨o, q⟩ := hfo b hb; Heap.lt_size q
  have nD : H D = none := I.hok.fresh (Nat.le_of_eq hD'.symm)
  have nC : H C = none := I.hok.fresh (Nat.le_trans sz3 (Nat.le_of_eq hC'.symm))
  have funs3 : s₃.heap.FunFrames X.base X.stack := by
    have all : ∀ (l : List Env), s₂.heap.FunFrames X.base l → s₃.heap.FunFrames X.base l := by
      intro l
      induction l with
      | nil => intro _; trivial
      | cons env r ih =>
        intro hl
        obtain ⟨hk, ⟨L, o, hf, hn, ho, hd⟩, hr⟩ := hl
        exact ⟨hk, ⟨L, o, hf, hn, k3 L o ho, hd⟩, ih hr⟩
    exact all _ I.stack
  have stlt : ∀ b ∈ frs X.stack, b < s₂.heap.objs.size := fun b hb => let ⟨_, o, ho, _⟩ := I.stack.mem hb; Heap.lt_size ho
  refine ⟨⟨I.ok.mod, B.kind, I.ok.glob, I.ok.blt, Nat.le_of_eq hC'.symm, fun x y c e1 e2 => I.ok.inj x y c (capS x c e1) (capS y c e2), fun x hx => ?_, fun x c q => (nomatch q), fun _ => I.ok.hd hc, I.ok.frames, .inl rfl, fun b hb => ?_, fun b o e => ?_, ?_, fun b o e hb => ?_, fun b hb => ?_, funs3, I.stkFree⟩,
    eo.trans e3.symm, by rw [eg]; exact I.bare, Un.kept k4, ⟨m, hn, fun i x v e1 e2 e3 => ?_⟩, fun x c e => ?_, nC, fun x c e => I.freeC x c (capS x c e), fun p hp => (nomatch hp), I.hok.kept fun b o e => k4 b o (k3 b o e), ?_⟩
  · have fr : (x, NameKind.free) ∈ scope.names := by
      rcases hx with q | q
      · obtain ⟨k, hm, q⟩ := rel_mem q
        rcases q with q | ⟨q, _⟩
        · exact absurd q.symm (B.ncell _ hm)
        · rw [q] at hm; exact hm
      · obtain ⟨k, hm, q⟩ := rel_mem q
        rcases q with q | ⟨_, q⟩
        · rw [← q] at hm; exact hm
        · cases q
    obtain ⟨c, q⟩ := B.has I.ok _ fr rfl
    have := cap_has (cells := X.env.cells) (x := x) scope.names [] (.inr ⟨fr, by rw [q]; rfl⟩)
    exact Option.isSome_iff_exists.mp this
  · rcases List.mem_cons.mp hb with e | hb
    · refine ⟨by rw [e]; exact Nat.ne_of_lt hDC, fun x c q z => ?_⟩
      have l := celllt x c (capS x c q)
      rw [z, e, hD] at l
      exact Nat.lt_irrefl _ l
    · have l := fplt b hb
      refine ⟨Nat.ne_of_lt (Nat.lt_of_lt_of_le l (Nat.le_trans sz3 (Nat.le_of_eq hC'.symm))), fun x c q z => ?_⟩
      exact (hfp b hb).2.2.2.2.1 x c (capS x c q) z
  · exact ⟨k3 b o (I.bs b o e).1, (I.bs b o e).2⟩
  · exact Nat.le_trans I.ok.bsz (Nat.le_trans I.sz sz3)
  · rcases List.mem_cons.mp hb with z | hb
    · have l := Heap.lt_size (I.bk b o e)
      rw [z, hD] at l
      exact Nat.lt_irrefl _ l
    · rcases (hfp b hb).2.2.2.1 with q | q
      · exact I.ok.noex b o e q
      · exact Nat.lt_irrefl _ (Nat.lt_of_lt_of_le (Heap.lt_size (I.ok.bs b o e).1) q)
  · rcases List.mem_cons.mp hb with z | hb
    · intro q
      have l := stlt b q
      rw [z, hD] at l
      exact Nat.lt_irrefl _ l
    · intro q
      rcases List.mem_cons.mp (I.stkSub b q) with z | z
      · exact (hfp b hb).2.1 z
      · exact (hfp b hb).2.2.1 z
  · -- what is captured
    have hi : ∃ o, ix[i]? = some o ∧ (match o with | none => none | some j => (σ[j]?).join) = some v := by
      unfold blk at e2
      rw [List.getElem?_map] at e2
      cases q : ix[i]? with
      | none => rw [q] at e2; cases e2
      | some o => rw [q] at e2; exact ⟨o, rfl, Option.some.inj e2⟩
    obtain ⟨o, ho, hv⟩ := hi
    cases o with
    | none => cases hv
    | some j =>
      have hz : (N'.zip ix)[i]? = some (x, some j) := by
        rw [List.getElem?_zip_eq_some]
        exact ⟨e1, ho⟩
      have := (List.all_eq_true.mp B.ok) _ (List.mem_of_getElem? hz)
      simp only [Bool.and_eq_true, beq_iff_eq, Bool.or_eq_true] at this
      obtain ⟨⟨a1, a2⟩, a3⟩ := this
      have hs : σ[j]? = some (some v) := by
        replace hv : (σ[j]?).join = some v := hv
        cases q : σ[j]? with
        | none => rw [q] at hv; cases hv
        | some y => rw [q] at hv; exact congrArg some hv
      obtain ⟨mo, hno, hlo⟩ := I.loc
      obtain ⟨u, ru, lu⟩ := hlo j x v a1 hs (a3.elim (fun a => .inr (.inl a)) (fun a => .inr (.inr a)))
      refine ⟨u, ru, .inr ⟨?_, ?_⟩⟩
      · have hm : ∃ k, (relabel scope X.env).names.lookup x = some k := by
          rcases e3 with q | q | q <;> exact ⟨_, q⟩
        obtain ⟨k, hk⟩ := hm
        obtain ⟨k2, mem, q⟩ := rel_mem (env := X.env) hk
        rcases e3 with z | z | z
        · -- local: no
          have z' : (relabel scope X.env).names.lookup x = some .local := z
          rw [hk] at z'; cases z'
          rcases q with q | ⟨_, q⟩
          · subst q
            have := B.names _ mem rfl
            rw [show scope.names.lookup x = some .free from a2] at this; cases this
          · cases q
        · exact .inl z
        · exact .inr z
      · rcases lu with ⟨q, _⟩ | ⟨_, c, hc1, hc2⟩
        · have q' : X.env.scope.names.lookup x = some .local := q
          rcases a3 with a | a <;> (rw [a] at q'; cases q')
        · obtain ⟨c', hc'⟩ := Option.isSome_iff_exists.mp (cap_has (cells := X.env.cells) (x := x) scope.names [] (.inr ⟨mem_of_lookup _ a2, by rw [hc1]; rfl⟩))
          have := capS x c' hc'
          rw [hc1] at this; cases this
          obtain ⟨ob, ho1, ho2⟩ := hc2
          exact ⟨c, hc', ob, k4 _ _ (k3 _ _ ho1), ho2⟩
  · obtain ⟨v, ob, ho1, ho2⟩ := I.cell x c (capS x c e)
    exact ⟨v, ob, k4 _ _ (k3 _ _ ho1), ho2⟩
  · show (blk ix σ).length = N'.length
    unfold blk
    rw [List.length_map, B.len]
end
end L2

set_option Elab.async false
set_option linter.all false
set_option maxRecDepth 100000
set_option maxHeartbeats 4000000
namespace L2
open PySem PySem.Spec PyProof.Rows
/-- a comprehension's loop, whatever its iterator keeps -/
theorem comp_loop {prog : Program} {w : World} {A : Around} {R : Result → Shared → Prop} {s : Shared} {elt target iter : Expr} {ifs : List Expr} {scope : Scope} {pos : Pos} {it acc : Value} {env : Env} (I : Nat → Shared → Prop)
    (turn : ∀ n s, I n s → wpAny (model prog w) A (pyNext it) (fun r s₁ => match r with
      | none => R (.ok .next) s₁
      | some v => wpAny (model prog w) A (letOwnedTupleGo target it v) (fun _ s₁' => wpAny (model prog w) A (assign target env v) (fun _ s₂ =>
          wpAny (model prog w) A (forIn ifs true fun c r => if r = true then do let ok ← isTrue c env (eval c env); pure (ForInStep.yield ok) else pure (ForInStep.yield r)) (fun ok s₃ =>
            if ok = true then wpAny (model prog w) A (eval elt env) (fun x s₄ =>
              wpAny (model prog w) A (call (.builtin "list.append") [acc, x]) (fun _ s₅ => ∃ m, m < n ∧ I m s₅) (fun _ _ => False) s₄) (fun _ _ => False) s₃
            else ∃ m, m < n ∧ I m s₃) (fun _ _ => False) s₂) (fun _ _ => False) s₁') (fun _ _ => False) s₁) (fun _ _ => False) s)
    (n : Nat) (h : I n s) :
    codeAny (model prog w) A (.compLoop (.ListComp elt [⟨target, iter, ifs, 0⟩] scope pos) 0 it acc env) R s := by
  refine codeAny_loop rfl I (fun n s hI => ?_) n h
  show wpAny _ A ((compTurn (.ListComp elt [⟨target, iter, ifs, 0⟩] scope pos) 0 it acc env).onRaise (fun x => do noteFrame x env; theTreesLotGoes x)) _ _ s
  refine wpAny_noted ?_
  rw [compTurn_list]
  refine wpAny_bind (wpAny_standAt (wpAny_bind (wpAny_mono (turn n s hI) (fun r s₁ h₁ => ?_) fun _ _ h' => h'.elim)))
  cases r with
  | none => exact wpAny_pure h₁
  | some v =>
    refine wpAny_bind (wpAny_mono h₁ (fun _ s₁' h₁ => ?_) fun _ _ h' => h'.elim)
    refine wpAny_bind (wpAny_mono h₁ (fun _ s₂ h₂ => wpAny_bind (wpAny_mono h₂ (fun ok s₃ h₃ => ?_) fun _ _ h' => h'.elim)) fun _ _ h' => h'.elim)
    cases ok with
    | false => exact wpAny_pure ⟨rfl, h₃⟩
    | true =>
      exact wpAny_bind (wpAny_bind (wpAny_mono h₃ (fun x s₄ h₄ => wpAny_bind (wpAny_mono h₄ (fun _ s₅ h₅ => wpAny_pure (wpAny_pure ⟨rfl, h₅⟩)) fun _ _ h' => h'.elim)) fun _ _ h' => h'.elim))
/-- the tests of a comprehension -/
def PTs (X : Cx) (ifs : List Expr) (tt : TT) : Prop :=
  ∀ (pins : List (Addr × Obj)) (s : Shared) (σ : St) (H : Hp) (Q : Bool → Hp → Prop), Inv X pins σ H s → tt σ H Q →
    wpAny (model X.prog X.w) X.A (forIn ifs true fun c r => if r = true then do let ok ← isTrue c X.env (eval c X.env); pure (ForInStep.yield ok) else pure (ForInStep.yield r)) (TP X pins σ Q) X.xe s
def tYes : TT := fun _ H Q => Q true H
theorem pts_nil {X : Cx} : PTs X [] tYes := fun pins s σ H Q I h => wpAny_tests_nil ⟨H, I, h⟩
/-- the reading of a comprehension: W by the turn, a measure, what was gathered -/
def wComp (J : It) (g : TG) (tt : TT) (te : TE) (σ' : St) (H : Hp) (Q : List V → Hp → Prop) : Prop :=
  ∃ W : Nat → Nat → List V → Hp → Prop, (∃ m, W 0 m [] H) ∧ ∀ i m ys H, W i m ys H →
    (J.stop i H ∧ Q ys H) ∨ (J.go i H ∧ ys.length < sizeLine ∧ ∃ (N : V → Hp → Prop) (M : Hp → Prop), (∀ y H', N y H' → ∃ m', m' < m ∧ W (i + 1) m' (ys ++ [y]) H') ∧ (∀ H', M H' → ∃ m', m' < m ∧ W (i + 1) m' ys H') ∧
      ∀ x H', J.yld i H x H' → g x σ' H' fun σ2 H2 => tt σ2 H2 fun b H3 => if b = true then te σ2 H3 N else M H3)
def tComp (wi : TI) (g : TG) (tt : TT) (te : TE) (ix : List (Option Nat)) : TE := fun σ H Q =>
  wi σ H fun J H1 => wComp J g tt te (blk ix σ) H1 fun ys H2 => ∀ D, H2 D = none → Q (.ref D) (upd H2 D (.lst ys))
/-- what a block's slots hold lies in cells of the caller's -/
theorem BlkOk.caught {X : Cx} {scope : Scope} {N' : List Str} {ix : List (Option Nat)} {pins : List (Addr × Obj)} {σ : St} {H : Hp} {s : Shared} (B : BlkOk X scope N' ix) (I : Inv X pins σ H s) {i : Nat} {x : Str} {v : V} (e1 : N'[i]? = some x) (e2 : (blk ix σ)[i]? = some (some v)) :
    ∃ u c, RelV v u ∧ (capL X.env.cells scope.names []).lookup x = some c ∧ X.env.cells.lookup x = some c ∧ s.heap.IsCell c (some u) ∧ (relabel scope X.env).names.lookup x ≠ some .local := by
  have hi : ∃ o, ix[i]? = some o ∧ (match o with | none => none | some j => (σ[j]?).join) = some v := by
    unfold blk at e2
    rw [List.getElem?_map] at e2
    cases q : ix[i]? with
    | none => rw [q] at e2; cases e2
    | some o => rw [q] at e2; exact ⟨o, rfl, Option.some.inj e2⟩
  obtain ⟨o, ho, hv⟩ := hi
  cases o with
  | none => cases hv
  | some j =>
    have hz : (N'.zip ix)[i]? = some (x, some j) := by
      rw [List.getElem?_zip_eq_some]
      exact ⟨e1, ho⟩
    have := (List.all_eq_true.mp B.ok) _ (List.mem_of_getElem? hz)
    simp only [Bool.and_eq_true, beq_iff_eq, Bool.or_eq_true] at this
    obtain ⟨⟨a1, a2⟩, a3⟩ := this
    have hs : σ[j]? = some (some v) := by
      replace hv : (σ[j]?).join = some v := hv
      cases q : σ[j]? with
      | none => rw [q] at hv; cases hv
      | some y => rw [q] at hv; exact congrArg some hv
    obtain ⟨mo, hno, hlo⟩ := I.loc
    obtain ⟨u, ru, lu⟩ := hlo j x v a1 hs (a3.elim (fun a => .inr (.inl a)) (fun a => .inr (.inr a)))
    rcases lu with ⟨q, _⟩ | ⟨_, c, hc1, hc2⟩
    · have q' : X.env.scope.names.lookup x = some .local := q
      rcases a3 with a | a <;> (rw [a] at q'; cases q')
    · obtain ⟨c', hc'⟩ := Option.isSome_iff_exists.mp (cap_has (cells := X.env.cells) (x := x) scope.names [] (.inr ⟨mem_of_lookup _ a2, by rw [hc1]; rfl⟩))
      have := cap_sub _ _ (fun z d q => by cases q) hc'
      rw [hc1] at this; cases this
      refine ⟨u, c, ru, hc', hc1, hc2, fun q => ?_⟩
      obtain ⟨k2, mem, z⟩ := rel_mem (env := X.env) q
      rcases z with z | ⟨_, z⟩
      · subst z
        have := B.names _ mem rfl
        rw [show scope.names.lookup x = some .free from a2] at this; cases this
      · cases z
section
variable {X : Cx} {tg elt iter : Expr} {ifs : List Expr} {scope : Scope} {N' : List Str} {ix : List (Option Nat)} {pins : List (Addr × Obj)} {σ : St} {H : Hp} {s₂ : Shared} {fp : List Addr} {pos : Pos} {g : TG} {tt : TT} {te : TE} {it : Addr} {tn : Nat → Heap → Prop} {J : It}
/-- the block behind the iterator: D the list, C the block's names; at its end the caller's own state with the list tracked, C pinned -/
theorem comp_block {E : Value → Shared → Prop} {RR : Value → Addr → Result → Shared → Prop} (B : BlkOk X scope N' ix) (hc : X.calm = true) (I : Inv X pins σ H s₂) (T : Turn X.prog X.w X.K tg J fp it tn) (st : tn 0 s₂.heap) (hfp : ∀ b ∈ fp, FpOk X pins H b)
    (hg : ∀ s₀ H₀ C ex, PG (blkX X scope N' s₀ H₀ C ex) tg g) (ht : ∀ s₀ H₀ C ex, PTs (blkX X scope N' s₀ H₀ C ex) ifs tt) (he : ∀ s₀ H₀ C ex, PE (blkX X scope N' s₀ H₀ C ex) elt te) {Q : List V → Hp → Prop} (h : wComp J g tt te (blk ix σ) H Q)
    (hRR : ∀ (D C : Addr) (ys : List V) (H' : Hp) (s' : Shared) (m : Str → Option Value), Q ys H' → H' D = none → s'.heap.Ns C m → FpOk X pins (upd H' D (.lst ys)) C → Inv X pins σ (upd H' D (.lst ys)) s' → RR (.ref D) C (.ok .next) s') :
    wpAny (model X.prog X.w) X.A (newList []) (fun acc s₃ => wpAny (model X.prog X.w) X.A (newFunctionEnv scope X.env.globals (capL X.env.cells scope.names []) [] X.env.qual none .none (some X.env)) (fun cenv s₄ =>
      codeAny (model X.prog X.w) X.A (.compStart (.ListComp elt [⟨tg, iter, ifs, 0⟩] scope pos) 0 (.ref it) acc { cenv with scope := relabel scope X.env }) (RR acc cenv.locals) s₄) E s₃) E s₂ := by
  refine wpAny_newObj_type (wpAny_newFunctionEnv B.ncell (by intro y hy; simp at hy) (fun h₁ hns₁ hsb₁ => ?_) B.kind)
  dsimp only at hns₁ hsb₁ ⊢
  generalize hH2 : s₂.heap.push { cls := .type "list", dict := none, data := .seq ([] : List Value).toArray } = H2 at hns₁ hsb₁ ⊢
  have hC : H2.objs.size = s₂.heap.objs.size + 1 := by rw [← hH2, Heap.size_push]
  have k23 : ∀ b o, s₂.heap.get? b = some o → H2.get? b = some o := fun b o e => hH2 ▸ Heap.get?_push_of_some _ e
  have k34 : ∀ b o, H2.get? b = some o → h₁.get? b = some o := fun b o e => hsb₁.extBut b o (Nat.ne_of_lt (Heap.lt_size e)) (Heap.get?_push_of_some _ e)
  have hD2 : H2.get? s₂.heap.objs.size = some { cls := .type "list", dict := none, data := .seq ([] : List Value).toArray } := hH2 ▸ Heap.get?_push_size _ rfl
  have hDC : s₂.heap.objs.size < H2.objs.size := by rw [hC]; exact Nat.lt_succ_self _
  have fpo := T.obj 0 _ st
  have fplt : ∀ b ∈ fp, b < s₂.heap.objs.size := fun b hb => let ⟨o, q, _⟩ := fpo b hb; Heap.lt_size q
  have hDn : H s₂.heap.objs.size = none := I.hok.fresh (Nat.le_refl _)
  have hCn : H H2.objs.size = none := I.hok.fresh (Nat.le_of_lt hDC)
  have fD := I.fpOk (Nat.le_refl s₂.heap.objs.size) hDn
  have fC := I.fpOk (Nat.le_of_lt hDC) hCn
  have I3 : Inv X pins σ H { s₂ with heap := H2 } := I.kept (t' := s₂.toks) k23
  generalize hX : blkX X scope N' { s₂ with heap := H2 } H H2.objs.size (s₂.heap.objs.size :: fp) = X' at *
  have I4 : Inv X' [] (blk ix σ) H { s₂ with heap := h₁, toks := s₂.toks + ([] : List (Str × Value)).length } := by
    rw [← hX]
    exact I.block (s₃ := { s₂ with heap := H2 }) (s := { s₂ with heap := h₁, toks := s₂.toks + ([] : List (Str × Value)).length }) B hc hfp (fun b hb => let ⟨o, q, _⟩ := fpo b hb; ⟨o, q⟩) rfl rfl k23 rfl hDC (Nat.le_of_lt hDC) rfl rfl k34 hns₁
  have eP : X'.prog = X.prog := by rw [← hX]; rfl
  have ew : X'.w = X.w := by rw [← hX]; rfl
  have eK : X'.K = X.K := by rw [← hX]; rfl
  have eA : X'.A = X.A := by rw [← hX]; rfl
  have ec : X'.calm = true := by rw [← hX]; rfl
  have ex' : X'.xe = fun _ _ => False := by rw [← hX]; rfl
  have eenv : X'.env = compEnvC scope (capL X.env.cells scope.names []) H2.objs.size X.env := by rw [← hX]; rfl
  have hg' : PG X' tg g := hX ▸ hg _ _ _ _
  have ht' : PTs X' ifs tt := hX ▸ ht _ _ _ _
  have he' : PE X' elt te := hX ▸ he _ _ _ _
  have eL : X'.env.locals = H2.objs.size := by rw [eenv]; rfl
  have eX : X'.ex = s₂.heap.objs.size :: fp := by rw [← hX]; rfl
  have eN : X'.N = N' := by rw [← hX]; rfl
  have ef : X'.fs = frs X.stack := by rw [← hX]; rfl
  have es : X'.s₀ = { s₂ with heap := H2 } := by rw [← hX]; rfl
  have eH : X'.H₀ = H := by rw [← hX]; rfl
  have epn : X'.pn = [] := by rw [← hX]; rfl
  -- what stays true of the records through the loop
  have stat : ∀ {H' : Hp} {b : Addr}, b ∈ s₂.heap.objs.size :: fp → H' b = none → FpOk X' [] H' b := fun {H' b} hb hn => by
    refine ⟨hn, (I4.ok.exf b (by rw [eX]; exact hb)).1, I4.ok.exfs b (by rw [eX]; exact hb), .inl (by rw [eX]; exact hb), (I4.ok.exf b (by rw [eX]; exact hb)).2, fun p hp => ?_⟩
    rw [epn] at hp; cases hp
  obtain ⟨W, ⟨m0, w0⟩, turn⟩ := h
  have loop : ∀ s₃ : Shared, s₃ = { s₂ with heap := h₁, toks := s₂.toks + ([] : List (Str × Value)).length } →
      codeAny (model X.prog X.w) X.A (.compLoop (.ListComp elt [⟨tg, iter, ifs, 0⟩] scope pos) 0 (.ref it) (.ref s₂.heap.objs.size) (compEnvC scope (capL X.env.cells scope.names []) H2.objs.size X.env)) (RR (.ref s₂.heap.objs.size) H2.objs.size) s₃ := by
    intro s₃ e₃
    rw [← e₃] at I4
    refine comp_loop (fun n s' => ∃ i ys its H', Inv X' [] (blk ix σ) H' s' ∧ tn i s'.heap ∧ (∀ b ∈ s₂.heap.objs.size :: fp, H' b = none) ∧ ys.length ≤ sizeLine ∧ Vals ys its ∧ s'.heap.PlainList s₂.heap.objs.size its.toArray ∧ W i n ys H') ?_ m0
      ⟨0, [], [], H, I4, T.keep _ _ _ st (fun b hb o e => by rw [e₃]; exact k34 b o (k23 b o e)), (fun b hb => ?_), Nat.zero_le _, .nil, ⟨_, by rw [e₃]; exact k34 _ _ hD2⟩, w0⟩
    · rintro n s5 ⟨i, ys, its, H5, I5, st5, fr5, hl5, rv5, pl5, w5⟩
      obtain ⟨nD, eD⟩ := id pl5
      have hDo : ∀ b ∈ [s₂.heap.objs.size], ∃ o, s5.heap.get? b = some o ∧ ∀ v, o.data ≠ .cell v := fun b hb => by
        have e : b = s₂.heap.objs.size := by simpa using hb
        rw [e]
        exact ⟨_, eD, fun v z => by cases z⟩
      have memD : s₂.heap.objs.size ∈ s₂.heap.objs.size :: fp := List.mem_cons_self
      have I5' := I5.pinned (fp := [s₂.heap.objs.size]) (fun b hb => by
        have e : b = s₂.heap.objs.size := by simpa using hb
        rw [e]; exact stat memD (fr5 _ memD)) hDo
      rw [List.nil_append] at I5'
      have pinD : ∀ {q : Addr × Obj}, q ∈ pinsAt [s₂.heap.objs.size] s5.heap → q.1 = s₂.heap.objs.size := fun hq => by
        have := (of_pinsAt hq).1
        simpa using this
      have stat5 : ∀ {H' : Hp} {b : Addr}, b ∈ fp → H' b = none → FpOk X' (pinsAt [s₂.heap.objs.size] s5.heap) H' b := fun {H' b} hb hn => by
        obtain ⟨f0, f1, f2, f3, f4, _⟩ := stat (List.mem_cons_of_mem _ hb) hn
        refine ⟨f0, f1, f2, f3, f4, fun p hp z => ?_⟩
        rw [epn, List.nil_append] at hp
        have q := pinD hp
        rw [z] at q
        exact absurd (fplt b hb) (by rw [q]; exact Nat.lt_irrefl _)
      have hfp5 : ∀ b ∈ fp, FpOk X' (pinsAt [s₂.heap.objs.size] s5.heap) H5 b := fun b hb => stat5 hb (fr5 b (List.mem_cons_of_mem _ hb))
      have dIn : (s₂.heap.objs.size, ({ cls := .type "list", data := .seq its.toArray nD } : Obj)) ∈ pinsAt [s₂.heap.objs.size] s5.heap := mem_pinsAt (by simp) eD
      rcases turn i n ys H5 w5 with ⟨stop, qn⟩ | ⟨go, hlt, N, M, hN, hM, step⟩
      · rw [← eA]
        refine thn (T.done X' eP ew eK ec i _ s5 (blk ix σ) H5 _ I5' hfp5 st5 stop) fun r s6 ⟨hr, I6⟩ => ?_
        subst hr
        have eD6 := (I6.pin _ (List.mem_append_right _ dIn)).1
        have nD6 := (I6.pin _ (List.mem_append_right _ dIn)).2.1
        obtain ⟨mC, hnC, _⟩ := I6.loc
        rw [eL] at hnC
        have u6 := I6.base
        rw [ef, eX, eH, es] at u6
        have hok6 := I6.hok
        rw [eP, ew] at hok6
        have os6 := I6.os
        rw [es] at os6
        have IX : Inv X pins σ H5 s6 := I3.call' (s' := s6) (ch := s₂.heap.objs.size :: fp) os6 u6 hok6 I6.bare fun b hb => by
          rcases List.mem_cons.mp hb with z | hb
          · rw [z]; exact ⟨fD.2.2.2.1, fD.2.1, fD.2.2.2.2.1, fD.2.2.2.2.2⟩
          · have f := hfp b hb
            exact ⟨f.2.2.2.1, f.2.1, f.2.2.2.2.1, f.2.2.2.2.2⟩
        have nC6 : H5 H2.objs.size = none := by have := I6.free; rw [eL] at this; exact this
        have nCD : H2.objs.size ≠ s₂.heap.objs.size := Nat.ne_of_gt hDC
        refine hRR _ _ ys H5 s6 mC qn nD6 hnC ⟨by rw [upd_ne nCD]; exact nC6, fC.2⟩ ?_
        exact IX.track (t' := s6.toks) ⟨nD6, fD.2⟩ ⟨hl5, its, nD, rv5, eD6⟩
      · rw [← eA]
        refine thn (T.item X' eP ew eK ec i _ s5 (blk ix σ) H5 _ I5' hfp5 st5 go) fun r s6 ⟨u, hr, h6⟩ => ?_
        subst hr
        dsimp only
        refine thn h6 fun _ s7 ⟨x, H7, I7, r7, y7, st7, fr7⟩ => ?_
        have I7' := I7.pinned (fp := fp) (fun b hb => stat5 hb (fr7 b hb)) (T.obj _ _ st7)
        rw [← eenv, ← eP, ← ew]
        have q1 := hg' _ s7 (blk ix σ) H7 x u _ I7' r7 (step x H7 y7)
        rw [ex'] at q1
        refine thn q1 fun _ s8 ⟨σ8, H8, I8, q8⟩ => ?_
        have q2 := ht' _ s8 σ8 H8 _ I8 q8
        rw [ex'] at q2
        refine thn q2 fun b s9 ⟨H9, I9, q9⟩ => ?_
        -- behind a turn
        have keepD : ∀ {σ' : St} {H' : Hp} {s' : Shared}, Inv X' (pinsAt [s₂.heap.objs.size] s5.heap ++ pinsAt fp s7.heap) σ' H' s' → s'.heap.get? s₂.heap.objs.size = some { cls := .type "list", data := .seq its.toArray nD } ∧ H' s₂.heap.objs.size = none := fun I' =>
          ⟨(I'.pin _ (List.mem_append_right _ (List.mem_append_left _ dIn))).1, (I'.pin _ (List.mem_append_right _ (List.mem_append_left _ dIn))).2.1⟩
        have keepF : ∀ {σ' : St} {H' : Hp} {s' : Shared}, Inv X' (pinsAt [s₂.heap.objs.size] s5.heap ++ pinsAt fp s7.heap) σ' H' s' → tn (i + 1) s'.heap ∧ ∀ b ∈ fp, H' b = none := fun {σ' H' s'} I' => by
          refine ⟨T.keep _ _ _ st7 fun b hb o e => (I'.pin (b, o) (List.mem_append_right _ (List.mem_append_right _ (mem_pinsAt hb e)))).1, fun b hb => ?_⟩
          obtain ⟨o, e, d⟩ := T.obj _ _ st7 b hb
          exact (I'.pin (b, o) (List.mem_append_right _ (List.mem_append_right _ (mem_pinsAt hb e)))).2.1
        have drop : ∀ {σ' : St} {H' : Hp} {s' : Shared} {ps : List (Addr × Obj)}, Inv X' ps σ' H' s' → Inv X' [] (blk ix σ) H' s' := fun {σ' H' s' ps} I' => by
          obtain ⟨mL, hmL, _⟩ := I'.loc
          refine ⟨I'.ok, I'.os, I'.bare, I'.base, ⟨mL, hmL, fun k x v e1 e2 e3 => ?_⟩, I'.cell, I'.free, I'.freeC, fun p hp => ?_, I'.hok, by rw [eN, ← B.len.symm]; unfold blk; rw [List.length_map]⟩
          · rw [eN] at e1
            obtain ⟨u, c, ru, hc1, hc2, ⟨oc, ho1, ho2⟩, hk⟩ := B.caught I e1 e2
            have e3' : Vis (relabel scope X.env) x := by rw [eenv] at e3; exact e3
            refine ⟨u, ru, .inr ⟨?_, c, by rw [eenv]; exact hc1, ?_⟩⟩
            · rw [eenv]
              show (relabel scope X.env).names.lookup x = some .cell ∨ (relabel scope X.env).names.lookup x = some .free
              rcases e3' with q | q | q
              · exact absurd q hk
              · exact .inl q
              · exact .inr q
            · have ub := I'.base
              rw [eX, eH, es] at ub
              obtain ⟨sl, hsl⟩ := ub.any (b := c) (k23 c oc ho1) (I.freeC x c hc2) (fun z => by
                rcases List.mem_cons.mp z with z | z
                · exact absurd (Heap.lt_size ho1) (by rw [z]; exact Nat.lt_irrefl _)
                · exact (hfp c z).2.2.2.2.1 x c hc2 rfl)
              exact ⟨_, hsl, ho2⟩
          · rw [epn] at hp; cases hp
        cases b with
        | false =>
          rw [if_neg Bool.false_ne_true] at q9 ⊢
          obtain ⟨m', hm, w9⟩ := hM _ q9
          obtain ⟨kd, nd⟩ := keepD I9
          obtain ⟨kf, nf⟩ := keepF I9
          refine ⟨m', hm, i + 1, ys, its, H9, drop I9, kf, fun b hb => ?_, hl5, rv5, ⟨nD, kd⟩, w9⟩
          rcases List.mem_cons.mp hb with z | hb
          · rw [z]; exact nd
          · exact nf b hb
        | true =>
          rw [if_pos rfl] at q9 ⊢
          have q3 := he' _ s9 σ8 H9 _ I9 q9
          rw [ex'] at q3
          refine thn q3 fun v s10 ⟨y, H10, I10, r10, q10⟩ => ?_
          obtain ⟨m', hm, w10⟩ := hN _ _ q10
          obtain ⟨kd, nd⟩ := keepD I10
          obtain ⟨kf, nf⟩ := keepF I10
          have hlen := rv5.length
          refine wpAny_list_append_plain (items := its.toArray) ⟨nD, kd⟩ (fun h' pl' sb => ?_) (by rw [List.size_toArray]; omega)
          have I11 : Inv X' [] (blk ix σ) H10 { s10 with heap := h' } := by
            have f := stat memD nd
            exact (drop I10).turned (t' := s10.toks) (fun b o hb e => (sb.2 b hb).trans e) f.1 f.2.1 f.2.2.2.1 f.2.2.2.2.1 f.2.2.2.2.2
          refine ⟨m', hm, i + 1, ys ++ [y], its ++ [v], H10, I11, T.keep _ _ _ kf (fun b hb o e => (sb.2 b (Nat.ne_of_lt (fplt b hb))).trans e), fun b hb => ?_, by rw [List.length_append, List.length_singleton]; omega, rv5.append (.cons r10 .nil), ?_, w10⟩
          · rcases List.mem_cons.mp hb with z | hb
            · rw [z]; exact nd
            · exact nf b hb
          · simpa using pl'
    · rcases List.mem_cons.mp hb with z | hb
      · rw [z]; exact hDn
      · exact (hfp b hb).1
  exact codeAny_compStart_list (loop _ rfl) (T.self _ 0 _ _ _ (T.keep _ _ _ st fun b hb o e => k34 b o (k23 b o e)) (loop _ rfl))
end
section
variable {X : Cx} {tg elt iter : Expr} {ifs : List Expr} {scope : Scope} {N' : List Str} {ix : List (Option Nat)} {pos : Pos} {wi : TI} {g : TG} {tt : TT} {te : TE}
/-- [elt for tg in iter if ..] -/
theorem pe_comp (B : BlkOk X scope N' ix) (hc : X.calm = true) (hi : PI X tg iter wi) (hg : ∀ s₀ H₀ C ex, PG (blkX X scope N' s₀ H₀ C ex) tg g) (ht : ∀ s₀ H₀ C ex, PTs (blkX X scope N' s₀ H₀ C ex) ifs tt) (he : ∀ s₀ H₀ C ex, PE (blkX X scope N' s₀ H₀ C ex) elt te)
    (hs : ∀ x, foldedSetIterable iter X.env x = pure x := by intro _; rfl) : PE X (.ListComp elt [⟨tg, iter, ifs, 0⟩] scope pos) (tComp wi g tt te ix) := by
  intro pins s σ H Q I h
  rw [eval_ListComp]
  refine wpAny_comprehension_free (use := none) rfl hs (closure_of (B.has I.ok)) B.kind B.names (wpAny_mono (hi pins s σ H _ I h) (fun xv s₁ h₁ => wpAny_mono h₁ (fun itv s₂ h₂ => ?_) fun _ _ e => e) fun _ _ e => e)
  obtain ⟨it, fp, tn, J, H2, e, I2, T, st2, f2, q⟩ := h₂
  subst e
  refine comp_block (RR := fun acc C => compPost (model X.prog X.w) X.A X.xe none (EP X pins σ Q) acc C) B hc I2 T st2 f2 hg ht he q ?_
  intro D C ys H' s' m hq hD hn fC I'
  refine ⟨m, hn, fun h' sb => ⟨.ref D, _, I'.turned (t' := s'.toks) (fun b o hb e => (sb.2 b hb).trans e) fC.1 fC.2.1 fC.2.2.2.1 fC.2.2.2.2.1 fC.2.2.2.2.2, rfl, hq D hD⟩⟩
/-- y = [elt for tg in iter if ..], the name stored within the comprehension -/
theorem ps_comp {i : Nat} {y : Str} {py spos : Pos} (B : BlkOk X scope N' ix) (hc : X.calm = true) (hN : X.N.Nodup) (hy : X.N[i]? = some y) (hx : X.env.scope.names.lookup y = some .local) (hi : PI X tg iter wi) (hg : ∀ s₀ H₀ C ex, PG (blkX X scope N' s₀ H₀ C ex) tg g) (ht : ∀ s₀ H₀ C ex, PTs (blkX X scope N' s₀ H₀ C ex) ifs tt)
    (he : ∀ s₀ H₀ C ex, PE (blkX X scope N' s₀ H₀ C ex) elt te)
    (hsw : swapsWith (.ListComp elt [⟨tg, iter, ifs, 0⟩] scope pos) (some (.Name y py)) spos.line X.env = pure true := by rfl)
    (hs : ∀ x, foldedSetIterable iter X.env x = pure x := by intro _; rfl) : PS X (.Assign [.Name y py] (.ListComp elt [⟨tg, iter, ifs, 0⟩] scope pos) spos) (tAsg (tComp wi g tt te ix) (gName i)) := by
  intro pins s σ H Dn I h
  rw [exec_Assign_Name_used _ _ _ _ hsw]
  refine wpAny_bind (wpAny_standAt (wpAny_bind ?_))
  show wpAny _ X.A (do let _ ← comprehension (.ListComp elt [⟨tg, iter, ifs, 0⟩] scope pos) scope X.env _ (newList []) false (eval iter X.env) (some (assign (.Name y py) X.env))) _ _ s
  refine wpAny_bind (wpAny_mono (wpAny_comprehension_free (use := some (assign (.Name y py) X.env)) (Q := fun _ s' => SP X pins Dn .next s') rfl hs (closure_of (B.has I.ok)) B.kind B.names
    (wpAny_mono (hi pins s σ H _ I h) (fun xv s₁ h₁ => wpAny_mono h₁ (fun itv s₂ h₂ => ?_) fun _ _ e => e) fun _ _ e => e)) (fun _ s' hq => wpAny_pure (wpAny_pure hq)) fun _ _ e => e)
  obtain ⟨it, fp, tn, J, H2, e, I2, T, st2, f2, q⟩ := h₂
  subst e
  refine comp_block (RR := fun acc C => compPost (model X.prog X.w) X.A X.xe (some (assign (.Name y py) X.env)) (fun _ s' => SP X pins Dn .next s') acc C) B hc I2 T st2 f2 hg ht he q ?_
  intro D C ys H' s' m hq hD hn fC I'
  have hCo : ∀ b ∈ [C], ∃ o, s'.heap.get? b = some o ∧ ∀ v, o.data ≠ .cell v := fun b hb => by
    have e : b = C := by simpa using hb
    rw [e]
    obtain ⟨o, es, ep, ho, hd, _⟩ := hn
    exact ⟨o, ho, fun v z => by rw [hd] at z; cases z⟩
  have I2' := I'.pinned (fp := [C]) (fun b hb => by
    have e : b = C := by simpa using hb
    rw [e]; exact fC) hCo
  show wpAny _ X.A (assign (.Name y py) X.env (.ref D)) _ _ _
  refine wpAny_assign_Name (store_ok (v := .ref D) I2' hN hy (.inl hx) rfl (fun s'' I'' => ?_) (.inr hx))
  have hn'' : s''.heap.Ns C m := by
    obtain ⟨o, es, ep, ho, r⟩ := hn
    exact ⟨o, es, ep, (I''.pin (C, o) (List.mem_append_right _ (List.mem_append_right _ (mem_pinsAt (by simp) ho)))).1, r⟩
  refine ⟨m, hn'', fun h' sb => ⟨_, _, I''.unpinned.turned (t' := s''.toks) (fun b o hb e => (sb.2 b hb).trans e) fC.1 fC.2.1 fC.2.2.2.1 fC.2.2.2.2.1 fC.2.2.2.2.2, hq D hD⟩⟩
end
end L2
namespace L2
open PySem PySem.Spec PyProof.Rows
/-! ### the forms one uses -/
section
variable {g : TG} {tt : TT} {te : TE} {σ' : St} {H : Hp} {Q : List V → Hp → Prop} {K : PySem.W.Frag} {a b : Addr}
end
structure STs (X : Cx) (ifs : List Expr) (tt : TT) : Prop where
  run : PTs X ifs tt
section
variable {X : Cx} {tg elt iter c : Expr} {ifs : List Expr} {scope : Scope} {N' : List Str} {ix : List (Option Nat)} {pos : Pos} {wi : TI} {g : TG} {tt : TT} {te : TE}
theorem ts_nil : STs X [] tYes := ⟨pts_nil⟩
theorem e_comp {g : Shared → Hp → Addr → List Addr → TG} {tt : Shared → Hp → Addr → List Addr → TT} {te : Shared → Hp → Addr → List Addr → TE} (B : BlkOk X scope N' ix) (hi : SI X tg iter wi) (hg : ∀ s₀ H₀ C ex, SG (blkX X scope N' s₀ H₀ C ex) tg (g s₀ H₀ C ex)) (ht : ∀ s₀ H₀ C ex, STs (blkX X scope N' s₀ H₀ C ex) ifs (tt s₀ H₀ C ex)) (he : ∀ s₀ H₀ C ex, SE (blkX X scope N' s₀ H₀ C ex) elt (te s₀ H₀ C ex))
    (eg : ∀ s₀ H₀ C ex, g s₀ H₀ C ex = g X.s₀ X.H₀ 0 [] := by intro _ _ _ _; rfl) (et : ∀ s₀ H₀ C ex, tt s₀ H₀ C ex = tt X.s₀ X.H₀ 0 [] := by intro _ _ _ _; rfl) (ee : ∀ s₀ H₀ C ex, te s₀ H₀ C ex = te X.s₀ X.H₀ 0 [] := by intro _ _ _ _; rfl)
    (hc : X.calm = true := by rfl) (hs : ∀ x, foldedSetIterable iter X.env x = pure x := by intro _; rfl) : SE X (.ListComp elt [⟨tg, iter, ifs, 0⟩] scope pos) (tComp wi (g X.s₀ X.H₀ 0 []) (tt X.s₀ X.H₀ 0 []) (te X.s₀ X.H₀ 0 []) ix) :=
  ⟨pe_comp B hc hi.run (fun a b c d => eg a b c d ▸ (hg a b c d).run) (fun a b c d => et a b c d ▸ (ht a b c d).run) (fun a b c d => ee a b c d ▸ (he a b c d).run) hs⟩
theorem s_comp (i : Nat) {y : Str} {py spos : Pos} {g : Shared → Hp → Addr → List Addr → TG} {tt : Shared → Hp → Addr → List Addr → TT} {te : Shared → Hp → Addr → List Addr → TE} (B : BlkOk X scope N' ix) (hN : X.N.Nodup) (hi : SI X tg iter wi) (hg : ∀ s₀ H₀ C ex, SG (blkX X scope N' s₀ H₀ C ex) tg (g s₀ H₀ C ex)) (ht : ∀ s₀ H₀ C ex, STs (blkX X scope N' s₀ H₀ C ex) ifs (tt s₀ H₀ C ex)) (he : ∀ s₀ H₀ C ex, SE (blkX X scope N' s₀ H₀ C ex) elt (te s₀ H₀ C ex))
    (eg : ∀ s₀ H₀ C ex, g s₀ H₀ C ex = g X.s₀ X.H₀ 0 [] := by intro _ _ _ _; rfl) (et : ∀ s₀ H₀ C ex, tt s₀ H₀ C ex = tt X.s₀ X.H₀ 0 [] := by intro _ _ _ _; rfl) (ee : ∀ s₀ H₀ C ex, te s₀ H₀ C ex = te X.s₀ X.H₀ 0 [] := by intro _ _ _ _; rfl)
    (hy : X.N[i]? = some y := by rfl) (hx : X.env.scope.names.lookup y = some .local := by rfl) (hc : X.calm = true := by rfl)
    (hsw : swapsWith (.ListComp elt [⟨tg, iter, ifs, 0⟩] scope pos) (some (.Name y py)) spos.line X.env = pure true := by rfl)
    (hs : ∀ x, foldedSetIterable iter X.env x = pure x := by intro _; rfl) : SS X (.Assign [.Name y py] (.ListComp elt [⟨tg, iter, ifs, 0⟩] scope pos) spos) (tAsg (tComp wi (g X.s₀ X.H₀ 0 []) (tt X.s₀ X.H₀ 0 []) (te X.s₀ X.H₀ 0 []) ix) (gName i)) :=
  ⟨ps_comp B hc hN hy hx hi.run (fun a b c d => eg a b c d ▸ (hg a b c d).run) (fun a b c d => et a b c d ▸ (ht a b c d).run) (fun a b c d => ee a b c d ▸ (he a b c d).run) hsw hs⟩
end
end L2

set_option Elab.async false
set_option linter.all false
set_option maxRecDepth 100000
set_option maxHeartbeats 4000000
namespace L2
open PySem PySem.Spec PyProof.Rows
section
variable {nx bk ct : St → Hp → Prop} {rt : VK} {t u : TS} {D : Ends} {σ : St} {H : Hp} {Q : VK} {te ta tb tc : TE} {g : TG} {c d : TT} {i j : Nat} {v x y : V} {r : R2} {B : Bool → Hp → Prop} {ts : TA} {tsr : TA} {R : List V → Hp → Prop}
/-! branches -/
theorem i_T {A B : Prop} (h : A) : if true = true then A else B := h
theorem i_F {A B : Prop} (h : B) : if false = true then A else B := h
theorem i_NT {A B : Prop} (h : B) : if (!true) = true then A else B := h
theorem i_NF {A B : Prop} (h : A) : if (!false) = true then A else B := h
theorem i_dT {p A B : Prop} [Decidable p] (hp : p) (h : A) : if decide p = true then A else B := by rw [if_pos (decide_eq_true hp)]; exact h
theorem i_dF {p A B : Prop} [Decidable p] (hp : ¬ p) (h : B) : if decide p = true then A else B := by rw [decide_eq_false hp]; exact h
theorem i_nT {p A B : Prop} [Decidable p] (hp : ¬ p) (h : A) : if (!decide p) = true then A else B := by rw [decide_eq_false hp]; exact h
theorem i_nF {p A B : Prop} [Decidable p] (hp : p) (h : B) : if (!decide p) = true then A else B := by rw [decide_eq_true hp]; exact h
theorem i_d {p A B : Prop} [Decidable p] (h1 : p → A) (h2 : ¬ p → B) : if decide p = true then A else B := by
  by_cases hp : p
  · exact i_dT hp (h1 hp)
  · exact i_dF hp (h2 hp)
theorem i_n {p A B : Prop} [Decidable p] (h1 : ¬ p → A) (h2 : p → B) : if (!decide p) = true then A else B := by
  by_cases hp : p
  · exact i_nF hp (h2 hp)
  · exact i_nT hp (h1 hp)
end
/-! tuples stay -/
def Tp (H H' : Hp) : Prop := ∀ b xs, H b = some (.tup xs) → H' b = some (.tup xs)
/-! data that never changes: tuples all through -/
mutual
def Im : PyData → Bool
  | .tuple ds => ImAll ds
  | .list _ => false
  | .dict _ => false
  | _ => true
def ImAll : List PyData → Bool
  | [] => true
  | d :: ds => Im d && ImAll ds
end
mutual
theorem Rep.tp {H H' : Hp} (k : Tp H H') : ∀ {d : PyData} {x : V}, Im d = true → Rep H d x → Rep H' d x
  | .none, _, _, h => h
  | .bool _, _, _, h => h
  | .int _, _, _, h => h
  | .str _, _, _, h => h
  | .list _, _, i, _ => by simp [Im] at i
  | .dict _, _, i, _ => by simp [Im] at i
  | .tuple ds, _, i, ⟨a, xs, e, h, r⟩ => ⟨a, xs, e, k a xs h, RepAll.tp k (by simpa [Im] using i) r⟩
theorem RepAll.tp {H H' : Hp} (k : Tp H H') : ∀ {ds : List PyData} {xs : List V}, ImAll ds = true → RepAll H ds xs → RepAll H' ds xs
  | [], _, _, h => h
  | d :: ds, _, i, ⟨y, ys, e, h, r⟩ => by
    have i' : Im d = true ∧ ImAll ds = true := by simpa [ImAll] using i
    exact ⟨y, ys, e, Rep.tp k i'.1 h, RepAll.tp k i'.2 r⟩
end
mutual
theorem Rep.same {H H' : Hp} (k : Same H H') : ∀ {d : PyData} {x : V}, Rep H d x → Rep H' d x
  | .none, _, h => h
  | .bool _, _, h => h
  | .int _, _, h => h
  | .str _, _, h => h
  | .list _, _, ⟨a, xs, e, h, r⟩ => ⟨a, xs, e, k a _ h, RepAll.same k r⟩
  | .dict _, _, h => h
  | .tuple ds, _, ⟨a, xs, e, h, r⟩ => ⟨a, xs, e, k a _ h, RepAll.same k r⟩
theorem RepAll.same {H H' : Hp} (k : Same H H') : ∀ {ds : List PyData} {xs : List V}, RepAll H ds xs → RepAll H' ds xs
  | [], _, h => h
  | d :: ds, _, ⟨y, ys, e, h, r⟩ => ⟨y, ys, e, Rep.same k h, RepAll.same k r⟩
end

section
variable {H H' H1 : Hp} {t g p : Addr} {n : Nat} {m : Int} {Q : VK} {E : XK} {o : HO}
end
/-! calls of built-ins, their relations by name -/
def rListOf (K : PySem.W.Frag) : List V → Hp → VK → Prop := fun xs H Q => ∃ p ys, xs = [.ref p] ∧ (SqL K H p ys ∨ SqT K H p ys) ∧ ∀ l, H l = none → Q (.ref l) (upd H l (.lst ys))
def rLenOf (K : PySem.W.Frag) : List V → Hp → VK → Prop := fun xs H Q => ∃ p ys, xs = [.ref p] ∧ (SqL K H p ys ∨ SqT K H p ys) ∧ Q (.int ys.length) H
def rMax2 : List V → Hp → VK → Prop := fun xs H Q => ∃ i j, xs = [.int i, .int j] ∧ Q (.int (if j > i then j else i)) H
def rMin2 : List V → Hp → VK → Prop := fun xs H Q => ∃ i j, xs = [.int i, .int j] ∧ Q (.int (if j < i then j else i)) H
def rAbs : List V → Hp → VK → Prop := fun xs H Q => ∃ i, xs = [.int i] ∧ Q (.int (if i < 0 then -i else i)) H
section
variable {X : Cx} {K : PySem.W.Frag} {H : Hp} {Q : VK} {p : Addr} {ys : List V} {i j : Int}
theorem call_listN : CallR X (.type "list") (rListOf X.K) := call_list_of
theorem call_lenN : CallR X (.builtin "len") (rLenOf X.K) := call_len_seq
theorem call_maxN (hc : X.calm = true) : CallR X (.builtin "max") rMax2 := call_max2 hc
theorem call_minN (hc : X.calm = true) : CallR X (.builtin "min") rMin2 := call_min2 hc
theorem call_absN : CallR X (.builtin "abs") rAbs := call_abs
end
end L2

set_option Elab.async false
set_option linter.all false
set_option maxRecDepth 100000
set_option maxHeartbeats 4000000
namespace L2
open PySem PySem.Spec PyProof.Rows
/-! ### all(..), any(..) of a list of truths -/
def rAll (K : PySem.W.Frag) : List V → Hp → VK → Prop := fun xs H Q => ∃ (p : Addr) (bs : List Bool), xs = [.ref p] ∧ SqL K H p (bs.map V.bl) ∧ Q (.bl (bs.all id)) H
theorem vals_bools {bs : List Bool} {its : List Value} (rv : Vals (bs.map V.bl) its) {i : Nat} {v : Value} (h : its[i]? = some v) : ∃ b, bs[i]? = some b ∧ v = .bool b := by
  have hl := rv.length
  rw [List.length_map] at hl
  have hi : i < its.length := (List.getElem?_eq_some_iff.mp h).1
  have hb : bs[i]? = some bs[i] := List.getElem?_eq_getElem (by omega)
  obtain ⟨u, hu, ru⟩ := rv.get (x := .bl bs[i]) (by rw [List.getElem?_map, hb]; rfl)
  rw [h] at hu; cases hu
  exact ⟨_, hb, ru⟩
section
variable {X : Cx}
theorem call_allN (hc : X.calm = true) : CallR X (.builtin "all") (rAll X.K) := by
  intro pins s σ H xs us Q I r h
  obtain ⟨p, bs, rfl, hq, q⟩ := h
  obtain ⟨u, rfl, ru⟩ := vals1 r
  cases ru
  obtain ⟨its, rv, pl, hz⟩ := I.list hq
  have hl := pl.isList
  have hlt : p < s.heap.objs.size := by obtain ⟨_, e, _⟩ := hl; exact Heap.lt_size e
  refine call_all_walk (wpAny_pyIter_list hl ?_)
  refine ⟨s.heap.objs.size, [s.heap.objs.size, p], [s.heap.objs.size], its.toArray.size, _, _, fun i => (bs[i]?).getD true, rfl, Walks.list (A := X.A.in1) (I.ok.hd hc) _ p (Nat.ne_of_lt hlt) its.toArray,
    ⟨⟨_, Heap.get?_push_size _ rfl, rfl, rfl⟩, hl.push _⟩, fun i v s' Q' E' hP hQ => ?_, fun h' tk hk => ?_⟩
  · obtain ⟨b, e, rfl⟩ := vals_bools rv (i := i) (v := v) (by simpa using hP)
    simp only [e, Option.getD_some] at hQ
    exact wpAny_truthy_bool hQ
  · have hlen := rv.length
    rw [List.length_map] at hlen
    have e : ((List.range its.toArray.size).all fun i => (bs[i]?).getD true) = bs.all id := by
      rw [List.size_toArray, ← hlen]; exact LSm.range_all bs
    rw [e]
    exact ⟨.bl _, H, I.kept (LSm.kept_iter hk), rfl, q⟩
end
section
variable {K : PySem.W.Frag} {w : World} {H : Hp} {Q : VK} {p a b : Addr} {σ : St} {td ty : TE} {kvs : List (Key × V)} {k : Key} {v : V} {ts : TA} {g : TG} {te : TE} {t : TS} {nx bk ct : St → Hp → Prop} {rt : VK}
/-! a subscript of a tuple of data -/
end
end L2

set_option Elab.async false
set_option linter.all false
set_option maxRecDepth 100000
set_option maxHeartbeats 4000000
namespace L2
open PySem PySem.Spec PyProof.Rows
/-! ### t + u of tuples, either may be empty -/
section
variable {X : Cx}
end
def rInt1 : List V → Hp → VK → Prop := fun xs H Q => (∃ i, xs = [.int i] ∧ Q (.int i) H) ∨ ∃ k, xs = [.bl k] ∧ Q (.int (if k then 1 else 0)) H
theorem call_intN {X : Cx} : CallR X (.type "int") rInt1 := call_int1
/-! ### a tuple of ints by place -/
section
variable {K : PySem.W.Frag} {H : Hp} {Q : VK} {p : Addr} {ns : List Int} {k : Int}
end
/-! is it None? -/
/-! ### a def with defaults -/
end L2

set_option Elab.async false
set_option linter.all false
set_option maxRecDepth 100000
set_option maxHeartbeats 4000000
namespace L2
open PySem PySem.Spec PyProof.Rows
/-! ### exceptions: how one lies behind a call -/
section
variable {P : Program} {w : World} {K : PySem.W.Frag} {mg : Str → Option Value} {base : Heap} {N : List Str} {qual : Str} {scope : Scope} {f : Addr} {cd : Value} {A : Around} {outer : List Env} {s : Shared} {H : Hp} {E : XK}
end
end L2

set_option Elab.async false
set_option linter.all false
set_option maxRecDepth 100000
set_option maxHeartbeats 4000000
namespace L2
open PySem PySem.Spec PyProof.Rows
/-! ### try .. except C as n -/
/-- the same body, another wish of exceptions -/
def Cx.withX (X : Cx) (xe : Value → Shared → Prop) : Cx := { X with xe := xe }
/-- within an except suite -/
def Cx.marked (X : Cx) (a : Addr) (xe : Value → Shared → Prop) : Cx := { X with A := X.A.mark (some (.ref a)), calm := false, xe := xe }
section
variable {X : Cx} {pins : List (Addr × Obj)} {σ : St} {H : Hp} {s : Shared} {xe : Value → Shared → Prop} {a : Addr}
end
end L2

set_option Elab.async false
set_option linter.all false
set_option maxRecDepth 100000
set_option maxHeartbeats 4000000
namespace L2
open PySem PySem.Spec PyProof.Rows
/-- an exception that was caught, by its class -/
def ExcO (a : Addr) (cls : Value) : HO := .ext fun h => ∃ o, h.get? a = some o ∧ o.cls = cls
section
variable {X : Cx} {pins : List (Addr × Obj)} {σ : St} {H : Hp} {s : Shared} {a : Addr} {o : HO}
end
section
variable {X : Cx} {k : Nat} {f Cc : Addr} {fd : FuncData} {ps : List Str} {sp : Sp} {i j : Nat} {y n fx cx : Str} {yp fp cpos apos cp hp pos : Pos} {e : Expr} {es : List Expr} {b₀ : Stmt} {suite : List Stmt} {ta : TA} {ts : TS}
end
end L2

set_option Elab.async false
set_option linter.all false
set_option maxRecDepth 100000
set_option maxHeartbeats 4000000
namespace L2
open PySem PySem.Spec PyProof.Rows
/-! ### isinstance of a caught exception -/
section
variable {prog : Program} {w : World} {A : Around} {E : Value → Shared → Prop} {h : Heap} {g : Array GenState} {d : Drawn} {t : Nat} {os : OsState} {a C : Addr} {o : Obj} {K : PySem.W.Frag}
end
section
variable {X : Cx}
end
end L2

set_option Elab.async false
set_option linter.all false
set_option maxRecDepth 100000
set_option maxHeartbeats 4000000
namespace L2
open PySem PySem.Spec PyProof.Rows
/-! ### the sealed rules of exceptions -/
section
variable {P : Program} {w : World} {K : PySem.W.Frag} {mg : Str → Option Value} {base : Heap} {N : List Str} {qual : Str} {scope : Scope} {f : Addr} {cd : Value} {A : Around} {outer : List Env} {s : Shared} {H : Hp} {E : XK}
end
section
variable {X : Cx} {k l : Nat} {f Cc : Addr} {fd : FuncData} {ps : List Str} {sp : Sp} {y n fx cx : Str} {yp fp cpos apos cp hp pos : Pos} {e : Expr} {es : List Expr} {b₀ : Stmt} {suite : List Stmt} {ta : TA} {ts : TS}
theorem e_tyV {T : String} {x : Str} {p : Pos} (mT : X.mg x = none) (hb : bootBuiltins x = some (.type T)) (gT : Gl X x := by rfl) (hn : x ≠ "__name__" := by decide) (hd : (x == ("__debug__" : Str)) = false := by decide) : SE X (.Name x p) (tC (.ty T)) := ⟨pe_ty mT hb gT hn hd⟩
end
section
variable {K : PySem.W.Frag} {H : Hp} {Q : VK} {a C c : Addr} {b : Bool}
end
end L2

set_option Elab.async false
set_option linter.all false
set_option maxRecDepth 100000
set_option maxHeartbeats 4000000
namespace L2
open PySem PySem.Spec PyProof.Rows
/-! ### a def that passes a callee's exception on; loops in a def that raises -/
section
variable {P : Program} {w : World} {K : PySem.W.Frag} {mg : Str → Option Value} {base : Heap} {N : List Str} {qual : Str} {scope : Scope} {f : Addr} {cd : Value} {A : Around} {outer : List Env} {s : Shared} {H : Hp} {E : XK}
end
end L2

set_option Elab.async false
set_option linter.all false
set_option maxRecDepth 100000
set_option maxHeartbeats 4000000
namespace L2
open PySem PySem.Spec PyProof.Rows
/-! ### the data layer: what a def's names hold, without the heap
im d: data that never changes while the def runs; pt p: an object of the def's own at p, its content in W; cst: a tuple of the module; rf, ty: a class -/
inductive DV where
  | im (d : PyData) | pt (p : Addr) | cst (xs : List V) | rf (a : Addr) | ty (n : String) | exn (c : Addr) | raw (xs : List V) | scr (ns : List Int)
inductive Cell where
  | lst (xs : List DV) | tray (g : Addr) (n : Nat) | part | dk (kvs : List (Key × DV)) | dt (kvs : List (List Key × DV))
abbrev Wd := Addr → Option Cell
def wset (W : Wd) (p : Addr) (c : Cell) : Wd := fun a => if a = p then some c else W a
def wdel (W : Wd) (p : Addr) : Wd := fun a => if a = p then none else W a
theorem wset_same {W : Wd} {p : Addr} {c : Cell} : wset W p c p = some c := by unfold wset; rw [if_pos rfl]
theorem wset_ne {W : Wd} {p a : Addr} {c : Cell} (h : a ≠ p) : wset W p c a = W a := by unfold wset; rw [if_neg h]
theorem wset_wset {W : Wd} {p : Addr} {c c' : Cell} : wset (wset W p c) p c' = wset W p c' := by funext a; unfold wset; split <;> rfl
theorem wdel_same {W : Wd} {p : Addr} : wdel W p p = none := by unfold wdel; rw [if_pos rfl]
theorem wdel_ne {W : Wd} {p a : Addr} (h : a ≠ p) : wdel W p a = W a := by unfold wdel; rw [if_neg h]
open Classical in
noncomputable def hide (O : Addr → Prop) (H : Hp) : Hp := fun a => if O a then none else H a
theorem hide_iff {O : Addr → Prop} {H : Hp} {a : Addr} {o : HO} : hide O H a = some o ↔ ¬ O a ∧ H a = some o := by
  unfold hide
  by_cases h : O a
  · rw [if_pos h]; exact ⟨(fun z => by cases z), (fun z => absurd h z.1)⟩
  · rw [if_neg h]; exact ⟨fun z => ⟨h, z⟩, fun z => z.2⟩
/-- something that may change: there, and no tuple -/
def Mu (o : Option HO) : Prop := ∃ u, o = some u ∧ ∀ xs, u ≠ .tup xs
theorem Mu.ne {o : Option HO} (h : Mu o) : o ≠ none := by obtain ⟨u, e, _⟩ := h; rw [e]; exact fun z => nomatch z
structure DC where
  K : PySem.W.Frag
  Rs : Hp → Addr → Addr → Nat → Prop
  H0 : Hp
  T : Addr → Prop
  O : Addr → Prop
  E : XK
  ex : Addr → Prop
structure DC.Ok (C : DC) : Prop where
  rs : ∀ {H H' : Hp} {t g : Addr} {n : Nat}, C.Rs H t g n → H' t = H t → H' g = H g → C.Rs H' t g n
  rn : ∀ {H : Hp} {t g : Addr} {n : Nat}, C.Rs H t g n → Mu (H t) ∧ Mu (H g)
  ex : ∀ c, C.ex c → ∀ H', (∀ a o, C.H0 a = some o → ¬ C.T a → H' a = some o) → C.E (.ref c) none H'
/-- what may be leant on: neither hidden nor the def's own -/
noncomputable def Fz (C : DC) (W : Wd) (H : Hp) : Hp := hide (fun a => C.O a ∨ (W a).isSome = true) H
def VAt (C : DC) (F : Hp) : DV → V → Prop
  | .im d, x => Rep F d x
  | .pt p, x => x = .ref p
  | .cst xs, x => ∃ a, x = .ref a ∧ ∀ H, SqT C.K H a xs
  | .rf a, x => x = .ref a
  | .ty n, x => x = .ty n
  | .exn c, x => ∃ a, x = .ref a ∧ F a = some (ExcO a (.ref c))
  | .raw xs, x => ∃ a, x = .ref a ∧ F a = some (.tup xs)
  | .scr ns, x => ∃ a, x = .ref a ∧ SqL C.K F a (ns.map V.int)
def VAll (C : DC) (F : Hp) : List DV → List V → Prop
  | [], xs => xs = []
  | d :: ds, xs => ∃ y ys, xs = y :: ys ∧ VAt C F d y ∧ VAll C F ds ys
def CellAt (C : DC) (W : Wd) (H : Hp) (p : Addr) : Cell → Prop
  | .lst dvs => ∃ xs, H p = some (.lst xs) ∧ VAll C (Fz C W H) dvs xs
  | .tray g n => C.Rs H p g n ∧ W g = some .part ∧ ∀ t' g' n', W t' = some (.tray g' n') → t' = p
  | .part => Mu (H p)
  | .dk kvs => ∃ kvs', H p = some (.dK kvs') ∧ kvs'.map (·.1) = kvs.map (·.1) ∧ VAll C (Fz C W H) (kvs.map (·.2)) (kvs'.map (·.2))
  | .dt kvs => ∃ kvs', H p = some (.dT kvs') ∧ kvs'.map (·.1) = kvs.map (·.1) ∧ VAll C (Fz C W H) (kvs.map (·.2)) (kvs'.map (·.2))
abbrev Rho := List (Option DV)
def Slots (C : DC) (F : Hp) : Rho → St → Prop
  | [], [] => True
  | none :: ρ, _ :: σ => Slots C F ρ σ
  | some dv :: ρ, some v :: σ => VAt C F dv v ∧ Slots C F ρ σ
  | _, _ => False
structure DR (C : DC) (σ : St) (H : Hp) (ρ : Rho) (W : Wd) : Prop where
  ok : C.Ok
  fr : ∀ a o, C.H0 a = some o → ¬ C.T a → H a = some o
  ho : ∀ a, C.O a → H a ≠ none
  th : ∀ a, C.T a → H a ≠ none
  sl : Slots C (Fz C W H) ρ σ
  ce : ∀ p c, W p = some c → (C.H0 p = none ∨ C.T p) ∧ ¬ C.O p ∧ CellAt C W H p c
section
variable {C : DC} {F F' : Hp} {σ : St} {ρ : Rho} {H H' : Hp} {W W' : Wd} {p : Addr} {dv : DV} {x : V} {dvs : List DV} {xs : List V}
theorem VAt.mono (s : Same F F') : ∀ {dv : DV}, VAt C F dv x → VAt C F' dv x
  | .im _, h => Rep.same s h
  | .pt _, h => h
  | .cst _, h => h
  | .rf _, h => h
  | .ty _, h => h
  | .exn _, ⟨a, e, h⟩ => ⟨a, e, s _ _ h⟩
  | .raw _, ⟨a, e, h⟩ => ⟨a, e, s _ _ h⟩
  | .scr _, ⟨a, e, h⟩ => ⟨a, e, s.seq h⟩
theorem VAll.mono (s : Same F F') : ∀ {dvs : List DV} {xs : List V}, VAll C F dvs xs → VAll C F' dvs xs
  | [], _, h => h
  | _ :: _, _, ⟨y, ys, e, h, r⟩ => ⟨y, ys, e, h.mono s, VAll.mono s r⟩
theorem VAll.length : ∀ {dvs : List DV} {xs : List V}, VAll C F dvs xs → dvs.length = xs.length
  | [], _, h => by cases h; rfl
  | _ :: _, _, ⟨y, ys, e, _, r⟩ => by subst e; simp [VAll.length r]
theorem VAll.get : ∀ {dvs : List DV} {xs : List V} {i : Nat} {dv : DV}, VAll C F dvs xs → dvs[i]? = some dv → ∃ x, xs[i]? = some x ∧ VAt C F dv x
  | [], _, _, _, _, e => by simp at e
  | _ :: _, _, 0, _, ⟨y, ys, e1, r, _⟩, e => by simp at e; subst e e1; exact ⟨y, rfl, r⟩
  | _ :: _, _, i + 1, d, ⟨y, ys, e1, _, rs⟩, e => by
    obtain ⟨x, h1, h2⟩ := VAll.get (i := i) (dv := d) rs (by simpa using e)
    subst e1
    exact ⟨x, by simpa using h1, h2⟩
theorem VAll.get' {i : Nat} (r : VAll C F dvs xs) (e : xs[i]? = some x) : ∃ dv, dvs[i]? = some dv ∧ VAt C F dv x := by
  have hl := r.length
  have hi : i < xs.length := (List.getElem?_eq_some_iff.mp e).1
  obtain ⟨y, h1, h2⟩ := r.get (i := i) (dv := dvs[i]) (by simp [hl, hi])
  rw [e] at h1; cases h1
  exact ⟨_, by simp [hl, hi], h2⟩
theorem VAll.append : ∀ {dvs : List DV} {xs : List V} {dvs' : List DV} {xs' : List V}, VAll C F dvs xs → VAll C F dvs' xs' → VAll C F (dvs ++ dvs') (xs ++ xs')
  | [], _, _, _, h, h' => by cases h; exact h'
  | _ :: _, _, _, _, ⟨y, ys, e, h, r⟩, h' => by subst e; exact ⟨y, _, rfl, h, VAll.append r h'⟩
theorem VAll.one (h : VAt C F dv x) : VAll C F [dv] [x] := ⟨x, [], rfl, h, rfl⟩
theorem VAll.set : ∀ {dvs : List DV} {xs : List V} (i : Nat), VAll C F dvs xs → VAt C F dv x → VAll C F (dvs.set i dv) (xs.set i x)
  | [], _, _, h, _ => by cases h; exact rfl
  | _ :: _, _, 0, ⟨y, ys, e, h, r⟩, h' => by subst e; exact ⟨x, ys, rfl, h', r⟩
  | _ :: _, _, i + 1, ⟨y, ys, e, h, r⟩, h' => by subst e; exact ⟨y, _, rfl, h, VAll.set i r h'⟩
theorem VAll.take : ∀ {dvs : List DV} {xs : List V} (i : Nat), VAll C F dvs xs → VAll C F (dvs.take i) (xs.take i)
  | [], _, _, h => by cases h; simp [VAll]
  | _ :: _, _, 0, _ => by simp [VAll]
  | _ :: _, _, i + 1, ⟨y, ys, e, h, r⟩ => by subst e; exact ⟨y, _, rfl, h, VAll.take i r⟩
theorem VAll.drop : ∀ {dvs : List DV} {xs : List V} (i : Nat), VAll C F dvs xs → VAll C F (dvs.drop i) (xs.drop i)
  | [], _, _, h => by cases h; simp [VAll]
  | _ :: _, _, 0, h => h
  | _ :: _, _, i + 1, ⟨y, ys, e, h, r⟩ => by subst e; exact VAll.drop i r
theorem VAll.erase : ∀ {dvs : List DV} {xs : List V} (i : Nat), VAll C F dvs xs → VAll C F (dvs.eraseIdx i) (xs.eraseIdx i)
  | [], _, _, h => by cases h; exact rfl
  | _ :: _, _, 0, ⟨y, ys, e, h, r⟩ => by subst e; exact r
  | _ :: _, _, i + 1, ⟨y, ys, e, h, r⟩ => by subst e; exact ⟨y, _, rfl, h, VAll.erase i r⟩
theorem VAll.rep (k : Nat) (h : VAll C F dvs xs) : VAll C F (List.replicate k dvs).flatten (List.replicate k xs).flatten := by
  induction k with
  | zero => exact rfl
  | succ k ih => rw [List.replicate_succ, List.replicate_succ, List.flatten_cons, List.flatten_cons]; exact h.append ih
theorem VAll.ofRep : ∀ {ds : List PyData} {xs : List V}, RepAll F ds xs → VAll C F (ds.map .im) xs
  | [], _, h => h
  | _ :: _, _, ⟨y, ys, e, h, r⟩ => ⟨y, ys, e, h, VAll.ofRep r⟩
theorem VAll.toRep : ∀ {ds : List PyData} {xs : List V}, VAll C F (ds.map .im) xs → RepAll F ds xs
  | [], _, h => h
  | _ :: _, _, ⟨y, ys, e, h, r⟩ => ⟨y, ys, e, h, VAll.toRep r⟩
theorem Slots.mono (s : Same F F') : ∀ {ρ : Rho} {σ : St}, Slots C F ρ σ → Slots C F' ρ σ
  | [], [], h => h
  | none :: ρ, _ :: σ, h => Slots.mono (ρ := ρ) (σ := σ) s h
  | some _ :: _, some _ :: _, h => ⟨h.1.mono s, Slots.mono s h.2⟩
  | some _ :: _, none :: _, h => h.elim
  | [], _ :: _, h => h.elim
  | none :: _, [], h => h.elim
  | some _ :: _, [], h => h.elim
theorem Slots.get : ∀ {ρ : Rho} {σ : St} {i : Nat} {dv : DV}, Slots C F ρ σ → ρ[i]? = some (some dv) → ∃ v, σ[i]? = some (some v) ∧ VAt C F dv v
  | [], [], _, _, _, e => by simp at e
  | none :: _, _ :: _, 0, _, _, e => by simp at e
  | none :: ρ, _ :: σ, i + 1, _, h, e => by
    obtain ⟨v, h1, h2⟩ := Slots.get (ρ := ρ) (σ := σ) (i := i) h (by simpa using e)
    exact ⟨v, by simpa using h1, h2⟩
  | some _ :: _, some v :: _, 0, _, h, e => by simp at e; subst e; exact ⟨v, rfl, h.1⟩
  | some _ :: _, some _ :: _, i + 1, _, h, e => by
    obtain ⟨v, h1, h2⟩ := Slots.get (i := i) h.2 (by simpa using e)
    exact ⟨v, by simpa using h1, h2⟩
  | some _ :: _, none :: _, _, _, h, _ => h.elim
  | [], _ :: _, _, _, h, _ => h.elim
  | none :: _, [], _, _, h, _ => h.elim
  | some _ :: _, [], _, _, h, _ => h.elim
theorem Slots.set {v : V} (hv : VAt C F dv v) : ∀ {ρ : Rho} {σ : St} (i : Nat), Slots C F ρ σ → Slots C F (ρ.set i (some dv)) (σ.set i (some v))
  | [], [], _, h => by cases ‹Nat› <;> exact h
  | none :: _, _ :: _, 0, h => ⟨hv, h⟩
  | none :: ρ, _ :: σ, i + 1, h => Slots.set (ρ := ρ) (σ := σ) hv i h
  | some _ :: _, some _ :: _, 0, h => ⟨hv, h.2⟩
  | some _ :: _, some _ :: _, i + 1, h => ⟨h.1, Slots.set hv i h.2⟩
  | some _ :: _, none :: _, _, h => h.elim
  | [], _ :: _, _, h => h.elim
  | none :: _, [], _, h => h.elim
  | some _ :: _, [], _, h => h.elim
theorem Slots.at (h : Slots C F ρ σ) (i : Nat) : Slots C F [(ρ[i]?).join] [(σ[i]?).join] := by
  cases e : (ρ[i]?).join with
  | none => exact trivial
  | some dv =>
    have e' : ρ[i]? = some (some dv) := by
      cases q : ρ[i]? with
      | none => rw [q] at e; cases e
      | some o => rw [q] at e; exact congrArg some e
    obtain ⟨v, h1, h2⟩ := h.get e'
    rw [h1]
    exact ⟨h2, trivial⟩
def blkD (ix : List (Option Nat)) (ρ : Rho) : Rho := ix.map fun o => match o with | none => none | some j => (ρ[j]?).join
theorem Slots.blk (h : Slots C F ρ σ) : ∀ ix : List (Option Nat), Slots C F (blkD ix ρ) (L2.blk ix σ)
  | [] => trivial
  | none :: r => by show Slots C F (none :: blkD r ρ) (none :: L2.blk r σ); exact Slots.blk h r
  | some j :: r => by
    have h1 := h.at j
    have h2 := Slots.blk h r
    show Slots C F ((ρ[j]?).join :: blkD r ρ) ((σ[j]?).join :: L2.blk r σ)
    cases e : (ρ[j]?).join with
    | none => exact h2
    | some dv =>
      rw [e] at h1
      cases e2 : (σ[j]?).join with
      | none => rw [e2] at h1; exact h1.elim
      | some v => rw [e2] at h1; exact ⟨h1.1, h2⟩
theorem Fz.le {a : Addr} {o : HO} (h : Fz C W H a = some o) : H a = some o := (hide_iff.mp h).2
theorem Fz.sm : Same (Fz C W H) H := fun _ _ h => Fz.le h
theorem Fz.same (hW : ∀ a, (W' a).isSome = true → (W a).isSome = true ∨ H a = none) (hH : ∀ a o, H a = some o → W a = none → H' a = some o) : Same (Fz C W H) (Fz C W' H') := fun a o h => by
  obtain ⟨h1, h2⟩ := hide_iff.mp h
  refine hide_iff.mpr ⟨fun z => ?_, hH a o h2 ?_⟩
  · rcases z with z | z
    · exact h1 (.inl z)
    · rcases hW a z with q | q
      · exact h1 (.inr q)
      · rw [q] at h2; cases h2
  · cases e : W a with
    | none => rfl
    | some c => exact absurd (.inr (by rw [e]; rfl)) h1
theorem CellAt.mono {c : Cell} (s : Same (Fz C W H) (Fz C W' H')) (ok : C.Ok) (hp : H' p = H p) (hg : ∀ g, W g = some .part → W' g = some .part ∧ H' g = H g) (ht : ∀ t' g' n', W' t' = some (.tray g' n') → ∃ n, W t' = some (.tray g' n)) (h : CellAt C W H p c) : CellAt C W' H' p c := by
  cases c with
  | lst dvs => obtain ⟨xs, e, r⟩ := h; exact ⟨xs, by rw [hp]; exact e, r.mono s⟩
  | tray g n =>
    obtain ⟨r, e, u⟩ := h
    refine ⟨ok.rs r hp (hg g e).2, (hg g e).1, fun t' g' n' q => ?_⟩
    obtain ⟨m, q⟩ := ht t' g' n' q
    exact u t' g' m q
  | part => show Mu (H' p); rw [hp]; exact h
  | dk kvs => obtain ⟨ks, e, k, r⟩ := h; exact ⟨ks, by rw [hp]; exact e, k, r.mono s⟩
  | dt kvs => obtain ⟨ks, e, k, r⟩ := h; exact ⟨ks, by rw [hp]; exact e, k, r.mono s⟩
theorem CellAt.there {c : Cell} (ok : C.Ok) (h : CellAt C W H p c) : H p ≠ none := by
  cases c with
  | lst dvs => obtain ⟨xs, e, r⟩ := h; rw [e]; exact fun z => nomatch z
  | tray g n => exact (ok.rn h.1).1.ne
  | part => exact h.ne
  | dk kvs => obtain ⟨ks, e, k, r⟩ := h; rw [e]; exact fun z => nomatch z
  | dt kvs => obtain ⟨ks, e, k, r⟩ := h; rw [e]; exact fun z => nomatch z
theorem CellAt.mu {c : Cell} (ok : C.Ok) (h : CellAt C W H p c) : Mu (H p) := by
  cases c with
  | lst dvs => obtain ⟨xs, e, r⟩ := h; exact ⟨_, e, fun _ z => nomatch z⟩
  | tray g n => exact (ok.rn h.1).1
  | part => exact h
  | dk kvs => obtain ⟨ks, e, k, r⟩ := h; exact ⟨_, e, fun _ z => nomatch z⟩
  | dt kvs => obtain ⟨ks, e, k, r⟩ := h; exact ⟨_, e, fun _ z => nomatch z⟩
theorem DR.there (D : DR C σ H ρ W) {c : Cell} (h : W p = some c) : H p ≠ none := (D.ce p c h).2.2.there D.ok
theorem DR.fresh (D : DR C σ H ρ W) (h : H p = none) : W p = none := by
  cases e : W p with
  | none => rfl
  | some c => exact absurd h (D.there e)
theorem DR.nO (D : DR C σ H ρ W) (h : H p = none) : ¬ C.O p := fun z => D.ho p z h
theorem DR.nH0 (D : DR C σ H ρ W) (h : H p = none) : C.H0 p = none := by
  cases e : C.H0 p with
  | none => rfl
  | some o => by_cases ht : C.T p
              · exact absurd h (D.th p ht)
              · rw [D.fr p o e ht] at h; cases h
/-- the general step -/
theorem DR.step (D : DR C σ H ρ W) (hW : ∀ a, (W' a).isSome = true → (W a).isSome = true ∨ H a = none) (hH : ∀ a o, H a = some o → W a = none → H' a = some o) (hn : ∀ a, H a ≠ none → H' a ≠ none)
    (hc : Same (Fz C W H) (Fz C W' H') → ∀ p c, W' p = some c → (C.H0 p = none ∨ C.T p) ∧ ¬ C.O p ∧ CellAt C W' H' p c) : DR C σ H' ρ W' ∧ Same (Fz C W H) (Fz C W' H') := by
  have s := Fz.same (C := C) hW hH
  refine ⟨⟨D.ok, fun a o e ht => ?_, fun a ha => hn a (D.ho a ha), fun a ha => hn a (D.th a ha), D.sl.mono s, hc s⟩, s⟩
  refine hH a o (D.fr a o e ht) ?_
  cases q : W a with
  | none => rfl
  | some c =>
    rcases (D.ce a c q).1 with z | z
    · rw [e] at z; cases z
    · exact absurd z ht
end
end L2

set_option Elab.async false
set_option linter.all false
set_option maxRecDepth 100000
set_option maxHeartbeats 4000000
namespace L2
open PySem PySem.Spec PyProof.Rows
def Cell.plain : Cell → Bool
  | .tray _ _ => false
  | .part => false
  | _ => true
section
variable {C : DC} {σ : St} {ρ : Rho} {H H' : Hp} {W W' : Wd} {p : Addr} {dv : DV} {x : V} {dvs dvs0 : List DV} {xs : List V}
theorem upd_some {a : Addr} {o u : HO} (h : H p = none) (e : H a = some o) : upd H p u a = some o := by rw [upd_ne (ne_of_none e h)]; exact e
theorem upd_nn {a : Addr} {o : HO} (h : H a ≠ none) : upd H p o a ≠ none := by
  unfold upd; split
  · exact fun z => nomatch z
  · exact h
theorem DR.imm (D : DR C σ H ρ W) (h : H p = none) (o : HO) : DR C σ (upd H p o) ρ W ∧ Same (Fz C W H) (Fz C W (upd H p o)) ∧ Fz C W (upd H p o) p = some o := by
  have np : ∀ a, H a ≠ none → a ≠ p := fun a ha z => ha (by rw [z]; exact h)
  obtain ⟨d, s⟩ := D.step (W' := W) (H' := upd H p o) (fun a z => .inl z) (fun a u e _ => upd_some h e) (fun a ha => upd_nn ha) fun s q c e => by
    obtain ⟨h1, h2, h3⟩ := D.ce q c e
    exact ⟨h1, h2, h3.mono s D.ok (upd_ne (np q (D.there e))) (fun g hg => ⟨hg, upd_ne (np g (D.there hg))⟩) fun t' g' n' z => ⟨n', z⟩⟩
  refine ⟨d, s, hide_iff.mpr ⟨fun z => ?_, upd_same⟩⟩
  rcases z with z | z
  · exact D.nO h z
  · rw [D.fresh h] at z; cases z
theorem DR.newC {c : Cell} {o : HO} (D : DR C σ H ρ W) (h : H p = none) (hp : c.plain = true) (hc : Same (Fz C W H) (Fz C (wset W p c) (upd H p o)) → CellAt C (wset W p c) (upd H p o) p c) : DR C σ (upd H p o) ρ (wset W p c) ∧ Same (Fz C W H) (Fz C (wset W p c) (upd H p o)) := by
  have np : ∀ a, H a ≠ none → a ≠ p := fun a ha z => ha (by rw [z]; exact h)
  refine D.step (fun a z => ?_) (fun a u e _ => upd_some h e) (fun a ha => upd_nn ha) fun s q c' e => ?_
  · by_cases hq : a = p
    · exact .inr (by rw [hq]; exact h)
    · rw [wset_ne hq] at z; exact .inl z
  · by_cases hq : q = p
    · subst hq
      rw [wset_same] at e; cases e
      exact ⟨.inl (D.nH0 h), D.nO h, hc s⟩
    · rw [wset_ne hq] at e
      obtain ⟨h1, h2, h3⟩ := D.ce q c' e
      refine ⟨h1, h2, h3.mono s D.ok (upd_ne hq) (fun g hg => ?_) fun t' g' n' z => ?_⟩
      · have := np g (D.there hg)
        exact ⟨by rw [wset_ne this]; exact hg, upd_ne this⟩
      · by_cases ht : t' = p
        · subst ht; rw [wset_same] at z; cases z; cases hp
        · rw [wset_ne ht] at z; exact ⟨n', z⟩
theorem DR.newl (D : DR C σ H ρ W) (h : H p = none) (r : VAll C (Fz C W H) dvs xs) : DR C σ (upd H p (.lst xs)) ρ (wset W p (.lst dvs)) ∧ Same (Fz C W H) (Fz C (wset W p (.lst dvs)) (upd H p (.lst xs))) :=
  D.newC h rfl fun s => ⟨xs, upd_same, r.mono s⟩
/-- an own object is changed -/
theorem DR.wrC {c c0 : Cell} {o : HO} (D : DR C σ H ρ W) (e : W p = some c0) (h0 : c0.plain = true) (h1 : c.plain = true) (hc : Same (Fz C W H) (Fz C (wset W p c) (upd H p o)) → CellAt C (wset W p c) (upd H p o) p c) : DR C σ (upd H p o) ρ (wset W p c) ∧ Same (Fz C W H) (Fz C (wset W p c) (upd H p o)) := by
  refine D.step (fun a z => ?_) (fun a u q w => ?_) (fun a ha => upd_nn ha) fun s q c' e' => ?_
  · by_cases hq : a = p
    · exact .inl (by rw [hq, e]; rfl)
    · rw [wset_ne hq] at z; exact .inl z
  · rw [upd_ne (fun z => by rw [z, e] at w; cases w)]; exact q
  · by_cases hq : q = p
    · subst hq
      rw [wset_same] at e'; cases e'
      exact ⟨(D.ce q c0 e).1, (D.ce q c0 e).2.1, hc s⟩
    · rw [wset_ne hq] at e'
      obtain ⟨h1', h2, h3⟩ := D.ce q c' e'
      refine ⟨h1', h2, h3.mono s D.ok (upd_ne hq) (fun g hg => ?_) fun t' g' n' z => ?_⟩
      · have : g ≠ p := fun z => by rw [z, e] at hg; cases hg; cases h0
        exact ⟨by rw [wset_ne this]; exact hg, upd_ne this⟩
      · by_cases ht : t' = p
        · subst ht; rw [wset_same] at z; cases z; cases h1
        · rw [wset_ne ht] at z; exact ⟨n', z⟩
theorem DR.wr (D : DR C σ H ρ W) (e : W p = some (.lst dvs0)) (r : VAll C (Fz C W H) dvs xs) : DR C σ (upd H p (.lst xs)) ρ (wset W p (.lst dvs)) ∧ Same (Fz C W H) (Fz C (wset W p (.lst dvs)) (upd H p (.lst xs))) :=
  D.wrC e rfl rfl fun s => ⟨xs, upd_same, r.mono s⟩
/-- an own list is let go: from now on it is data -/
theorem DR.del {c0 : Cell} (D : DR C σ H ρ W) (e : W p = some c0) (h0 : c0.plain = true) : DR C σ H ρ (wdel W p) ∧ Same (Fz C W H) (Fz C (wdel W p) H) := by
  refine D.step (fun a z => ?_) (fun a u q w => q) (fun a ha => ha) fun s q c' e' => ?_
  · by_cases hq : a = p
    · rw [hq, wdel_same] at z; cases z
    · rw [wdel_ne hq] at z; exact .inl z
  · by_cases hq : q = p
    · subst hq; rw [wdel_same] at e'; cases e'
    · rw [wdel_ne hq] at e'
      obtain ⟨h1', h2, h3⟩ := D.ce q c' e'
      refine ⟨h1', h2, h3.mono s D.ok rfl (fun g hg => ?_) fun t' g' n' z => ?_⟩
      · have : g ≠ p := fun z => by rw [z, e] at hg; cases hg; cases h0
        exact ⟨by rw [wdel_ne this]; exact hg, rfl⟩
      · by_cases ht : t' = p
        · subst ht; rw [wdel_same] at z; cases z
        · rw [wdel_ne ht] at z; exact ⟨n', z⟩
theorem same_eq {a : Addr} (s : Same H H') (h : H a ≠ none) : H' a = H a := by
  cases e : H a with
  | none => exact absurd e h
  | some o => exact s a o e
theorem nn_same (s : Same H H') : ∀ a, H a ≠ none → H' a ≠ none := fun a h => by rw [same_eq s h]; exact h
theorem DR.same (D : DR C σ H ρ W) (s : Same H H') : DR C σ H' ρ W ∧ Same (Fz C W H) (Fz C W H') := by
  refine D.step (fun a z => .inl z) (fun a u q _ => s a u q) (nn_same s) fun s' q c e => ?_
  obtain ⟨h1, h2, h3⟩ := D.ce q c e
  exact ⟨h1, h2, h3.mono s' D.ok (same_eq s (D.there e)) (fun g hg => ⟨hg, same_eq s (D.there hg)⟩) fun t' g' n' z => ⟨n', z⟩⟩
/-- the tray was drawn from -/
theorem DR.kp {t g : Addr} {n n' : Nat} (D : DR C σ H ρ W) (e : W t = some (.tray g n)) (k : Kp t g H H') (r : C.Rs H' t g n') : DR C σ H' ρ (wset W t (.tray g n')) ∧ Same (Fz C W H) (Fz C (wset W t (.tray g n')) H') := by
  obtain ⟨_, eg, uq⟩ := (D.ce t _ e).2.2
  have keep : ∀ a, a ≠ t → a ≠ g → H a ≠ none → H' a = H a := fun a h1 h2 h => by
    cases q : H a with
    | none => exact absurd q h
    | some o => exact k a o q h1 h2
  have gt : g ≠ t := fun z => by rw [z, e] at eg; cases eg
  refine D.step (fun a z => ?_) (fun a u q w => ?_) (fun a ha => ?_) fun s q c e' => ?_
  · by_cases hq : a = t
    · exact .inl (by rw [hq, e]; rfl)
    · rw [wset_ne hq] at z; exact .inl z
  · exact k a u q (fun z => by rw [z, e] at w; cases w) (fun z => by rw [z, eg] at w; cases w)
  · by_cases h1 : a = t
    · rw [h1]; exact (D.ok.rn r).1.ne
    by_cases h2 : a = g
    · rw [h2]; exact (D.ok.rn r).2.ne
    rw [keep a h1 h2 ha]; exact ha
  · by_cases hq : q = t
    · subst hq
      rw [wset_same] at e'; cases e'
      refine ⟨(D.ce q _ e).1, (D.ce q _ e).2.1, r, by rw [wset_ne gt]; exact eg, fun t' g' m z => ?_⟩
      by_cases ht : t' = q
      · exact ht
      · rw [wset_ne ht] at z; exact uq t' g' m z
    · rw [wset_ne hq] at e'
      obtain ⟨h1', h2, h3⟩ := D.ce q c e'
      refine ⟨h1', h2, ?_⟩
      by_cases hqg : q = g
      · subst hqg
        rw [eg] at e'; cases e'
        exact (D.ok.rn r).2
      · cases c with
        | tray g2 n2 => exact absurd (uq q g2 n2 e') hq
        | part => show Mu (H' q); rw [keep q hq hqg (D.there e')]; exact h3
        | lst ds => obtain ⟨xs, z, rr⟩ := h3; exact ⟨xs, k q _ z hq hqg, rr.mono s⟩
        | dk ds => obtain ⟨xs, z, kk, rr⟩ := h3; exact ⟨xs, k q _ z hq hqg, kk, rr.mono s⟩
        | dt ds => obtain ⟨xs, z, kk, rr⟩ := h3; exact ⟨xs, k q _ z hq hqg, kk, rr.mono s⟩
theorem DR.set (D : DR C σ H ρ W) (i : Nat) (h : VAt C (Fz C W H) dv x) : DR C (σ.set i (some x)) H (ρ.set i (some dv)) W := ⟨D.ok, D.fr, D.ho, D.th, D.sl.set h i, D.ce⟩
theorem DR.slots {σ' : St} {ρ' : Rho} (D : DR C σ H ρ W) (h : Slots C (Fz C W H) ρ' σ') : DR C σ' H ρ' W := ⟨D.ok, D.fr, D.ho, D.th, h, D.ce⟩
/-! ### the data that a name stands for -/
def datL (f : DV → Option PyData) : List DV → Option (List PyData)
  | [] => some []
  | x :: r => (f x).bind fun d => (datL f r).map (d :: ·)
def dat : Nat → Wd → DV → Option PyData
  | _, _, .im d => some d
  | n + 1, W, .pt p => match W p with
    | some (.lst xs) => (datL (dat n W) xs).map .list
    | _ => none
  | _, _, _ => none
theorem datL_im {f : DV → Option PyData} (hf : ∀ d, f (.im d) = some d) : ∀ ds : List PyData, datL f (ds.map .im) = some ds
  | [] => rfl
  | d :: r => by rw [List.map_cons]; unfold datL; rw [hf, datL_im hf r]; rfl
theorem datL_all {F : Hp} {f : DV → Option PyData} (hf : ∀ dv x d, VAt C (Fz C W H) dv x → f dv = some d → Rep F d x) : ∀ {dvs : List DV} {xs : List V} {ds : List PyData}, VAll C (Fz C W H) dvs xs → datL f dvs = some ds → RepAll F ds xs
  | [], _, _, h, e => by cases h; cases e; exact rfl
  | d :: r, _, ds, ⟨y, ys, e1, h, hr⟩, e => by
    unfold datL at e
    cases q : f d with
    | none => rw [q] at e; cases e
    | some d' =>
      rw [q] at e
      cases q2 : datL f r with
      | none => rw [q2] at e; cases e
      | some ds' =>
        rw [q2] at e
        cases e
        exact ⟨y, ys, e1, hf _ _ _ h q, datL_all hf hr q2⟩
def trayish : Option Cell → Prop
  | some (.tray _ _) => True
  | some .part => True
  | _ => False
theorem trayish_some {o : Option Cell} (h : trayish o) : ∃ c, o = some c := by
  cases o with
  | none => exact h.elim
  | some c => exact ⟨c, rfl⟩
theorem DR.dat (D : DR C σ H ρ W) : ∀ (n : Nat) {dv : DV} {x : V} {d : PyData}, VAt C (Fz C W H) dv x → dat n W dv = some d → Rep (hide (fun a => C.O a ∨ trayish (W a)) H) d x
  | n, .im d', x, d, h, e => by
    have e' : d' = d := by cases n <;> exact Option.some.inj e
    subst e'
    exact Rep.same (fun a o z => by obtain ⟨z1, z2⟩ := hide_iff.mp z; exact hide_iff.mpr ⟨fun w => z1 (w.elim .inl fun w => .inr (by obtain ⟨c, e⟩ := trayish_some w; rw [e]; rfl)), z2⟩) h
  | 0, .pt p, _, _, _, e => by cases e
  | n + 1, .pt p, x, d, h, e => by
    unfold L2.dat at e
    cases q : W p with
    | none => rw [q] at e; cases e
    | some c =>
      rw [q] at e
      cases c with
      | lst ys =>
        cases q2 : datL (L2.dat n W) ys with
        | none => simp [q2] at e
        | some ds =>
          simp [q2] at e
          subst e
          obtain ⟨_, h2, xs, hx, hr⟩ := D.ce p _ q
          exact ⟨p, xs, h, hide_iff.mpr ⟨fun w => w.elim h2 fun w => by rw [q] at w; exact w, hx⟩, datL_all (fun dv x d h e => DR.dat D n h e) hr q2⟩
      | tray _ _ => cases e
      | part => cases e
      | dk _ => cases e
      | dt _ => cases e
  | 0, .cst _, _, _, _, e => by cases e
  | n + 1, .cst _, _, _, _, e => by cases e
  | 0, .rf _, _, _, _, e => by cases e
  | n + 1, .rf _, _, _, _, e => by cases e
  | 0, .ty _, _, _, _, e => by cases e
  | n + 1, .ty _, _, _, _, e => by cases e
  | 0, .exn _, _, _, _, e => by cases e
  | n + 1, .exn _, _, _, _, e => by cases e
  | 0, .raw _, _, _, _, e => by cases e
  | n + 1, .raw _, _, _, _, e => by cases e
  | 0, .scr _, _, _, _, e => by cases e
  | n + 1, .scr _, _, _, _, e => by cases e
theorem hide_sm {O : Addr → Prop} : Same (hide O H) H := fun a o h => (hide_iff.mp h).2
theorem DR.datH (D : DR C σ H ρ W) {n : Nat} {d : PyData} (h : VAt C (Fz C W H) dv x) (e : L2.dat n W dv = some d) : Rep H d x := (D.dat n h e).same hide_sm
/-! ### own lists let go, so that they may stand in data -/
def frzL (f : Wd → DV → Option (PyData × Wd)) : Wd → List DV → Option (List PyData × Wd)
  | W, [] => some ([], W)
  | W, x :: r => (f W x).bind fun (d, W1) => (frzL f W1 r).map fun (ds, W2) => (d :: ds, W2)
def frz : Nat → Wd → DV → Option (PyData × Wd)
  | _, W, .im d => some (d, W)
  | n + 1, W, .pt p => match W p with
    | some (.lst xs) => (frzL (frz n) (wdel W p) xs).map fun (ds, W1) => (.list ds, W1)
    | _ => none
  | _, _, _ => none
theorem frzL_im {f : Wd → DV → Option (PyData × Wd)} {W : Wd} (hf : ∀ W d, f W (.im d) = some (d, W)) : ∀ ds : List PyData, frzL f W (ds.map .im) = some (ds, W)
  | [] => rfl
  | d :: r => by rw [List.map_cons]; unfold frzL; rw [hf]; show (frzL f W (r.map .im)).map _ = _; rw [frzL_im hf r]; rfl
def FrzOk (C : DC) (σ : St) (ρ : Rho) (f : Wd → DV → Option (PyData × Wd)) : Prop := ∀ {H : Hp} {W W' : Wd} {dv : DV} {x : V} {d : PyData}, DR C σ H ρ W → VAt C (Fz C W H) dv x → f W dv = some (d, W') → DR C σ H ρ W' ∧ Same (Fz C W H) (Fz C W' H) ∧ Rep (Fz C W' H) d x ∧ ∀ a, W a = none → W' a = none
theorem frzL_ok {f : Wd → DV → Option (PyData × Wd)} (hf : FrzOk C σ ρ f) : ∀ {dvs : List DV} {W : Wd} {xs : List V} {ds : List PyData} {W' : Wd}, DR C σ H ρ W → VAll C (Fz C W H) dvs xs → frzL f W dvs = some (ds, W') → DR C σ H ρ W' ∧ Same (Fz C W H) (Fz C W' H) ∧ RepAll (Fz C W' H) ds xs ∧ ∀ a, W a = none → W' a = none
  | [], W, _, _, _, D, h, e => by cases h; cases e; exact ⟨D, Same.refl _, rfl, fun _ z => z⟩
  | d :: r, W, _, ds, W', D, ⟨y, ys, e1, h, hr⟩, e => by
    unfold frzL at e
    cases q : f W d with
    | none => rw [q] at e; cases e
    | some dw =>
      obtain ⟨d', W1⟩ := dw
      rw [q] at e
      cases q2 : frzL f W1 r with
      | none => simp [q2] at e
      | some dw2 =>
        obtain ⟨ds', W2⟩ := dw2
        simp [q2] at e
        obtain ⟨e3, e4⟩ := e
        subst e3 e4
        obtain ⟨D1, s1, r1, k1⟩ := hf D h q
        obtain ⟨D2, s2, r2, k2⟩ := frzL_ok hf D1 (hr.mono s1) q2
        exact ⟨D2, s1.trans s2, ⟨y, ys, e1, r1.same s2, r2⟩, fun a z => k2 a (k1 a z)⟩
theorem frz_ok : ∀ n : Nat, FrzOk C σ ρ (frz n)
  | n, H, W, W', .im d', x, d, D, h, e => by
    have e' : (d', W) = (d, W') := by cases n <;> exact Option.some.inj e
    cases e'
    exact ⟨D, Same.refl _, h, fun _ z => z⟩
  | 0, _, _, _, .pt p, _, _, _, _, e => by cases e
  | n + 1, H, W, W', .pt p, x, d, D, h, e => by
    unfold frz at e
    cases q : W p with
    | none => rw [q] at e; cases e
    | some c =>
      rw [q] at e
      cases c with
      | lst ys =>
        cases q2 : frzL (frz n) (wdel W p) ys with
        | none => simp [q2] at e
        | some dw =>
          obtain ⟨ds, W1⟩ := dw
          simp [q2] at e
          obtain ⟨e3, e4⟩ := e
          subst e3 e4
          obtain ⟨_, h2, xs, hx, hr⟩ := D.ce p _ q
          obtain ⟨D1, s1⟩ := D.del q rfl
          obtain ⟨D2, s2, r2, k2⟩ := frzL_ok (frz_ok n) D1 (hr.mono s1) q2
          refine ⟨D2, s1.trans s2, ⟨p, xs, h, hide_iff.mpr ⟨fun z => ?_, hx⟩, r2⟩, fun a z => k2 a ?_⟩
          · rcases z with z | z
            · exact h2 z
            · rw [k2 p wdel_same] at z; cases z
          · by_cases ha : a = p
            · rw [ha]; exact wdel_same
            · rw [wdel_ne ha]; exact z
      | tray _ _ => cases e
      | part => cases e
      | dk _ => cases e
      | dt _ => cases e
  | 0, _, _, _, .cst _, _, _, _, _, e => by cases e
  | n + 1, _, _, _, .cst _, _, _, _, _, e => by cases e
  | 0, _, _, _, .rf _, _, _, _, _, e => by cases e
  | n + 1, _, _, _, .rf _, _, _, _, _, e => by cases e
  | 0, _, _, _, .ty _, _, _, _, _, e => by cases e
  | n + 1, _, _, _, .ty _, _, _, _, _, e => by cases e
  | 0, _, _, _, .exn _, _, _, _, _, e => by cases e
  | n + 1, _, _, _, .exn _, _, _, _, _, e => by cases e
  | 0, _, _, _, .raw _, _, _, _, _, e => by cases e
  | n + 1, _, _, _, .raw _, _, _, _, _, e => by cases e
  | 0, _, _, _, .scr _, _, _, _, _, e => by cases e
  | n + 1, _, _, _, .scr _, _, _, _, _, e => by cases e
end
end L2

set_option Elab.async false
set_option linter.all false
set_option maxRecDepth 100000
set_option maxHeartbeats 4000000
namespace L2
open PySem PySem.Spec PyProof.Rows
abbrev DK := DV → Wd → Prop
abbrev DTE := Rho → Wd → DK → Prop
abbrev DTT := Rho → Wd → (Bool → Wd → Prop) → Prop
abbrev DTA := Rho → Wd → (List DV → Wd → Prop) → Prop
abbrev DTO := Rho → Wd → (Option Int → Wd → Prop) → Prop
abbrev DR2 := DV → DV → Wd → DK → Prop
def KE (C : DC) (σ : St) (ρ : Rho) (W : Wd) (H : Hp) (Qd : DK) (Q : VK) : Prop := ∀ x dv H' W', DR C σ H' ρ W' → Same (Fz C W H) (Fz C W' H') → VAt C (Fz C W' H') dv x → Qd dv W' → Q x H'
def KT' (C : DC) (σ : St) (ρ : Rho) (W : Wd) (H : Hp) (Qd : Bool → Wd → Prop) (Q : Bool → Hp → Prop) : Prop := ∀ b H' W', DR C σ H' ρ W' → Same (Fz C W H) (Fz C W' H') → Qd b W' → Q b H'
def KA (C : DC) (σ : St) (ρ : Rho) (W : Wd) (H : Hp) (Qd : List DV → Wd → Prop) (Q : List V → Hp → Prop) : Prop := ∀ xs dvs H' W', DR C σ H' ρ W' → Same (Fz C W H) (Fz C W' H') → VAll C (Fz C W' H') dvs xs → Qd dvs W' → Q xs H'
def KO (C : DC) (σ : St) (ρ : Rho) (W : Wd) (H : Hp) (Qd : Option Int → Wd → Prop) (Q : Option Int → Hp → Prop) : Prop := ∀ o H' W', DR C σ H' ρ W' → Same (Fz C W H) (Fz C W' H') → Qd o W' → Q o H'
class KIs (C : DC) (K : PySem.W.Frag) : Prop where
  eq : C.K = K
instance {K : PySem.W.Frag} {Rs : Hp → Addr → Addr → Nat → Prop} {H0 : Hp} {T O : Addr → Prop} {E : XK} {ex : Addr → Prop} : KIs ⟨K, Rs, H0, T, O, E, ex⟩ K := ⟨rfl⟩
class RsIs (C : DC) (Rs : Hp → Addr → Addr → Nat → Prop) : Prop where
  eq : C.Rs = Rs
instance {K : PySem.W.Frag} {Rs : Hp → Addr → Addr → Nat → Prop} {H0 : Hp} {T O : Addr → Prop} {E : XK} {ex : Addr → Prop} : RsIs ⟨K, Rs, H0, T, O, E, ex⟩ Rs := ⟨rfl⟩
class LE (C : DC) (t : TE) (d : outParam DTE) : Prop where
  go : ∀ {σ : St} {H : Hp} {ρ : Rho} {W : Wd} {Qd : DK} {Q : VK}, DR C σ H ρ W → d ρ W Qd → KE C σ ρ W H Qd Q → t σ H Q
class LT (C : DC) (t : TT) (d : outParam DTT) : Prop where
  go : ∀ {σ : St} {H : Hp} {ρ : Rho} {W : Wd} {Qd : Bool → Wd → Prop} {Q : Bool → Hp → Prop}, DR C σ H ρ W → d ρ W Qd → KT' C σ ρ W H Qd Q → t σ H Q
class LA (C : DC) (t : TA) (d : outParam DTA) : Prop where
  go : ∀ {σ : St} {H : Hp} {ρ : Rho} {W : Wd} {Qd : List DV → Wd → Prop} {Q : List V → Hp → Prop}, DR C σ H ρ W → d ρ W Qd → KA C σ ρ W H Qd Q → t σ H Q
class LO (C : DC) (t : TO) (d : outParam DTO) : Prop where
  go : ∀ {σ : St} {H : Hp} {ρ : Rho} {W : Wd} {Qd : Option Int → Wd → Prop} {Q : Option Int → Hp → Prop}, DR C σ H ρ W → d ρ W Qd → KO C σ ρ W H Qd Q → t σ H Q
class LR2 (C : DC) (r : R2) (d : outParam DR2) : Prop where
  go : ∀ {σ : St} {H : Hp} {ρ : Rho} {W : Wd} {Qd : DK} {Q : VK} {a b : DV} {x y : V}, DR C σ H ρ W → VAt C (Fz C W H) a x → VAt C (Fz C W H) b y → d a b W Qd → KE C σ ρ W H Qd Q → r x y H Q
class LR1 (C : DC) (r : V → Hp → VK → Prop) (d : outParam (DV → Wd → DK → Prop)) : Prop where
  go : ∀ {σ : St} {H : Hp} {ρ : Rho} {W : Wd} {Qd : DK} {Q : VK} {a : DV} {x : V}, DR C σ H ρ W → VAt C (Fz C W H) a x → d a W Qd → KE C σ ρ W H Qd Q → r x H Q
class LCB (C : DC) (r : List V → Hp → VK → Prop) (d : outParam (List DV → Wd → DK → Prop)) : Prop where
  go : ∀ {σ : St} {H : Hp} {ρ : Rho} {W : Wd} {Qd : DK} {Q : VK} {as : List DV} {xs : List V}, DR C σ H ρ W → VAll C (Fz C W H) as xs → d as W Qd → KE C σ ρ W H Qd Q → r xs H Q
class LBM (C : DC) (r : V → List V → Hp → VK → Prop) (d : outParam (DV → List DV → Wd → DK → Prop)) : Prop where
  go : ∀ {σ : St} {H : Hp} {ρ : Rho} {W : Wd} {Qd : DK} {Q : VK} {a : DV} {x : V} {as : List DV} {xs : List V}, DR C σ H ρ W → VAt C (Fz C W H) a x → VAll C (Fz C W H) as xs → d a as W Qd → KE C σ ρ W H Qd Q → r x xs H Q
section
variable {C : DC} {ta tb tc te : TE} {da db dc : DTE} {r r' : R2} {dr dr' : DR2} {c c' : TT} {dt dt' : DTT} {ts : TA} {ds : DTA} {σ : St} {H H' : Hp} {ρ : Rho} {W W' : Wd} {Qd : DK} {Q : VK} {x : V} {dv : DV}
theorem KE.mono (k : KE C σ ρ W H Qd Q) (s : Same (Fz C W H) (Fz C W' H')) : KE C σ ρ W' H' Qd Q := fun x dv H2 W2 D s2 v q => k x dv H2 W2 D (s.trans s2) v q
theorem KE.now (k : KE C σ ρ W H Qd Q) (D : DR C σ H ρ W) (v : VAt C (Fz C W H) dv x) (q : Qd dv W) : Q x H := k x dv H W D (Same.refl _) v q
theorem KE.to (k : KE C σ ρ W H Qd Q) (D : DR C σ H' ρ W' ∧ Same (Fz C W H) (Fz C W' H')) (v : VAt C (Fz C W' H') dv x) (q : Qd dv W') : Q x H' := k x dv H' W' D.1 D.2 v q
/-! names and constants -/
def dVar (i : Nat) : DTE := fun ρ W Q => ∃ v, ρ[i]? = some (some v) ∧ Q v W
instance {i : Nat} : LE C (tVar i) (dVar i) := ⟨fun D ⟨v, e, q⟩ k => by obtain ⟨u, h1, h2⟩ := D.sl.get e; exact ⟨u, h1, k.now D h2 q⟩⟩
def dC (v : DV) : DTE := fun _ W Q => Q v W
instance {n : Int} : LE C (tC (.int n)) (dC (.im (.int n))) := ⟨fun D h k => k.now (dv := .im (.int n)) D rfl h⟩
instance {b : Bool} : LE C (tC (.bl b)) (dC (.im (.bool b))) := ⟨fun D h k => k.now (dv := .im (.bool b)) D rfl h⟩
instance {s : Str} : LE C (tC (.str s)) (dC (.im (.str s))) := ⟨fun D h k => k.now (dv := .im (.str s)) D rfl h⟩
instance : LE C (tC .non) (dC (.im .none)) := ⟨fun D h k => k.now (dv := .im .none) D rfl h⟩
instance {n : String} : LE C (tC (.ty n)) (dC (.ty n)) := ⟨fun D h k => k.now (dv := .ty n) D rfl h⟩
/-! operations -/
def dOp (dr : DR2) (da db : DTE) : DTE := fun ρ W Q => da ρ W fun v W1 => db ρ W1 fun u W2 => dr v u W2 Q
instance [ir : LR2 C r dr] [ia : LE C ta da] [ib : LE C tb db] : LE C (tOp r ta tb) (dOp dr da db) := ⟨fun D h k => ia.go D h fun x dv H1 W1 D1 s1 v1 h1 => ib.go D1 h1 fun y du H2 W2 D2 s2 v2 h2 => ir.go D2 (v1.mono s2) v2 h2 (k.mono (s1.trans s2))⟩
def dUn (f : DV → Wd → DK → Prop) (da : DTE) : DTE := fun ρ W Q => da ρ W fun v W1 => f v W1 Q
instance {u : V → Hp → VK → Prop} {f : DV → Wd → DK → Prop} [iu : LR1 C u f] [ia : LE C ta da] : LE C (tUn u ta) (dUn f da) := ⟨fun D h k => ia.go D h fun x dv H1 W1 D1 s1 v1 h1 => iu.go D1 v1 h1 (k.mono s1)⟩
/-! tests -/
def dBo (da : DTE) : DTT := fun ρ W Q => da ρ W fun v W1 => ∃ b, v = .im (.bool b) ∧ Q b W1
instance [ia : LE C ta da] : LT C (tB ta) (dBo da) := ⟨fun D h k => ia.go D h fun x dv H1 W1 D1 s1 v1 ⟨b, e, q⟩ => by subst e; exact ⟨b, v1, k b H1 W1 D1 s1 q⟩⟩
instance [ia : LE C ta da] : LT C (tTest ta) (dBo da) := ⟨fun D h k => ia.go D h fun x dv H1 W1 D1 s1 v1 ⟨b, e, q⟩ => by subst e; exact ⟨b, v1, k b H1 W1 D1 s1 q⟩⟩
def dAnd (a b : DTT) : DTT := fun ρ W Q => a ρ W fun c W1 => if c = true then b ρ W1 Q else Q false W1
def dOr (a b : DTT) : DTT := fun ρ W Q => a ρ W fun c W1 => if c = true then Q true W1 else b ρ W1 Q
def dNot (a : DTT) : DTT := fun ρ W Q => a ρ W fun c W1 => Q (!c) W1
theorem KT'.mono {Qd : Bool → Wd → Prop} {Q : Bool → Hp → Prop} (k : KT' C σ ρ W H Qd Q) (s : Same (Fz C W H) (Fz C W' H')) : KT' C σ ρ W' H' Qd Q := fun b H2 W2 D s2 q => k b H2 W2 D (s.trans s2) q
instance [it : LT C c dt] [it' : LT C c' dt'] : LT C (tAnd c c') (dAnd dt dt') := ⟨fun D h k => it.go D h fun b H1 W1 D1 s1 h1 => by
  cases b with
  | true => exact it'.go D1 h1 (k.mono s1)
  | false => exact k false H1 W1 D1 s1 h1⟩
instance [it : LT C c dt] [it' : LT C c' dt'] : LT C (tOr c c') (dOr dt dt') := ⟨fun D h k => it.go D h fun b H1 W1 D1 s1 h1 => by
  cases b with
  | true => exact k true H1 W1 D1 s1 h1
  | false => exact it'.go D1 h1 (k.mono s1)⟩
instance [it : LT C c dt] : LT C (tNot c) (dNot dt) := ⟨fun D h k => it.go D h fun b H1 W1 D1 s1 h1 => k (!b) H1 W1 D1 s1 h1⟩
def dIf (c : DTT) (a b : DTE) : DTE := fun ρ W Q => c ρ W fun k W1 => if k = true then a ρ W1 Q else b ρ W1 Q
instance [it : LT C c dt] [ia : LE C ta da] [ib : LE C tb db] : LE C (tIf c ta tb) (dIf dt da db) := ⟨fun D h k => it.go D h fun b H1 W1 D1 s1 h1 => by
  cases b with
  | true => exact ia.go D1 h1 (k.mono s1)
  | false => exact ib.go D1 h1 (k.mono s1)⟩
def isNone : DV → Bool
  | .im .none => true
  | _ => false
theorem isNone_at {F : Hp} : ∀ {dv : DV} {x : V}, VAt C F dv x → decide (x = .non) = isNone dv
  | .im .none, x, h => by rw [show x = .non from h]; rfl
  | .im (.bool _), x, h => by rw [show x = .bl _ from h]; rfl
  | .im (.int _), x, h => by rw [show x = .int _ from h]; exact decide_eq_false (fun z => nomatch z)
  | .im (.str _), x, h => by rw [show x = .str _ from h]; exact decide_eq_false (fun z => nomatch z)
  | .im (.list _), x, ⟨a, _, e, _⟩ => by rw [e]; exact decide_eq_false (fun z => nomatch z)
  | .im (.tuple _), x, ⟨a, _, e, _⟩ => by rw [e]; exact decide_eq_false (fun z => nomatch z)
  | .im (.dict _), x, h => h.elim
  | .pt _, x, h => by rw [show x = .ref _ from h]; exact decide_eq_false (fun z => nomatch z)
  | .cst _, x, ⟨a, e, _⟩ => by rw [e]; exact decide_eq_false (fun z => nomatch z)
  | .rf _, x, h => by rw [show x = .ref _ from h]; exact decide_eq_false (fun z => nomatch z)
  | .ty _, x, h => by rw [show x = .ty _ from h]; exact decide_eq_false (fun z => nomatch z)
  | .exn _, x, ⟨a, e, _⟩ => by rw [e]; exact decide_eq_false (fun z => nomatch z)
  | .raw _, x, ⟨a, e, _⟩ => by rw [e]; exact decide_eq_false (fun z => nomatch z)
  | .scr _, x, ⟨a, e, _⟩ => by rw [e]; exact decide_eq_false (fun z => nomatch z)
def dIsN (a : DTE) : DTE := fun ρ W Q => a ρ W fun v W1 => Q (.im (.bool (isNone v))) W1
def dNotN (a : DTE) : DTE := fun ρ W Q => a ρ W fun v W1 => Q (.im (.bool (!isNone v))) W1
instance [ia : LE C ta da] : LE C (tIsN ta) (dIsN da) := ⟨fun D h k => ia.go D h fun x dv H1 W1 D1 s1 v1 q => by rw [isNone_at v1]; exact (k.mono s1).now (dv := .im (.bool _)) D1 rfl q⟩
instance [ia : LE C ta da] : LE C (tNotN ta) (dNotN da) := ⟨fun D h k => ia.go D h fun x dv H1 W1 D1 s1 v1 q => by rw [isNone_at v1]; exact (k.mono s1).now (dv := .im (.bool _)) D1 rfl q⟩
/-! lists of arguments -/
def dNil : DTA := fun _ W Q => Q [] W
def dCons (a : DTE) (b : DTA) : DTA := fun ρ W Q => a ρ W fun v W1 => b ρ W1 fun vs W2 => Q (v :: vs) W2
instance : LA C tNil dNil := ⟨fun D h k => k [] [] _ _ D (Same.refl _) rfl h⟩
instance [ia : LE C ta da] [is : LA C ts ds] : LA C (tCons ta ts) (dCons da ds) := ⟨fun D h k => ia.go D h fun x dv H1 W1 D1 s1 v1 h1 => is.go D1 h1 fun xs dvs H2 W2 D2 s2 v2 h2 => k (x :: xs) (dv :: dvs) H2 W2 D2 (s1.trans s2) ⟨x, xs, rfl, v1.mono s2, v2⟩ h2⟩
def ofV : V → DV
  | .non => .im .none
  | .bl b => .im (.bool b)
  | .int i => .im (.int i)
  | .str s => .im (.str s)
  | .ref a => .rf a
  | .ty n => .ty n
  | _ => .im (.dict [])
theorem ofV_at {F : Hp} : ∀ {x : V}, flatV x = true → VAt C F (ofV x) x
  | .non, _ => rfl
  | .bl _, _ => rfl
  | .int _, _ => rfl
  | .str _, _ => rfl
  | .ref _, h => by cases h
  | .ty _, h => by cases h
  | .byt _, h => by cases h
  | .flt _, h => by cases h
theorem ofV_all {F : Hp} : ∀ {xs : List V}, xs.all flatV = true → VAll C F (xs.map ofV) xs
  | [], _ => rfl
  | x :: r, h => by
    rw [List.all_cons, Bool.and_eq_true] at h
    exact ⟨x, r, rfl, ofV_at h.1, ofV_all h.2⟩
def dKs (vs : List V) : DTA := fun _ W Q => vs.all flatV = true ∧ Q (vs.map ofV) W
instance {vs : List V} : LA C (tK vs) (dKs vs) := ⟨fun D h k => k vs _ _ _ D (Same.refl _) (ofV_all h.1) h.2⟩
/-! tuples and lists -/
def rawV : DV → Option V
  | .rf a => some (.ref a)
  | .ty n => some (.ty n)
  | _ => none
def rawL : List DV → Option (List V)
  | [] => some []
  | x :: r => (rawV x).bind fun v => (rawL r).map (v :: ·)
theorem rawV_at {F : Hp} {v : V} : ∀ {dv : DV} {x : V}, VAt C F dv x → rawV dv = some v → x = v
  | .rf a, x, h, e => by cases e; exact h
  | .ty a, x, h, e => by cases e; exact h
  | .im _, _, _, e => by cases e
  | .pt _, _, _, e => by cases e
  | .cst _, _, _, e => by cases e
  | .exn _, _, _, e => by cases e
  | .raw _, _, _, e => by cases e
  | .scr _, _, _, e => by cases e
theorem rawL_at {F : Hp} : ∀ {dvs : List DV} {xs vs : List V}, VAll C F dvs xs → rawL dvs = some vs → xs = vs
  | [], _, _, h, e => by cases h; cases e; rfl
  | d :: r, _, _, ⟨y, ys, e1, h, hr⟩, e => by
    unfold rawL at e
    cases q : rawV d with
    | none => rw [q] at e; cases e
    | some v =>
      rw [q] at e
      cases q2 : rawL r with
      | none => simp [q2] at e
      | some vs =>
        simp [q2] at e
        subst e
        rw [e1, rawV_at h q, rawL_at hr q2]
def dNewT (vs : List DV) (W1 : Wd) (Q : DK) : Prop := vs.length ≤ sizeLine ∧ ((∃ ds W2, frzL (frz 3) W1 vs = some (ds, W2) ∧ Q (.im (.tuple ds)) W2) ∨ ∃ us, rawL vs = some us ∧ Q (.raw us) W1)
def dTup (a : DTA) : DTE := fun ρ W Q => a ρ W fun vs W1 => dNewT vs W1 Q
instance [is : LA C ts ds] : LE C (tTup ts) (dTup ds) := ⟨fun D h k => is.go D h fun xs dvs H1 W1 D1 s1 v1 ⟨hl, h1⟩ => ⟨by rw [← v1.length]; exact hl, fun p hp => by
  rcases h1 with ⟨ds, W2, e, q⟩ | ⟨us, e, q⟩
  · obtain ⟨D2, s2, r2, k2⟩ := frzL_ok (frz_ok 3) D1 v1 e
    obtain ⟨D3, s3, e3⟩ := D2.imm hp (.tup xs)
    exact k _ (.im (.tuple ds)) _ _ D3 ((s1.trans s2).trans s3) ⟨p, xs, rfl, e3, RepAll.same s3 r2⟩ q
  · obtain ⟨D3, s3, e3⟩ := D1.imm hp (.tup xs)
    exact k _ (.raw us) _ _ D3 (s1.trans s3) ⟨p, rfl, by rw [e3, rawL_at v1 e]⟩ q⟩⟩
/-- a new list: the def's own, or data from now on -/
def newL (vs : List DV) (W : Wd) (Q : DK) : Prop := (∀ p, W p = none → Q (.pt p) (wset W p (.lst vs))) ∨ ∃ ds, vs = ds.map .im ∧ Q (.im (.list ds)) W
theorem newL_ok {vs : List DV} {xs : List V} {p : Addr} (D : DR C σ H ρ W) (r : VAll C (Fz C W H) vs xs) (hp : H p = none) (h : newL vs W Qd) (k : KE C σ ρ W H Qd Q) : Q (.ref p) (upd H p (.lst xs)) := by
  rcases h with h | ⟨ds, rfl, h⟩
  · exact k.to (dv := .pt p) (D.newl hp r) rfl (h p (D.fresh hp))
  · obtain ⟨D3, s3, e3⟩ := D.imm hp (.lst xs)
    exact k _ (.im (.list ds)) _ _ D3 s3 ⟨p, xs, rfl, e3, RepAll.same s3 r.toRep⟩ h
def dNewL (vs : List DV) (W : Wd) (Q : DK) : Prop := vs.length ≤ sizeLine ∧ newL vs W Q
def dLst (a : DTA) : DTE := fun ρ W Q => a ρ W fun vs W1 => dNewL vs W1 Q
instance [is : LA C ts ds] : LE C (tLst ts) (dLst ds) := ⟨fun D h k => is.go D h fun xs dvs H1 W1 D1 s1 v1 ⟨hl, h1⟩ => ⟨by rw [← v1.length]; exact hl, fun p hp => by
  exact newL_ok D1 v1 hp h1 (k.mono s1)⟩⟩
/-! the operations themselves -/
class LV2 (f : Int → Int → V) (g : outParam (Int → Int → PyData)) : Prop where
  at_ : ∀ i j F, Rep F (g i j) (f i j)
instance : LV2 (fun i j => .int (i + j)) (fun i j => .int (i + j)) := ⟨fun _ _ _ => rfl⟩
instance : LV2 (fun i j => .int (i - j)) (fun i j => .int (i - j)) := ⟨fun _ _ _ => rfl⟩
instance : LV2 (fun i j => .int (i * j)) (fun i j => .int (i * j)) := ⟨fun _ _ _ => rfl⟩
instance : LV2 (fun i j => .int (i / j)) (fun i j => .int (i / j)) := ⟨fun _ _ _ => rfl⟩
instance : LV2 (fun i j => .int (i % j)) (fun i j => .int (i % j)) := ⟨fun _ _ _ => rfl⟩
instance : LV2 (fun i j => .int (i ^ j.toNat)) (fun i j => .int (i ^ j.toNat)) := ⟨fun _ _ _ => rfl⟩
instance : LV2 (fun i j => .bl (decide (i < j))) (fun i j => .bool (decide (i < j))) := ⟨fun _ _ _ => rfl⟩
instance : LV2 (fun i j => .bl (decide (i ≤ j))) (fun i j => .bool (decide (i ≤ j))) := ⟨fun _ _ _ => rfl⟩
instance : LV2 (fun i j => .bl (decide (j < i))) (fun i j => .bool (decide (j < i))) := ⟨fun _ _ _ => rfl⟩
instance : LV2 (fun i j => .bl (decide (j ≤ i))) (fun i j => .bool (decide (j ≤ i))) := ⟨fun _ _ _ => rfl⟩
def dI0 (g : Int → Int → PyData) : DR2 := fun a b W Q => ∃ i j, a = .im (.int i) ∧ b = .im (.int j) ∧ Q (.im (g i j)) W
def dI (P : Int → Int → Prop) (g : Int → Int → PyData) : DR2 := fun a b W Q => ∃ i j, a = .im (.int i) ∧ b = .im (.int j) ∧ P i j ∧ Q (.im (g i j)) W
instance {f : Int → Int → V} {g : Int → Int → PyData} [LV2 f g] : LR2 C (rI0 f) (dI0 g) := ⟨fun D h1 h2 ⟨i, j, e1, e2, q⟩ k => by subst e1 e2; exact ⟨i, j, h1, h2, k.now (dv := .im (g i j)) D (LV2.at_ (f := f) i j _) q⟩⟩
instance {P : Int → Int → Prop} {f : Int → Int → V} {g : Int → Int → PyData} [LV2 f g] : LR2 C (rI P f) (dI P g) := ⟨fun D h1 h2 ⟨i, j, e1, e2, p, q⟩ k => by subst e1 e2; exact ⟨i, j, h1, h2, p, k.now (dv := .im (g i j)) D (LV2.at_ (f := f) i j _) q⟩⟩
def dU (g : Int → PyData) : DV → Wd → DK → Prop := fun a W Q => ∃ i, a = .im (.int i) ∧ Q (.im (g i)) W
instance : LR1 C (rU fun i => .int (-i)) (dU fun i => .int (-i)) := ⟨fun D h1 ⟨i, e1, q⟩ k => by subst e1; exact ⟨i, h1, k.now (dv := .im (.int (-i))) D rfl q⟩⟩
end
end L2

set_option Elab.async false
set_option linter.all false
set_option maxRecDepth 100000
set_option maxHeartbeats 4000000
namespace L2
open PySem PySem.Spec PyProof.Rows
mutual
theorem Rep.inj {H : Hp} : ∀ {d d' : PyData} {v : V}, Rep H d v → Rep H d' v → d = d'
  | .none, d', v, h, h' => by
    rw [show v = .non from h] at h'
    cases d' with
    | none => rfl
    | bool _ => cases (show V.non = .bl _ from h')
    | int _ => cases (show V.non = .int _ from h')
    | str _ => cases (show V.non = .str _ from h')
    | list _ => obtain ⟨a, xs, e, _⟩ := h'; cases e
    | tuple _ => obtain ⟨a, xs, e, _⟩ := h'; cases e
    | dict _ => exact h'.elim
  | .bool b, d', v, h, h' => by
    rw [show v = .bl b from h] at h'
    cases d' with
    | none => cases (show V.bl b = .non from h')
    | bool _ => cases (show V.bl b = .bl _ from h'); rfl
    | int _ => cases (show V.bl b = .int _ from h')
    | str _ => cases (show V.bl b = .str _ from h')
    | list _ => obtain ⟨a, xs, e, _⟩ := h'; cases e
    | tuple _ => obtain ⟨a, xs, e, _⟩ := h'; cases e
    | dict _ => exact h'.elim
  | .int b, d', v, h, h' => by
    rw [show v = .int b from h] at h'
    cases d' with
    | none => cases (show V.int b = .non from h')
    | bool _ => cases (show V.int b = .bl _ from h')
    | int _ => cases (show V.int b = .int _ from h'); rfl
    | str _ => cases (show V.int b = .str _ from h')
    | list _ => obtain ⟨a, xs, e, _⟩ := h'; cases e
    | tuple _ => obtain ⟨a, xs, e, _⟩ := h'; cases e
    | dict _ => exact h'.elim
  | .str b, d', v, h, h' => by
    rw [show v = .str b from h] at h'
    cases d' with
    | none => cases (show V.str b = .non from h')
    | bool _ => cases (show V.str b = .bl _ from h')
    | int _ => cases (show V.str b = .int _ from h')
    | str _ => cases (show V.str b = .str _ from h'); rfl
    | list _ => obtain ⟨a, xs, e, _⟩ := h'; cases e
    | tuple _ => obtain ⟨a, xs, e, _⟩ := h'; cases e
    | dict _ => exact h'.elim
  | .list ds, d', v, ⟨a, xs, e, ha, r⟩, h' => by
    subst e
    cases d' with
    | none => cases (show V.ref a = .non from h')
    | bool _ => cases (show V.ref a = .bl _ from h')
    | int _ => cases (show V.ref a = .int _ from h')
    | str _ => cases (show V.ref a = .str _ from h')
    | list _ => obtain ⟨a', xs', e, ha', r'⟩ := h'; cases e; rw [ha] at ha'; cases ha'; rw [RepAll.inj r r']
    | tuple _ => obtain ⟨a', xs', e, ha', r'⟩ := h'; cases e; rw [ha] at ha'; cases ha'
    | dict _ => exact h'.elim
  | .tuple ds, d', v, ⟨a, xs, e, ha, r⟩, h' => by
    subst e
    cases d' with
    | none => cases (show V.ref a = .non from h')
    | bool _ => cases (show V.ref a = .bl _ from h')
    | int _ => cases (show V.ref a = .int _ from h')
    | str _ => cases (show V.ref a = .str _ from h')
    | list _ => obtain ⟨a', xs', e, ha', r'⟩ := h'; cases e; rw [ha] at ha'; cases ha'
    | tuple _ => obtain ⟨a', xs', e, ha', r'⟩ := h'; cases e; rw [ha] at ha'; cases ha'; rw [RepAll.inj r r']
    | dict _ => exact h'.elim
  | .dict _, _, _, h, _ => h.elim
theorem RepAll.inj {H : Hp} : ∀ {ds ds' : List PyData} {xs : List V}, RepAll H ds xs → RepAll H ds' xs → ds = ds'
  | [], ds', xs, h, h' => by
    cases h
    cases ds' with
    | nil => rfl
    | cons _ _ => obtain ⟨_, _, e, _⟩ := h'; cases e
  | d :: ds, ds', xs, ⟨y, ys, e, h, r⟩, h' => by
    subst e
    cases ds' with
    | nil => cases (show y :: ys = [] from h')
    | cons d' r' => obtain ⟨_, _, e, h2, r2⟩ := h'; cases e; rw [Rep.inj h h2, RepAll.inj r r2]
end
open Classical in
noncomputable def datOf (H : Hp) (v : V) : Option PyData := if h : ∃ d, Rep H d v then some (Classical.choose h) else none
theorem datOf_of {H : Hp} {v : V} {d : PyData} (h : Rep H d v) : datOf H v = some d := by
  unfold datOf
  rw [dif_pos ⟨d, h⟩]
  exact congrArg some (Rep.inj (Classical.choose_spec (⟨d, h⟩ : ∃ d, Rep H d v)) h)
noncomputable def eqOn (H : Hp) (dx : PyData) (u : Value) : Bool := match absV u with
  | some v => match datOf H v with
    | some d => PyData.eqv d dx
    | none => false
  | none => false
theorem eqOn_of {H : Hp} {dx d : PyData} {u : Value} {v : V} (r : RelV v u) (h : Rep H d v) : eqOn H dx u = PyData.eqv d dx := by
  unfold eqOn
  rw [r.abs]
  show (match datOf H v with | some d => PyData.eqv d dx | none => false) = _
  rw [datOf_of h]
theorem any_eqOn {H : Hp} {dx : PyData} : ∀ {ds : List PyData} {xs : List V} {us : List Value}, RepAll H ds xs → Vals xs us → us.any (eqOn H dx) = ds.any fun d => PyData.eqv d dx
  | [], _, _, h, r => by cases h; cases r; rfl
  | d :: ds, _, _, ⟨y, ys, e, h, hr⟩, r => by
    subst e
    cases r with
    | cons r1 r2 => rw [List.any_cons, List.any_cons, eqOn_of r1 h, any_eqOn hr r2]
section
variable {X : Cx} {C : DC}
theorem mem_eqOn {pins : List (Addr × Obj)} {s : Shared} {σ : St} {H : Hp} {x : V} {v : Value} {dx : PyData} (I : Inv X pins σ H s) (hu : X.A.units + 64 < cLine) (rx : RelV x v) (hx : Rep H dx x) (cx : dx.canLay0 = true) (hd : dx.depth ≤ 62) :
    ∀ {ds : List PyData} {xs : List V} {us : List Value}, RepAll H ds xs → Vals xs us → PyData.canLayAll0 ds = true → ∀ u ∈ us, SeqAt.EqAt X.A.in1 s u v (eqOn H dx u)
  | [], _, _, h, r, _ => fun u hu => by cases h; cases r; cases hu
  | d :: ds, _, _, ⟨y, ys, e, h, hr⟩, r, cl => fun u hu' => by
    subst e
    have cl' : d.canLay0 = true ∧ PyData.canLayAll0 ds = true := by simpa [PyData.canLayAll0] using cl
    cases r with
    | cons r1 r2 =>
      rcases List.mem_cons.mp hu' with e | hu'
      · subst e
        rw [eqOn_of r1 h]
        obtain ⟨as, q1⟩ := h.reads I.hok r1
        obtain ⟨bs, q2⟩ := hx.reads I.hok rx
        exact SeqAt.eqAt_reads d dx X.A.in1 s u v as bs q1 q2 cl'.1 cx (by
          have : X.A.in1.units ≤ X.A.units + 1 := by first | exact Nat.le_refl _ | (simp [Around.in1]) | omega
          omega)
      · exact mem_eqOn I hu rx hx cx hd hr r2 cl'.2 u hu'
def rInD (K : PySem.W.Frag) (neg : Bool) : R2 := fun x y H Q => ∃ p xs dx ds, y = .ref p ∧ (SqL K H p xs ∨ SqT K H p xs) ∧ Rep H dx x ∧ RepAll H ds xs ∧ dx.canLay0 = true ∧ PyData.canLayAll0 ds = true ∧ dx.depth ≤ 62 ∧ Q (.bl (if neg then !ds.any (fun d => PyData.eqv d dx) else ds.any fun d => PyData.eqv d dx)) H
theorem op_notInD (hu : X.A.units + 64 < cLine) : OpR X (compareOp .NotIn) (rInD X.K true) := by
  intro pins s σ H x y v u Q I rx ry h
  obtain ⟨p, xs, dx, ds, rfl, hq, hx, hs, cx, cs, hd, q⟩ := h
  cases ry
  rcases hq with hq | hq
  · obtain ⟨its, r, pl, hz⟩ := I.list hq
    refine SeqAt.notIn_listAt (eqOn H dx) pl.isList (fun w hw => mem_eqOn I hu rx hx cx hd hs r cs w (by simpa using hw)) ⟨.bl _, H, I, rfl, ?_⟩
    rw [show its.toArray.any (eqOn H dx) = its.any (eqOn H dx) by simp, any_eqOn hs r]
    exact q
  · obtain ⟨its, r, pl, hz⟩ := I.tuple hq
    refine SeqAt.notIn_tupleAt (eqOn H dx) pl (fun w hw => mem_eqOn I hu rx hx cx hd hs r cs w (by simpa using hw)) ⟨.bl _, H, I, rfl, ?_⟩
    rw [show its.toArray.any (eqOn H dx) = its.any (eqOn H dx) by simp, any_eqOn hs r]
    exact q
/-- == and != of anything that is data -/
def rEqU : R2 := fun x y H Q => rEq x y H Q ∨ rEqD x y H Q
def rNeU : R2 := fun x y H Q => rNe x y H Q ∨ rNeD x y H Q
theorem op_eqU (hu : X.A.units + 64 < cLine) : OpR X (compareOp .Eq) rEqU := fun pins s σ H x y v u Q I rx ry h => h.elim (op_eq pins s σ H x y v u Q I rx ry) (op_eqD hu pins s σ H x y v u Q I rx ry)
theorem op_neU (hu : X.A.units + 64 < cLine) : OpR X (compareOp .NotEq) rNeU := fun pins s σ H x y v u Q I rx ry h => h.elim (op_ne pins s σ H x y v u Q I rx ry) (op_neD hu pins s σ H x y v u Q I rx ry)
def rInU (K : PySem.W.Frag) (neg : Bool) : R2 := fun x y H Q => rIn K neg x y H Q ∨ rInD K neg x y H Q
theorem op_notInU (hu : X.A.units + 64 < cLine) : OpR X (compareOp .NotIn) (rInU X.K true) := fun pins s σ H x y v u Q I rx ry h => h.elim (op_notIn_seq pins s σ H x y v u Q I rx ry) (op_notInD hu pins s σ H x y v u Q I rx ry)
end
end L2

set_option Elab.async false
set_option linter.all false
set_option maxRecDepth 100000
set_option maxHeartbeats 4000000
namespace L2
open PySem PySem.Spec PyProof.Rows
def flatD : PyData → Bool
  | .none => true
  | .bool _ => true
  | .int _ => true
  | .str _ => true
  | _ => false
def dOfV : V → PyData
  | .non => .none
  | .bl b => .bool b
  | .int i => .int i
  | .str s => .str s
  | _ => .dict []
def seqL (W : Wd) : DV → Option (List DV)
  | .im (.list ds) => some (ds.map .im)
  | .pt p => match W p with
    | some (.lst xs) => some xs
    | _ => none
  | _ => none
def seqT : DV → Option (List DV)
  | .im (.tuple ds) => some (ds.map .im)
  | .cst xs => if xs.all flatV = true then some (xs.map ofV) else none
  | _ => none
def seqS : DV → Option (List DV)
  | .scr ns => some (ns.map fun n => .im (.int n))
  | _ => none
def seqV (W : Wd) (dv : DV) : Option (List DV) := match seqL W dv with
  | some vs => some vs
  | none => match seqS dv with
    | some vs => some vs
    | none => seqT dv
section
variable {C : DC} {σ : St} {H H' : Hp} {ρ : Rho} {W W' : Wd} {Qd : DK} {Q : VK} {x y : V} {a b : DV} {vs us : List DV} {as : List DV} {xs : List V}
theorem DR.seqL (D : DR C σ H ρ W) (h : VAt C (Fz C W H) a x) (e : L2.seqL W a = some vs) : ∃ p xs, x = .ref p ∧ H p = some (.lst xs) ∧ VAll C (Fz C W H) vs xs := by
  cases a with
  | im d =>
    cases d with
    | list ds => cases e; obtain ⟨p, xs, e1, h1, r⟩ := h; exact ⟨p, xs, e1, Fz.le h1, .ofRep r⟩
    | _ => cases e
  | pt p =>
    unfold L2.seqL at e
    cases q : W p with
    | none => simp [q] at e
    | some c =>
      cases c with
      | lst ys => simp [q] at e; subst e; obtain ⟨_, _, xs, h1, r⟩ := D.ce p _ q; exact ⟨p, xs, h, h1, r⟩
      | _ => simp [q] at e
  | _ => cases e
theorem DR.seqT (D : DR C σ H ρ W) (h : VAt C (Fz C W H) a x) (e : L2.seqT a = some vs) : ∃ p xs, x = .ref p ∧ SqT C.K H p xs ∧ VAll C (Fz C W H) vs xs := by
  cases a with
  | im d =>
    cases d with
    | tuple ds => cases e; obtain ⟨p, xs, e1, h1, r⟩ := h; exact ⟨p, xs, e1, SqT.of (Fz.le h1), .ofRep r⟩
    | _ => cases e
  | cst ys =>
    obtain ⟨p, e1, h1⟩ := h
    unfold L2.seqT at e
    by_cases q : ys.all flatV = true
    · simp only [q, if_true] at e
      cases e
      exact ⟨p, ys, e1, h1 H, ofV_all q⟩
    · simp only [q] at e
      cases e
  | _ => cases e
theorem ints_all {F : Hp} : ∀ ns : List Int, VAll C F (ns.map fun n => .im (.int n)) (ns.map V.int)
  | [] => rfl
  | n :: r => ⟨.int n, r.map V.int, rfl, rfl, ints_all r⟩
theorem DR.seqS (D : DR C σ H ρ W) (h : VAt C (Fz C W H) a x) (e : L2.seqS a = some vs) : ∃ p xs, x = .ref p ∧ SqL C.K H p xs ∧ SqL C.K (Fz C W H) p xs ∧ VAll C (Fz C W H) vs xs := by
  cases a with
  | scr ns => cases e; obtain ⟨p, e1, h1⟩ := h; exact ⟨p, _, e1, (Fz.sm (C := C) (W := W)).seq h1, h1, ints_all ns⟩
  | _ => cases e
theorem DR.seqV (D : DR C σ H ρ W) (h : VAt C (Fz C W H) a x) (e : L2.seqV W a = some vs) : ∃ p xs, x = .ref p ∧ (SqL C.K H p xs ∨ SqT C.K H p xs) ∧ VAll C (Fz C W H) vs xs := by
  unfold L2.seqV at e
  cases q : L2.seqL W a with
  | some us => rw [q] at e; cases e; obtain ⟨p, xs, e1, h1, r⟩ := D.seqL h q; exact ⟨p, xs, e1, .inl (SqL.of h1), r⟩
  | none =>
    rw [q] at e
    cases q2 : L2.seqS a with
    | some us => rw [q2] at e; cases e; obtain ⟨p, xs, e1, h1, _, r⟩ := D.seqS h q2; exact ⟨p, xs, e1, .inl h1, r⟩
    | none => rw [q2] at e; obtain ⟨p, xs, e1, h1, r⟩ := D.seqT h e; exact ⟨p, xs, e1, .inr h1, r⟩
theorem VAll.atI {F : Hp} {i : Int} (r : VAll C F vs xs) (e : L2.atI vs i = some a) : ∃ x, L2.atI xs i = some x ∧ VAt C F a x := by
  unfold L2.atI at e ⊢
  rw [← r.length]
  cases q : ixN vs.length i with
  | none => rw [q] at e; cases e
  | some j => rw [q] at e; exact r.get e
/-! == != in -/
def EqOk (d1 d2 : PyData) : Prop := (∃ a b, d1 = .str a ∧ d2 = .str b) ∨ (d1.canLay0 = true ∧ d2.canLay0 = true ∧ min d1.depth d2.depth ≤ 64)
def dEqU : DR2 := fun a b W Q => ∃ d1 d2, dat 4 W a = some d1 ∧ dat 4 W b = some d2 ∧ EqOk d1 d2 ∧ Q (.im (.bool (PyData.eqv d1 d2))) W
def dNeU : DR2 := fun a b W Q => ∃ d1 d2, dat 4 W a = some d1 ∧ dat 4 W b = some d2 ∧ EqOk d1 d2 ∧ Q (.im (.bool (!PyData.eqv d1 d2))) W
instance : LR2 C rEqU dEqU := ⟨fun D h1 h2 ⟨d1, d2, e1, e2, ok, q⟩ k => by
  have r1 := D.datH h1 e1
  have r2 := D.datH h2 e2
  rcases ok with ⟨a, b, rfl, rfl⟩ | ⟨c1, c2, hd⟩
  · cases r1
    cases r2
    refine .inl ⟨rfl, k.now (dv := .im (.bool _)) D ?_ q⟩
    show V.bl _ = V.bl _
    congr 1
    show _ = (a == b)
    rw [show decide (V.str a = V.str b) = decide (a = b) by simp]
    by_cases e : a = b <;> simp [e]
  · exact .inr ⟨d1, d2, r1, r2, c1, c2, hd, k.now (dv := .im (.bool _)) D rfl q⟩⟩
instance : LR2 C rNeU dNeU := ⟨fun D h1 h2 ⟨d1, d2, e1, e2, ok, q⟩ k => by
  have r1 := D.datH h1 e1
  have r2 := D.datH h2 e2
  rcases ok with ⟨a, b, rfl, rfl⟩ | ⟨c1, c2, hd⟩
  · cases r1
    cases r2
    refine .inl ⟨rfl, k.now (dv := .im (.bool _)) D ?_ q⟩
    show V.bl _ = V.bl _
    congr 1
    show _ = !(a == b)
    rw [show decide (V.str a = V.str b) = decide (a = b) by simp]
    by_cases e : a = b <;> simp [e]
  · exact .inr ⟨d1, d2, r1, r2, c1, c2, hd, k.now (dv := .im (.bool _)) D rfl q⟩⟩
def seqDat (W : Wd) (dv : DV) : Option (List PyData) := (seqV W dv).bind fun vs => datL (dat 3 W) vs
theorem DR.seqDat {ds : List PyData} (D : DR C σ H ρ W) (h : VAt C (Fz C W H) a x) (e : L2.seqDat W a = some ds) : ∃ p xs, x = .ref p ∧ (SqL C.K H p xs ∨ SqT C.K H p xs) ∧ RepAll H ds xs := by
  unfold L2.seqDat at e
  cases q : L2.seqV W a with
  | none => rw [q] at e; cases e
  | some vs =>
    rw [q] at e
    obtain ⟨p, xs, e1, h1, r⟩ := D.seqV h q
    exact ⟨p, xs, e1, h1, datL_all (fun dv x d h e => D.datH h e) r e⟩
def InOk (dx : PyData) (ds : List PyData) : Prop := (flatD dx = true ∧ ds.all flatD = true) ∨ (dx.canLay0 = true ∧ PyData.canLayAll0 ds = true ∧ dx.depth ≤ 62)
theorem flat_rep {F : Hp} : ∀ {d : PyData} {x : V}, flatD d = true → Rep F d x → flatV x = true ∧ d = dOfV x
  | .none, _, _, h => by cases h; exact ⟨rfl, rfl⟩
  | .bool _, _, _, h => by cases h; exact ⟨rfl, rfl⟩
  | .int _, _, _, h => by cases h; exact ⟨rfl, rfl⟩
  | .str _, _, _, h => by cases h; exact ⟨rfl, rfl⟩
  | .list _, _, h, _ => by cases h
  | .tuple _, _, h, _ => by cases h
  | .dict _, _, h, _ => by cases h
theorem eqV_eqv : ∀ {x y : V}, flatV x = true → flatV y = true → eqV y x = PyData.eqv (dOfV y) (dOfV x) := by
  intro x y hx hy
  cases x <;> cases y <;> first | rfl | cases hx | cases hy
theorem flat_all {F : Hp} : ∀ {ds : List PyData} {xs : List V}, ds.all flatD = true → RepAll F ds xs → xs.all flatV = true ∧ ∀ x, flatV x = true → inV x xs = ds.any fun d => PyData.eqv d (dOfV x)
  | [], _, _, h => by cases h; exact ⟨rfl, fun _ _ => rfl⟩
  | d :: ds, _, hf, ⟨y, ys, e, h, r⟩ => by
    subst e
    rw [List.all_cons, Bool.and_eq_true] at hf
    obtain ⟨f1, e1⟩ := flat_rep hf.1 h
    obtain ⟨f2, e2⟩ := flat_all hf.2 r
    refine ⟨by rw [List.all_cons, f1, f2]; rfl, fun x hx => ?_⟩
    have := e2 x hx
    unfold inV at this ⊢
    rw [List.any_cons, List.any_cons, this, eqV_eqv hx f1, e1]
def dInU (neg : Bool) : DR2 := fun a b W Q => ∃ dx ds, dat 3 W a = some dx ∧ seqDat W b = some ds ∧ InOk dx ds ∧ Q (.im (.bool (if neg then !ds.any (fun d => PyData.eqv d dx) else ds.any fun d => PyData.eqv d dx))) W
instance {K : PySem.W.Frag} [hk : KIs C K] {neg : Bool} : LR2 C (rInU K neg) (dInU neg) := by
  obtain ⟨rfl⟩ := hk
  exact ⟨fun D h1 h2 ⟨dx, ds, e1, e2, ok, q⟩ k => by
  have r1 := D.datH h1 e1
  obtain ⟨p, xs, rfl, hq, r2⟩ := D.seqDat h2 e2
  rcases ok with ⟨f1, f2⟩ | ⟨c1, c2, hd⟩
  · obtain ⟨g1, g2⟩ := flat_rep f1 r1
    obtain ⟨g3, g4⟩ := flat_all f2 r2
    refine .inl ⟨p, xs, rfl, hq, g1, g3, ?_⟩
    rw [g4 _ g1, ← g2]
    exact k.now (dv := .im (.bool _)) D rfl q
  · exact .inr ⟨p, xs, dx, ds, rfl, hq, r1, r2, c1, c2, hd, k.now (dv := .im (.bool _)) D rfl q⟩⟩
/-! subscripts -/
def ixOf (W : Wd) (a : DV) (i : Int) : Option DV := match a with
  | .im (.str z) => if z.length ≤ sizeLine then (atI z.cps.toList i).map fun c => .im (.str ⟨#[c]⟩) else none
  | a => (seqV W a).bind fun vs => atI vs i
def dIx : DR2 := fun a b W Q => ∃ i v, b = .im (.int i) ∧ ixOf W a i = some v ∧ Q v W
theorem ix_any (D : DR C σ H ρ W) (h1 : VAt C (Fz C W H) a x) {i : Int} {v : DV} {Q' : VK} (e : ((seqV W a).bind fun vs => atI vs i) = some v) (q : ∀ z, VAt C (Fz C W H) v z → Q' z H) : rIx C.K x (.int i) H Q' := by
  cases q1 : seqV W a with
  | none => rw [q1] at e; cases e
  | some vs =>
    rw [q1] at e
    obtain ⟨p, xs, rfl, hq, r⟩ := D.seqV h1 q1
    obtain ⟨z, hz, rz⟩ := r.atI e
    rcases hq with hq | hq
    · exact .inl ⟨p, xs, i, z, rfl, rfl, hq, hz, q z rz⟩
    · exact .inr (.inl ⟨p, xs, i, z, rfl, rfl, hq, hz, q z rz⟩)
instance {K : PySem.W.Frag} [hk : KIs C K] : LR2 C (rIx K) dIx := by
  obtain ⟨rfl⟩ := hk
  exact ⟨fun {σ H ρ W Qd Q a b x y} D h1 h2 ⟨i, v, e1, e2, q⟩ k => by
  subst e1
  cases (show y = V.int i from h2)
  cases a with
  | im d =>
    cases d with
    | str z =>
      cases (show x = V.str z from h1)
      by_cases hz : z.length ≤ sizeLine
      · simp only [ixOf, hz, if_true] at e2
        cases q2 : atI z.cps.toList i with
        | none => simp [q2] at e2
        | some c => simp [q2] at e2; subst e2; exact .inr (.inr ⟨z, i, c, rfl, rfl, hz, q2, k.now (dv := .im (.str _)) D rfl q⟩)
      · simp only [ixOf, hz] at e2; cases e2
    | _ => exact ix_any D h1 e2 fun z hz => k.now D hz q
  | _ => exact ix_any D h1 e2 fun z hz => k.now D hz q⟩
/-! sums of lists and tuples -/
def dCat : DR2 := fun a b W Q => ∃ vs us, seqL W a = some vs ∧ seqL W b = some us ∧ vs.length + us.length ≤ sizeLine ∧ newL (vs ++ us) W Q
instance : LR2 C rCat dCat := ⟨fun D h1 h2 ⟨vs, us, e1, e2, hl, q⟩ k => by
  obtain ⟨p1, xs, rfl, hx, rx⟩ := D.seqL h1 e1
  obtain ⟨p2, ys, rfl, hy, ry⟩ := D.seqL h2 e2
  exact ⟨p1, p2, xs, ys, rfl, rfl, hx, hy, by rw [← rx.length, ← ry.length]; exact hl, fun p hp => newL_ok D (rx.append ry) hp q k⟩⟩
def dRep : DR2 := fun a b W Q => ∃ vs n, seqL W a = some vs ∧ b = .im (.int n) ∧ -(2 ^ 63) ≤ n ∧ n < 2 ^ 63 ∧ vs.length * n.toNat ≤ sizeLine ∧ newL (List.replicate n.toNat vs).flatten W Q
instance : LR2 C rRep dRep := ⟨fun D h1 h2 ⟨vs, n, e1, e2, l1, l2, hl, q⟩ k => by
  obtain ⟨p1, xs, rfl, hx, rx⟩ := D.seqL h1 e1
  subst e2
  exact ⟨p1, n, xs, rfl, h2, hx, l1, l2, by rw [← rx.length]; exact hl, fun p hp => newL_ok D (rx.rep n.toNat) hp q k⟩⟩
end
end L2

set_option Elab.async false
set_option linter.all false
set_option maxRecDepth 100000
set_option maxHeartbeats 4000000
namespace L2
open PySem PySem.Spec PyProof.Rows
section
variable {C : DC} {σ : St} {H H' : Hp} {ρ : Rho} {W W' : Wd} {Qd : DK} {Q : VK} {x y : V} {a b : DV} {vs us : List DV} {as : List DV} {xs : List V} {te : TE} {da : DTE} {ts : TA} {ds : DTA}
theorem VAll.one_inv {F : Hp} (h : VAll C F [a] xs) : ∃ x, xs = [x] ∧ VAt C F a x := by
  obtain ⟨y, ys, e, h1, h2⟩ := h
  cases h2
  exact ⟨y, e, h1⟩
theorem VAll.two_inv {F : Hp} (h : VAll C F [a, b] xs) : ∃ x y, xs = [x, y] ∧ VAt C F a x ∧ VAt C F b y := by
  obtain ⟨y, ys, e, h1, h2⟩ := h
  obtain ⟨z, rfl, h3⟩ := h2.one_inv
  exact ⟨y, z, e, h1, h3⟩
/-! calls of built-ins -/
def dCB (f : List DV → Wd → DK → Prop) (d : DTA) : DTE := fun ρ W Q => d ρ W fun vs W1 => f vs W1 Q
instance {rr : List V → Hp → VK → Prop} {f : List DV → Wd → DK → Prop} [ir : LCB C rr f] [is : LA C ts ds] : LE C (tCB rr ts) (dCB f ds) := ⟨fun D h k => is.go D h fun xs dvs H1 W1 D1 s1 v1 h1 => ir.go D1 v1 h1 (k.mono s1)⟩
def dLen : List DV → Wd → DK → Prop := fun as W Q => ∃ a vs, as = [a] ∧ seqV W a = some vs ∧ Q (.im (.int vs.length)) W
instance {K : PySem.W.Frag} [hk : KIs C K] : LCB C (rLenOf K) dLen := by
  obtain ⟨rfl⟩ := hk
  exact ⟨fun D h ⟨a, vs, e, e2, q⟩ k => by
  subst e
  obtain ⟨x, rfl, hx⟩ := h.one_inv
  obtain ⟨p, xs, rfl, hq, r⟩ := D.seqV hx e2
  refine ⟨p, xs, rfl, hq, ?_⟩
  rw [← r.length]
  exact k.now (dv := .im (.int _)) D rfl q⟩
def dListOf : List DV → Wd → DK → Prop := fun as W Q => ∃ a vs, as = [a] ∧ seqV W a = some vs ∧ newL vs W Q
instance {K : PySem.W.Frag} [hk : KIs C K] : LCB C (rListOf K) dListOf := by
  obtain ⟨rfl⟩ := hk
  exact ⟨fun D h ⟨a, vs, e, e2, q⟩ k => by
  subst e
  obtain ⟨x, rfl, hx⟩ := h.one_inv
  obtain ⟨p, xs, rfl, hq, r⟩ := D.seqV hx e2
  exact ⟨p, xs, rfl, hq, fun l hl => newL_ok D r hl q k⟩⟩
def dMax2 : List DV → Wd → DK → Prop := fun as W Q => ∃ i j, as = [.im (.int i), .im (.int j)] ∧ Q (.im (.int (if j > i then j else i))) W
instance : LCB C rMax2 dMax2 := ⟨fun D h ⟨i, j, e, q⟩ k => by
  subst e
  obtain ⟨x, y, rfl, hx, hy⟩ := h.two_inv
  cases hx; cases hy
  exact ⟨i, j, rfl, k.now (dv := .im (.int _)) D rfl q⟩⟩
def dMin2 : List DV → Wd → DK → Prop := fun as W Q => ∃ i j, as = [.im (.int i), .im (.int j)] ∧ Q (.im (.int (if j < i then j else i))) W
instance : LCB C rMin2 dMin2 := ⟨fun D h ⟨i, j, e, q⟩ k => by
  subst e
  obtain ⟨x, y, rfl, hx, hy⟩ := h.two_inv
  cases hx; cases hy
  exact ⟨i, j, rfl, k.now (dv := .im (.int _)) D rfl q⟩⟩
def dAbs : List DV → Wd → DK → Prop := fun as W Q => ∃ i, as = [.im (.int i)] ∧ Q (.im (.int (if i < 0 then -i else i))) W
instance : LCB C rAbs dAbs := ⟨fun D h ⟨i, e, q⟩ k => by
  subst e
  obtain ⟨x, rfl, hx⟩ := h.one_inv
  cases hx
  exact ⟨i, rfl, k.now (dv := .im (.int _)) D rfl q⟩⟩
def dIntOf : List DV → Wd → DK → Prop := fun as W Q => (∃ i, as = [.im (.int i)] ∧ Q (.im (.int i)) W) ∨ ∃ b, as = [.im (.bool b)] ∧ Q (.im (.int (if b then 1 else 0))) W
instance : LCB C rInt1 dIntOf := ⟨fun D h q k => by
  rcases q with ⟨i, e, q⟩ | ⟨b, e, q⟩
  · subst e
    obtain ⟨x, rfl, hx⟩ := h.one_inv
    cases hx
    exact .inl ⟨i, rfl, k.now (dv := .im (.int _)) D rfl q⟩
  · subst e
    obtain ⟨x, rfl, hx⟩ := h.one_inv
    cases hx
    exact .inr ⟨b, rfl, k.now (dv := .im (.int _)) D rfl q⟩⟩
def boolsL : List DV → Option (List Bool)
  | [] => some []
  | .im (.bool b) :: r => (boolsL r).map (b :: ·)
  | _ => none
theorem boolsL_at {F : Hp} : ∀ {vs : List DV} {xs : List V} {bs : List Bool}, VAll C F vs xs → boolsL vs = some bs → xs = bs.map V.bl
  | [], _, _, h, e => by cases h; cases e; rfl
  | .im (.bool b) :: r, _, bs, ⟨y, ys, e1, h, hr⟩, e => by
    unfold boolsL at e
    cases q : boolsL r with
    | none => rw [q] at e; cases e
    | some cs =>
      rw [q] at e
      cases e
      rw [e1, show y = V.bl b from h, boolsL_at hr q]; rfl
  | .im .none :: _, _, _, _, e => by cases e
  | .im (.int _) :: _, _, _, _, e => by cases e
  | .im (.str _) :: _, _, _, _, e => by cases e
  | .im (.list _) :: _, _, _, _, e => by cases e
  | .im (.tuple _) :: _, _, _, _, e => by cases e
  | .im (.dict _) :: _, _, _, _, e => by cases e
  | .pt _ :: _, _, _, _, e => by cases e
  | .cst _ :: _, _, _, _, e => by cases e
  | .rf _ :: _, _, _, _, e => by cases e
  | .ty _ :: _, _, _, _, e => by cases e
  | .exn _ :: _, _, _, _, e => by cases e
  | .raw _ :: _, _, _, _, e => by cases e
  | .scr _ :: _, _, _, _, e => by cases e
theorem boolsL_map (bs : List Bool) : boolsL (bs.map fun b => .im (.bool b)) = some bs := by
  induction bs with
  | nil => rfl
  | cons b r ih => rw [List.map_cons]; unfold boolsL; rw [ih]; rfl
def dAll : List DV → Wd → DK → Prop := fun as W Q => ∃ a vs bs, as = [a] ∧ seqL W a = some vs ∧ boolsL vs = some bs ∧ Q (.im (.bool (bs.all id))) W
instance {K : PySem.W.Frag} [hk : KIs C K] : LCB C (rAll K) dAll := by
  obtain ⟨rfl⟩ := hk
  exact ⟨fun D h ⟨a, vs, bs, e, e1, e2, q⟩ k => by
  subst e
  obtain ⟨x, rfl, hx⟩ := h.one_inv
  obtain ⟨p, xs, rfl, hq, r⟩ := D.seqL hx e1
  rw [boolsL_at r e2] at hq
  exact ⟨p, bs, rfl, SqL.of hq, k.now (dv := .im (.bool _)) D rfl q⟩⟩
def dIsi (T : String) : List DV → Wd → DK → Prop := fun as W Q => ∃ a d, as = [a, .ty T] ∧ dat 4 W a = some d ∧ Q (.im (.bool (isD d T))) W
instance {T : String} : LCB C (rIsi T) (dIsi T) := ⟨fun D h ⟨a, d, e, e1, q⟩ k => by
  subst e
  obtain ⟨x, y, rfl, hx, hy⟩ := h.two_inv
  cases hy
  exact ⟨x, d, rfl, D.datH hx e1, k.now (dv := .im (.bool _)) D rfl q⟩⟩
/-! exceptions caught -/
/-! methods of lists -/
def isTy (T : String) (a : DV) (W : Wd) : Prop := (T = "list" ∧ ∃ vs, seqL W a = some vs) ∨ (T = "str" ∧ ∃ s, a = .im (.str s)) ∨ (T = "dict" ∧ ∃ p, a = .pt p ∧ ((∃ kvs, W p = some (.dk kvs)) ∨ ∃ kvs, W p = some (.dt kvs)))
theorem isTy_ok {T : String} (D : DR C σ H ρ W) (h : VAt C (Fz C W H) a x) (e : isTy T a W) : tyV C.K T x H := by
  rcases e with ⟨rfl, vs, e⟩ | ⟨rfl, s, rfl⟩ | ⟨rfl, p, rfl, e⟩
  · obtain ⟨p, xs, rfl, hq, r⟩ := D.seqL h e
    exact .inl ⟨rfl, xs, SqL.of hq⟩
  · cases h; exact rfl
  · cases h
    rcases e with ⟨kvs, e⟩ | ⟨kvs, e⟩
    · obtain ⟨_, _, ks, h1, _⟩ := D.ce p _ e; exact .inr (.inr (.inl ⟨rfl, .inl ⟨ks, h1⟩⟩))
    · obtain ⟨_, _, ks, h1, _⟩ := D.ce p _ e; exact .inr (.inr (.inl ⟨rfl, .inr ⟨ks, h1⟩⟩))
def dBM (T : String) (f : DV → List DV → Wd → DK → Prop) (d : DTE) (e : DTA) : DTE := fun ρ W Q => d ρ W fun a W1 => isTy T a W1 ∧ e ρ W1 fun vs W2 => f a vs W2 Q
def dBM0 (T : String) (f : DV → List DV → Wd → DK → Prop) (d : DTE) : DTE := fun ρ W Q => d ρ W fun a W1 => isTy T a W1 ∧ f a [] W1 Q
instance {K : PySem.W.Frag} [hk : KIs C K] {T : String} {rr : V → List V → Hp → VK → Prop} {f : DV → List DV → Wd → DK → Prop} [ir : LBM C rr f] [ia : LE C te da] [is : LA C ts ds] : LE C (tBM K T rr te ts) (dBM T f da ds) := by
  obtain ⟨rfl⟩ := hk
  exact ⟨fun D h k => ia.go D h fun x dv H1 W1 D1 s1 v1 ⟨ht, h1⟩ => ⟨isTy_ok D1 v1 ht, is.go D1 h1 fun xs dvs H2 W2 D2 s2 v2 h2 => ir.go D2 (v1.mono s2) v2 h2 (k.mono (s1.trans s2))⟩⟩
instance {K : PySem.W.Frag} [hk : KIs C K] {T : String} {rr : V → List V → Hp → VK → Prop} {f : DV → List DV → Wd → DK → Prop} [ir : LBM C rr f] [ia : LE C te da] : LE C (tBM0 K T rr te) (dBM0 T f da) := by
  obtain ⟨rfl⟩ := hk
  exact ⟨fun D h k => ia.go D h fun x dv H1 W1 D1 s1 v1 ⟨ht, h1⟩ => ⟨isTy_ok D1 v1 ht, ir.go D1 v1 (show VAll C (Fz C W1 H1) [] [] from rfl) h1 (k.mono s1)⟩⟩
def dAppend : DV → List DV → Wd → DK → Prop := fun a as W Q => ∃ p vs v, a = .pt p ∧ as = [v] ∧ W p = some (.lst vs) ∧ vs.length < sizeLine ∧ Q (.im .none) (wset W p (.lst (vs ++ [v])))
instance : LBM C rAppend dAppend := ⟨fun D h1 h2 ⟨p, vs, v, e1, e2, e3, hl, q⟩ k => by
  subst e1 e2
  cases h1
  obtain ⟨y, rfl, hy⟩ := h2.one_inv
  obtain ⟨_, _, xs, h3, r⟩ := D.ce p _ e3
  exact ⟨p, xs, y, rfl, rfl, h3, by rw [← r.length]; exact hl, k.to (dv := .im .none) (D.wr e3 (r.append (.one hy))) rfl q⟩⟩
def dPop : DV → List DV → Wd → DK → Prop := fun a as W Q => ∃ p vs v, a = .pt p ∧ as = [] ∧ W p = some (.lst vs) ∧ vs[vs.length - 1]? = some v ∧ Q v (wset W p (.lst vs.dropLast))
theorem VAll.dropLast {F : Hp} (h : VAll C F vs xs) : VAll C F vs.dropLast xs.dropLast := by
  rw [List.dropLast_eq_take, List.dropLast_eq_take, ← h.length]; exact h.take _
instance : LBM C rPop dPop := ⟨fun D h1 h2 ⟨p, vs, v, e1, e2, e3, e4, q⟩ k => by
  subst e1 e2
  cases h1
  cases h2
  obtain ⟨_, _, xs, h3, r⟩ := D.ce p _ e3
  obtain ⟨y, hy, ry⟩ := r.get e4
  rw [r.length] at hy
  obtain ⟨D2, s2⟩ := D.wr e3 r.dropLast
  exact ⟨p, xs, y, rfl, rfl, h3, hy, k _ v _ _ D2 s2 (ry.mono s2) q⟩⟩
def dPopAt : DV → List DV → Wd → DK → Prop := fun a as W Q => ∃ p vs i j v, a = .pt p ∧ as = [.im (.int i)] ∧ W p = some (.lst vs) ∧ -(2 ^ 63) ≤ i ∧ i < 2 ^ 63 ∧ seqIndex? i vs.length = some j ∧ vs[j]? = some v ∧ Q v (wset W p (.lst (vs.eraseIdx j)))
instance : LBM C rPopAt dPopAt := ⟨fun D h1 h2 ⟨p, vs, i, j, v, e1, e2, e3, l1, l2, e4, e5, q⟩ k => by
  subst e1 e2
  cases h1
  obtain ⟨y, rfl, hy⟩ := h2.one_inv
  cases hy
  obtain ⟨_, _, xs, h3, r⟩ := D.ce p _ e3
  obtain ⟨y, hy, ry⟩ := r.get e5
  obtain ⟨D2, s2⟩ := D.wr e3 (r.erase j)
  exact ⟨p, xs, i, j, y, rfl, rfl, h3, l1, l2, by rw [← r.length]; exact e4, hy, k _ v _ _ D2 s2 (ry.mono s2) q⟩⟩
/-! slices -/
def dNoPart : DTO := fun _ W Q => Q none W
def dPart (d : DTE) : DTO := fun ρ W Q => d ρ W fun v W1 => ∃ i, v = .im (.int i) ∧ Q (some i) W1
instance : LO C tNoPart dNoPart := ⟨fun D h k => k none _ _ D (Same.refl _) h⟩
instance [ia : LE C te da] : LO C (tPart te) (dPart da) := ⟨fun D h k => ia.go D h fun x dv H1 W1 D1 s1 v1 ⟨i, e, q⟩ => by subst e; exact ⟨i, v1, k (some i) H1 W1 D1 s1 q⟩⟩
class LSl (C : DC) (r : V → Option Int → Option Int → Hp → VK → Prop) (d : outParam (DV → Option Int → Option Int → Wd → DK → Prop)) : Prop where
  go : ∀ {σ : St} {H : Hp} {ρ : Rho} {W : Wd} {Qd : DK} {Q : VK} {a : DV} {x : V} {lo hi : Option Int}, DR C σ H ρ W → VAt C (Fz C W H) a x → d a lo hi W Qd → KE C σ ρ W H Qd Q → r x lo hi H Q
def dSl (f : DV → Option Int → Option Int → Wd → DK → Prop) (d : DTE) (l u : DTO) : DTE := fun ρ W Q => d ρ W fun v W1 => l ρ W1 fun lo W2 => u ρ W2 fun hi W3 => f v lo hi W3 Q
instance {rr : V → Option Int → Option Int → Hp → VK → Prop} {f : DV → Option Int → Option Int → Wd → DK → Prop} {tl tu : TO} {dl du : DTO} [ir : LSl C rr f] [ia : LE C te da] [il : LO C tl dl] [iu : LO C tu du] : LE C (tSl rr te tl tu) (dSl f da dl du) :=
  ⟨fun D h k => ia.go D h fun x dv H1 W1 D1 s1 v1 h1 => il.go D1 h1 fun lo H2 W2 D2 s2 h2 => iu.go D2 h2 fun hi H3 W3 D3 s3 h3 => ir.go D3 ((v1.mono s2).mono s3) h3 (k.mono ((s1.trans s2).trans s3))⟩
def cutD {α : Type} (xs : List α) (lo hi : Option Int) : List α := (xs.drop (HT.sIx xs.length 0 lo)).take (HT.sIx xs.length xs.length hi - HT.sIx xs.length 0 lo)
theorem VAll.cut {F : Hp} {lo hi : Option Int} (h : VAll C F vs xs) : VAll C F (cutD vs lo hi) (cutV xs lo hi) := by
  unfold cutD cutV
  rw [← h.length]
  exact (h.drop _).take _
theorem RepAll.drop {F : Hp} : ∀ {ds : List PyData} {xs : List V} (i : Nat), RepAll F ds xs → RepAll F (ds.drop i) (xs.drop i)
  | [], _, _, h => by cases h; simp [RepAll]
  | _ :: _, _, 0, h => h
  | _ :: _, _, i + 1, ⟨y, ys, e, h, r⟩ => by subst e; exact RepAll.drop i r
theorem RepAll.take {F : Hp} : ∀ {ds : List PyData} {xs : List V} (i : Nat), RepAll F ds xs → RepAll F (ds.take i) (xs.take i)
  | [], _, _, h => by cases h; simp [RepAll]
  | _ :: _, _, 0, _ => by simp [RepAll]
  | _ :: _, _, i + 1, ⟨y, ys, e, h, r⟩ => by subst e; exact ⟨y, _, rfl, h, RepAll.take i r⟩
theorem RepAll.cut {F : Hp} {ds : List PyData} {lo hi : Option Int} (h : RepAll F ds xs) : RepAll F (cutD ds lo hi) (cutV xs lo hi) := by
  unfold cutD cutV
  rw [← h.length]
  exact (h.drop _).take _
def dSlL : DV → Option Int → Option Int → Wd → DK → Prop := fun a lo hi W Q => ∃ vs, (seqL W a = some vs ∨ seqS a = some vs) ∧ newL (cutD vs lo hi) W Q
instance {K : PySem.W.Frag} [hk : KIs C K] : LSl C (rSlL K) dSlL := by
  obtain ⟨rfl⟩ := hk
  exact ⟨fun D h ⟨vs, e, q⟩ k => by
  rcases e with e | e
  · obtain ⟨p, xs, rfl, hq, r⟩ := D.seqL h e
    exact ⟨p, xs, rfl, SqL.of hq, fun l hl => newL_ok D r.cut hl q k⟩
  · obtain ⟨p, xs, rfl, hq, _, r⟩ := D.seqS h e
    exact ⟨p, xs, rfl, hq, fun l hl => newL_ok D r.cut hl q k⟩⟩
def dSlT : DV → Option Int → Option Int → Wd → DK → Prop := fun a lo hi W Q => ∃ ds, a = .im (.tuple ds) ∧ ¬ (HT.sIx ds.length 0 lo = 0 ∧ HT.sIx ds.length ds.length hi = ds.length) ∧ Q (.im (.tuple (cutD ds lo hi))) W
instance {K : PySem.W.Frag} [hk : KIs C K] : LSl C (rSlT K) dSlT := by
  obtain ⟨rfl⟩ := hk
  exact ⟨fun D h ⟨ds, e, hn, q⟩ k => by
  subst e
  obtain ⟨p, xs, rfl, hq, r⟩ := h
  refine ⟨p, xs, rfl, SqT.of (Fz.le hq), by rw [← r.length]; exact hn, fun l hl => ?_⟩
  obtain ⟨D3, s3, e3⟩ := D.imm hl (.tup (cutV xs _ _))
  exact k _ (.im (.tuple _)) _ _ D3 s3 ⟨l, _, rfl, e3, RepAll.same s3 r.cut⟩ q⟩
end
end L2

set_option Elab.async false
set_option linter.all false
set_option maxRecDepth 100000
set_option maxHeartbeats 4000000
namespace L2
open PySem PySem.Spec PyProof.Rows
abbrev DTG := DV → Rho → Wd → (Rho → Wd → Prop) → Prop
abbrev DTGs := List DV → Rho → Wd → (Rho → Wd → Prop) → Prop
structure DEnds where
  nx : Rho → Wd → Prop
  rt : DK
  bk : Rho → Wd → Prop
  ct : Rho → Wd → Prop
abbrev DTS := DEnds → Rho → Wd → Prop
def KG (C : DC) (F : Hp) (Qd : Rho → Wd → Prop) (Q : St → Hp → Prop) : Prop := ∀ σ' H' ρ' W', DR C σ' H' ρ' W' → Same F (Fz C W' H') → Qd ρ' W' → Q σ' H'
class LG (C : DC) (g : TG) (d : outParam DTG) : Prop where
  go : ∀ {σ : St} {H : Hp} {ρ : Rho} {W : Wd} {v : V} {dv : DV} {Qd : Rho → Wd → Prop} {Q : St → Hp → Prop}, DR C σ H ρ W → VAt C (Fz C W H) dv v → d dv ρ W Qd → KG C (Fz C W H) Qd Q → g v σ H Q
class LGs (C : DC) (g : TGs) (d : outParam DTGs) : Prop where
  go : ∀ {σ : St} {H : Hp} {ρ : Rho} {W : Wd} {vs : List V} {dvs : List DV} {Qd : Rho → Wd → Prop} {Q : St → Hp → Prop}, DR C σ H ρ W → VAll C (Fz C W H) dvs vs → d dvs ρ W Qd → KG C (Fz C W H) Qd Q → g vs σ H Q
structure EM (C : DC) (F : Hp) (De : DEnds) (D : Ends) : Prop where
  nx : KG C F De.nx D.nx
  bk : KG C F De.bk D.bk
  ct : KG C F De.ct D.ct
  rt : ∀ x dv σ' H' ρ' W', DR C σ' H' ρ' W' → Same F (Fz C W' H') → VAt C (Fz C W' H') dv x → De.rt dv W' → D.rt x H'
class LS (C : DC) (t : TS) (d : outParam DTS) : Prop where
  go : ∀ {σ : St} {H : Hp} {ρ : Rho} {W : Wd} {De : DEnds} {D : Ends}, DR C σ H ρ W → d De ρ W → EM C (Fz C W H) De D → t D σ H
section
variable {C : DC} {ta tb tc te to ti : TE} {da db dc do_ di : DTE} {r r' : R2} {dr dr' : DR2} {c c' : TT} {dt dt' : DTT} {ts : TA} {ds : DTA} {σ : St} {H H' : Hp} {ρ : Rho} {W W' : Wd} {Qd : DK} {Q : VK} {x : V} {dv : DV} {g : TG} {dg : DTG} {gs : TGs} {dgs : DTGs} {t u : TS} {d e : DTS} {F F' : Hp}
theorem KG.mono {Qd : Rho → Wd → Prop} {Q : St → Hp → Prop} (k : KG C F Qd Q) (s : Same F F') : KG C F' Qd Q := fun σ' H' ρ' W' D s' q => k σ' H' ρ' W' D (s.trans s') q
theorem EM.mono {De : DEnds} {D : Ends} (m : EM C F De D) (s : Same F F') : EM C F' De D := ⟨m.nx.mono s, m.bk.mono s, m.ct.mono s, fun x dv σ' H' ρ' W' D s' v q => m.rt x dv σ' H' ρ' W' D (s.trans s') v q⟩
/-! targets -/
def dGN (i : Nat) : DTG := fun dv ρ W Q => Q (ρ.set i (some dv)) W
instance {i : Nat} : LG C (gName i) (dGN i) := ⟨fun D v h k => k _ _ _ _ (D.set i v) (Same.refl _) h⟩
def dG0 : DTGs := fun vs ρ W Q => vs = [] ∧ Q ρ W
def dG1 (a : DTG) (b : DTGs) : DTGs := fun vs ρ W Q => ∃ v r, vs = v :: r ∧ a v ρ W fun ρ' W' => b r ρ' W' Q
instance : LGs C gNil dG0 := ⟨fun D v h k => by obtain ⟨e, q⟩ := h; subst e; cases v; exact ⟨rfl, k _ _ _ _ D (Same.refl _) q⟩⟩
instance [ia : LG C g dg] [ib : LGs C gs dgs] : LGs C (gCons g gs) (dG1 dg dgs) := ⟨fun D v h k => by
  obtain ⟨dv, r, e, q⟩ := h
  subst e
  obtain ⟨y, ys, e, v1, v2⟩ := v
  subst e
  exact ⟨y, ys, rfl, ia.go D v1 q fun σ' H' ρ' W' D' s' q' => ib.go D' (v2.mono s') q' (k.mono s')⟩⟩
def dPutL (a b dv : DV) (W2 : Wd) (Kc : Wd → Prop) : Prop := ∃ p vs k j, a = .pt p ∧ b = .im (.int k) ∧ W2 p = some (.lst vs) ∧ ixN vs.length k = some j ∧ Kc (wset W2 p (.lst (vs.set j dv)))
def dGS (o i : DTE) : DTG := fun dv ρ W Q => o ρ W fun a W1 => i ρ W1 fun b W2 => dPutL a b dv W2 (Q ρ)
instance [io : LE C to do_] [ii : LE C ti di] : LG C (gSub to ti rSetL) (dGS do_ di) := ⟨fun D v h k => io.go D h fun x dx H1 W1 D1 s1 v1 h1 => ii.go D1 h1 fun y dy H2 W2 D2 s2 v2 ⟨p, vs, n, j, e1, e2, e3, e4, q⟩ => by
  subst e1 e2
  cases (v1.mono s2)
  cases v2
  obtain ⟨_, _, xs, h3, r⟩ := D2.ce p _ e3
  obtain ⟨D3, s3⟩ := D2.wr e3 (r.set j ((v.mono s1).mono s2))
  exact ⟨p, xs, n, j, rfl, rfl, h3, by rw [← r.length]; exact e4, k _ _ _ _ D3 ((s1.trans s2).trans s3) q⟩⟩
/-! statements -/
def dNext : DTS := fun De ρ W => De.nx ρ W
instance : LS C tNext dNext := ⟨fun D h m => m.nx _ _ _ _ D (Same.refl _) h⟩
def dSeq (a b : DTS) : DTS := fun De ρ W => a ⟨b De, De.rt, De.bk, De.ct⟩ ρ W
instance [ia : LS C t d] [ib : LS C u e] : LS C (tSeq t u) (dSeq d e) := ⟨fun D h m => ia.go D h ⟨fun σ' H' ρ' W' D' s' q => ib.go D' q (m.mono s'), m.bk, m.ct, m.rt⟩⟩
def dDrop (a : DTE) : DTS := fun De ρ W => a ρ W fun _ W1 => De.nx ρ W1
instance [ia : LE C ta da] : LS C (tDrop ta) (dDrop da) := ⟨fun D h m => ia.go D h fun x dv H1 W1 D1 s1 v1 q => m.nx _ _ _ _ D1 s1 q⟩
def dRet (a : DTE) : DTS := fun De ρ W => a ρ W De.rt
instance [ia : LE C ta da] : LS C (tRet ta) (dRet da) := ⟨fun D h m => ia.go D h fun x dv H1 W1 D1 s1 v1 q => m.rt x dv _ _ _ _ D1 s1 v1 q⟩
def dIfS (c : DTT) (a b : DTS) : DTS := fun De ρ W => c ρ W fun k W1 => if k = true then a De ρ W1 else b De ρ W1
instance [it : LT C c dt] [ia : LS C t d] [ib : LS C u e] : LS C (tIfS c t u) (dIfS dt d e) := ⟨fun D h m => it.go D h fun b H1 W1 D1 s1 h1 => by
  cases b with
  | true => exact ia.go D1 h1 (m.mono s1)
  | false => exact ib.go D1 h1 (m.mono s1)⟩
def dAsg (a : DTE) (g : DTG) : DTS := fun De ρ W => a ρ W fun v W1 => g v ρ W1 De.nx
instance [ia : LE C ta da] [ig : LG C g dg] : LS C (tAsg ta g) (dAsg da dg) := ⟨fun D h m => ia.go D h fun x dv H1 W1 D1 s1 v1 q => ig.go D1 v1 q (m.nx.mono s1)⟩
def dNever : DTS := fun _ _ _ => False
instance : LS C tNever dNever := ⟨fun _ h _ => h⟩
def dWhile (c : DTT) (b : DTS) : DTS := fun De ρ W => ∃ Pv : Nat → Rho → Wd → Prop, (∃ m, Pv m ρ W) ∧ ∀ m ρ W, Pv m ρ W → c ρ W fun k W1 => if k = true then b ⟨fun ρ' W' => ∃ m', m' < m ∧ Pv m' ρ' W', De.rt, De.nx, fun ρ' W' => ∃ m', m' < m ∧ Pv m' ρ' W'⟩ ρ W1 else De.nx ρ W1
instance [it : LT C c dt] [ib : LS C t d] : LS C (tWhile c t) (dWhile dt d) := ⟨fun {σ H ρ W De D} R h m => by
  obtain ⟨Pv, ⟨m0, p0⟩, hs⟩ := h
  refine ⟨fun n σ' H' => ∃ ρ' W', DR C σ' H' ρ' W' ∧ Same (Fz C W H) (Fz C W' H') ∧ Pv n ρ' W', ⟨m0, ρ, W, R, Same.refl _, p0⟩, ?_⟩
  rintro n σ' H' ⟨ρ', W', D', s', p'⟩
  refine it.go D' (hs n ρ' W' p') fun b H1 W1 D1 s1 h1 => ?_
  cases b with
  | true =>
    refine ⟨fun σ2 H2 => ∃ ρ2 W2, DR C σ2 H2 ρ2 W2 ∧ Same (Fz C W H) (Fz C W2 H2) ∧ ∃ m', m' < n ∧ Pv m' ρ2 W2, fun σ2 H2 ⟨ρ2, W2, D2, s2, m', l, p2⟩ => ⟨m', l, ρ2, W2, D2, s2, p2⟩, ib.go D1 h1 ?_⟩
    have ss := s'.trans s1
    exact ⟨fun σ2 H2 ρ2 W2 D2 s2 q => ⟨ρ2, W2, D2, ss.trans s2, q⟩, m.nx.mono ss, fun σ2 H2 ρ2 W2 D2 s2 q => ⟨ρ2, W2, D2, ss.trans s2, q⟩, (m.mono ss).rt⟩
  | false => exact m.nx _ _ _ _ D1 (s'.trans s1) h1⟩
/-! what is walked -/
structure DIt where
  vs : List DV
  kp : Wd → Prop
abbrev DTI := Rho → Wd → (DIt → Wd → Prop) → Prop
structure ItOk (C : DC) (F : Hp) (J : It) (it : DIt) : Prop where
  go : ∀ i σ H ρ W, DR C σ H ρ W → Same F (Fz C W H) → it.kp W → i < it.vs.length → J.go i H
  yld : ∀ i σ H ρ W, DR C σ H ρ W → Same F (Fz C W H) → it.kp W → i < it.vs.length → ∀ x H', J.yld i H x H' → DR C σ H' ρ W ∧ Same (Fz C W H) (Fz C W H') ∧ ∃ dv, it.vs[i]? = some dv ∧ VAt C (Fz C W H') dv x
  stop : ∀ σ H ρ W, DR C σ H ρ W → Same F (Fz C W H) → it.kp W → J.stop it.vs.length H
class LI (C : DC) (w : TI) (d : outParam DTI) : Prop where
  go : ∀ {σ : St} {H : Hp} {ρ : Rho} {W : Wd} {Qd : DIt → Wd → Prop} {Q : It → Hp → Prop}, DR C σ H ρ W → d ρ W Qd → (∀ J it H' W', DR C σ H' ρ W' → Same (Fz C W H) (Fz C W' H') → ItOk C (Fz C W' H') J it → Qd it W' → Q J H') → w σ H Q
def dLoop (it : DIt) (g : DTG) (b : DTS) (De : DEnds) (ρ : Rho) (W1 : Wd) : Prop := ∃ Pv : Nat → Rho → Wd → Prop, Pv 0 ρ W1 ∧ (∀ i ρ W, Pv i ρ W → it.kp W) ∧
  (∀ i v ρ W, it.vs[i]? = some v → Pv i ρ W → g v ρ W fun ρ2 W2 => b ⟨Pv (i + 1), De.rt, De.nx, Pv (i + 1)⟩ ρ2 W2) ∧ ∀ ρ W, Pv it.vs.length ρ W → De.nx ρ W
def dFor (w : DTI) (g : DTG) (b : DTS) : DTS := fun De ρ W => w ρ W fun it W1 => dLoop it g b De ρ W1
instance {w : TI} {dw : DTI} [iw : LI C w dw] [ig : LG C g dg] [ib : LS C t d] : LS C (tFor w g t) (dFor dw dg d) := ⟨fun {σ H ρ W De D} R h m => iw.go R h fun J it H1 W1 D1 s1 ok ⟨Pv, p0, kp, hs, hd⟩ => by
  refine ⟨fun i n σ' H' => n = it.vs.length - i ∧ i ≤ it.vs.length ∧ ∃ ρ' W', DR C σ' H' ρ' W' ∧ Same (Fz C W1 H1) (Fz C W' H') ∧ Pv i ρ' W', ⟨it.vs.length, by simp, Nat.zero_le _, ρ, W1, D1, Same.refl _, p0⟩, ?_⟩
  rintro i n σ' H' ⟨rfl, hi, ρ', W', D', s', p'⟩
  have kw := kp i ρ' W' p'
  by_cases hlt : i < it.vs.length
  · refine .inr ⟨ok.go i σ' H' ρ' W' D' s' kw hlt, fun σ2 H2 => ∃ ρ2 W2, DR C σ2 H2 ρ2 W2 ∧ Same (Fz C W1 H1) (Fz C W2 H2) ∧ Pv (i + 1) ρ2 W2, fun σ2 H2 ⟨ρ2, W2, D2, s2, p2⟩ => ⟨it.vs.length - (i + 1), by omega, rfl, hlt, ρ2, W2, D2, s2, p2⟩, fun x H2 hy => ?_⟩
    obtain ⟨D2, s2, dv, e, v⟩ := ok.yld i σ' H' ρ' W' D' s' kw hlt x H2 hy
    refine ig.go D2 v (hs i dv ρ' W' e p') fun σ3 H3 ρ3 W3 D3 s3 q3 => ib.go D3 q3 ?_
    have ss := (s'.trans s2).trans s3
    exact ⟨fun σ4 H4 ρ4 W4 D4 s4 q => ⟨ρ4, W4, D4, ss.trans s4, q⟩, m.nx.mono (s1.trans ss), fun σ4 H4 ρ4 W4 D4 s4 q => ⟨ρ4, W4, D4, ss.trans s4, q⟩, (m.mono (s1.trans ss)).rt⟩
  · have e : i = it.vs.length := by omega
    subst e
    exact .inl ⟨ok.stop σ' H' ρ' W' D' s' kw, m.nx _ _ _ _ D' (s1.trans s') (hd ρ' W' p')⟩⟩
def dGath (it : DIt) (g : DTG) (c : DTT) (e : DTE) (ρ : Rho) (W1 : Wd) (Q : DK) : Prop := it.vs.length ≤ sizeLine ∧ ∃ Pv : Nat → List DV → Wd → Prop, Pv 0 [] W1 ∧ (∀ i ys W, Pv i ys W → it.kp W) ∧
  (∀ i v ys W, it.vs[i]? = some v → ys.length ≤ i → Pv i ys W → g v ρ W fun ρ2 W2 => c ρ2 W2 fun b W3 => if b = true then e ρ2 W3 fun y W4 => Pv (i + 1) (ys ++ [y]) W4 else Pv (i + 1) ys W3) ∧
  ∀ ys W, Pv it.vs.length ys W → newL ys W Q
def dComp (w : DTI) (g : DTG) (c : DTT) (e : DTE) (ix : List (Option Nat)) : DTE := fun ρ W Q => w ρ W fun it W1 => dGath it g c e (blkD ix ρ) W1 Q
instance {w : TI} {dw : DTI} {ix : List (Option Nat)} [iw : LI C w dw] [ig : LG C g dg] [it : LT C c dt] [ie : LE C te da] : LE C (tComp w g c te ix) (dComp dw dg dt da ix) := ⟨fun {σ H ρ W Qd Q} R h k => iw.go R h fun J it' H1 W1 D1 s1 ok ⟨hz, Pv, p0, kp, hs, hd⟩ => by
  refine ⟨fun i n ys H' => n = it'.vs.length - i ∧ i ≤ it'.vs.length ∧ ∃ zs W', DR C σ H' ρ W' ∧ Same (Fz C W1 H1) (Fz C W' H') ∧ VAll C (Fz C W' H') zs ys ∧ zs.length ≤ i ∧ Pv i zs W', ⟨it'.vs.length, by simp, Nat.zero_le _, [], W1, D1, Same.refl _, rfl, Nat.le_refl _, p0⟩, ?_⟩
  rintro i n ys H' ⟨rfl, hi, zs, W', D', s', vz, hl, p'⟩
  have kw := kp i zs W' p'
  by_cases hlt : i < it'.vs.length
  · refine .inr ⟨ok.go i σ H' ρ W' D' s' kw hlt, by rw [← vz.length]; omega,
      fun y H2 => ∃ zy W2, DR C σ H2 ρ W2 ∧ Same (Fz C W1 H1) (Fz C W2 H2) ∧ VAll C (Fz C W2 H2) zs ys ∧ VAt C (Fz C W2 H2) zy y ∧ Pv (i + 1) (zs ++ [zy]) W2, fun H2 => ∃ W2, DR C σ H2 ρ W2 ∧ Same (Fz C W1 H1) (Fz C W2 H2) ∧ VAll C (Fz C W2 H2) zs ys ∧ Pv (i + 1) zs W2,
      fun y H2 ⟨zy, W2, D2, s2, v2, vy, p2⟩ => ⟨it'.vs.length - (i + 1), by omega, rfl, hlt, zs ++ [zy], W2, D2, s2, v2.append (.one vy), by rw [List.length_append]; simp; omega, p2⟩,
      fun H2 ⟨W2, D2, s2, v2, p2⟩ => ⟨it'.vs.length - (i + 1), by omega, rfl, hlt, zs, W2, D2, s2, v2, by omega, p2⟩, fun x H2 hy => ?_⟩
    obtain ⟨D2, s2, dv, e, v⟩ := ok.yld i σ H' ρ W' D' s' kw hlt x H2 hy
    have D2' : DR C (blk ix σ) H2 (blkD ix ρ) W' := D2.slots (D2.sl.blk ix)
    refine ig.go D2' v (hs i dv zs W' e hl p') fun σ3 H3 ρ3 W3 D3 s3 q3 => it.go D3 q3 fun b H4 W4 D4 s4 h4 => ?_
    have back : ∀ H5 W5, DR C σ3 H5 ρ3 W5 → Same (Fz C W' H2) (Fz C W5 H5) → DR C σ H5 ρ W5 := fun H5 W5 D5 s5 => D5.slots (D2.sl.mono s5)
    cases b with
    | true =>
      refine ie.go D4 h4 fun y zy H5 W5 D5 s5 v5 q5 => ?_
      exact ⟨zy, W5, back H5 W5 D5 ((s3.trans s4).trans s5), (((s'.trans s2).trans s3).trans s4).trans s5, vz.mono (((s2.trans s3).trans s4).trans s5), v5, q5⟩
    | false => exact ⟨W4, back H4 W4 D4 (s3.trans s4), ((s'.trans s2).trans s3).trans s4, vz.mono ((s2.trans s3).trans s4), h4⟩
  · have e : i = it'.vs.length := by omega
    subst e
    refine .inl ⟨ok.stop σ H' ρ W' D' s' kw, fun p hp => ?_⟩
    exact newL_ok D' vz hp (hd zs W' p') (k.mono (s1.trans s'))⟩
def dYes : DTT := fun _ W Q => Q true W
instance : LT C tYes dYes := ⟨fun D h k => k true _ _ D (Same.refl _) h⟩
/-! the walks -/
def dILs (v : DV) (W1 : Wd) (Q : DIt → Wd → Prop) : Prop := (∃ ds, v = .im (.list ds) ∧ Q ⟨ds.map .im, fun _ => True⟩ W1) ∨ (∃ p vs, v = .pt p ∧ W1 p = some (.lst vs) ∧ Q ⟨vs, fun W' => W' p = some (.lst vs)⟩ W1) ∨ (∃ ns, v = .scr ns ∧ Q ⟨ns.map fun n => .im (.int n), fun _ => True⟩ W1)
def dIList (a : DTE) : DTI := fun ρ W Q => a ρ W fun v W1 => dILs v W1 Q
theorem itl_ok {a : Addr} {it : DIt} (h : ∀ σ H ρ W, DR C σ H ρ W → Same F (Fz C W H) → it.kp W → ∃ xs, SqL C.K H a xs ∧ VAll C (Fz C W H) it.vs xs) : ItOk C F (Itl C.K a) it where
  go := fun i σ H ρ W D s kw hi => by
    obtain ⟨xs, q, v⟩ := h σ H ρ W D s kw
    have hl := v.length
    exact ⟨xs, xs[i]'(by omega), q, by simp [show i < xs.length by omega]⟩
  yld := fun i σ H ρ W D s kw hi x H' ⟨e, y⟩ => by
    obtain ⟨xs, q, v⟩ := h σ H ρ W D s kw
    subst e
    obtain ⟨dv, e2, v2⟩ := v.get' (y xs q)
    exact ⟨D, Same.refl _, dv, e2, v2⟩
  stop := fun σ H ρ W D s kw => by
    obtain ⟨xs, q, v⟩ := h σ H ρ W D s kw
    exact ⟨xs, q, by rw [v.length]; exact Nat.le_refl _⟩
instance {K : PySem.W.Frag} [hk : KIs C K] [ia : LE C ta da] : LI C (iList K ta) (dIList da) := by
  obtain ⟨rfl⟩ := hk
  exact ⟨fun D h k => ia.go D h fun x dv H1 W1 D1 s1 v1 h1 => by
  rcases h1 with ⟨ds, e, q⟩ | ⟨p, vs, e, ew, q⟩ | ⟨ns, e, q⟩
  · subst e
    obtain ⟨p, xs, rfl, hp, r⟩ := v1
    exact ⟨p, rfl, ⟨xs, SqL.of (Fz.le hp)⟩, k _ _ _ _ D1 s1 (itl_ok fun σ H ρ W D s _ => ⟨xs, SqL.of (Fz.le (s _ _ hp)), .ofRep (RepAll.same s r)⟩) q⟩
  · subst e
    cases v1
    obtain ⟨_, _, xs, h3, r⟩ := D1.ce p _ ew
    exact ⟨p, rfl, ⟨xs, SqL.of h3⟩, k _ _ _ _ D1 s1 (itl_ok fun σ H ρ W D s kw => by
      obtain ⟨_, _, ys, h4, r4⟩ := D.ce p _ kw
      exact ⟨ys, SqL.of h4, r4⟩) q⟩
  · subst e
    obtain ⟨p, rfl, hp⟩ := v1
    exact ⟨p, rfl, ⟨_, (Fz.sm (C := C) (W := W1)).seq hp⟩, k _ _ _ _ D1 s1 (itl_ok fun σ H ρ W D s _ => ⟨_, (Fz.sm (C := C) (W := W)).seq (s.seq hp), ints_all ns⟩) q⟩⟩
theorem seqT_keep (D : DR C σ H ρ W) (h : VAt C (Fz C W H) dv x) {vs : List DV} (e : seqT dv = some vs) : ∃ p xs, x = .ref p ∧ ∀ σ' H' ρ' W', DR C σ' H' ρ' W' → Same (Fz C W H) (Fz C W' H') → SqT C.K H' p xs ∧ VAll C (Fz C W' H') vs xs := by
  cases dv with
  | im d =>
    cases d with
    | tuple ds => cases e; obtain ⟨p, xs, e1, h1, r⟩ := h; exact ⟨p, xs, e1, fun σ' H' ρ' W' D' s => ⟨SqT.of (Fz.le (s _ _ h1)), .ofRep (RepAll.same s r)⟩⟩
    | _ => cases e
  | cst ys =>
    obtain ⟨p, e1, h1⟩ := h
    unfold seqT at e
    by_cases q : ys.all flatV = true
    · simp only [q, if_true] at e
      cases e
      exact ⟨p, ys, e1, fun σ' H' ρ' W' D' s => ⟨h1 H', ofV_all q⟩⟩
    · simp only [q] at e
      cases e
  | _ => cases e
theorem itr_ok {lo : Int} {n : Nat} : ItOk C F (Itr lo n) ⟨(List.range n).map fun i => .im (.int (lo + (i : Nat))), fun _ => True⟩ where
  go := fun i σ H ρ W D s kw hi => by show i < n; simpa using hi
  yld := fun i σ H ρ W D s kw hi x H' ⟨e, y⟩ => by
    subst e
    have hi' : i < n := by simpa using hi
    exact ⟨D, Same.refl _, .im (.int (lo + i)), by simp [hi'], y⟩
  stop := fun σ H ρ W D s kw => by show n ≤ _; simp
def dR1s (vs : List DV) (W1 : Wd) (Q : DIt → Wd → Prop) : Prop := ∃ j : Int, vs = [.im (.int j)] ∧ -(2 ^ 62) ≤ j ∧ j < 2 ^ 62 ∧ Q ⟨(List.range j.toNat).map fun i => .im (.int (0 + (i : Nat))), fun _ => True⟩ W1
def dRng1 (a : DTA) : DTI := fun ρ W Q => a ρ W fun vs W1 => dR1s vs W1 Q
instance [is : LA C ts ds] : LI C (iRng1 ts) (dRng1 ds) := ⟨fun D h k => is.go D h fun xs dvs H1 W1 D1 s1 v1 ⟨j, e, l1, l2, q⟩ => by
  subst e
  obtain ⟨x, rfl, hx⟩ := v1.one_inv
  cases hx
  exact ⟨j, rfl, l1, l2, k _ _ _ _ D1 s1 itr_ok q⟩⟩
end
end L2

set_option Elab.async false
set_option linter.all false
set_option maxRecDepth 100000
set_option maxHeartbeats 4000000
namespace L2
open PySem PySem.Spec PyProof.Rows
section
variable {C : DC} {ta : TE} {da : DTE} {ts : TA} {ds : DTA} {σ : St} {H H' : Hp} {ρ : Rho} {W W' : Wd} {Qd : DK} {Q : VK} {x : V} {dv : DV} {F F' : Hp} {vs : List DV}
/-! zip -/
def seqK (k : SK) (W : Wd) (dv : DV) : Option (List DV) := match k with
  | .L => match seqL W dv with
    | some vs => some vs
    | none => seqS dv
  | .T => seqT dv
def kpOf (dv : DV) (vs : List DV) : Wd → Prop := match dv with
  | .pt p => fun W' => W' p = some (.lst vs)
  | _ => fun _ => True
theorem seqK_keep (D : DR C σ H ρ W) (h : VAt C (Fz C W H) dv x) {k : SK} (e : seqK k W dv = some vs) : ∃ p, x = .ref p ∧ kpOf dv vs W ∧ ∀ σ' H' ρ' W', DR C σ' H' ρ' W' → Same (Fz C W H) (Fz C W' H') → kpOf dv vs W' → ∃ xs, SqK C.K k H' p xs ∧ VAll C (Fz C W' H') vs xs := by
  cases k with
  | T =>
    obtain ⟨p, xs, e1, hk⟩ := seqT_keep D h (show seqT dv = some vs from e)
    have tt : ∀ W', kpOf dv vs W' := fun W' => by
      cases dv with
      | pt q => cases (show seqT (.pt q) = some vs from e)
      | _ => exact trivial
    exact ⟨p, e1, tt W, fun σ' H' ρ' W' D' s _ => ⟨xs, hk σ' H' ρ' W' D' s⟩⟩
  | L =>
    cases dv with
    | im d =>
      cases d with
      | list ds =>
        cases (show some (ds.map DV.im) = some vs from e)
        obtain ⟨p, xs, e1, h1, r⟩ := h
        exact ⟨p, e1, trivial, fun σ' H' ρ' W' D' s _ => ⟨xs, SqL.of (Fz.le (s _ _ h1)), .ofRep (RepAll.same s r)⟩⟩
      | _ => cases (show none = some vs from e)
    | pt p =>
      unfold seqK seqL at e
      cases q : W p with
      | none => simp [q, seqS] at e
      | some c =>
        cases c with
        | lst ys =>
          simp [q] at e
          subst e
          refine ⟨p, h, q, fun σ' H' ρ' W' D' s kw => ?_⟩
          obtain ⟨_, _, zs, h4, r4⟩ := D'.ce p _ kw
          exact ⟨zs, SqL.of h4, r4⟩
        | _ => simp [q, seqS] at e
    | scr ns =>
      cases (show some (ns.map fun n => DV.im (.int n)) = some vs from e)
      obtain ⟨p, e1, h1⟩ := h
      exact ⟨p, e1, trivial, fun σ' H' ρ' W' D' s _ => ⟨_, (Fz.sm (C := C) (W := W')).seq (s.seq h1), ints_all ns⟩⟩
    | _ => cases (show none = some vs from e)
def imD : DV → Option PyData
  | .im d => some d
  | _ => none
theorem imL_all : ∀ {vs : List DV} {ds : List PyData}, datL imD vs = some ds → vs = ds.map .im
  | [], _, e => by cases e; rfl
  | .im d :: r, _, e => by
    unfold datL at e
    cases q : datL imD r with
    | none => simp [imD, q] at e
    | some cs => simp [imD, q] at e; subst e; rw [imL_all q]; rfl
  | .pt _ :: _, _, e => by cases e
  | .cst _ :: _, _, e => by cases e
  | .rf _ :: _, _, e => by cases e
  | .ty _ :: _, _, e => by cases e
  | .exn _ :: _, _, e => by cases e
  | .raw _ :: _, _, e => by cases e
  | .scr _ :: _, _, e => by cases e
def dZs (k1 k2 : SK) (vs : List DV) (W1 : Wd) (Q : DIt → Wd → Prop) : Prop := ∃ v1 v2 us1 us2 d1 d2, vs = [v1, v2] ∧ seqK k1 W1 v1 = some us1 ∧ seqK k2 W1 v2 = some us2 ∧ datL imD us1 = some d1 ∧ datL imD us2 = some d2 ∧
  Q ⟨(d1.zip d2).map fun p => .im (.tuple [p.1, p.2]), fun W' => kpOf v1 us1 W' ∧ kpOf v2 us2 W'⟩ W1
def dZip (k1 k2 : SK) (a : DTA) : DTI := fun ρ W Q => a ρ W fun vs W1 => dZs k1 k2 vs W1 Q
theorem itz_ok {k1 k2 : SK} {a b : Addr} {d1 d2 : List PyData} {kp : Wd → Prop} (h1 : ∀ σ H ρ W, DR C σ H ρ W → Same F (Fz C W H) → kp W → ∃ xs, SqK C.K k1 H a xs ∧ RepAll (Fz C W H) d1 xs) (h2 : ∀ σ H ρ W, DR C σ H ρ W → Same F (Fz C W H) → kp W → ∃ xs, SqK C.K k2 H b xs ∧ RepAll (Fz C W H) d2 xs) :
    ItOk C F (Itz C.K k1 k2 a b) ⟨(d1.zip d2).map fun p => .im (.tuple [p.1, p.2]), kp⟩ where
  go := fun i σ H ρ W D s kw hi => by
    obtain ⟨xs, q1, r1⟩ := h1 σ H ρ W D s kw
    obtain ⟨ys, q2, r2⟩ := h2 σ H ρ W D s kw
    have hi' : i < d1.length ∧ i < d2.length := by simp at hi; omega
    have l1 := r1.length
    have l2 := r2.length
    exact ⟨xs, ys, xs[i]'(by omega), ys[i]'(by omega), q1, q2, by simp [show i < xs.length by omega], by simp [show i < ys.length by omega]⟩
  yld := fun i σ H ρ W D s kw hi x H' ⟨p, y, z, e, hp, eH, g1, g2⟩ => by
    subst e eH
    obtain ⟨xs, q1, r1⟩ := h1 σ H ρ W D s kw
    obtain ⟨ys, q2, r2⟩ := h2 σ H ρ W D s kw
    have hi' : i < d1.length ∧ i < d2.length := by simp at hi; omega
    obtain ⟨y', ey, ry⟩ := r1.get (i := i) (d := d1[i]) (by simp [hi'.1])
    obtain ⟨z', ez, rz⟩ := r2.get (i := i) (d := d2[i]) (by simp [hi'.2])
    rw [g1 xs q1] at ey; cases ey
    rw [g2 ys q2] at ez; cases ez
    obtain ⟨D2, s2, e2⟩ := D.imm hp (.tup [y, z])
    refine ⟨D2, s2, .im (.tuple [d1[i], d2[i]]), ?_, p, _, rfl, e2, y, _, rfl, ry.same s2, z, _, rfl, rz.same s2, rfl⟩
    have : (d1.zip d2)[i]? = some (d1[i], d2[i]) := by simp [List.getElem?_zip_eq_some, hi'.1, hi'.2]
    show ((d1.zip d2).map fun p => DV.im (.tuple [p.1, p.2]))[i]? = _
    rw [List.getElem?_map, this]; rfl
  stop := fun σ H ρ W D s kw => by
    obtain ⟨xs, q1, r1⟩ := h1 σ H ρ W D s kw
    obtain ⟨ys, q2, r2⟩ := h2 σ H ρ W D s kw
    refine ⟨xs, ys, q1, q2, ?_⟩
    show xs.length ≤ ((d1.zip d2).map _).length ∨ ys.length ≤ ((d1.zip d2).map _).length
    rw [List.length_map, List.length_zip, ← r1.length, ← r2.length]
    omega
instance {K : PySem.W.Frag} [hk : KIs C K] {k1 k2 : SK} [is : LA C ts ds] : LI C (iZip K k1 k2 ts) (dZip k1 k2 ds) := by
  obtain ⟨rfl⟩ := hk
  exact ⟨fun D h k => is.go D h fun xs dvs H1 W1 D1 s1 v1 ⟨a, b, us1, us2, d1, d2, e, e1, e2, i1, i2, q⟩ => by
  subst e
  obtain ⟨x, y, rfl, hx, hy⟩ := v1.two_inv
  obtain ⟨p1, rfl, k1', f1⟩ := seqK_keep D1 hx e1
  obtain ⟨p2, rfl, k2', f2⟩ := seqK_keep D1 hy e2
  have u1 := imL_all i1
  have u2 := imL_all i2
  subst u1 u2
  refine ⟨p1, p2, rfl, let ⟨xs, q, _⟩ := f1 _ _ _ _ D1 (Same.refl _) k1'; ⟨xs, q⟩, let ⟨xs, q, _⟩ := f2 _ _ _ _ D1 (Same.refl _) k2'; ⟨xs, q⟩, k _ _ _ _ D1 s1 (itz_ok (fun σ H ρ W D s kw => ?_) fun σ H ρ W D s kw => ?_) q⟩
  · obtain ⟨xs, q, r⟩ := f1 σ H ρ W D s kw.1; exact ⟨xs, q, r.toRep⟩
  · obtain ⟨xs, q, r⟩ := f2 σ H ρ W D s kw.2; exact ⟨xs, q, r.toRep⟩⟩
/-! ### promises of defs, over data -/
inductive Res where
  | im (d : PyData) | nw (ds : List PyData)
def ImR : Res → Bool
  | .im d => Im d
  | .nw ds => ImAll ds
def ResAt (O : Addr → Prop) (H H' : Hp) : Res → V → Prop
  | .im d, v => Rep (hide O H') d v
  | .nw ds, v => ∃ p xs, v = .ref p ∧ H p = none ∧ H' p = some (.lst xs) ∧ RepAll (hide (fun a => O a ∨ a = p) H') ds xs
abbrev DSp := List PyData → (Res → Prop) → (Addr → Prop) → Prop
def spD (S : DSp) : Sp := fun vs H Q E => ∃ (O : Addr → Prop) (ds : List PyData) (R : Res → Prop) (X : Addr → Prop), (∀ a, O a → H a ≠ none) ∧ RepAll (hide O H) ds vs ∧ S ds R X ∧ (∀ r v H', R r → Same H H' → ResAt O H H' r v → Q v H') ∧ ∀ c H', X c → Same H H' → E (.ref c) none H'
def newR (W : Wd) (Q : DK) : Res → Prop
  | .im d => Q (.im d) W
  | .nw ds => (∀ p, W p = none → Q (.pt p) (wset W p (.lst (ds.map .im)))) ∨ Q (.im (.list ds)) W
def dPure (S : DSp) (X : Addr → Prop) : List DV → Wd → DK → Prop := fun as W Q =>
  (∃ ds, datL (dat 4 W) as = some ds ∧ S ds (fun r => ImR r = true ∧ newR W Q r) X) ∨ ∃ ds W1, frzL (frz 4) W as = some (ds, W1) ∧ S ds (newR W1 Q) X
class LSp (C : DC) (sp : Sp) (E : XK) (d : outParam (List DV → Wd → DK → Prop)) : Prop where
  go : ∀ {σ : St} {H : Hp} {ρ : Rho} {W : Wd} {Qd : DK} {Q : VK} {as : List DV} {xs : List V}, DR C σ H ρ W → VAll C (Fz C W H) as xs → d as W Qd → KE C σ ρ W H Qd Q → sp xs H Q E
/-- behind a call: what was stays, and a new list is the caller's own -/
theorem DR.sameNew (D : DR C σ H ρ W) (s : Same H H') {p : Addr} {xs : List V} {dvs : List DV} (hp : H p = none) (hp' : H' p = some (.lst xs)) (r : VAll C (Fz C (wset W p (.lst dvs)) H') dvs xs) : DR C σ H' ρ (wset W p (.lst dvs)) ∧ Same (Fz C W H) (Fz C (wset W p (.lst dvs)) H') := by
  have np : ∀ a, H a ≠ none → a ≠ p := fun a ha z => ha (by rw [z]; exact hp)
  refine D.step (fun a z => ?_) (fun a u e _ => s a u e) (nn_same s) fun s' q c' e => ?_
  · by_cases hq : a = p
    · exact .inr (by rw [hq]; exact hp)
    · rw [wset_ne hq] at z; exact .inl z
  · by_cases hq : q = p
    · subst hq
      rw [wset_same] at e; cases e
      exact ⟨.inl (D.nH0 hp), D.nO hp, xs, hp', r⟩
    · rw [wset_ne hq] at e
      obtain ⟨h1, h2, h3⟩ := D.ce q c' e
      refine ⟨h1, h2, h3.mono s' D.ok (same_eq s (D.there e)) (fun g hg => ?_) fun t' g' n' z => ?_⟩
      · have := np g (D.there hg)
        exact ⟨by rw [wset_ne this]; exact hg, same_eq s (D.there hg)⟩
      · by_cases ht : t' = p
        · subst ht; rw [wset_same] at z; cases z
        · rw [wset_ne ht] at z; exact ⟨n', z⟩
theorem DR.tp (D : DR C σ H ρ W) {O : Addr → Prop} (hO : ∀ a, C.O a → O a) : Tp (hide O H) (Fz C W H) := fun b xs e => by
  obtain ⟨h1, h2⟩ := hide_iff.mp e
  refine hide_iff.mpr ⟨fun z => ?_, h2⟩
  rcases z with z | z
  · exact h1 (hO b z)
  · cases q : W b with
    | none => rw [q] at z; cases z
    | some c =>
      obtain ⟨u, e1, e2⟩ := (D.ce b c q).2.2.mu D.ok
      rw [h2] at e1; cases e1
      exact e2 xs rfl
theorem pure_ok {S : DSp} {X : Addr → Prop} {E : XK} (hX : ∀ c H', X c → (∀ a o, C.H0 a = some o → ¬ C.T a → H' a = some o) → E (.ref c) none H') {as : List DV} {xs : List V} (D : DR C σ H ρ W) (h : VAll C (Fz C W H) as xs) (hd : dPure S X as W Qd) (k : KE C σ ρ W H Qd Q) : spD S xs H Q E := by
  have hE : ∀ c H', X c → Same H H' → E (.ref c) none H' := fun c H' hc s => hX c H' hc fun a o e ht => s a o (D.fr a o e ht)
  rcases hd with ⟨ds, e, hS⟩ | ⟨ds, W1, e, hS⟩
  · refine ⟨fun a => C.O a ∨ trayish (W a), ds, _, X, fun a ha => ?_, datL_all (fun dv x d h e => D.dat 4 h e) h e, hS, fun r v H' hr s hv => ?_, hE⟩
    · rcases ha with ha | ha
      · exact D.ho a ha
      · obtain ⟨c, e⟩ := trayish_some ha
        exact D.there e
    · obtain ⟨D1, s1⟩ := D.same s
      cases r with
      | im d => exact k _ (.im d) _ _ D1 s1 (Rep.tp (D1.tp fun a ha => .inl ha) hr.1 hv) hr.2
      | nw es =>
        obtain ⟨p, ys, rfl, hp, hp', rr⟩ := hv
        have base : RepAll (Fz C W H') es ys := RepAll.tp (D1.tp fun a ha => .inl (.inl ha)) hr.1 rr
        have same2 : Tp (Fz C W H') (Fz C (wset W p (.lst (es.map .im))) H') := fun b zs e => by
          obtain ⟨h1, h2⟩ := hide_iff.mp e
          have nb : b ≠ p := fun z => by rw [z, hp'] at h2; cases h2
          refine hide_iff.mpr ⟨fun z => h1 (z.elim .inl fun z => .inr ?_), h2⟩
          rw [wset_ne nb] at z; exact z
        rcases hr.2 with h2 | h2
        · obtain ⟨D2, s2⟩ := D.sameNew s hp hp' (.ofRep (RepAll.tp same2 hr.1 base))
          exact k _ (.pt p) _ _ D2 s2 rfl (h2 p (D.fresh hp))
        · exact k _ (.im (.list es)) _ _ D1 s1 ⟨p, ys, rfl, hide_iff.mpr ⟨(fun z => z.elim (D.nO hp) (fun z => by rw [D.fresh hp] at z; cases z)), hp'⟩, base⟩ h2
  · obtain ⟨D1, s1, r1, k1⟩ := frzL_ok (frz_ok 4) D h e
    refine ⟨fun a => C.O a ∨ (W1 a).isSome = true, ds, _, X, fun a ha => ?_, r1, hS, fun r v H' hr s hv => ?_, hE⟩
    · rcases ha with ha | ha
      · exact D1.ho a ha
      · cases q : W1 a with
        | none => rw [q] at ha; cases ha
        | some c => exact D1.there q
    · obtain ⟨D2, s2⟩ := D1.same s
      cases r with
      | im d => exact k _ (.im d) _ _ D2 (s1.trans s2) hv hr
      | nw es =>
        obtain ⟨p, ys, rfl, hp, hp', rr⟩ := hv
        have : Same (hide (fun a => (C.O a ∨ (W1 a).isSome = true) ∨ a = p) H') (Fz C (wset W1 p (.lst (es.map .im))) H') := fun b o e => by
          obtain ⟨h1, h2⟩ := hide_iff.mp e
          refine hide_iff.mpr ⟨fun z => h1 ?_, h2⟩
          rcases z with z | z
          · exact .inl (.inl z)
          · by_cases hb : b = p
            · exact .inr hb
            · rw [wset_ne hb] at z; exact .inl (.inr z)
        rcases hr with h2 | h2
        · obtain ⟨D3, s3⟩ := D1.sameNew s hp hp' (.ofRep (RepAll.same this rr))
          exact k _ (.pt p) _ _ D3 (s1.trans s3) rfl (h2 p (D1.fresh hp))
        · refine k _ (.im (.list es)) _ _ D2 (s1.trans s2) ⟨p, ys, rfl, hide_iff.mpr ⟨(fun z => z.elim (D1.nO hp) (fun z => by rw [D1.fresh hp] at z; cases z)), hp'⟩, RepAll.same (fun b o e => ?_) rr⟩ h2
          obtain ⟨g1, g2⟩ := hide_iff.mp e
          exact hide_iff.mpr ⟨fun z => g1 (.inl z), g2⟩
instance {S : DSp} : LSp C (spD S) E0 (dPure S fun _ => False) := ⟨fun D h hd k => pure_ok (fun c H' hc _ => hc.elim) D h hd k⟩
instance {sp : Sp} {E : XK} {f : List DV → Wd → DK → Prop} [ir : LSp C sp E f] [is : LA C ts ds] : LE C (tCall sp [] E ts) (dCB f ds) := ⟨fun D h k => is.go D h fun xs dvs H1 W1 D1 s1 v1 h1 => by
  show sp (xs ++ []) H1 _ E
  rw [List.append_nil]
  exact ir.go D1 v1 h1 (k.mono s1)⟩
end
end L2

set_option Elab.async false
set_option linter.all false
set_option maxRecDepth 100000
set_option maxHeartbeats 4000000
namespace L2
open PySem PySem.Spec PyProof.Rows
def W0 : Wd := fun _ => none
def noRs : Hp → Addr → Addr → Nat → Prop := fun _ _ _ _ => False
def noT : Addr → Prop := fun _ => False
def startD (N : List Str) (ds : List DV) : Rho := ds.map some ++ List.replicate (N.length - ds.length) none
def retR (W : Wd) (R : Res → Prop) : DV → Prop
  | .im d => R (.im d)
  | .pt p => ∃ vs ds W2, W p = some (.lst vs) ∧ frzL (frz 3) W vs = some (ds, W2) ∧ (W2 p).isSome = true ∧ R (.nw ds)
  | _ => False
def retE (R : Res → Prop) : DEnds := ⟨fun _ _ => R (.im .none), fun dv W => retR W R dv, fun _ _ => False, fun _ _ => False⟩
section
variable {C : DC} {σ : St} {H H' : Hp} {ρ : Rho} {W W' : Wd} {N : List Str} {F : Hp}
theorem Slots.none : ∀ n : Nat, Slots C F (List.replicate n Option.none) (List.replicate n Option.none)
  | 0 => trivial
  | n + 1 => Slots.none n
theorem Slots.start : ∀ {dvs : List DV} {vs : List V} (n : Nat), VAll C F dvs vs → Slots C F (dvs.map some ++ List.replicate n Option.none) (vs.map some ++ List.replicate n Option.none)
  | [], _, n, h => by cases h; exact Slots.none n
  | d :: r, _, n, ⟨y, ys, e, h, hr⟩ => by subst e; exact ⟨h, Slots.start n hr⟩
theorem ret_ok {R : Res → Prop} {dv : DV} {x : V} (D : DR C σ H' ρ W) (hT : ∀ p, C.H0 p = none ∨ C.T p → W p = none ∨ C.H0 p = none) (v : VAt C (Fz C W H') dv x) (h : retR W R dv) : ∃ r, R r ∧ ResAt C.O C.H0 H' r x := by
  cases dv with
  | im d => exact ⟨.im d, h, Rep.same (fun a o e => by obtain ⟨h1, h2⟩ := hide_iff.mp e; exact hide_iff.mpr ⟨fun z => h1 (.inl z), h2⟩) v⟩
  | pt p =>
    obtain ⟨vs, ds, W2, e, ef, hs, hr⟩ := h
    obtain ⟨h0, hO, xs, hx, rx⟩ := D.ce p _ e
    have h0' : C.H0 p = none := by
      rcases hT p h0 with z | z
      · rw [e] at z; cases z
      · exact z
    obtain ⟨D2, s2, r2, _⟩ := frzL_ok (frz_ok 3) D rx ef
    refine ⟨.nw ds, hr, p, xs, v, h0', hx, RepAll.same (fun a o q => ?_) r2⟩
    obtain ⟨g1, g2⟩ := hide_iff.mp q
    refine hide_iff.mpr ⟨fun z => ?_, g2⟩
    rcases z with z | z
    · exact g1 (.inl z)
    · subst z; exact g1 (.inr hs)
  | _ => exact h.elim
end
section
variable {P : Program} {w : World} {K : PySem.W.Frag} {mg : Str → Option Value} {base : Heap} {x qual : Str} {st : Stmt} {f : Addr} {fd : FuncData} {N ps : List Str} {k : Nat} {Sd : DSp}
theorem body_ok {vs : List V} {H : Hp} {Q : VK} {E : XK} {t : TS} (h : spD Sd vs H Q E) (hb : ∀ O X, ∃ d, LS ⟨K, noRs, H, noT, O, E, X⟩ t d ∧ ∀ ds R, Sd ds R X → d (retE R) (startD N (ds.map .im)) W0) : t { nx := fun _ H' => Q .non H', rt := Q } (start N vs) H := by
  obtain ⟨O, ds, R, X, hO, hr, hS, hR, hX⟩ := h
  obtain ⟨d, hd, hb⟩ := hb O X
  have fz : ∀ H1, Fz ⟨K, noRs, H, noT, O, E, X⟩ W0 H1 = hide O H1 := fun H1 => by
    funext a
    unfold Fz hide
    by_cases ha : O a
    · rw [if_pos ha, if_pos (.inl ha)]
    · rw [if_neg ha, if_neg (by rintro (z | z); exact ha z; cases z)]
  have D : DR ⟨K, noRs, H, noT, O, E, X⟩ (start N vs) H (startD N (ds.map .im)) W0 := by
    refine ⟨⟨fun z => z.elim, fun z => z.elim, fun c hc H' hf => hX c H' hc fun a o e => hf a o e (fun z => z)⟩, fun a o e _ => e, hO, fun a z => z.elim, ?_, fun p c e => by cases e⟩
    rw [fz H]
    have va : VAll ⟨K, noRs, H, noT, O, E, X⟩ (hide O H) (ds.map .im) vs := VAll.ofRep hr
    unfold start startD
    rw [va.length]
    exact Slots.start _ va
  refine hd.go D (hb ds R hS) ⟨fun σ' H' ρ' W' D' s q => ?_, fun σ' H' ρ' W' D' s q => q.elim, fun σ' H' ρ' W' D' s q => q.elim, fun x dv σ' H' ρ' W' D' s v q => ?_⟩
  · exact hR (.im .none) .non H' q (fun a o e => D'.fr a o e (fun z => z)) rfl
  · obtain ⟨r, hr, hv⟩ := ret_ok D' (fun p z => z.elim .inr fun z => z.elim) v q
    exact hR r x H' hr (fun a o e => D'.fr a o e (fun z => z)) hv
theorem spD_len (hlen : ∀ ds R X, Sd ds R X → ds.length = ps.length) : ∀ vs H Q E, spD Sd vs H Q E → vs.length = ps.length := fun vs H Q E ⟨O, ds, R, X, _, hr, hS, _⟩ => by rw [← hr.length]; exact hlen ds R X hS
/-- a def over data, that raises nothing -/
theorem Fun.okD (F : Fun K x qual st f fd) (S : FnScope N ps (defScope st)) (hlen : ∀ ds R X, Sd ds R X → ds.length = ps.length)
    (hbody : ∀ (cdv : Value) (A : Around) (outer : List Env) (s : Shared) (H : Hp) (E : XK), Room k (A.deeper (envOfC qual (defScope st) s.heap.objs.size f cdv)) →
      ∃ t, SSs (cxOf CX0 P w K mg base N qual (defScope st) f cdv A outer s H E).nox (defBody st) t ∧ ∀ O X, ∃ d, LS ⟨K, noRs, H, noT, O, E, X⟩ t d ∧ ∀ ds R, Sd ds R X → d (retE R) (startD N (ds.map .im)) W0) : FnOk P w K mg base CX0 (k + 1) f fd ps (spD Sd) :=
  F.okS S (spD_len hlen) fun cdv A outer s H vs Q E hr h => by
    obtain ⟨t, h1, h2⟩ := hbody cdv A outer s H E hr
    exact ⟨t, h1, body_ok h h2⟩
end
def FrzKeep (f : Wd → DV → Option (PyData × Wd)) : Prop := ∀ {W W' : Wd} {dv : DV} {d : PyData}, f W dv = some (d, W') → ∀ a, trayish (W a) → W' a = W a
theorem frzL_keep {f : Wd → DV → Option (PyData × Wd)} (hf : FrzKeep f) : ∀ {dvs : List DV} {W W' : Wd} {ds : List PyData}, frzL f W dvs = some (ds, W') → ∀ a, trayish (W a) → W' a = W a
  | [], W, _, _, e, a, _ => by cases e; rfl
  | d :: r, W, W', ds, e, a, ht => by
    unfold frzL at e
    cases q : f W d with
    | none => rw [q] at e; cases e
    | some dw =>
      obtain ⟨d', W1⟩ := dw
      rw [q] at e
      cases q2 : frzL f W1 r with
      | none => simp [q2] at e
      | some dw2 =>
        obtain ⟨ds', W2⟩ := dw2
        simp [q2] at e
        obtain ⟨e3, e4⟩ := e
        subst e3 e4
        have h1 := hf q a ht
        rw [frzL_keep hf q2 a (by rw [h1]; exact ht), h1]
theorem frz_keep : ∀ n : Nat, FrzKeep (frz n)
  | n, W, W', .im d', d, e, a, ht => by
    have e' : (d', W) = (d, W') := by cases n <;> exact Option.some.inj e
    cases e'; rfl
  | 0, _, _, .pt p, _, e, _, _ => by cases e
  | n + 1, W, W', .pt p, d, e, a, ht => by
    unfold frz at e
    cases q : W p with
    | none => rw [q] at e; cases e
    | some c =>
      rw [q] at e
      cases c with
      | lst ys =>
        cases q2 : frzL (frz n) (wdel W p) ys with
        | none => simp [q2] at e
        | some dw =>
          obtain ⟨ds, W1⟩ := dw
          simp [q2] at e
          obtain ⟨e3, e4⟩ := e
          subst e3 e4
          have ap : a ≠ p := fun z => by rw [z, q] at ht; exact ht
          rw [frzL_keep (frz_keep n) q2 a (by rw [wdel_ne ap]; exact ht), wdel_ne ap]
      | tray _ _ => cases e
      | part => cases e
      | dk _ => cases e
      | dt _ => cases e
  | 0, _, _, .cst _, _, e, _, _ => by cases e
  | n + 1, _, _, .cst _, _, e, _, _ => by cases e
  | 0, _, _, .rf _, _, e, _, _ => by cases e
  | n + 1, _, _, .rf _, _, e, _, _ => by cases e
  | 0, _, _, .ty _, _, e, _, _ => by cases e
  | n + 1, _, _, .ty _, _, e, _, _ => by cases e
  | 0, _, _, .exn _, _, e, _, _ => by cases e
  | n + 1, _, _, .exn _, _, e, _, _ => by cases e
  | 0, _, _, .raw _, _, e, _, _ => by cases e
  | n + 1, _, _, .raw _, _, e, _, _ => by cases e
  | 0, _, _, .scr _, _, e, _, _ => by cases e
  | n + 1, _, _, .scr _, _, e, _, _ => by cases e
/-! ### defs that draw from the law's tray -/
abbrev DTp := Nat → List PyData → (Res → Nat → Prop) → Prop
def spT (Rs : Hp → Addr → Addr → Nat → Prop) (S : DTp) : Sp := fun vs H Q _ => ∃ (t g : Addr) (n : Nat) (vs' : List V) (O : Addr → Prop) (ds : List PyData) (R : Res → Nat → Prop), vs = .ref t :: vs' ∧ Rs H t g n ∧ g ≠ t ∧ (∀ a, O a → H a ≠ none) ∧ ¬ O t ∧ ¬ O g ∧
  RepAll (hide (fun a => O a ∨ a = t ∨ a = g) H) ds vs' ∧ S n ds R ∧ ∀ r n' v H', R r n' → Kp t g H H' → Rs H' t g n' → ResAt (fun a => O a ∨ a = t ∨ a = g) H H' r v → Q v H'
def dTray (S : DTp) : List DV → Wd → DK → Prop := fun as W Q => ∃ t g n as', as = .pt t :: as' ∧ W t = some (.tray g n) ∧
  ((∃ ds, datL (dat 4 W) as' = some ds ∧ S n ds fun r n' => ImR r = true ∧ newR (wset W t (.tray g n')) Q r) ∨ ∃ ds W1, frzL (frz 4) W as' = some (ds, W1) ∧ W1 t = some (.tray g n) ∧ S n ds fun r n' => newR (wset W1 t (.tray g n')) Q r)
section
variable {C : DC} {σ : St} {H H' : Hp} {ρ : Rho} {W W' : Wd} {Qd : DK} {Q : VK}
theorem wset_comm {W : Wd} {a b : Addr} {c d : Cell} (h : a ≠ b) : wset (wset W a c) b d = wset (wset W b d) a c := by
  funext z; unfold wset
  by_cases h1 : z = b
  · subst h1; rw [if_pos rfl, if_neg (Ne.symm h), if_pos rfl]
  · rw [if_neg h1]; by_cases h2 : z = a
    · rw [if_pos h2, if_pos h2]
    · rw [if_neg h2, if_neg h2, if_neg h1]
/-- the tray was drawn from, and a new list came -/
theorem DR.kpNew {t g p : Addr} {n n' : Nat} {xs : List V} {dvs : List DV} (D : DR C σ H ρ W) (e : W t = some (.tray g n)) (k : Kp t g H H') (r : C.Rs H' t g n') (hp : H p = none) (hp' : H' p = some (.lst xs))
    (rx : VAll C (Fz C (wset (wset W t (.tray g n')) p (.lst dvs)) H') dvs xs) : DR C σ H' ρ (wset (wset W t (.tray g n')) p (.lst dvs)) ∧ Same (Fz C W H) (Fz C (wset (wset W t (.tray g n')) p (.lst dvs)) H') := by
  obtain ⟨_, eg, uq⟩ := (D.ce t _ e).2.2
  have pt : p ≠ t := fun z => D.there e (by rw [← z]; exact hp)
  have pg : p ≠ g := fun z => D.there eg (by rw [← z]; exact hp)
  have gt : g ≠ t := fun z => by rw [z, e] at eg; cases eg
  obtain ⟨D1, s1⟩ := D.kp e k r
  have keep : ∀ a, a ≠ t → a ≠ g → H a ≠ none → H' a = H a := fun a h1 h2 h => by
    cases q : H a with
    | none => exact absurd q h
    | some o => exact k a o q h1 h2
  refine D.step (fun a z => ?_) (fun a u q w' => ?_) (fun a ha => ?_) fun s q c e' => ?_
  · by_cases hq : a = p
    · exact .inr (by rw [hq]; exact hp)
    · rw [wset_ne hq] at z
      by_cases hq : a = t
      · exact .inl (by rw [hq, e]; rfl)
      · rw [wset_ne hq] at z; exact .inl z
  · exact k a u q (fun z => by rw [z, e] at w'; cases w') (fun z => by rw [z, eg] at w'; cases w')
  · by_cases h1 : a = t
    · rw [h1]; exact (D.ok.rn r).1.ne
    by_cases h2 : a = g
    · rw [h2]; exact (D.ok.rn r).2.ne
    rw [keep a h1 h2 ha]; exact ha
  · by_cases hq : q = p
    · subst hq
      rw [wset_same] at e'; cases e'
      exact ⟨.inl (D.nH0 hp), D.nO hp, xs, hp', rx⟩
    · rw [wset_ne hq] at e'
      by_cases hqt : q = t
      · subst hqt
        rw [wset_same] at e'; cases e'
        refine ⟨(D.ce q _ e).1, (D.ce q _ e).2.1, r, by rw [wset_ne (Ne.symm pg), wset_ne gt]; exact eg, fun t' g' m z => ?_⟩
        by_cases ht : t' = p
        · subst ht; rw [wset_same] at z; cases z
        · rw [wset_ne ht] at z
          by_cases ht : t' = q
          · exact ht
          · rw [wset_ne ht] at z; exact uq t' g' m z
      · rw [wset_ne hqt] at e'
        obtain ⟨h1', h2, h3⟩ := D.ce q c e'
        refine ⟨h1', h2, ?_⟩
        by_cases hqg : q = g
        · subst hqg
          rw [eg] at e'; cases e'
          exact (D.ok.rn r).2
        · cases c with
          | tray g2 n2 => exact absurd (uq q g2 n2 e') hqt
          | part => show Mu (H' q); rw [keep q hqt hqg (D.there e')]; exact h3
          | lst ds => obtain ⟨xs, z, rr⟩ := h3; exact ⟨xs, k q _ z hqt hqg, rr.mono s⟩
          | dk ds => obtain ⟨xs, z, kk, rr⟩ := h3; exact ⟨xs, k q _ z hqt hqg, kk, rr.mono s⟩
          | dt ds => obtain ⟨xs, z, kk, rr⟩ := h3; exact ⟨xs, k q _ z hqt hqg, kk, rr.mono s⟩
theorem tray_ok {S : DTp} {E : XK} {as : List DV} {xs : List V} (D : DR C σ H ρ W) (h : VAll C (Fz C W H) as xs) (hd : dTray S as W Qd) (k : KE C σ ρ W H Qd Q) : spT C.Rs S xs H Q E := by
  obtain ⟨t, g, n, as', rfl, et, hd⟩ := hd
  obtain ⟨y, ys, rfl, hy, hys⟩ := h
  cases hy
  have main : ∀ (W : Wd) (O : Addr → Prop) (ds : List PyData) (R : Res → Nat → Prop), DR C σ H ρ W → W t = some (.tray g n) → (∀ a, O a → H a ≠ none) → ¬ O t → ¬ O g → RepAll (hide (fun a => O a ∨ a = t ∨ a = g) H) ds ys → S n ds R →
      (∀ r n' v H', R r n' → Kp t g H H' → C.Rs H' t g n' → ResAt (fun a => O a ∨ a = t ∨ a = g) H H' r v → Q v H') → spT C.Rs S (.ref t :: ys) H Q E := fun W O ds R D et ho h1 h2 hr hS hR => by
    obtain ⟨_, nO, hRs, eg, uq⟩ := D.ce t _ et
    have gt : g ≠ t := fun z => by rw [z, et] at eg; cases eg
    exact ⟨t, g, n, ys, O, ds, R, rfl, hRs, gt, ho, h1, h2, hr, hS, hR⟩
  have small : ∀ (W : Wd), DR C σ H ρ W → W t = some (.tray g n) → ∀ H1 : Hp, Same (hide (fun a => C.O a ∨ trayish (W a)) H1) (hide (fun a => C.O a ∨ a = t ∨ a = g) H1) := fun W D et H1 a o e => by
    obtain ⟨_, eg, _⟩ := (D.ce t _ et).2.2
    obtain ⟨h1, h2⟩ := hide_iff.mp e
    refine hide_iff.mpr ⟨fun z => h1 ?_, h2⟩
    rcases z with z | z | z
    · exact .inl z
    · exact .inr (by rw [z, et]; trivial)
    · exact .inr (by rw [z, eg]; trivial)
  rcases hd with ⟨ds, e, hS⟩ | ⟨ds, W1, e, et1, hS⟩
  · obtain ⟨_, nO, hRs0, eg0, _⟩ := D.ce t _ et
    refine main W C.O ds _ D et D.ho nO (D.ce g _ eg0).2.1 (RepAll.same (small W D et H) (datL_all (fun dv x d h e => D.dat 4 h e) hys e)) hS fun r n' v H' hr kp hRs hv => ?_
    obtain ⟨D1, s1⟩ := D.kp et kp hRs
    cases r with
    | im d => exact k _ (.im d) _ _ D1 s1 (Rep.tp (D1.tp fun a ha => .inl ha) hr.1 hv) hr.2
    | nw es =>
      obtain ⟨p, zs, rfl, hp, hp', rr⟩ := hv
      have base : RepAll (Fz C (wset W t (.tray g n')) H') es zs := RepAll.tp (D1.tp fun a ha => .inl (.inl ha)) hr.1 rr
      have same2 : Tp (Fz C (wset W t (.tray g n')) H') (Fz C (wset (wset W t (.tray g n')) p (.lst (es.map .im))) H') := fun b zs e => by
        obtain ⟨h1, h2⟩ := hide_iff.mp e
        have nb : b ≠ p := fun z => by rw [z, hp'] at h2; cases h2
        refine hide_iff.mpr ⟨fun z => h1 (z.elim .inl fun z => .inr ?_), h2⟩
        rw [wset_ne nb] at z; exact z
      have fr' : wset W t (.tray g n') p = none := by rw [wset_ne (fun z => D.there et (by rw [← z]; exact hp))]; exact D.fresh hp
      rcases hr.2 with h2 | h2
      · obtain ⟨D2, s2⟩ := D.kpNew et kp hRs hp hp' (.ofRep (RepAll.tp same2 hr.1 base))
        exact k _ (.pt p) _ _ D2 s2 rfl (h2 p fr')
      · exact k _ (.im (.list es)) _ _ D1 s1 ⟨p, zs, rfl, hide_iff.mpr ⟨(fun z => z.elim (D.nO hp) (fun z => by rw [fr'] at z; cases z)), hp'⟩, base⟩ h2
  · obtain ⟨D1, s1, r1, k1⟩ := frzL_ok (frz_ok 4) D hys e
    obtain ⟨_, _, _, eg, _⟩ := D1.ce t _ et1
    have sub : ∀ H1 : Hp, Same (Fz C W1 H1) (hide (fun a => (C.O a ∨ ((W1 a).isSome = true ∧ a ≠ t ∧ a ≠ g)) ∨ a = t ∨ a = g) H1) := fun H1 a o e => by
      obtain ⟨h1, h2⟩ := hide_iff.mp e
      refine hide_iff.mpr ⟨fun z => h1 ?_, h2⟩
      rcases z with (z | z) | z | z
      · exact .inl z
      · exact .inr z.1
      · exact .inr (by rw [z, et1]; rfl)
      · exact .inr (by rw [z, eg]; rfl)
    refine main W1 (fun a => C.O a ∨ ((W1 a).isSome = true ∧ a ≠ t ∧ a ≠ g)) ds _ D1 et1 (fun a ha => ?_) (fun z => ?_) (fun z => ?_) (RepAll.same (sub H) r1) hS fun r n' v H' hr kp hRs hv => ?_
    · rcases ha with ha | ⟨ha, _⟩
      · exact D1.ho a ha
      · cases q : W1 a with
        | none => rw [q] at ha; cases ha
        | some c => exact D1.there q
    · rcases z with z | z
      · exact (D1.ce t _ et1).2.1 z
      · exact z.2.1 rfl
    · rcases z with z | z
      · exact (D1.ce g _ eg).2.1 z
      · exact z.2.2 rfl
    · obtain ⟨D2, s2⟩ := D1.kp et1 kp hRs
      have sup : ∀ W2 : Wd, (∀ a, (W2 a).isSome = true → (W1 a).isSome = true) → Same (hide (fun a => (C.O a ∨ ((W1 a).isSome = true ∧ a ≠ t ∧ a ≠ g)) ∨ a = t ∨ a = g) H') (Fz C W2 H') := fun W2 hw a o e => by
        obtain ⟨h1, h2⟩ := hide_iff.mp e
        refine hide_iff.mpr ⟨fun z => h1 ?_, h2⟩
        rcases z with z | z
        · exact .inl (.inl z)
        · by_cases ht : a = t
          · exact .inr (.inl ht)
          by_cases hg : a = g
          · exact .inr (.inr hg)
          exact .inl (.inr ⟨hw a z, ht, hg⟩)
      have hw : ∀ a, (wset W1 t (.tray g n') a).isSome = true → (W1 a).isSome = true := fun a z => by
        by_cases ht : a = t
        · rw [ht, et1]; rfl
        · rw [wset_ne ht] at z; exact z
      cases r with
      | im d => exact k _ (.im d) _ _ D2 (s1.trans s2) (Rep.same (sup _ hw) hv) hr
      | nw es =>
        obtain ⟨p, zs, rfl, hp, hp', rr⟩ := hv
        have sup2 : Same (hide (fun a => ((C.O a ∨ ((W1 a).isSome = true ∧ a ≠ t ∧ a ≠ g)) ∨ a = t ∨ a = g) ∨ a = p) H') (Fz C (wset (wset W1 t (.tray g n')) p (.lst (es.map .im))) H') := fun a o e => by
          obtain ⟨h1, h2⟩ := hide_iff.mp e
          refine hide_iff.mpr ⟨fun z => h1 ?_, h2⟩
          rcases z with z | z
          · exact .inl (.inl (.inl z))
          · by_cases ha : a = p
            · exact .inr ha
            · rw [wset_ne ha] at z
              by_cases ht : a = t
              · exact .inl (.inr (.inl ht))
              by_cases hg : a = g
              · exact .inl (.inr (.inr hg))
              exact .inl (.inl (.inr ⟨hw a z, ht, hg⟩))
        have fr' : wset W1 t (.tray g n') p = none := by rw [wset_ne (fun z => D1.there et1 (by rw [← z]; exact hp))]; exact D1.fresh hp
        rcases hr with h2 | h2
        · obtain ⟨D3, s3⟩ := D1.kpNew et1 kp hRs hp hp' (.ofRep (RepAll.same sup2 rr))
          exact k _ (.pt p) _ _ D3 (s1.trans s3) rfl (h2 p fr')
        · refine k _ (.im (.list es)) _ _ D2 (s1.trans s2) ⟨p, zs, rfl, hide_iff.mpr ⟨(fun z => z.elim (D1.nO hp) (fun z => by rw [fr'] at z; cases z)), hp'⟩, RepAll.same (fun a o e => ?_) rr⟩ h2
          obtain ⟨g1, g2⟩ := hide_iff.mp e
          exact sup _ hw a o (hide_iff.mpr ⟨fun z => g1 (.inl z), g2⟩)
instance {Rs : Hp → Addr → Addr → Nat → Prop} [hs : RsIs C Rs] {S : DTp} {E : XK} : LSp C (spT Rs S) E (dTray S) := by
  obtain ⟨rfl⟩ := hs
  exact ⟨fun D h hd k => tray_ok D h hd k⟩
def WT (t g : Addr) (n : Nat) : Wd := wset (wset W0 g .part) t (.tray g n)
def retT (t g : Addr) (R : Res → Nat → Prop) : DEnds := ⟨fun _ W => ∃ n, W t = some (.tray g n) ∧ R (.im .none) n, fun dv W => ∃ n, W t = some (.tray g n) ∧ retR W (fun r => R r n) dv, fun _ _ => False, fun _ _ => False⟩
end
structure RsOk (Rs : Hp → Addr → Addr → Nat → Prop) : Prop where
  rs : ∀ {H H' : Hp} {t g : Addr} {n : Nat}, Rs H t g n → H' t = H t → H' g = H g → Rs H' t g n
  rn : ∀ {H : Hp} {t g : Addr} {n : Nat}, Rs H t g n → Mu (H t) ∧ Mu (H g)
section
variable {P : Program} {w : World} {K : PySem.W.Frag} {mg : Str → Option Value} {base : Heap} {x qual : Str} {st : Stmt} {f : Addr} {fd : FuncData} {N ps : List Str} {k : Nat} {Sd : DTp} {Rs : Hp → Addr → Addr → Nat → Prop}
theorem bodyT_ok {vs : List V} {H : Hp} {Q : VK} {E : XK} {t : TS} (ok : RsOk Rs) (h : spT Rs Sd vs H Q E) (hb : ∀ a g O, ∃ d, LS ⟨K, Rs, H, fun z => z = a ∨ z = g, O, E, fun _ => False⟩ t d ∧ ∀ n ds R, Sd n ds R → d (retT a g R) (startD N (.pt a :: ds.map .im)) (WT a g n)) : t { nx := fun _ H' => Q .non H', rt := Q } (start N vs) H := by
  obtain ⟨a, g, n, vs', O, ds, R, rfl, hRs, gt, hO, nt, ng, hr, hS, hR⟩ := h
  obtain ⟨d, hd, hb⟩ := hb a g O
  have Wg : WT a g n g = some .part := by unfold WT; rw [wset_ne gt]; exact wset_same
  have Wa : WT a g n a = some (.tray g n) := wset_same
  have Wz : ∀ z c, WT a g n z = some c → z = a ∨ z = g := fun z c e => by
    unfold WT at e
    by_cases h1 : z = a
    · exact .inl h1
    · rw [wset_ne h1] at e
      by_cases h2 : z = g
      · exact .inr h2
      · rw [wset_ne h2] at e; cases e
  have fz : ∀ H1, Same (hide (fun z => O z ∨ z = a ∨ z = g) H1) (Fz ⟨K, Rs, H, fun z => z = a ∨ z = g, O, E, fun _ => False⟩ (WT a g n) H1) := fun H1 b o e => by
    obtain ⟨h1, h2⟩ := hide_iff.mp e
    refine hide_iff.mpr ⟨fun z => h1 ?_, h2⟩
    rcases z with z | z
    · exact .inl z
    · cases q : WT a g n b with
      | none => rw [q] at z; cases z
      | some c => exact .inr (Wz b c q)
  have D : DR ⟨K, Rs, H, fun z => z = a ∨ z = g, O, E, fun _ => False⟩ (start N (.ref a :: vs')) H (startD N (.pt a :: ds.map .im)) (WT a g n) := by
    refine ⟨⟨ok.rs, ok.rn, fun c hc => hc.elim⟩, fun b o e _ => e, hO, fun b z => ?_, ?_, fun p c e => ?_⟩
    · rcases z with z | z
      · rw [z]; exact (ok.rn hRs).1.ne
      · rw [z]; exact (ok.rn hRs).2.ne
    · have va : VAll ⟨K, Rs, H, fun z => z = a ∨ z = g, O, E, fun _ => False⟩ (Fz ⟨K, Rs, H, fun z => z = a ∨ z = g, O, E, fun _ => False⟩ (WT a g n) H) (.pt a :: ds.map .im) (.ref a :: vs') := ⟨_, _, rfl, rfl, (VAll.ofRep hr).mono (fz H)⟩
      unfold start startD
      rw [va.length]
      exact Slots.start _ va
    · rcases Wz p c e with z | z
      · subst z
        rw [Wa] at e; cases e
        refine ⟨.inr (.inl rfl), nt, hRs, Wg, fun t' g' n' z => ?_⟩
        rcases Wz t' _ z with q | q
        · exact q
        · rw [q, Wg] at z; cases z
      · subst z
        rw [Wg] at e; cases e
        exact ⟨.inr (.inr rfl), ng, (ok.rn hRs).2⟩
  have fin : ∀ σ' H' ρ' W' n', DR ⟨K, Rs, H, fun z => z = a ∨ z = g, O, E, fun _ => False⟩ σ' H' ρ' W' → W' a = some (.tray g n') → Kp a g H H' ∧ Rs H' a g n' := fun σ' H' ρ' W' n' D' e =>
    ⟨fun b o q h1 h2 => D'.fr b o q (fun z => z.elim h1 h2), (D'.ce a _ e).2.2.1⟩
  refine hd.go D (hb n ds R hS) ⟨fun σ' H' ρ' W' D' s q => ?_, fun σ' H' ρ' W' D' s q => q.elim, fun σ' H' ρ' W' D' s q => q.elim, fun x dv σ' H' ρ' W' D' s v q => ?_⟩
  · obtain ⟨n', e, q⟩ := q
    obtain ⟨h1, h2⟩ := fin σ' H' ρ' W' n' D' e
    exact hR (.im .none) n' .non H' q h1 h2 rfl
  · obtain ⟨n', e, q⟩ := q
    obtain ⟨h1, h2⟩ := fin σ' H' ρ' W' n' D' e
    have eg' : W' g = some .part := (D'.ce a _ e).2.2.2.1
    cases dv with
    | im d =>
      refine hR (.im d) n' x H' q h1 h2 (Rep.same (fun b o e2 => ?_) v)
      obtain ⟨g1, g2⟩ := hide_iff.mp e2
      refine hide_iff.mpr ⟨fun z => g1 ?_, g2⟩
      rcases z with z | z | z
      · exact .inl z
      · exact .inr (by rw [z, e]; rfl)
      · exact .inr (by rw [z, eg']; rfl)
    | pt p =>
      obtain ⟨us, es, W2, e1, ef, hs, hr2⟩ := q
      obtain ⟨h0, hO2, xs, hx, rx⟩ := D'.ce p _ e1
      have pa : p ≠ a := fun z => by rw [z, e] at e1; cases e1
      have pg : p ≠ g := fun z => by rw [z, eg'] at e1; cases e1
      obtain ⟨D2, s2, r2, _⟩ := frzL_ok (frz_ok 3) D' rx ef
      have ea2 : (W2 a).isSome = true ∧ (W2 g).isSome = true := by
        have q1 := frzL_keep (frz_keep 3) ef a (by rw [e]; trivial)
        have q2 := frzL_keep (frz_keep 3) ef g (by rw [eg']; trivial)
        rw [q1, q2, e, eg']; exact ⟨rfl, rfl⟩
      refine hR (.nw es) n' x H' hr2 h1 h2 ⟨p, xs, v, h0.elim id fun z => z.elim (fun z => absurd z pa) fun z => absurd z pg, hx, RepAll.same (fun b o q => ?_) r2⟩
      obtain ⟨g1, g2⟩ := hide_iff.mp q
      refine hide_iff.mpr ⟨fun z => g1 ?_, g2⟩
      rcases z with (z | z | z) | z
      · exact .inl z
      · exact .inr (by rw [z]; exact ea2.1)
      · exact .inr (by rw [z]; exact ea2.2)
      · exact .inr (by rw [z]; exact hs)
    | _ => exact q.elim
theorem spT_len {m : Nat} (hm : ps.length = m + 1) (hlen : ∀ n ds R, Sd n ds R → ds.length = m) : ∀ vs H Q E, spT Rs Sd vs H Q E → vs.length = ps.length := fun vs H Q E ⟨t, g, n, vs', O, ds, R, e, _, _, _, _, _, hr, hS, _⟩ => by rw [e, List.length_cons, ← hr.length, hlen n ds R hS, hm]
/-- a def over data that draws -/
theorem Fun.okT (F : Fun K x qual st f fd) (S : FnScope N ps (defScope st)) (ok : RsOk Rs) {m : Nat} (hm : ps.length = m + 1) (hlen : ∀ n ds R, Sd n ds R → ds.length = m)
    (hbody : ∀ (cdv : Value) (A : Around) (outer : List Env) (s : Shared) (H : Hp) (E : XK), Room k (A.deeper (envOfC qual (defScope st) s.heap.objs.size f cdv)) →
      ∃ t, SSs (cxOf CX0 P w K mg base N qual (defScope st) f cdv A outer s H E).nox (defBody st) t ∧ ∀ a g O, ∃ d, LS ⟨K, Rs, H, fun z => z = a ∨ z = g, O, E, fun _ => False⟩ t d ∧ ∀ n ds R, Sd n ds R → d (retT a g R) (startD N (.pt a :: ds.map .im)) (WT a g n)) : FnOk P w K mg base CX0 (k + 1) f fd ps (spT Rs Sd) :=
  F.okS S (spT_len hm hlen) fun cdv A outer s H vs Q E hr h => by
    obtain ⟨t, h1, h2⟩ := hbody cdv A outer s H E hr
    exact ⟨t, h1, bodyT_ok ok h h2⟩
end
end L2

set_option Elab.async false
set_option linter.all false
set_option maxRecDepth 100000
set_option maxHeartbeats 4000000
namespace L2
open PySem PySem.Spec PyProof.Rows
section
variable {X : Cx}
/-- xs.insert(0, y) -/
def rInsert0 : V → List V → Hp → VK → Prop := fun x vs H Q => ∃ l xs y, x = .ref l ∧ vs = [.int 0, y] ∧ H l = some (.lst xs) ∧ xs.length < sizeLine ∧ Q .non (upd H l (.lst (y :: xs)))
theorem mt_insert0 : MtM X "list.insert" rInsert0 := by
  intro pins s σ H x vs v us Q I rx rv h
  obtain ⟨l, xs, y, rfl, rfl, hH, hz, q⟩ := h
  cases rx
  obtain ⟨u0, u, rfl, ⟨t, rfl⟩, ru⟩ := rv.two
  obtain ⟨z, its, n, r, hl, e⟩ := I.lstM hH
  refine call_meets F.slot_list_insert ⟨_, e, rfl⟩ F.entry_list_insert (F.args_list_insert_3 _ _ _) (PySem.AutoListH.list_insert_list_int_val_1 l its.toArray n 0 t u (by decide +kernel) (by rw [List.size_toArray]; omega)) ⟨e, ?_⟩
  refine ⟨.non, _, I.lset (its' := u :: its) hH e ?_ (.cons ru r) ?_, rfl, q⟩
  · simp
  · rw [List.length_cons]; omega
/-- isinstance(x, (T, ..)) of data, built-in types -/
theorem isinst_tup {pins : List (Addr × Obj)} {s : Shared} {σ : St} {H : Hp} {A : Around} {E : Value → Shared → Prop} {Q : Value → Shared → Prop} {x : V} {u : Value} {d : PyData} {tp : Addr} {dd : Option Addr} {its : Array Value} {n : Nat} {sl : Array (Option Value)} {b : Bool} (I : Inv X pins σ H s) (rx : RelV x u) (hd : Rep H d x)
    (ht : s.heap.get? tp = some ⟨.type "tuple", dd, .seq its n, sl⟩) (e : PySem.W.kitAny X.K (.type (tyD d)) its.toList = some b) (h : ∀ tk, Q (.bool b) { s with toks := tk }) : wpAny (model X.prog X.w) A (call (.builtin "isinstance") [u, .ref tp]) Q E s := by
  cases d with
  | none => cases hd; cases (show u = Value.none from rx); exact PySem.W.kia_tup PySem.W.kitx_none I.kIn True.intro ht e (fun z => nomatch z) h
  | bool y => cases hd; cases (show u = Value.bool y from rx); exact PySem.W.kia_tup PySem.W.kitx_bool I.kIn True.intro ht e (fun z => nomatch z) h
  | int i => cases hd; obtain ⟨t, q⟩ := (show ∃ t, u = Value.int i t from rx); cases q; exact PySem.W.kia_tup PySem.W.kitx_int I.kIn True.intro ht e (fun z => nomatch z) h
  | str y => cases hd; obtain ⟨t, q⟩ := (show ∃ t, u = Value.str y t from rx); cases q; exact PySem.W.kia_tup PySem.W.kitx_str I.kIn True.intro ht e (fun z => nomatch z) h
  | list ds =>
    obtain ⟨a, xs, rfl, ea, _⟩ := hd
    cases (show u = Value.ref a from rx)
    obtain ⟨_, _, n, _, h1⟩ := (show ObjOk X.prog X.w H s.heap a (.lst xs) from I.hok a _ ea)
    exact PySem.W.kia_tup PySem.W.kitx_list I.kIn ⟨_, h1, rfl⟩ ht e (fun z => nomatch z) h
  | tuple ds =>
    obtain ⟨a, xs, rfl, ea, _⟩ := hd
    cases (show u = Value.ref a from rx)
    obtain ⟨_, _, _, p⟩ := (show ObjOk X.prog X.w H s.heap a (.tup xs) from I.hok a _ ea)
    obtain ⟨o, h1, h2, _⟩ := p
    exact PySem.W.kia_tup PySem.W.kitx_tuple I.kIn ⟨o, h1, h2⟩ ht e (fun z => nomatch z) h
  | dict _ => exact hd.elim
def rIsTy (K : PySem.W.Frag) : List V → Hp → VK → Prop := fun xs H Q => ∃ (x : V) (d : PyData) (tp : Addr) (Ts : List String) (b : Bool), xs = [x, .ref tp] ∧ Rep H d x ∧ H tp = some (.tup (Ts.map V.ty)) ∧ PySem.W.kitAny K (.type (tyD d)) (Ts.map Value.type) = some b ∧ Q (.bl b) H
theorem vals_tys : ∀ {cs : List String} {us : List Value}, Vals (cs.map V.ty) us → us = cs.map Value.type
  | [], _, .nil => rfl
  | c :: r, _, .cons h t => by rw [show _ = Value.type c from h, vals_tys t]; rfl
theorem call_isTy : CallR X (.builtin "isinstance") (rIsTy X.K) := by
  intro pins s σ H xs us Q I rv ⟨x, d, tp, Ts, b, e, hd, ht, hk, q⟩
  subst e
  obtain ⟨u, w', rfl, r1, r2⟩ := vals2 rv
  cases (show w' = Value.ref tp from r2)
  obtain ⟨_, its, rvs, ⟨oc, od, odt, osl⟩, e1, e2, n, e3⟩ := (show ObjOk X.prog X.w H s.heap tp (.tup (Ts.map V.ty)) from I.hok tp _ ht)
  cases e2
  cases e3
  rw [vals_tys rvs] at e1
  exact isinst_tup I r1 hd e1 (by simpa using hk) fun tk => ⟨.bl _, H, I.tok tk, rfl, q⟩
theorem call_isTyK {K : PySem.W.Frag} (h : X.K = K) : CallR X (.builtin "isinstance") (rIsTy K) := by subst h; exact call_isTy
/-- either of two walks -/
def iOr (a b : TI) : TI := fun σ H R => a σ H R ∨ b σ H R
theorem i_or {tg e : Expr} {a b : TI} (h1 : SI X tg e a) (h2 : SI X tg e b) : SI X tg e (iOr a b) := ⟨fun pins s σ H R I h => h.elim (h1.run pins s σ H R I) (h2.run pins s σ H R I)⟩
end
/-! try: f(..) except C as n: .. -/
section
variable {X : Cx} {k l : Nat} {f Cc : Addr} {fd : FuncData} {ps : List Str} {sp : Sp} {n fx cx : Str} {fp cpos epos cp hp pos : Pos} {e : Expr} {es : List Expr} {b₀ : Stmt} {suite : List Stmt} {ta : TA} {ts : TS}
end
end L2

set_option Elab.async false
set_option linter.all false
set_option maxRecDepth 100000
set_option maxHeartbeats 4000000
namespace L2
open PySem PySem.Spec PyProof.Rows
section
variable {C : DC} {ta : TE} {da : DTE} {ts : TA} {ds : DTA} {σ : St} {H H' : Hp} {ρ : Rho} {W W' : Wd} {Qd : DK} {Q : VK} {x : V} {dv : DV} {F F' : Hp} {vs : List DV}
def dInsert0 : DV → List DV → Wd → DK → Prop := fun a as W Q => ∃ p vs v, a = .pt p ∧ as = [.im (.int 0), v] ∧ W p = some (.lst vs) ∧ vs.length < sizeLine ∧ Q (.im .none) (wset W p (.lst (v :: vs)))
instance : LBM C rInsert0 dInsert0 := ⟨fun D h1 h2 ⟨p, vs, v, e1, e2, e3, hl, q⟩ k => by
  subst e1 e2
  cases h1
  obtain ⟨z, y, rfl, hz, hy⟩ := h2.two_inv
  cases hz
  obtain ⟨_, _, xs, h3, r⟩ := D.ce p _ e3
  exact ⟨p, xs, y, rfl, rfl, h3, by rw [← r.length]; exact hl, k.to (dv := .im .none) (D.wr e3 (show VAll C _ (v :: vs) (y :: xs) from ⟨y, xs, rfl, hy, r⟩)) rfl q⟩⟩
def dIsTy (K : PySem.W.Frag) : List DV → Wd → DK → Prop := fun as W Q => ∃ (a : DV) (d : PyData) (Ts : List String) (b : Bool), as = [a, .raw (Ts.map V.ty)] ∧ dat 4 W a = some d ∧ PySem.W.kitAny K (.type (tyD d)) (Ts.map Value.type) = some b ∧ Q (.im (.bool b)) W
instance {K : PySem.W.Frag} [hk : KIs C K] : LCB C (rIsTy K) (dIsTy K) := by
  obtain ⟨rfl⟩ := hk
  exact ⟨fun D h ⟨a, d, Ts, b, e, e1, hk, q⟩ k => by
  subst e
  obtain ⟨x, y, rfl, hx, hy⟩ := h.two_inv
  obtain ⟨t, rfl, ht⟩ := hy
  exact ⟨x, d, t, Ts, b, rfl, D.datH hx e1, Fz.le ht, hk, k.now (dv := .im (.bool _)) D rfl q⟩⟩
def dIOr (a b : DTI) : DTI := fun ρ W Q => a ρ W Q ∨ b ρ W Q
instance {u w : TI} {du dw : DTI} [iu : LI C u du] [iw : LI C w dw] : LI C (iOr u w) (dIOr du dw) := ⟨fun D h k => h.elim (fun h => .inl (iu.go D h k)) fun h => .inr (iw.go D h k)⟩
/-! try -/
end
/-! ### the law itself -/
def spLawD (K : PySem.W.Frag) : Sp := fun vs H Q _ => ∃ (a : Addr) (ns : List Int), vs = [.ref a] ∧ SqL K H a (ns.map V.int) ∧ ns.length ≤ 63 ∧ ∀ H', Q (.bl true) H'
def lawE : DEnds := ⟨fun _ _ => False, fun dv _ => dv = .im (.bool true), fun _ _ => False, fun _ _ => False⟩
section
variable {P : Program} {w : World} {K : PySem.W.Frag} {mg : Str → Option Value} {base : Heap} {x qual : Str} {st : Stmt} {f : Addr} {fd : FuncData} {N : List Str} {p : Str} {k : Nat} {Rs : Hp → Addr → Addr → Nat → Prop}
theorem fz0 {E : XK} {X : Addr → Prop} {H H1 : Hp} {T : Addr → Prop} : Fz ⟨K, Rs, H, T, noT, E, X⟩ W0 H1 = H1 := by
  funext a
  unfold Fz hide
  rw [if_neg (by rintro (z | z); exact z; cases z)]
theorem script_dr {a : Addr} {ns : List Int} {H : Hp} {E : XK} (ok : RsOk Rs) (h : SqL K H a (ns.map V.int)) : DR ⟨K, Rs, H, noT, noT, E, fun _ => False⟩ (start N [.ref a]) H (startD N [.scr ns]) W0 := by
  refine ⟨⟨ok.rs, ok.rn, fun c hc => hc.elim⟩, fun a o e _ => e, fun a z => z.elim, fun a z => z.elim, ?_, fun p c e => by cases e⟩
  rw [fz0]
  have va : VAll ⟨K, Rs, H, noT, noT, E, fun _ => False⟩ H [.scr ns] [.ref a] := ⟨_, _, rfl, ⟨a, rfl, h⟩, rfl⟩
  unfold start startD
  exact Slots.start _ va
theorem Fun.okLaw (F : Fun K x qual st f fd) (S : FnScope N [p] (defScope st)) (ok : RsOk Rs)
    (hbody : ∀ (cdv : Value) (A : Around) (outer : List Env) (s : Shared) (H : Hp) (E : XK), Room k (A.deeper (envOfC qual (defScope st) s.heap.objs.size f cdv)) →
      ∃ t, SSs (cxOf CX0 P w K mg base N qual (defScope st) f cdv A outer s H E).nox (defBody st) t ∧ ∃ d, LS ⟨K, Rs, H, noT, noT, E, fun _ => False⟩ t d ∧ ∀ ns, ns.length ≤ 63 → d lawE (startD N [.scr ns]) W0) : FnOk P w K mg base CX0 (k + 1) f fd [p] (spLawD K) :=
  F.okS S (fun vs H Q E ⟨a, ns, e, _⟩ => by rw [e]; rfl) fun cdv A outer s H vs Q E hr h => by
    obtain ⟨a, ns, rfl, hS, h63, q⟩ := h
    obtain ⟨t, h1, d, hd, hb⟩ := hbody cdv A outer s H E hr
    refine ⟨t, h1, hd.go (script_dr ok hS) (hb ns h63) ⟨fun σ' H' ρ' W' D' s q => q.elim, fun σ' H' ρ' W' D' s q => q.elim, fun σ' H' ρ' W' D' s q => q.elim, fun x dv σ' H' ρ' W' D' s v e => ?_⟩⟩
    rw [show dv = .im (.bool true) from e] at v
    rw [show x = .bl true from v]
    exact q H'
end
/-! ### the tray as a law's own defs see it: a list (or dict) whose one part is a list of ints -/
def rawI : DV → Option V
  | .im (.int i) => some (.int i)
  | .pt p => some (.ref p)
  | _ => none
def rawIs : List DV → Option (List V)
  | [] => some []
  | x :: r => (rawI x).bind fun v => (rawIs r).map (v :: ·)
def RawAt (H : Hp) (t : Addr) : Cell → Prop
  | .lst dvs => ∃ xs, rawIs dvs = some xs ∧ H t = some (.lst xs)
  | .dk kvs => ∃ xs, rawIs (kvs.map (·.2)) = some xs ∧ H t = some (.dK ((kvs.map (·.1)).zip xs))
  | _ => False
/-- Iv g n c gs: the cell c (whose part is at g), the ints gs, at most n draws gone -/
def mkRs (Iv : Addr → Nat → Cell → List Int → Prop) : Hp → Addr → Addr → Nat → Prop := fun H t g n => ∃ c gs, Iv g n c gs ∧ RawAt H t c ∧ H g = some (.lst (gs.map V.int))
theorem mkRs_ok {Iv : Addr → Nat → Cell → List Int → Prop} : RsOk (mkRs Iv) where
  rs := fun ⟨c, gs, h1, h2, h3⟩ e1 e2 => by
    refine ⟨c, gs, h1, ?_, by rw [e2]; exact h3⟩
    cases c with
    | lst dvs => obtain ⟨xs, a, b⟩ := h2; exact ⟨xs, a, by rw [e1]; exact b⟩
    | dk kvs => obtain ⟨xs, a, b⟩ := h2; exact ⟨xs, a, by rw [e1]; exact b⟩
    | _ => exact h2.elim
  rn := fun ⟨c, gs, h1, h2, h3⟩ => by
    refine ⟨?_, _, h3, fun _ z => nomatch z⟩
    cases c with
    | lst dvs => obtain ⟨xs, a, b⟩ := h2; exact ⟨_, b, fun _ z => nomatch z⟩
    | dk kvs => obtain ⟨xs, a, b⟩ := h2; exact ⟨_, b, fun _ z => nomatch z⟩
    | _ => exact h2.elim
section
variable {C : DC} {F : Hp}
theorem rawI_at {v : V} : ∀ {dv : DV}, rawI dv = some v → VAt C F dv v
  | .im (.int i), e => by cases e; exact rfl
  | .pt p, e => by cases e; exact rfl
  | .im .none, e => by cases e
  | .im (.bool _), e => by cases e
  | .im (.str _), e => by cases e
  | .im (.list _), e => by cases e
  | .im (.tuple _), e => by cases e
  | .im (.dict _), e => by cases e
  | .cst _, e => by cases e
  | .rf _, e => by cases e
  | .ty _, e => by cases e
  | .exn _, e => by cases e
  | .raw _, e => by cases e
  | .scr _, e => by cases e
theorem rawIs_at : ∀ {dvs : List DV} {xs : List V}, rawIs dvs = some xs → VAll C F dvs xs
  | [], _, e => by cases e; exact rfl
  | d :: r, xs, e => by
    unfold rawIs at e
    cases q : rawI d with
    | none => rw [q] at e; cases e
    | some v =>
      rw [q] at e
      cases q2 : rawIs r with
      | none => simp [q2] at e
      | some vs => simp [q2] at e; subst e; exact ⟨v, vs, rfl, rawI_at q, rawIs_at q2⟩
theorem rawIs_inv : ∀ {dvs : List DV} {xs ys : List V}, rawIs dvs = some xs → VAll C F dvs ys → ys = xs
  | [], _, _, e, h => by cases e; exact h
  | d :: r, xs, ys, e, ⟨y, zs, e1, h, hr⟩ => by
    unfold rawIs at e
    cases q : rawI d with
    | none => rw [q] at e; cases e
    | some v =>
      rw [q] at e
      cases q2 : rawIs r with
      | none => simp [q2] at e
      | some vs =>
        simp [q2] at e; subst e
        rw [e1, rawIs_inv q2 hr]
        have : y = v := by
          cases d with
          | im dd => cases dd with
            | int i => cases q; exact h
            | _ => cases q
          | pt p => cases q; exact h
          | _ => cases q
        rw [this]
end
end L2

set_option Elab.async false
set_option linter.all false
set_option maxRecDepth 100000
set_option maxHeartbeats 4000000
namespace L2
open PySem PySem.Spec PyProof.Rows
def rawOk : Cell → Bool
  | .lst dvs => (rawIs dvs).isSome
  | .dk kvs => (rawIs (kvs.map (·.2))).isSome
  | _ => false
abbrev intsD (gs : List Int) : List DV := gs.map fun z => .im (.int z)
theorem zip_of {κ : Type} : ∀ {l : List (κ × V)} {ks : List κ} {xs : List V}, l.map (·.1) = ks → l.map (·.2) = xs → l = ks.zip xs
  | [], _, _, e1, e2 => by subst e1 e2; rfl
  | (k, v) :: r, _, _, e1, e2 => by subst e1 e2; rw [List.map_cons, List.map_cons, List.zip_cons_cons, ← zip_of rfl rfl]
section
variable {C : DC} {σ : St} {H H' : Hp} {ρ : Rho} {W W' : Wd} {Qd : DK} {Q : VK}
theorem CellAt.raw {t : Addr} {c : Cell} (h : CellAt C W H t c) (hr : rawOk c = true) : RawAt H t c := by
  cases c with
  | lst dvs =>
    obtain ⟨xs, e, v⟩ := h
    obtain ⟨ys, hy⟩ := Option.isSome_iff_exists.mp hr
    rw [rawIs_inv hy v] at e
    exact ⟨ys, hy, e⟩
  | dk kvs =>
    obtain ⟨ks, e, hk, v⟩ := h
    obtain ⟨ys, hy⟩ := Option.isSome_iff_exists.mp hr
    refine ⟨ys, hy, ?_⟩
    rw [e, zip_of hk (rawIs_inv hy v)]
  | _ => cases hr
theorem RawAt.cell {t : Addr} {c : Cell} (h : RawAt H t c) : CellAt C W H t c := by
  cases c with
  | lst dvs => obtain ⟨xs, e1, e2⟩ := h; exact ⟨xs, e2, rawIs_at e1⟩
  | dk kvs =>
    obtain ⟨xs, e1, e2⟩ := h
    have v : VAll C (Fz C W H) (kvs.map (·.2)) xs := rawIs_at e1
    have hl : (kvs.map (·.1)).length = xs.length := by rw [← v.length, List.length_map, List.length_map]
    refine ⟨_, e2, ?_, ?_⟩
    · rw [List.map_fst_zip]; omega
    · rw [List.map_snd_zip]; exact v; omega
  | _ => exact h.elim
theorem intsD_inv {F : Hp} {gs : List Int} {xs : List V} (h : VAll C F (intsD gs) xs) : xs = gs.map V.int := by
  induction gs generalizing xs with
  | nil => cases h; rfl
  | cons g r ih =>
    obtain ⟨y, ys, e, h1, h2⟩ := h
    rw [e, show y = .int g from h1, ih h2]; rfl
theorem DR.mkTray {t g : Addr} (D : DR C σ H ρ W) (s : Same H H') (ht : H t = none) (hg : H g = none) (gt : g ≠ t) (r : C.Rs H' t g 0) (nt : ∀ a, ¬ trayish (W a)) : DR C σ H' ρ (wset (wset W g .part) t (.tray g 0)) ∧ Same (Fz C W H) (Fz C (wset (wset W g .part) t (.tray g 0)) H') := by
  refine D.step (fun a z => ?_) (fun a u e _ => s a u e) (nn_same s) fun s' q c' e => ?_
  · by_cases h1 : a = t
    · exact .inr (by rw [h1]; exact ht)
    by_cases h2 : a = g
    · exact .inr (by rw [h2]; exact hg)
    rw [wset_ne h1, wset_ne h2] at z; exact .inl z
  · have uq : ∀ t' g' n', wset (wset W g .part) t (.tray g 0) t' = some (.tray g' n') → t' = t := fun t' g' n' z => by
      by_cases h1 : t' = t
      · exact h1
      rw [wset_ne h1] at z
      by_cases h2 : t' = g
      · rw [h2, wset_same] at z; cases z
      · rw [wset_ne h2] at z; exact absurd (by rw [z]; trivial) (nt t')
    by_cases h1 : q = t
    · subst h1
      rw [wset_same] at e; cases e
      exact ⟨.inl (D.nH0 ht), D.nO ht, r, by rw [wset_ne gt]; exact wset_same, uq⟩
    rw [wset_ne h1] at e
    by_cases h2 : q = g
    · subst h2
      rw [wset_same] at e; cases e
      exact ⟨.inl (D.nH0 hg), D.nO hg, (D.ok.rn r).2⟩
    rw [wset_ne h2] at e
    obtain ⟨g1, g2, g3⟩ := D.ce q c' e
    refine ⟨g1, g2, ?_⟩
    have hq := same_eq s (D.there e)
    cases c' with
    | tray a b => exact absurd (by rw [e]; trivial) (nt q)
    | part => exact absurd (by rw [e]; trivial) (nt q)
    | lst ds => obtain ⟨xs, z, rr⟩ := g3; exact ⟨xs, by rw [hq]; exact z, rr.mono s'⟩
    | dk ds => obtain ⟨xs, z, kk, rr⟩ := g3; exact ⟨xs, by rw [hq]; exact z, kk, rr.mono s'⟩
    | dt ds => obtain ⟨xs, z, kk, rr⟩ := g3; exact ⟨xs, by rw [hq]; exact z, kk, rr.mono s'⟩
def spMk (K : PySem.W.Frag) (Rs : Hp → Addr → Addr → Nat → Prop) : Sp := fun vs H Q _ => ∃ (a : Addr) (ns : List Int), vs = [.ref a] ∧ SqL K H a (ns.map V.int) ∧ ns.length ≤ 63 ∧ ∀ (t g : Addr) (H' : Hp), Same H H' → H t = none → H g = none → g ≠ t → Rs H' t g 0 → Q (.ref t) H'
def dMk : List DV → Wd → DK → Prop := fun as W Q => ∃ ns, as = [.scr ns] ∧ ns.length ≤ 63 ∧ (∀ a, ¬ trayish (W a)) ∧ ∀ t g, W t = none → W g = none → g ≠ t → Q (.pt t) (wset (wset W g .part) t (.tray g 0))
instance {K : PySem.W.Frag} [hk : KIs C K] {Rs : Hp → Addr → Addr → Nat → Prop} [hs : RsIs C Rs] {E : XK} : LSp C (spMk K Rs) E dMk := by
  obtain ⟨rfl⟩ := hk
  obtain ⟨rfl⟩ := hs
  exact ⟨fun D h hd k => by
  obtain ⟨ns, rfl, h63, nt, q⟩ := hd
  obtain ⟨x, rfl, hx⟩ := h.one_inv
  obtain ⟨a, rfl, ha⟩ := hx
  exact ⟨a, ns, rfl, Fz.sm.seq ha, h63, fun t g H' s ht hg gt r => k.to (dv := .pt t) (D.mkTray s ht hg gt r nt) rfl (q t g (D.fresh ht) (D.fresh hg) gt)⟩⟩
end
def mkE (Iv : Addr → Nat → Cell → List Int → Prop) : DEnds := ⟨fun _ _ => False, fun dv W => ∃ t g c gs, dv = .pt t ∧ W t = some c ∧ W g = some (.lst (intsD gs)) ∧ g ≠ t ∧ Iv g 0 c gs ∧ rawOk c = true, fun _ _ => False, fun _ _ => False⟩
def opE (Iv : Addr → Nat → Cell → List Int → Prop) (a g : Addr) (R : Res → Nat → Prop) : DEnds := ⟨fun _ _ => False, fun dv W => ∃ n c gs i, dv = .im (.int i) ∧ W a = some c ∧ W g = some (.lst (intsD gs)) ∧ Iv g n c gs ∧ rawOk c = true ∧ R (.im (.int i)) n, fun _ _ => False, fun _ _ => False⟩
def WO (a g : Addr) (c : Cell) (gs : List Int) : Wd := wset (wset W0 g (.lst (intsD gs))) a c
section
variable {P : Program} {w : World} {K : PySem.W.Frag} {mg : Str → Option Value} {base : Heap} {x qual : Str} {st : Stmt} {f : Addr} {fd : FuncData} {N ps : List Str} {p : Str} {k : Nat} {Iv : Addr → Nat → Cell → List Int → Prop} {Sd : DTp}
/-- the def that makes the tray -/
theorem Fun.okMk (F : Fun K x qual st f fd) (S : FnScope N [p] (defScope st))
    (hbody : ∀ (cdv : Value) (A : Around) (outer : List Env) (s : Shared) (H : Hp) (E : XK), Room k (A.deeper (envOfC qual (defScope st) s.heap.objs.size f cdv)) →
      ∃ t, SSs (cxOf CX0 P w K mg base N qual (defScope st) f cdv A outer s H E).nox (defBody st) t ∧ ∃ d, LS ⟨K, noRs, H, noT, noT, E, fun _ => False⟩ t d ∧ ∀ ns, ns.length ≤ 63 → d (mkE Iv) (startD N [.scr ns]) W0) : FnOk P w K mg base CX0 (k + 1) f fd [p] (spMk K (mkRs Iv)) :=
  F.okS S (fun vs H Q E ⟨a, ns, e, _⟩ => by rw [e]; rfl) fun cdv A outer s H vs Q E hr h => by
    obtain ⟨a, ns, rfl, hS, h63, q⟩ := h
    obtain ⟨t, h1, d, hd, hb⟩ := hbody cdv A outer s H E hr
    refine ⟨t, h1, hd.go (script_dr ⟨fun z => z.elim, fun z => z.elim⟩ hS) (hb ns h63) ⟨fun σ' H' ρ' W' D' s q => q.elim, fun σ' H' ρ' W' D' s q => q.elim, fun σ' H' ρ' W' D' s q => q.elim, fun x dv σ' H' ρ' W' D' s v e => ?_⟩⟩
    obtain ⟨t, g, c, gs, rfl, e1, e2, gt, hI, hr⟩ := e
    cases (show x = .ref t from v)
    obtain ⟨z1, _, c1⟩ := D'.ce t c e1
    obtain ⟨z2, _, xs, c2, c3⟩ := D'.ce g _ e2
    rw [intsD_inv c3] at c2
    exact q t g H' (fun a o e => D'.fr a o e (fun z => z)) (z1.elim id fun z => z.elim) (z2.elim id fun z => z.elim) gt ⟨c, gs, hI, c1.raw hr, c2⟩
/-- the def that draws -/
theorem Fun.okO (F : Fun K x qual st f fd) (S : FnScope N ps (defScope st)) {m : Nat} (hm : ps.length = m + 1) (hlen : ∀ n ds R, Sd n ds R → ds.length = m)
    (hbody : ∀ (cdv : Value) (A : Around) (outer : List Env) (s : Shared) (H : Hp) (E : XK), Room k (A.deeper (envOfC qual (defScope st) s.heap.objs.size f cdv)) →
      ∃ t, SSs (cxOf CX0 P w K mg base N qual (defScope st) f cdv A outer s H E).nox (defBody st) t ∧ ∀ a g O, ∃ d, LS ⟨K, noRs, H, fun z => z = a ∨ z = g, O, E, fun _ => False⟩ t d ∧ ∀ n ds R c gs, g ≠ a → Iv g n c gs → Sd n ds R → d (opE Iv a g R) (startD N (.pt a :: ds.map .im)) (WO a g c gs)) : FnOk P w K mg base CX0 (k + 1) f fd ps (spT (mkRs Iv) Sd) :=
  F.okS S (spT_len hm hlen) fun cdv A outer s H vs Q E hr h => by
    obtain ⟨t, h1, hb⟩ := hbody cdv A outer s H E hr
    refine ⟨t, h1, ?_⟩
    obtain ⟨a, g, n, vs', O, ds, R, rfl, ⟨c, gs, hI, hc, hg⟩, gt, hO, nt, ng, hr, hS, hR⟩ := h
    obtain ⟨d, hd, hb⟩ := hb a g O
    have Wg : WO a g c gs g = some (.lst (intsD gs)) := by unfold WO; rw [wset_ne gt]; exact wset_same
    have Wa : WO a g c gs a = some c := wset_same
    have Wz : ∀ z c', WO a g c gs z = some c' → z = a ∨ z = g := fun z c' e => by
      unfold WO at e
      by_cases h1 : z = a
      · exact .inl h1
      · rw [wset_ne h1] at e
        by_cases h2 : z = g
        · exact .inr h2
        · rw [wset_ne h2] at e; cases e
    have ok := mkRs_ok (Iv := Iv)
    have hRs : mkRs Iv H a g n := ⟨c, gs, hI, hc, hg⟩
    have fz : ∀ H1, Same (hide (fun z => O z ∨ z = a ∨ z = g) H1) (Fz ⟨K, noRs, H, fun z => z = a ∨ z = g, O, E, fun _ => False⟩ (WO a g c gs) H1) := fun H1 b o e => by
      obtain ⟨h1, h2⟩ := hide_iff.mp e
      refine hide_iff.mpr ⟨fun z => h1 ?_, h2⟩
      rcases z with z | z
      · exact .inl z
      · cases q : WO a g c gs b with
        | none => rw [q] at z; cases z
        | some c' => exact .inr (Wz b c' q)
    have D : DR ⟨K, noRs, H, fun z => z = a ∨ z = g, O, E, fun _ => False⟩ (start N (.ref a :: vs')) H (startD N (.pt a :: ds.map .im)) (WO a g c gs) := by
      refine ⟨⟨fun z => z.elim, fun z => z.elim, fun c hc => hc.elim⟩, fun b o e _ => e, hO, fun b z => ?_, ?_, fun p c' e => ?_⟩
      · rcases z with z | z
        · rw [z]; exact (ok.rn hRs).1.ne
        · rw [z]; exact (ok.rn hRs).2.ne
      · have va : VAll ⟨K, noRs, H, fun z => z = a ∨ z = g, O, E, fun _ => False⟩ (Fz ⟨K, noRs, H, fun z => z = a ∨ z = g, O, E, fun _ => False⟩ (WO a g c gs) H) (.pt a :: ds.map .im) (.ref a :: vs') := ⟨_, _, rfl, rfl, (VAll.ofRep hr).mono (fz H)⟩
        unfold start startD
        rw [va.length]
        exact Slots.start _ va
      · rcases Wz p c' e with z | z
        · subst z
          rw [Wa] at e; cases e
          exact ⟨.inr (.inl rfl), nt, hc.cell⟩
        · subst z
          rw [Wg] at e; cases e
          exact ⟨.inr (.inr rfl), ng, _, hg, ints_all gs⟩
    refine hd.go D (hb n ds R c gs gt hI hS) ⟨fun σ' H' ρ' W' D' s q => q.elim, fun σ' H' ρ' W' D' s q => q.elim, fun σ' H' ρ' W' D' s q => q.elim, fun x dv σ' H' ρ' W' D' s v q => ?_⟩
    obtain ⟨n', c', gs', i, rfl, e1, e2, hI', hr', q⟩ := q
    obtain ⟨_, _, c1⟩ := D'.ce a c' e1
    obtain ⟨_, _, xs, c2, c3⟩ := D'.ce g _ e2
    rw [intsD_inv c3] at c2
    cases (show x = .int i from v)
    exact hR (.im (.int i)) n' _ H' q (fun b o e h1 h2 => D'.fr b o e (fun z => z.elim h1 h2)) ⟨c', gs', hI', c1.raw hr', c2⟩ rfl
end
end L2

set_option Elab.async false
set_option linter.all false
set_option maxRecDepth 100000
set_option maxHeartbeats 4000000
namespace L2
open PySem PySem.Spec PyProof.Rows
/-! ### what is own, abstractly -/
def Fr (t : Addr) (W W' : Wd) : Prop := ∀ a, a ≠ t → W' a = W a
theorem Fr.at {t p : Addr} {W W' : Wd} {c : Cell} (h : Fr t W W') (hp : p ≠ t) (e : W p = some c) : W' p = some c := by rw [h p hp]; exact e
theorem ne_new {W : Wd} {p q : Addr} {c : Cell} (h : W p = some c) (h' : W q = none) : p ≠ q := fun z => by rw [z, h'] at h; cases h
/-! ### the steps over data -/
section
variable {nx bk ct : Rho → Wd → Prop} {rt Q : DK} {a b : DTS} {De : DEnds} {ρ : Rho} {W : Wd} {da db dc : DTE} {g : DTG} {c d : DTT} {i j : Nat} {v u : DV} {f : DR2} {B : Bool → Wd → Prop} {as : DTA} {R : List DV → Wd → Prop} {gs : DTGs} {Qs : Rho → Wd → Prop} {vs us : List DV} {p : Addr} {m n : Int} {ds : List PyData} {D : PyData}
theorem x_seq (h : a ⟨b ⟨nx, rt, bk, ct⟩, rt, bk, ct⟩ ρ W) : dSeq a b ⟨nx, rt, bk, ct⟩ ρ W := h
theorem x_next (h : nx ρ W) : dNext ⟨nx, rt, bk, ct⟩ ρ W := h
theorem x_ret (h : da ρ W rt) : dRet da ⟨nx, rt, bk, ct⟩ ρ W := h
theorem x_drop (h : da ρ W fun _ W1 => nx ρ W1) : dDrop da ⟨nx, rt, bk, ct⟩ ρ W := h
theorem x_asg (h : da ρ W fun v W1 => g v ρ W1 nx) : dAsg da g ⟨nx, rt, bk, ct⟩ ρ W := h
theorem x_ifS (h : c ρ W fun k W1 => if k = true then a De ρ W1 else b De ρ W1) : dIfS c a b De ρ W := h
theorem x_seqA {r : DTS} (h : dAsg da g ⟨r ⟨nx, rt, bk, ct⟩, rt, bk, ct⟩ ρ W) : dSeq (dAsg da g) r ⟨nx, rt, bk, ct⟩ ρ W := h
theorem x_seqD {r : DTS} (h : dDrop da ⟨r ⟨nx, rt, bk, ct⟩, rt, bk, ct⟩ ρ W) : dSeq (dDrop da) r ⟨nx, rt, bk, ct⟩ ρ W := h
theorem x_join (N : Rho → Wd → Prop) (h1 : ∀ k : Rho → Wd → Prop, (∀ ρ W, N ρ W → k ρ W) → a ⟨k, rt, bk, ct⟩ ρ W) (h2 : ∀ ρ W, N ρ W → b ⟨nx, rt, bk, ct⟩ ρ W) : dSeq a b ⟨nx, rt, bk, ct⟩ ρ W := h1 _ h2
theorem x_for {w : DTI} (h : w ρ W fun it W1 => dLoop it g b ⟨nx, rt, bk, ct⟩ ρ W1) : dFor w g b ⟨nx, rt, bk, ct⟩ ρ W := h
theorem x_while (Pv : Nat → Rho → Wd → Prop) (m : Nat) (h0 : Pv m ρ W) (hs : ∀ m ρ W, Pv m ρ W → c ρ W fun k W1 => if k = true then b ⟨fun ρ' W' => ∃ m', m' < m ∧ Pv m' ρ' W', rt, nx, fun ρ' W' => ∃ m', m' < m ∧ Pv m' ρ' W'⟩ ρ W1 else nx ρ W1) : dWhile c b ⟨nx, rt, bk, ct⟩ ρ W := ⟨Pv, ⟨m, h0⟩, hs⟩
/-- targets -/
theorem x_gn (h : Qs (ρ.set i (some v)) W) : dGN i v ρ W Qs := h
theorem x_gs {o e : DTE} (h : o ρ W fun a W1 => e ρ W1 fun b W2 => dPutL a b v W2 (Qs ρ)) : dGS o e v ρ W Qs := h
/-- expressions -/
theorem x_var (e : ρ[i]? = some (some v)) (h : Q v W) : dVar i ρ W Q := ⟨v, e, h⟩
theorem x_c (h : Q v W) : dC v ρ W Q := h
theorem x_op (h : da ρ W fun v W1 => db ρ W1 fun u W2 => f v u W2 Q) : dOp f da db ρ W Q := h
theorem x_un {k : DV → Wd → DK → Prop} (h : da ρ W fun v W1 => k v W1 Q) : dUn k da ρ W Q := h
theorem x_bo (h : da ρ W fun v W1 => ∃ b, v = .im (.bool b) ∧ B b W1) : dBo da ρ W B := h
theorem x_bb {k : Bool} {P : Bool → Prop} (h : P k) : ∃ k', DV.im (.bool k) = .im (.bool k') ∧ P k' := ⟨k, rfl, h⟩
theorem x_and (h : c ρ W fun k W1 => if k = true then d ρ W1 B else B false W1) : dAnd c d ρ W B := h
theorem x_or (h : c ρ W fun k W1 => if k = true then B true W1 else d ρ W1 B) : dOr c d ρ W B := h
theorem x_not (h : c ρ W fun k W1 => B (!k) W1) : dNot c ρ W B := h
theorem x_if (h : c ρ W fun k W1 => if k = true then da ρ W1 Q else db ρ W1 Q) : dIf c da db ρ W Q := h
theorem x_isN (h : da ρ W fun v W1 => Q (.im (.bool (isNone v))) W1) : dIsN da ρ W Q := h
theorem x_notN (h : da ρ W fun v W1 => Q (.im (.bool (!isNone v))) W1) : dNotN da ρ W Q := h
theorem x_nil (h : R [] W) : dNil ρ W R := h
theorem x_cons (h : da ρ W fun v W1 => as ρ W1 fun vs W2 => R (v :: vs) W2) : dCons da as ρ W R := h
theorem x_ks {ks : List V} (h : ks.all flatV = true ∧ R (ks.map ofV) W) : dKs ks ρ W R := h
theorem x_tup (h : as ρ W fun vs W1 => dNewT vs W1 Q) : dTup as ρ W Q := h
theorem x_lst (h : as ρ W fun vs W1 => dNewL vs W1 Q) : dLst as ρ W Q := h
theorem x_cb {k : List DV → Wd → DK → Prop} (h : as ρ W fun vs W1 => k vs W1 Q) : dCB k as ρ W Q := h
theorem x_bm {T : String} {k : DV → List DV → Wd → DK → Prop} (h : da ρ W fun v W1 => isTy T v W1 ∧ as ρ W1 fun vs W2 => k v vs W2 Q) : dBM T k da as ρ W Q := h
theorem x_bm0 {T : String} {k : DV → List DV → Wd → DK → Prop} (h : da ρ W fun v W1 => isTy T v W1 ∧ k v [] W1 Q) : dBM0 T k da ρ W Q := h
theorem x_sl {k : DV → Option Int → Option Int → Wd → DK → Prop} {l t : DTO} (h : da ρ W fun v W1 => l ρ W1 fun lo W2 => t ρ W2 fun hi W3 => k v lo hi W3 Q) : dSl k da l t ρ W Q := h
theorem x_nopart {Qo : Option Int → Wd → Prop} (h : Qo none W) : dNoPart ρ W Qo := h
theorem x_part {Qo : Option Int → Wd → Prop} (h : da ρ W fun v W1 => ∃ i, v = .im (.int i) ∧ Qo (some i) W1) : dPart da ρ W Qo := h
theorem x_ii {P : Int → Prop} (h : P n) : ∃ i, DV.im (.int n) = .im (.int i) ∧ P i := ⟨n, rfl, h⟩
theorem x_comp {w : DTI} {e : DTE} {ix : List (Option Nat)} (h : w ρ W fun it W1 => dGath it g c e (blkD ix ρ) W1 Q) : dComp w g c e ix ρ W Q := h
theorem x_yes (h : B true W) : dYes ρ W B := h
theorem x_I0 {h' : Int → Int → PyData} (h : Q (.im (h' m n)) W) : dI0 h' (.im (.int m)) (.im (.int n)) W Q := ⟨m, n, rfl, rfl, h⟩
theorem x_I {P : Int → Int → Prop} {h' : Int → Int → PyData} (hp : P m n) (h : Q (.im (h' m n)) W) : dI P h' (.im (.int m)) (.im (.int n)) W Q := ⟨m, n, rfl, rfl, hp, h⟩
theorem x_U {h' : Int → PyData} (h : Q (.im (h' m)) W) : dU h' (.im (.int m)) W Q := ⟨m, rfl, h⟩
/-- == of scalars -/
theorem eqv_int {i j : Int} : PyData.eqv (.int i) (.int j) = decide (i = j) := by show (i == j) = _; by_cases e : i = j <;> simp [e]
theorem eqv_str {i j : Str} : PyData.eqv (.str i) (.str j) = decide (i = j) := by show (i == j) = _; by_cases e : i = j <;> simp [e]
theorem eqv_bool {i j : Bool} : PyData.eqv (.bool i) (.bool j) = decide (i = j) := by cases i <;> cases j <;> rfl
theorem x_eqI (h : Q (.im (.bool (decide (m = n)))) W) : dEqU (.im (.int m)) (.im (.int n)) W Q := ⟨_, _, rfl, rfl, .inr ⟨rfl, rfl, by show min 0 0 ≤ 64; decide⟩, by rw [eqv_int]; exact h⟩
theorem x_neI (h : Q (.im (.bool (!decide (m = n)))) W) : dNeU (.im (.int m)) (.im (.int n)) W Q := ⟨_, _, rfl, rfl, .inr ⟨rfl, rfl, by show min 0 0 ≤ 64; decide⟩, by rw [eqv_int]; exact h⟩
theorem x_eqS {s t : Str} (h : Q (.im (.bool (decide (s = t)))) W) : dEqU (.im (.str s)) (.im (.str t)) W Q := ⟨_, _, rfl, rfl, .inl ⟨s, t, rfl, rfl⟩, by rw [eqv_str]; exact h⟩
theorem x_eqB {s t : Bool} (h : Q (.im (.bool (decide (s = t)))) W) : dEqU (.im (.bool s)) (.im (.bool t)) W Q := ⟨_, _, rfl, rfl, .inr ⟨rfl, rfl, by show min 0 0 ≤ 64; decide⟩, by rw [eqv_bool]; exact h⟩
theorem x_neB {s t : Bool} (h : Q (.im (.bool (!decide (s = t)))) W) : dNeU (.im (.bool s)) (.im (.bool t)) W Q := ⟨_, _, rfl, rfl, .inr ⟨rfl, rfl, by show min 0 0 ≤ 64; decide⟩, by rw [eqv_bool]; exact h⟩
theorem x_neD {d1 d2 : PyData} (e1 : dat 4 W v = some d1) (e2 : dat 4 W u = some d2) (ok : EqOk d1 d2) (h : Q (.im (.bool (!PyData.eqv d1 d2))) W) : dNeU v u W Q := ⟨d1, d2, e1, e2, ok, h⟩
theorem x_eqT {d1 : PyData} (e1 : dat 4 W v = some d1) (e2 : dat 4 W u = some d1) (c : d1.canLay0 = true) (hd : d1.depth ≤ 64) (h : Q (.im (.bool true)) W) : dEqU v u W Q := ⟨d1, d1, e1, e2, .inr ⟨c, c, by rw [Nat.min_self]; exact hd⟩, by rw [PySem.SeqAt.eqv_refl d1 c]; exact h⟩
theorem x_neT {d1 : PyData} (e1 : dat 4 W v = some d1) (e2 : dat 4 W u = some d1) (c : d1.canLay0 = true) (hd : d1.depth ≤ 64) (h : Q (.im (.bool false)) W) : dNeU v u W Q := ⟨d1, d1, e1, e2, .inr ⟨c, c, by rw [Nat.min_self]; exact hd⟩, by rw [PySem.SeqAt.eqv_refl d1 c]; exact h⟩
/-- subscripts -/
theorem atI_map {α β : Type} {xs : List α} {f : α → β} {i : Int} {x : α} (h : atI xs i = some x) : atI (xs.map f) i = some (f x) := by
  unfold atI at h ⊢
  rw [List.length_map]
  cases q : ixN xs.length i with
  | none => rw [q] at h; cases h
  | some j => rw [q] at h; show (xs.map f)[j]? = _; rw [List.getElem?_map, show xs[j]? = some x from h]; rfl
theorem x_ixT (e : atI ds n = some D) (h : Q (.im D) W) : dIx (.im (.tuple ds)) (.im (.int n)) W Q := ⟨n, .im D, rfl, atI_map e, h⟩
theorem x_ixL (e : atI ds n = some D) (h : Q (.im D) W) : dIx (.im (.list ds)) (.im (.int n)) W Q := ⟨n, .im D, rfl, atI_map e, h⟩
theorem seqL_pt (e : W p = some (.lst vs)) : seqL W (.pt p) = some vs := by simp [seqL, e]
theorem seqV_pt (e : W p = some (.lst vs)) : seqV W (.pt p) = some vs := by unfold seqV; rw [seqL_pt e]
theorem x_ixP (e : W p = some (.lst vs)) (e2 : atI vs n = some v) (h : Q v W) : dIx (.pt p) (.im (.int n)) W Q := ⟨n, v, rfl, by
  show (seqV W (.pt p)).bind _ = _
  rw [seqV_pt e]
  exact e2, h⟩
/-- len -/
theorem x_lenL (h : Q (.im (.int ds.length)) W) : dLen [.im (.list ds)] W Q := ⟨_, _, rfl, rfl, by rw [List.length_map]; exact h⟩
theorem x_lenT (h : Q (.im (.int ds.length)) W) : dLen [.im (.tuple ds)] W Q := ⟨_, _, rfl, rfl, by rw [List.length_map]; exact h⟩
theorem x_lenP (e : W p = some (.lst vs)) (h : Q (.im (.int vs.length)) W) : dLen [.pt p] W Q := ⟨_, vs, rfl, seqV_pt e, h⟩
/-- methods of an own list -/
theorem isTyP (e : W p = some (.lst vs)) : isTy "list" (.pt p) W := .inl ⟨rfl, vs, seqL_pt e⟩
theorem x_append (e : W p = some (.lst vs)) (hl : vs.length < sizeLine) (h : Q (.im .none) (wset W p (.lst (vs ++ [v])))) : dAppend (.pt p) [v] W Q := ⟨p, vs, v, rfl, rfl, e, hl, h⟩
theorem x_insert0 (e : W p = some (.lst vs)) (hl : vs.length < sizeLine) (h : Q (.im .none) (wset W p (.lst (v :: vs)))) : dInsert0 (.pt p) [.im (.int 0), v] W Q := ⟨p, vs, v, rfl, rfl, e, hl, h⟩
theorem x_pop (e : W p = some (.lst (vs ++ [v]))) (h : Q v (wset W p (.lst vs))) : dPop (.pt p) [] W Q := ⟨p, _, v, rfl, rfl, e, by simp, by rw [List.dropLast_concat]; exact h⟩
/-- a new tuple of data -/
theorem x_tupIm (hl : ds.length ≤ sizeLine) (h : Q (.im (.tuple ds)) W) : dNewT (ds.map .im) W Q := ⟨by rw [List.length_map]; exact hl, .inl ⟨ds, W, frzL_im (fun _ _ => rfl) ds, h⟩⟩
theorem x_tupR {us : List V} (hl : vs.length ≤ sizeLine) (e : rawL vs = some us) (h : Q (.raw us) W) : dNewT vs W Q := ⟨hl, .inr ⟨us, e, h⟩⟩
theorem n_own (h : ∀ p W', W p = none → W' p = some (.lst vs) → Fr p W W' → Q (.pt p) W') : newL vs W Q := .inl fun p hp => h p _ hp wset_same fun a ha => wset_ne ha
theorem n_dat (h : Q (.im (.list ds)) W) : newL (ds.map .im) W Q := .inr ⟨ds, rfl, h⟩
theorem x_newL (hl : vs.length ≤ sizeLine) (h : ∀ p W', W p = none → W' p = some (.lst vs) → Fr p W W' → Q (.pt p) W') : dNewL vs W Q := ⟨hl, n_own h⟩
theorem x_newF (hl : ds.length ≤ sizeLine) (h : Q (.im (.list ds)) W) : dNewL (ds.map .im) W Q := ⟨by rw [List.length_map]; exact hl, n_dat h⟩
theorem x_rng1 {B' : DIt → Wd → Prop} (h : as ρ W fun vs W1 => dR1s vs W1 B') : dRng1 as ρ W B' := h
theorem x_r1 {B' : DIt → Wd → Prop} (h1 : -(2 ^ 62) ≤ m) (h2 : m < 2 ^ 62) (h : B' ⟨(List.range m.toNat).map fun i => .im (.int (0 + (i : Nat))), fun _ => True⟩ W) : dR1s [.im (.int m)] W B' := ⟨m, rfl, h1, h2, h⟩
theorem x_ilist {B' : DIt → Wd → Prop} (h : da ρ W fun v W1 => dILs v W1 B') : dIList da ρ W B' := h
theorem x_ilL {B' : DIt → Wd → Prop} (h : B' ⟨ds.map .im, fun _ => True⟩ W) : dILs (.im (.list ds)) W B' := .inl ⟨ds, rfl, h⟩
theorem x_ilS {B' : DIt → Wd → Prop} {ns : List Int} (h : B' ⟨ns.map fun n => .im (.int n), fun _ => True⟩ W) : dILs (.scr ns) W B' := .inr (.inr ⟨ns, rfl, h⟩)
/-- loops -/
theorem x_loop {it : DIt} (Pv : Nat → Rho → Wd → Prop) (h0 : Pv 0 ρ W) (hk : ∀ i ρ W, Pv i ρ W → it.kp W) (hs : ∀ i v ρ W, it.vs[i]? = some v → Pv i ρ W → g v ρ W fun ρ2 W2 => b ⟨Pv (i + 1), rt, nx, Pv (i + 1)⟩ ρ2 W2) (hd : ∀ ρ W, Pv it.vs.length ρ W → nx ρ W) :
    dLoop it g b ⟨nx, rt, bk, ct⟩ ρ W := ⟨Pv, h0, hk, hs, hd⟩
theorem x_loopR {lo : Int} {k : Nat} (Pv : Nat → Rho → Wd → Prop) (h0 : Pv 0 ρ W) (hs : ∀ i ρ W, i < k → Pv i ρ W → g (.im (.int (lo + (i : Nat)))) ρ W fun ρ2 W2 => b ⟨Pv (i + 1), rt, nx, Pv (i + 1)⟩ ρ2 W2) (hd : ∀ ρ W, Pv k ρ W → nx ρ W) :
    dLoop ⟨(List.range k).map fun i => .im (.int (lo + (i : Nat))), fun _ => True⟩ g b ⟨nx, rt, bk, ct⟩ ρ W := by
  refine ⟨Pv, h0, fun _ _ _ _ => trivial, fun i v ρ W e p => ?_, fun ρ W p => hd ρ W (by simpa using p)⟩
  by_cases hi : i < k
  · have e : ((List.range k).map fun i => DV.im (.int (lo + (i : Nat))))[i]? = some v := e
    simp [hi] at e
    subst e
    exact hs i ρ W hi p
  · have e : ((List.range k).map fun i => DV.im (.int (lo + (i : Nat))))[i]? = some v := e
    simp [hi] at e
theorem x_loopL (Pv : Nat → Rho → Wd → Prop) (h0 : Pv 0 ρ W) (hs : ∀ i d ρ W, ds[i]? = some d → Pv i ρ W → g (.im d) ρ W fun ρ2 W2 => b ⟨Pv (i + 1), rt, nx, Pv (i + 1)⟩ ρ2 W2) (hd : ∀ ρ W, Pv ds.length ρ W → nx ρ W) :
    dLoop ⟨ds.map .im, fun _ => True⟩ g b ⟨nx, rt, bk, ct⟩ ρ W := by
  refine ⟨Pv, h0, fun _ _ _ _ => trivial, fun i v ρ W e p => ?_, fun ρ W p => hd ρ W (by simpa using p)⟩
  rw [List.getElem?_map] at e
  cases q : ds[i]? with
  | none => rw [q] at e; cases e
  | some d => rw [q] at e; cases e; exact hs i d ρ W q p
/-- comprehensions over data: what is gathered is a function of the items -/
theorem x_compR {lo : Int} {k : Nat} {e : DTE} (Pv : Nat → List DV → Wd → Prop) (hk : k ≤ sizeLine) (h0 : Pv 0 [] W) (hs : ∀ i ys W, i < k → ys.length ≤ i → Pv i ys W → g (.im (.int (lo + (i : Nat)))) ρ W fun ρ2 W2 => c ρ2 W2 fun b W3 => if b = true then e ρ2 W3 fun y W4 => Pv (i + 1) (ys ++ [y]) W4 else Pv (i + 1) ys W3)
    (hd : ∀ ys W, Pv k ys W → newL ys W Q) :
    dGath ⟨(List.range k).map fun i => .im (.int (lo + (i : Nat))), fun _ => True⟩ g c e ρ W Q := by
  refine ⟨by simpa using hk, Pv, h0, fun _ _ _ _ => trivial, fun i v ys W e hl p => ?_, fun ys W q => hd ys W (by simpa using q)⟩
  by_cases hi : i < k
  · simp [hi] at e
    subst e
    exact hs i ys W hi hl p
  · simp [hi] at e
theorem x_compL {e : DTE} (Pv : Nat → List DV → Wd → Prop) (hk : ds.length ≤ sizeLine) (h0 : Pv 0 [] W) (hs : ∀ i d ys W, ds[i]? = some d → ys.length ≤ i → Pv i ys W → g (.im d) ρ W fun ρ2 W2 => c ρ2 W2 fun b W3 => if b = true then e ρ2 W3 fun y W4 => Pv (i + 1) (ys ++ [y]) W4 else Pv (i + 1) ys W3)
    (hd : ∀ ys W, Pv ds.length ys W → newL ys W Q) :
    dGath ⟨ds.map .im, fun _ => True⟩ g c e ρ W Q := by
  refine ⟨by simpa using hk, Pv, h0, fun _ _ _ _ => trivial, fun i v ys W e hl p => ?_, fun ys W q => hd ys W (by simpa using q)⟩
  rw [List.getElem?_map] at e
  cases q : ds[i]? with
  | none => rw [q] at e; cases e
  | some d => rw [q] at e; cases e; exact hs i d ys W q hl p
theorem x_pureI {S : DSp} {X : Addr → Prop} (h : S ds (newR W Q) X) : dPure S X (ds.map .im) W Q := .inr ⟨ds, W, frzL_im (fun _ _ => rfl) ds, h⟩
end
end L2

set_option Elab.async false
set_option linter.all false
set_option maxRecDepth 100000
set_option maxHeartbeats 4000000
namespace L2
open PySem PySem.Spec PyProof.Rows
/-- x != [], x == []: the empty list is not kept in mind -/
def dNeE (a : DTE) : DTE := fun ρ W Q => a ρ W fun v W1 => ∃ d, dat 4 W1 v = some d ∧ d.canLay0 = true ∧ Q (.im (.bool (!PyData.eqv d (.list [])))) W1
def dEqE (a : DTE) : DTE := fun ρ W Q => a ρ W fun v W1 => ∃ d, dat 4 W1 v = some d ∧ d.canLay0 = true ∧ Q (.im (.bool (PyData.eqv d (.list [])))) W1
theorem min1 (n : Nat) : min n (PyData.depth (.list [])) ≤ 64 := Nat.le_trans (Nat.min_le_right _ _) (by decide)
instance (priority := 2000) {C : DC} {ta : TE} {da : DTE} [ia : LE C ta da] : LE C (tOp rNeU ta (tLst tNil)) (dNeE da) := ⟨fun D h k => ia.go D h fun x dv H1 W1 D1 s1 v1 ⟨d, e, c, q⟩ => ⟨Nat.zero_le _, fun p hp => by
  obtain ⟨D2, s2, e2⟩ := D1.imm hp (.lst [])
  exact .inr ⟨d, .list [], (D1.datH v1 e).same (Same.new hp _), ⟨p, [], rfl, upd_same, rfl⟩, c, rfl, min1 _, k _ (.im (.bool _)) _ _ D2 (s1.trans s2) rfl q⟩⟩⟩
instance (priority := 2000) {C : DC} {ta : TE} {da : DTE} [ia : LE C ta da] : LE C (tOp rEqU ta (tLst tNil)) (dEqE da) := ⟨fun D h k => ia.go D h fun x dv H1 W1 D1 s1 v1 ⟨d, e, c, q⟩ => ⟨Nat.zero_le _, fun p hp => by
  obtain ⟨D2, s2, e2⟩ := D1.imm hp (.lst [])
  exact .inr ⟨d, .list [], (D1.datH v1 e).same (Same.new hp _), ⟨p, [], rfl, upd_same, rfl⟩, c, rfl, min1 _, k _ (.im (.bool _)) _ _ D2 (s1.trans s2) rfl q⟩⟩⟩
theorem x_neE {ρ : Rho} {W : Wd} {Q : DK} {a : DTE} (h : a ρ W fun v W1 => ∃ d, dat 4 W1 v = some d ∧ d.canLay0 = true ∧ Q (.im (.bool (!PyData.eqv d (.list [])))) W1) : dNeE a ρ W Q := h
theorem x_eqE {ρ : Rho} {W : Wd} {Q : DK} {a : DTE} (h : a ρ W fun v W1 => ∃ d, dat 4 W1 v = some d ∧ d.canLay0 = true ∧ Q (.im (.bool (PyData.eqv d (.list [])))) W1) : dEqE a ρ W Q := h
section
variable {nx bk ct : Rho → Wd → Prop} {rt Q : DK} {b : DTS} {ρ : Rho} {W : Wd} {g : DTG} {c : DTT} {vs us : List DV} {p : Addr} {ds es : List PyData} {as : DTA} {v u : DV}
theorem x_loopS {ns : List Int} (Pv : Nat → Rho → Wd → Prop) (h0 : Pv 0 ρ W) (hs : ∀ i z ρ W, ns[i]? = some z → Pv i ρ W → g (.im (.int z)) ρ W fun ρ2 W2 => b ⟨Pv (i + 1), rt, nx, Pv (i + 1)⟩ ρ2 W2) (hd : ∀ ρ W, Pv ns.length ρ W → nx ρ W) :
    dLoop ⟨ns.map fun n => .im (.int n), fun _ => True⟩ g b ⟨nx, rt, bk, ct⟩ ρ W := by
  refine ⟨Pv, h0, fun _ _ _ _ => trivial, fun i v ρ W e p => ?_, fun ρ W p => hd ρ W (by simpa using p)⟩
  rw [List.getElem?_map] at e
  cases q : ns[i]? with
  | none => rw [q] at e; cases e
  | some d => rw [q] at e; cases e; exact hs i d ρ W q p
theorem seqK_list {W : Wd} : seqK .L W (.im (.list ds)) = some (ds.map .im) := rfl
theorem seqK_tuple {W : Wd} : seqK .T W (.im (.tuple ds)) = some (ds.map .im) := rfl
theorem seqK_pt (e : W p = some (.lst vs)) : seqK .L W (.pt p) = some vs := by show (match seqL W (.pt p) with | some vs => some vs | none => seqS (.pt p)) = _; rw [seqL_pt e]
theorem imL_map : datL imD (ds.map .im) = some ds := datL_im (fun _ => rfl) ds
/-- zip of two sequences of data -/
theorem x_zip {k1 k2 : SK} {B' : DIt → Wd → Prop} (e1 : seqK k1 W v = some (ds.map .im)) (e2 : seqK k2 W u = some (es.map .im)) (h : B' ⟨(ds.zip es).map fun p => .im (.tuple [p.1, p.2]), fun W' => kpOf v (ds.map .im) W' ∧ kpOf u (es.map .im) W'⟩ W) :
    dZs k1 k2 [v, u] W B' :=
  ⟨v, u, _, _, ds, es, rfl, e1, e2, imL_map, imL_map, h⟩
theorem x_izip {k1 k2 : SK} {B' : DIt → Wd → Prop} (h : as ρ W fun vs W1 => dZs k1 k2 vs W1 B') : dZip k1 k2 as ρ W B' := h
theorem x_compZ {kp : Wd → Prop} {e : DTE} (Pv : Nat → List DV → Wd → Prop) (hn : min ds.length es.length ≤ sizeLine) (h0 : Pv 0 [] W) (hk : ∀ i ys W, Pv i ys W → kp W) (hs : ∀ i a d ys W, ds[i]? = some a → es[i]? = some d → ys.length ≤ i → Pv i ys W → g (.im (.tuple [a, d])) ρ W fun ρ2 W2 => c ρ2 W2 fun b W3 => if b = true then e ρ2 W3 fun y W4 => Pv (i + 1) (ys ++ [y]) W4 else Pv (i + 1) ys W3)
    (hd : ∀ ys W, Pv (min ds.length es.length) ys W → newL ys W Q) :
    dGath ⟨(ds.zip es).map fun p => .im (.tuple [p.1, p.2]), kp⟩ g c e ρ W Q := by
  refine ⟨by rw [List.length_map, List.length_zip]; exact hn, Pv, h0, hk, fun i v ys W e hl p => ?_, fun ys W q => hd ys W (by rw [List.length_map, List.length_zip] at q; exact q)⟩
  rw [List.getElem?_map] at e
  cases q : (ds.zip es)[i]? with
  | none => rw [q] at e; cases e
  | some ab =>
    rw [q] at e; cases e
    obtain ⟨h1, h2⟩ := List.getElem?_zip_eq_some.mp q
    exact hs i ab.1 ab.2 ys W h1 h2 hl p
theorem x_abs {n : Int} (h : Q (.im (.int (if n < 0 then -n else n))) W) : dAbs [.im (.int n)] W Q := ⟨n, rfl, h⟩
theorem x_max {m n : Int} (h : Q (.im (.int (if n > m then n else m))) W) : dMax2 [.im (.int m), .im (.int n)] W Q := ⟨m, n, rfl, h⟩
theorem x_min {m n : Int} (h : Q (.im (.int (if n < m then n else m))) W) : dMin2 [.im (.int m), .im (.int n)] W Q := ⟨m, n, rfl, h⟩
theorem x_intB {k : Bool} (h : Q (.im (.int (if k then 1 else 0))) W) : dIntOf [.im (.bool k)] W Q := .inr ⟨k, rfl, h⟩
theorem x_isi {T : String} {d : PyData} (h : Q (.im (.bool (isD d T))) W) : dIsi T [.im d, .ty T] W Q := ⟨.im d, d, rfl, rfl, h⟩
theorem dat_pt {n : Nat} (e : W p = some (.lst (ds.map .im))) : dat (n + 1) W (.pt p) = some (.list ds) := by
  unfold dat; rw [e]; show (datL (dat n W) (ds.map .im)).map _ = _; rw [datL_im (fun d => by cases n <;> rfl) ds]; rfl
theorem x_ty {Pr : Prop} (e : W p = some (.lst vs)) (h : Pr) : isTy "list" (.pt p) W ∧ Pr := ⟨isTyP e, h⟩
theorem dat_ints {n : Nat} {gs : List Int} (e : W p = some (.lst (intsD gs))) : dat (n + 1) W (.pt p) = some (.list (gs.map .int)) := dat_pt (ds := gs.map .int) (by rw [e]; simp)
theorem atI_last' {α : Type} {xs : List α} {v : α} : atI (xs ++ [v]) (-1) = some v := atI_last xs v
theorem ixN_last {n : Nat} : ixN (n + 1) (-1) = some n := by unfold ixN; rw [if_neg (by decide), if_pos (by omega)]; congr 1; omega
/-- a result that is a list of the def's own -/
theorem ret_nw {R : Res → Prop} (e : W p = some (.lst (ds.map .im))) (h : R (.nw ds)) : retR W R (.pt p) := ⟨_, ds, W, e, frzL_im (fun _ _ => rfl) ds, by rw [e]; rfl, h⟩
theorem x_listL (h : newL (ds.map .im) W Q) : dListOf [.im (.list ds)] W Q := ⟨_, _, rfl, rfl, h⟩
theorem x_slL {lo hi : Option Int} (h : newL ((cutD ds lo hi).map .im) W Q) : dSlL (.im (.list ds)) lo hi W Q := ⟨_, .inl rfl, by rw [show cutD (ds.map DV.im) lo hi = (cutD ds lo hi).map DV.im by unfold cutD; rw [List.length_map, List.map_take, List.map_drop]]; exact h⟩
theorem x_slP {q : Addr} {lo hi : Option Int} (e : W q = some (.lst vs)) (h : newL (cutD vs lo hi) W Q) : dSlL (.pt q) lo hi W Q := ⟨_, .inl (seqL_pt e), h⟩
theorem x_cat (e1 : seqL W v = some vs) (e2 : seqL W u = some us) (hl : vs.length + us.length ≤ sizeLine) (h : newL (vs ++ us) W Q) : dCat v u W Q := ⟨vs, us, e1, e2, hl, h⟩
theorem x_rep {n : Int} (e1 : seqL W v = some vs) (h1 : -(2 ^ 63) ≤ n) (h2 : n < 2 ^ 63) (hl : vs.length * n.toNat ≤ sizeLine) (h : newL (List.replicate n.toNat vs).flatten W Q) : dRep v (.im (.int n)) W Q := ⟨vs, n, e1, rfl, h1, h2, hl, h⟩
/-- a draw -/
theorem x_tray {S : DTp} {t g : Addr} {n : Nat} (e : W t = some (.tray g n)) (e2 : datL (dat 4 W) vs = some ds) (h : S n ds fun r n' => ImR r = true ∧ newR (wset W t (.tray g n')) Q r) : dTray S (.pt t :: vs) W Q := ⟨t, g, n, vs, rfl, e, .inl ⟨ds, e2, h⟩⟩
end
end L2

set_option Elab.async false
set_option linter.all false
set_option maxRecDepth 100000
set_option maxHeartbeats 4000000
namespace L2
open PySem PySem.Spec PyProof.Rows
/-! ### a, b, .. = a list -/
section
variable {prog : Program} {w : World} {A : Around} {E : Value → Shared → Prop} {s : Shared}
theorem draw_list {it t : Addr} {items : Array Value} (hne : t ≠ it) : ∀ (n i : Nat) (s : Shared) (Q : List Value → Shared → Prop), s.heap.IsListIter it t i → s.heap.IsList t items → i + n ≤ items.size →
    (∀ h', h'.IsListIter it t (i + n) → Heap.SameBut it s.heap h' → Q ((items.toList.drop i).take n) { s with heap := h' }) → wpAny (model prog w) A (draw (.ref it) n) Q E s
  | 0, i, s, Q, hit, _, _, hQ => by
    show wpAny _ _ (pure []) Q E s
    exact wpAny_pure (by simpa using hQ s.heap hit (Heap.SameBut.refl ..))
  | n + 1, i, s, Q, hit, ht, hle, hQ => by
    have hlt : i < items.size := by omega
    show wpAny _ _ (pyNext (.ref it) >>= _) Q E s
    refine wpAny_bind (wpAny_pyNext_list_item hit ht (x := items[i]) (by simp [hlt]) fun h₁ hit₁ hs₁ => ?_)
    refine wpAny_bind (wpAny_holding (draw_list hne n (i + 1) _ _ hit₁ (ht.extBut hs₁.extBut hne) (by omega) fun h₂ hit₂ hs₂ => wpAny_pure ?_))
    have hd : items.toList.drop i = items[i] :: items.toList.drop (i + 1) := by simp [List.drop_eq_getElem_cons, hlt]
    have := hQ h₂ (by rw [show i + (n + 1) = i + 1 + n by omega]; exact hit₂) (hs₁.trans hs₂)
    rw [hd, List.take_succ_cons] at this
    exact this
theorem unpackItems_list {t : Addr} {items : Array Value} {Q : List Value → Shared → Prop} (hh : A.handled = none) (ht : s.heap.IsList t items)
    (hQ : ∀ h', Heap.ExtBut s.heap.objs.size s.heap h' → Q items.toList { s with heap := h' }) : wpAny (model prog w) A (unpackItems (.ref t) items.size none) Q E s := by
  have hlt : t ≠ s.heap.objs.size := by obtain ⟨o, ho, _⟩ := ht; exact Nat.ne_of_lt (Heap.lt_size ho)
  unfold unpackItems
  refine wpAny_bind ?_
  · unfold notIterableAtAll
    refine wpAny_bind (wpAny_specialOf ht.typeIs F.slot_list_iter.lookup ?_)
    refine wpAny_pure ?_
    simp only [Bool.false_eq_true, if_false]
    refine wpAny_bind (wpAny_holding (wpAny_pyIter_list ht ?_))
    refine wpAny_bind (wpAny_holding (draw_list hlt items.size 0 _ _ ⟨_, Heap.get?_push_size _ rfl, rfl, rfl⟩ (ht.push _) (by omega) fun h₁ hit₁ hs₁ => ?_))
    have hall : List.take items.size (List.drop 0 items.toList) = items.toList := by
      rw [List.drop_zero]; exact List.take_of_length_le (by simp)
    rw [hall]
    rw [if_neg (by simp)]
    have ht₁ : h₁.IsList t items := (ht.push _).extBut hs₁.extBut hlt
    refine wpAny_bind (wpAny_holding (wpAny_pyNext_list_end hh hit₁ ht₁ (by simp) fun h₂ he₂ => ?_))
    simp only [Option.isSome_none, Bool.false_eq_true, if_false]
    refine wpAny_pure (hQ h₂ fun b o hb e => he₂ b o hb (hs₁.extBut b o hb (Heap.get?_push_of_some _ e)))
theorem unpack_list {t : Addr} {items : Array Value} {targets : List (Bool × (Value → Sem Unit))} {Q : Unit → Shared → Prop} (hh : A.handled = none) (ht : s.heap.IsList t items)
    (hn : targets.length = items.size) (hstar : targets.findIdx? (·.1) = none)
    (h : ∀ h', Heap.ExtBut s.heap.objs.size s.heap h' → wpAny (model prog w) A (assignInOrder (targets.map (·.2)) items.toList) Q E { s with heap := h' }) :
    wpAny (model prog w) A (unpack (.ref t) targets) Q E s := by
  unfold unpack
  rw [hn, hstar]
  exact wpAny_bind (wpAny_holding (unpackItems_list hh ht h))
theorem assign_Tuple_list {env : Env} {elts : List Expr} {x1} {pos : Pos} {t : Addr} {items : Array Value} {Q : Unit → Shared → Prop} (hh : A.handled = none) (ht : s.heap.IsList t items)
    (hn : (assignEach elts env).length = items.size) (hstar : (assignEach elts env).findIdx? (·.1) = none)
    (h : ∀ h', Heap.ExtBut s.heap.objs.size s.heap h' → wpAny (model prog w) A (assignInOrder ((assignEach elts env).map (·.2)) items.toList) Q E { s with heap := h' }) :
    wpAny (model prog w) A (assign (.Tuple elts x1 pos) env (.ref t)) Q E s := by
  rw [assign_Tuple]
  exact wpAny_bind (wpAny_standAt (unpack_list hh ht hn hstar h))
end
def gTupL (K : PySem.W.Frag) (n : Nat) (t : TGs) : TG := fun v σ H Q => ∃ a xs, v = .ref a ∧ SqL K H a xs ∧ xs.length = n ∧ t xs σ H Q
theorem pg_tupL {X : Cx} {pos : Pos} {es : List Expr} {k : Nat} {t : TGs} {n : Nat} (hc : X.calm = true) (h : PGs X es t)
    (hn : (assignEach es X.env).length = n := by rfl) (hst : (assignEach es X.env).findIdx? (·.1) = none := by rfl) : PG X (.Tuple es k pos) (gTupL X.K n t) := by
  intro pins s σ H v u Q I r hw
  obtain ⟨a, xs, e1, hq, hl, hw⟩ := hw
  subst e1
  cases r
  obtain ⟨its, rv, pl, hz⟩ := I.list hq
  refine assign_Tuple_list (I.ok.hd hc) pl.isList (by simp [hn, ← hl, rv.length]) hst fun h' hx => ?_
  have I1 : Inv X pins σ H { s with heap := h' } := I.kept (t' := s.toks) fun b o e => hx b o (Nat.ne_of_lt (Heap.lt_size e)) e
  exact h pins _ σ H xs _ Q I1 (by simpa using rv) hw
/-- (a, b, ..) = a tuple or a list -/
def gTupU (K : PySem.W.Frag) (n : Nat) (t : TGs) : TG := fun v σ H Q => gTup K n t v σ H Q ∨ gTupL K n t v σ H Q
theorem g_tupU {X : Cx} {pos : Pos} {es : List Expr} {k n : Nat} {tgs : TGs} (h : SGs X es tgs) (hc : X.calm = true := by rfl) (hn : (assignEach es X.env).length = n := by rfl) (hst : (assignEach es X.env).findIdx? (·.1) = none := by rfl) : SG X (.Tuple es k pos) (gTupU X.K n tgs) :=
  ⟨fun pins s σ H v u Q I r hw => hw.elim (pg_tup hc h.run hn hst pins s σ H v u Q I r) (pg_tupL hc h.run hn hst pins s σ H v u Q I r)⟩
def dGU (n : Nat) (b : DTGs) : DTG := fun dv ρ W Q => ∃ vs, seqV W dv = some vs ∧ vs.length = n ∧ b vs ρ W Q
instance {C : DC} {K : PySem.W.Frag} [hk : KIs C K] {gs : TGs} {dgs : DTGs} {n : Nat} [ib : LGs C gs dgs] : LG C (gTupU K n gs) (dGU n dgs) := by
  obtain ⟨rfl⟩ := hk
  exact ⟨fun D v h k => by
    obtain ⟨vs, e, hl, q⟩ := h
    obtain ⟨p, xs, e1, hq, r⟩ := D.seqV v e
    rcases hq with hq | hq
    · exact .inr ⟨p, xs, e1, hq, by rw [← r.length]; exact hl, ib.go D r q k⟩
    · exact .inl ⟨p, xs, e1, hq, by rw [← r.length]; exact hl, ib.go D r q k⟩⟩
section
variable {Qs : Rho → Wd → Prop} {ρ : Rho} {W : Wd} {gs : DTGs} {ds : List PyData} {vs : List DV} {p : Addr} {k : Nat}
theorem x_guT (hl : ds.length = k) (h : gs (ds.map .im) ρ W Qs) : dGU k gs (.im (.tuple ds)) ρ W Qs := ⟨_, rfl, by rw [List.length_map]; exact hl, h⟩
theorem x_guL (hl : ds.length = k) (h : gs (ds.map .im) ρ W Qs) : dGU k gs (.im (.list ds)) ρ W Qs := ⟨_, rfl, by rw [List.length_map]; exact hl, h⟩
theorem x_g1m {a : DTG} {d : PyData} {r : List PyData} (h : a (.im d) ρ W fun ρ' W' => gs (r.map .im) ρ' W' Qs) : dG1 a gs ((d :: r).map .im) ρ W Qs := ⟨_, _, rfl, h⟩
theorem x_g0m (h : Qs ρ W) : dG0 (([] : List PyData).map .im) ρ W Qs := ⟨rfl, h⟩
end
/-! ### what is own, abstractly -/
def SDraw : DTp := fun n ds R => ∃ m : Int, ds = [.int m] ∧ n ≤ 1000000000 ∧ 0 < m ∧ m < 2 ^ 64 ∧ ∀ r : Int, 0 ≤ r → r < m → R (.im (.int r)) (n + 1)
section
variable {W : Wd} {Q : DK} {p t g : Addr} {vs us : List DV} {v : DV} {n : Nat} {m : Int} {Qs : Rho → Wd → Prop} {ρ : Rho} {ds : List PyData}
theorem x_draw (e : W t = some (.tray g n)) (hn : n ≤ 1000000000) (m0 : 0 < m) (m1 : m < 2 ^ 64) (h : ∀ (r : Int) (W' : Wd), 0 ≤ r → r < m → W' t = some (.tray g (n + 1)) → Fr t W W' → Q (.im (.int r)) W') : dTray SDraw [.pt t, .im (.int m)] W Q :=
  x_tray e rfl ⟨m, rfl, hn, m0, m1, fun r r0 r1 => ⟨rfl, h r _ r0 r1 wset_same fun a ha => wset_ne ha⟩⟩
theorem x_appendA (e : W p = some (.lst vs)) (hl : vs.length < sizeLine) (h : ∀ W', W' p = some (.lst (vs ++ [v])) → Fr p W W' → Q (.im .none) W') : dAppend (.pt p) [v] W Q := x_append e hl (h _ wset_same fun a ha => wset_ne ha)
theorem x_setA {k : Int} {j : Nat} {Kc : Wd → Prop} (e : W p = some (.lst vs)) (hj : ixN vs.length k = some j) (h : ∀ W', W' p = some (.lst (vs.set j v)) → Fr p W W' → Kc W') : dPutL (.pt p) (.im (.int k)) v W Kc := ⟨p, vs, k, j, rfl, rfl, e, hj, h _ wset_same fun a ha => wset_ne ha⟩
theorem ixN_ok {k : Int} (h0 : 0 ≤ k) (h1 : k < n) : ixN n k = some k.toNat := by unfold ixN; rw [if_pos h0, if_pos h1]
theorem x_rim {d : PyData} (h : Q (.im d) W) : newR W Q (.im d) := h
theorem x_rnF (h : Q (.im (.list ds)) W) : newR W Q (.nw ds) := Or.inr h
end
/-! ### a def that may raise, called where it does not -/
end L2

set_option Elab.async false
set_option linter.all false
set_option maxRecDepth 100000
set_option maxHeartbeats 4000000
namespace L2
open PySem PySem.Spec PyProof.Rows
/-! ### dicts of the def's own -/
section
variable {κ β : Type} [DecidableEq κ]
end
section
variable {C : DC} {F : Hp} {κ : Type} [DecidableEq κ]
end
section
variable {C : DC} {σ : St} {H H' : Hp} {ρ : Rho} {W W' : Wd} {Qd : DK} {Q : VK} {x y v : V} {a b dv : DV} {F : Hp} {td ty tv : TE} {da db dc : DTE}
/-! a display {k: v, ..} -/
end
/-! the sealed rules -/
section
variable {X : Cx} {o i e value : Expr} {pos pos' tpos : Pos} {td ty tv : TE}
end
/-! the steps -/
section
variable {nx bk ct : Rho → Wd → Prop} {rt Q : DK} {ρ : Rho} {W : Wd} {da db dc : DTE} {f : DR2} {p : Addr} {kvs : List (Key × DV)} {kvt : List (List Key × DV)} {k : Key} {kt : List Key} {v a b : DV}
end
end L2

set_option Elab.async false
set_option linter.all false
set_option maxRecDepth 100000
set_option maxHeartbeats 4000000
namespace L2
open PySem PySem.Spec PyProof.Rows
/-! ### a def that is handed a caught exception -/
section
variable {P : Program} {w : World} {K : PySem.W.Frag} {mg : Str → Option Value} {base : Heap} {x qual : Str} {st : Stmt} {f : Addr} {fd : FuncData} {N : List Str} {p : Str} {k : Nat} {c : Addr} {b : Bool}
end
theorem x_trayI {W : Wd} {Q : DK} {ds : List PyData} {S : DTp} {t g : Addr} {n : Nat} (e : W t = some (.tray g n)) (h : S n ds fun r n' => newR (wset W t (.tray g n')) Q r) : dTray S (.pt t :: ds.map .im) W Q := ⟨t, g, n, _, rfl, e, .inr ⟨ds, W, frzL_im (fun _ _ => rfl) ds, e, h⟩⟩
end L2

set_option Elab.async false
set_option linter.all false
set_option maxRecDepth 100000
set_option maxHeartbeats 4000000
namespace L2
open PySem PySem.Spec PyProof.Rows
/-! ### enumerate of a list -/
/-! over data -/
section
variable {C : DC} {F : Hp}
end
section
variable {W : Wd} {ρ : Rho} {as : DTA} {B' : DIt → Wd → Prop} {ds : List PyData} {g : DTG} {b : DTS} {c : DTT} {e : DTE} {nx bk ct : Rho → Wd → Prop} {rt : DV → Wd → Prop} {Q : DK}
end
end L2

set_option Elab.async false
set_option linter.all false
set_option maxRecDepth 100000
set_option maxHeartbeats 4000000
namespace L2
open PySem PySem.Spec PyProof.Rows
/-! ### isinstance of a caught exception, or of None -/
section
variable {X : Cx}
end
section
variable {C : DC}
end
section
variable {P : Program} {w : World} {K : PySem.W.Frag} {mg : Str → Option Value} {base : Heap} {x qual : Str} {st : Stmt} {f : Addr} {fd : FuncData} {N : List Str} {p : Str} {k : Nat} {c : Addr} {b b' : Bool}
end
section
variable {W : Wd} {ρ : Rho} {ds : List PyData} {g : DTG} {b : DTS} {c : DTT} {e : DTE} {nx bk ct : Rho → Wd → Prop} {rt : DV → Wd → Prop} {Q : DK} {kp : Wd → Prop}
end
end L2

set_option Elab.async false
set_option linter.all false
set_option maxRecDepth 100000
set_option maxHeartbeats 4000000
namespace L2
open PySem PySem.Spec PyProof.Rows
/-! ### range(a, b, -1) -/
section
variable {X : Cx} {tg : Expr}
end
/-! over data -/
section
variable {C : DC} {F : Hp}
end
section
variable {W : Wd} {ρ : Rho} {as : DTA} {B' : DIt → Wd → Prop} {g : DTG} {b : DTS} {c : DTT} {e : DTE} {nx bk ct : Rho → Wd → Prop} {rt : DV → Wd → Prop} {Q : DK} {m n : Int}
end
end L2

set_option Elab.async false
set_option linter.all false
set_option maxRecDepth 100000
set_option maxHeartbeats 4000000
namespace L2
open PySem PySem.Spec PyProof.Rows
/-! ### xs[::-1] of a list -/
def tRev (K : PySem.W.Frag) (te : TE) (ts : TO) : TE := fun σ H Q => te σ H fun x H1 => ts σ H1 fun o H2 => o = some (-1) ∧ ∃ a xs, x = .ref a ∧ SqL K H2 a xs ∧ ∀ p, H2 p = none → Q (.ref p) (upd H2 p (.lst xs.reverse))
theorem Vals.rev : ∀ {xs : List V} {us : List Value}, Vals xs us → Vals xs.reverse us.reverse
  | _, _, .nil => .nil
  | _, _, .cons h t => by rw [List.reverse_cons, List.reverse_cons]; exact (Vals.rev t).append (.cons h .nil)
section
variable {X : Cx} {e st : Expr} {te : TE} {ts : TO} {p2 pos : Pos}
theorem pe_rev (he : PE X e te) (hst : PO X (some st) ts) : PE X (.Subscript e (.Slice none none (some st) p2) pos) (tRev X.K te ts) := by
  intro pins s σ H Q I h
  refine Subscript_ (thn (he pins s σ H _ I h) fun v s1 ⟨x, H1, I1, r1, q1⟩ => ?_)
  refine wpAny_Slice ?_
  rw [evalPart_none]
  refine wpAny_pure (wpAny_pure (thn (hst pins s1 σ H1 _ I1 q1) fun vs s3 ⟨o, H3, I3, ps, eo, a, xs, ex, hx, q⟩ => ?_))
  subst eo ex
  have I4 : Inv X pins σ H3 { s3 with heap := s3.heap.push { cls := .type "slice", data := .fields #[.none, .none, vs] } } := I3.kept (t' := s3.toks) fun b ob q => Heap.get?_push_of_some _ q
  cases r1
  obtain ⟨its, r, ht, hz⟩ := I4.list hx
  have hlen := r.length
  show wpAny (model X.prog X.w) X.A (subscriptTail e (.Slice none none (some st) p2) (.ref a) (.ref s3.heap.objs.size)) (EP X pins σ Q) X.xe { s3 with heap := s3.heap.push { cls := .type "slice", data := .fields #[.none, .none, vs] } }
  refine tail_any (ops := [.ref a, .ref s3.heap.objs.size]) ht.isList.typeIs slot_list_getitem.lookup ?_ (by with_unfolding_all rfl)
  refine wpAny_getItem_list_slice (s := { s3 with heap := s3.heap.push { cls := .type "slice", data := .fields #[.none, .none, vs] } }) ht.isList (Heap.IsSliceOf.new ..) .none .none ps (by simp) ?_ (by rw [List.size_toArray] <;> omega)
  rw [PySem.W.krv_pick]
  refine ⟨.ref _, _, I4.laid (t' := s3.toks) (o := .lst xs.reverse) (fun b ob q => Heap.get?_push_of_some _ q) (Nat.le_refl _) ?_, rfl, q _ (I4.hok.fresh (Nat.le_refl _))⟩
  exact ⟨by rw [List.length_reverse]; exact hz, _, 0, r.rev, Heap.get?_push_size _ rfl⟩
theorem e_rev (he : SE X e te) (hst : SO X (some st) ts) : SE X (.Subscript e (.Slice none none (some st) p2) pos) (tRev X.K te ts) := ⟨pe_rev he.run hst.run⟩
end
section
variable {C : DC}
def dRev (da : DTE) (ds : DTO) : DTE := fun ρ W Q => da ρ W fun v W1 => ds ρ W1 fun o W2 => o = some (-1) ∧ ∃ vs, seqL W2 v = some vs ∧ newL vs.reverse W2 Q
theorem VAll.rev {F : Hp} : ∀ {vs : List DV} {xs : List V}, VAll C F vs xs → VAll C F vs.reverse xs.reverse
  | [], _, h => by cases h; exact rfl
  | v :: r, _, ⟨y, ys, e, h, hr⟩ => by subst e; rw [List.reverse_cons, List.reverse_cons]; exact (VAll.rev hr).append ⟨y, [], rfl, h, rfl⟩
instance {K : PySem.W.Frag} [hk : KIs C K] {te : TE} {da : DTE} {ts : TO} {ds : DTO} [ia : LE C te da] [io : LO C ts ds] : LE C (tRev K te ts) (dRev da ds) := by
  obtain ⟨rfl⟩ := hk
  exact ⟨fun D h k => ia.go D h fun x dv H1 W1 D1 s1 v1 h1 => io.go D1 h1 fun o H2 W2 D2 s2 ⟨eo, vs, e, q⟩ => by
  obtain ⟨p, xs, rfl, hq, r⟩ := D2.seqL (v1.mono s2) e
  exact ⟨eo, p, xs, rfl, SqL.of hq, fun l hl => newL_ok D2 r.rev hl q (k.mono (s1.trans s2))⟩⟩
end
section
variable {W : Wd} {ρ : Rho} {da : DTE} {ds : DTO} {Q : DK} {es : List PyData}
theorem x_rev (h : da ρ W fun v W1 => ds ρ W1 fun o W2 => o = some (-1) ∧ ∃ vs, seqL W2 v = some vs ∧ newL vs.reverse W2 Q) : dRev da ds ρ W Q := h
theorem x_revL (h : Q (.im (.list es.reverse)) W) : some (-1 : Int) = some (-1) ∧ ∃ vs, seqL W (.im (.list es)) = some vs ∧ newL vs.reverse W Q := ⟨rfl, _, rfl, by rw [← List.map_reverse]; exact n_dat h⟩
end
/-! ### a, b = x, y with plain local names -/
section
variable {C : DC}
end
end L2

set_option Elab.async false
set_option linter.all false
set_option maxRecDepth 100000
set_option maxHeartbeats 4000000
namespace L2
open PySem PySem.Spec PyProof.Rows
/-! ### try: y = f(..), except C as n: .., except C2 as n: .. -/
section
variable {X : Cx} {k l : Nat} {f Cc C2 : Addr} {fd : FuncData} {ps : List Str} {sp : Sp} {i j : Nat} {y n fx cx cy : Str} {yp fp cpos apos cp hp cp2 hp2 pos : Pos} {e : Expr} {es : List Expr} {b₀ b₁ : Stmt} {suite suite2 : List Stmt} {ta : TA} {ts ts2 : TS}
end
section
variable {C : DC}
end
/-! ### a module's dict of tuples, by a text -/
theorem x_rho {d : DTS} {De : DEnds} {ρ : Rho} {W : Wd} (ρ' : Rho) (e : ρ = ρ') (h : d De ρ' W) : d De ρ W := by rw [e]; exact h
end L2

set_option Elab.async false
set_option linter.all false
set_option maxRecDepth 100000
set_option maxHeartbeats 4000000
namespace L2
open PySem PySem.Spec PyProof.Rows
/-! ### a def with defaults that may raise -/
end L2

set_option Elab.async false
set_option linter.all false
set_option maxRecDepth 100000
set_option maxHeartbeats 4000000
namespace L2
open PySem PySem.Spec PyProof.Rows
/-! ### for x in reversed(a list) -/
def Itv (K : PySem.W.Frag) (a : Addr) (n : Nat) : It :=
  ⟨fun i H => ∃ xs x, SqL K H a xs ∧ xs.length = n ∧ i < n ∧ xs[n - 1 - i]? = some x, fun i H x H' => H' = H ∧ ∀ xs, SqL K H a xs → xs.length = n → xs[n - 1 - i]? = some x, fun i H => n ≤ i⟩
theorem turn_rev {P : Program} {w : World} {K : PySem.W.Frag} {tg : Expr} (a it : Addr) (n : Nat) : Turn P w K tg (Itv K a n) [it] it (fun i h => i ≤ n ∧ h.IsRevIter it a ((n : Int) - 1 - (i : Int))) where
  mem := by simp
  obj := fun i h st b hb => by
    have e : b = it := by simpa using hb
    subst e
    obtain ⟨_, o, e, c, d⟩ := st
    exact ⟨o, e, fun v z => by rw [d] at z; cases z⟩
  keep := fun i h h' st k => ⟨st.1, st.2.at fun o e => k it (by simp) o e⟩
  item := by
    intro X hP hw hK hc i pins s σ H E I hf st hg
    subst hP hw hK
    obtain ⟨xs, x, hq, hn, hi, hx⟩ := hg
    obtain ⟨its, rv, p, hz⟩ := I.list hq
    obtain ⟨u, hu, ru⟩ := rv.get hx
    obtain ⟨f0, f1, f2, f3, f4, f5⟩ := hf it (by simp)
    have e1 : (n : Int) - 1 - (i : Int) = ((n - 1 - i : Nat) : Int) := by omega
    have st2 := st.2
    rw [e1] at st2
    refine wpAny_pyNext_rev_item st2 p.isList (x := u) (by simpa using hu) fun h' st' sb => ?_
    have I1 : Inv X pins σ H { s with heap := h' } := I.turned (t' := s.toks) (fun b o hb e => (sb.2 b hb).trans e) f0 f1 f3 f4 f5
    obtain ⟨o, e, c, d⟩ := id st'
    have e2 : ((n - 1 - i : Nat) : Int) - 1 = (n : Int) - 1 - ((i + 1 : Nat) : Int) := by omega
    rw [e2] at st'
    exact ⟨u, rfl, go_of (s := { s with heap := h' }) e c d (by decide) ⟨x, H, I1, ru, ⟨rfl, fun ys hy _ => by rw [I.list_inj hy hq]; exact hx⟩, ⟨hi, st'⟩, fun b hb => (hf b hb).1⟩⟩
  done := by
    intro X hP hw hK hc i pins s σ H E I hf st hg
    subst hP hw hK
    have hg' : n ≤ i := hg
    obtain ⟨f0, f1, f2, f3, f4, f5⟩ := hf it (by simp)
    have e1 : (n : Int) - 1 - (i : Int) = -1 := by have := st.1; omega
    have st2 := st.2
    rw [e1] at st2
    exact wpAny_pyNext_rev_end (I.ok.hd hc) st2 fun h' eb => ⟨rfl, I.turned (t' := s.toks) (fun b o hb e => eb b o hb e) f0 f1 f3 f4 f5⟩
  self := fun _ _ _ _ _ st h => wpAny_pyIter_revIter st.2 h
def iRev (K : PySem.W.Frag) (ta : TA) : TI := fun σ H R => ta σ H fun vs H1 => ∃ a xs, vs = [.ref a] ∧ SqL K H1 a xs ∧ R (Itv K a xs.length) H1
theorem pi_rev {X : Cx} {tg : Expr} {a : Expr} {ta : TA} {p pos : Pos} (hg : Gl X "reversed") (hm : X.mg "reversed" = none) (ha : PA X [a] ta) (hs : starEach [a] X.env = [(false, eval a X.env)] := by rfl) :
    PI X tg (.Call (.Name "reversed" p) [a] [] pos) (iRev X.K ta) := by
  intro pins s σ H R I h
  refine Call_ (ld_blt I hg hm PyProof.Rows.boot_reversed (PyProof.Rows.callWith_type1 (thn (ha pos pins s σ H _ I h) fun us s1 ⟨vs, H1, I1, r1, q1⟩ => ?_) (by rw [hs]; rfl) (by rfl)))
  obtain ⟨l1, xs, e, hq1, q⟩ := q1
  subst e
  obtain ⟨u1, rfl, ru1⟩ := vals1 r1
  cases (show u1 = Value.ref l1 from ru1)
  obtain ⟨its, rv, pl, hz⟩ := I1.list hq1
  have hl := rv.length
  refine call_reversed_list pl.isList ?_
  have hr : (s1.heap.push (revObj l1 ((its.toArray.size : Int) - 1))).IsRevIter s1.heap.objs.size l1 ((its.toArray.size : Int) - 1) := ⟨_, Heap.get?_push_size _ rfl, rfl, rfl⟩
  refine wpAny_pyIter_revIter (s := { s1 with heap := s1.heap.push (revObj l1 ((its.toArray.size : Int) - 1)) }) hr ?_
  refine ⟨s1.heap.objs.size, [s1.heap.objs.size], _, _, H1, rfl, I1.kept (t' := s1.toks) fun b o e => Heap.get?_push_of_some _ e, turn_rev l1 _ xs.length, ⟨Nat.zero_le _, ?_⟩, fun b hb => ?_, q⟩
  · have e3 : ((xs.length : Nat) : Int) - 1 - ((0 : Nat) : Int) = (its.toArray.size : Int) - 1 := by simp [hl]
    rw [e3]; exact hr
  · have e : b = s1.heap.objs.size := by simpa using hb
    subst e
    exact I1.fpOk (Nat.le_refl _) (I1.hok.fresh (Nat.le_refl _))
theorem i_rev {X : Cx} {tg : Expr} {e : Expr} {ts : TA} {p pos : Pos} (hm : X.mg "reversed" = none) (ha : SA X [e] ts) (hn : noStar e = true := by rfl) (hg : Gl X "reversed" := by rfl) :
    SI X tg (.Call (.Name "reversed" p) [e] [] pos) (iRev X.K ts) := ⟨pi_rev hg hm ha.run (star_of [] X.env hn)⟩
/-! over data -/
def dVs (vs : List DV) (W1 : Wd) (Q : DIt → Wd → Prop) : Prop := ∃ v1 us1, vs = [v1] ∧ seqK .L W1 v1 = some us1 ∧ Q ⟨us1.reverse, fun W' => kpOf v1 us1 W'⟩ W1
def dRevI (a : DTA) : DTI := fun ρ W Q => a ρ W fun vs W1 => dVs vs W1 Q
section
variable {C : DC} {F : Hp}
theorem itv_ok {a : Addr} {us : List DV} {kp : Wd → Prop} (h1 : ∀ σ H ρ W, DR C σ H ρ W → Same F (Fz C W H) → kp W → ∃ xs, SqL C.K H a xs ∧ VAll C (Fz C W H) us xs) : ItOk C F (Itv C.K a us.length) ⟨us.reverse, kp⟩ where
  go := fun i σ H ρ W D s kw hi => by
    obtain ⟨xs, q, v⟩ := h1 σ H ρ W D s kw
    have hi' : i < us.length := by simpa using hi
    have hl := v.length
    exact ⟨xs, xs[us.length - 1 - i]'(by omega), q, by omega, hi', by simp [show us.length - 1 - i < xs.length by omega]⟩
  yld := fun i σ H ρ W D s kw hi x H' hy => by
    obtain ⟨e, y⟩ := hy
    obtain ⟨xs, q, v⟩ := h1 σ H ρ W D s kw
    subst e
    have hi' : i < us.length := by simpa using hi
    obtain ⟨dv, e2, v2⟩ := v.get' (y xs q v.length.symm)
    refine ⟨D, Same.refl _, dv, ?_, v2⟩
    show us.reverse[i]? = some dv
    rw [List.getElem?_reverse hi']
    exact e2
  stop := fun σ H ρ W D s kw => by show us.length ≤ us.reverse.length; rw [List.length_reverse]; exact Nat.le_refl _
instance {K : PySem.W.Frag} {ts : TA} {ds : DTA} [hk : KIs C K] [is : LA C ts ds] : LI C (iRev K ts) (dRevI ds) := by
  obtain ⟨rfl⟩ := hk
  refine ⟨fun D h k => is.go D h fun xs dvs H1 W1 D1 s1 v1 hq => ?_⟩
  obtain ⟨a, us1, e, e1, q⟩ := hq
  subst e
  obtain ⟨x, rfl, hx⟩ := v1.one_inv
  obtain ⟨p1, rfl, k1', f1⟩ := seqK_keep D1 hx e1
  obtain ⟨ys, qy, ry⟩ := f1 _ _ _ _ D1 (Same.refl _) k1'
  refine ⟨p1, ys, rfl, qy, ?_⟩
  rw [← ry.length]
  exact k _ _ _ _ D1 s1 (itv_ok fun σ H ρ W D s kw => f1 σ H ρ W D s kw) q
end
section
variable {W : Wd} {ρ : Rho} {as : DTA} {B' : DIt → Wd → Prop} {vs : List DV}
theorem x_irev (h : as ρ W fun vs W1 => dVs vs W1 B') : dRevI as ρ W B' := h
theorem x_rvP {p : Addr} (e : W p = some (.lst vs)) (h : B' ⟨vs.reverse, fun W' => W' p = some (.lst vs)⟩ W) : dVs [.pt p] W B' := ⟨_, _, rfl, seqK_pt e, h⟩
end
/-! a name set, the names put in order -/
theorem x_gnR {i : Nat} {v : DV} {ρ : Rho} {W : Wd} {k : Rho → Wd → Prop} (ρ' : Rho) (e : ρ.set i (some v) = ρ') (h : k ρ' W) : dGN i v ρ W k := by subst e; exact h
end L2

set_option Elab.async false
set_option linter.all false
set_option maxRecDepth 100000
set_option maxHeartbeats 4000000
set_option synthInstance.maxHeartbeats 0
set_option synthInstance.maxSize 100000
namespace T1
open PySem L2
local macro_rules | `(tactic| array_mem_dec) => `(tactic| first
  | with_reducible refine x_seqA ?_
  | with_reducible refine x_seqD ?_
  | with_reducible refine x_seqU ?_
  | with_reducible refine x_seqN ?_
  | with_reducible refine x_seqP ?_
  | with_reducible refine x_seqG ?_
  | with_reducible refine x_dput ?_
  | with_reducible refine x_daug ?_
  | with_reducible refine x_dget ?_
  | with_reducible refine x_din ?_
  | with_reducible refine x_p0 ?_
  | with_reducible refine x_p1 ?_
  | ((with_reducible apply x_pk); (· exact rfl))
  | with_reducible refine x_next ?_
  | with_reducible refine x_ret ?_
  | with_reducible refine x_retN ?_
  | with_reducible refine x_drop ?_
  | with_reducible refine x_asg ?_
  | with_reducible refine x_ifS ?_
  | with_reducible refine x_gn ?_
  | with_reducible refine x_g0 ?_
  | with_reducible refine x_gs ?_
  | with_reducible refine x_g1 ?_
  | with_reducible refine x_g1m ?_
  | with_reducible refine x_g0m ?_
  | ((with_reducible apply x_guT); (· exact rfl))
  | ((with_reducible apply x_guL); (· exact rfl))
  | ((with_reducible apply x_var); · exact rfl)
  | ((with_reducible apply x_aug); · exact rfl)
  | with_reducible refine x_c ?_
  | with_reducible refine x_ct ?_
  | with_reducible refine x_md ?_
  | with_reducible refine x_op ?_
  | with_reducible refine x_neE ?_
  | with_reducible refine x_eqE ?_
  | with_reducible refine x_un ?_
  | with_reducible refine x_bo ?_
  | with_reducible refine x_bb ?_
  | with_reducible refine x_and ?_
  | with_reducible refine x_or ?_
  | with_reducible refine x_not ?_
  | with_reducible refine x_andV ?_
  | with_reducible refine x_orV ?_
  | with_reducible refine x_notV ?_
  | with_reducible refine x_if ?_
  | with_reducible refine x_isN ?_
  | with_reducible refine x_notN ?_
  | with_reducible refine x_chain ?_
  | with_reducible refine x_nil ?_
  | with_reducible refine x_cons ?_
  | ((with_reducible refine x_ks ?_); refine ⟨rfl, ?_⟩)
  | with_reducible refine x_tup ?_
  | with_reducible refine x_lst ?_
  | with_reducible refine x_cb ?_
  | with_reducible refine x_rim ?_
  | with_reducible refine x_df ?_
  | with_reducible refine x_bm ?_
  | with_reducible refine x_bm0 ?_
  | with_reducible refine x_sl ?_
  | with_reducible refine x_nopart ?_
  | with_reducible refine x_part ?_
  | with_reducible refine x_ii ?_
  | with_reducible refine x_comp ?_
  | with_reducible refine x_yes ?_
  | with_reducible refine x_for ?_
  | with_reducible refine x_brk ?_
  | with_reducible refine x_cont ?_
  | with_reducible refine x_raise ?_
  | with_reducible refine x_rng1 ?_
  | with_reducible refine x_rng2 ?_
  | with_reducible refine x_rng3 ?_
  | with_reducible refine x_rev ?_
  | ((with_reducible apply x_r1); (· omega); (· omega))
  | ((with_reducible apply x_r2); (· omega))
  | with_reducible refine x_ilist ?_
  | with_reducible refine x_ienum ?_
  | with_reducible refine x_irev ?_
  | with_reducible refine x_enL ?_
  | with_reducible refine x_ilL ?_
  | with_reducible refine x_ilS ?_
  | ((with_reducible apply x_ilP); (· assumption))
  | with_reducible refine x_itup ?_
  | with_reducible refine x_itT ?_
  | with_reducible refine x_I0 ?_
  | ((with_reducible apply x_I); · first | (show (0 : Int) < _; omega) | (show (0 : Int) < _; decide) | exact ⟨by omega, by omega⟩ | exact .inl ⟨by omega, by omega⟩ | exact .inr ⟨by omega, by omega⟩ | exact .inr ⟨by decide, by decide⟩ | exact ⟨by decide, by decide, by decide⟩ | exact ⟨by decide, by decide, by omega⟩)
  | with_reducible refine x_U ?_
  | with_reducible refine x_eqI ?_
  | with_reducible refine x_neI ?_
  | with_reducible refine x_eqS ?_
  | with_reducible refine x_neS ?_
  | with_reducible refine x_eqB ?_
  | with_reducible refine x_neB ?_
  | with_reducible refine x_lenL ?_
  | with_reducible refine x_lenT ?_
  | with_reducible refine x_lenS ?_
  | with_reducible refine x_abs ?_
  | with_reducible refine x_max ?_
  | with_reducible refine x_min ?_
  | with_reducible refine x_intB ?_
  | with_reducible refine x_isi ?_
  | with_reducible refine x_izip ?_
  | ((with_reducible apply x_lenP); (· assumption))
  | ((with_reducible apply x_ty); (· assumption))
  | with_reducible refine i_T ?_
  | with_reducible refine i_F ?_
  | with_reducible refine i_NT ?_
  | with_reducible refine i_NF ?_
  | with_reducible refine i_NN ?_)
local macro_rules | `(tactic| array_get_dec) => `(tactic| repeat (first
  | array_mem_dec
  | ((with_reducible apply x_ixT); (· exact rfl))
  | ((with_reducible apply i_dT); · decide)
  | ((with_reducible apply i_dF); · decide)
  | ((with_reducible apply i_nT); · decide)
  | ((with_reducible apply i_nF); · decide)
  | ((with_reducible apply i_dT); · omega)
  | ((with_reducible apply i_dF); · omega)
  | ((with_reducible apply i_nT); · omega)
  | ((with_reducible apply i_nF); · omega)))
def top (i : Nat) : Stmt := PySem.Challenge.pw_twomakes_k34_where_two_are_apart.main.body.getD i (.Pass ⟨0, 0, 0, 0⟩)
abbrev spLaw (K : PySem.W.Frag) : Sp := spLawD K
abbrev sDeck : Stmt := top 9
abbrev sTake : Stmt := top 10
theorem scDeck : FnScope ["script", "great", "fold", "cell"] ["script"] (defScope sDeck) := ⟨rfl, rfl, rfl, by decide +kernel, rfl, by decide +kernel, by decide +kernel⟩
theorem scTake : FnScope ["deck", "many", "drawn", "k", "mixed"] ["deck", "many"] (defScope sTake) := ⟨rfl, rfl, rfl, by decide +kernel, rfl, by decide +kernel, by decide +kernel⟩
def Dk : Addr → Nat → Cell → List Int → Prop := fun g n c gs => ∃ f k : Int, c = .lst [.pt g, .im (.int f), .im (.int k)] ∧ 0 ≤ f ∧ f < 2305843009213693951 ∧ 0 ≤ k ∧ k ≤ n ∧ gs.length ≤ 100
section
variable {P : Program} {w : World} {K : PySem.W.Frag} {mg : Str → Option Value} {base : Heap} {f : Addr} {fd : FuncData}
theorem ok_deck (F : Fun K "_law_deck" "_law_deck" sDeck f fd) (m_abs : mg "abs" = none) : FnOk P w K mg base CX0 1 f fd ["script"] (spMk K (mkRs Dk)) := by
  refine F.okMk scDeck fun cdv A outer s H E hr => ?_
  refine ⟨_, (ss_cons (s_set 1 scDeck.nd (e_lst a_nil))
    (ss_cons (s_set 2 scDeck.nd e_int)
    (ss_cons (s_for (i_list (e_v 0)) (g_name 3 scDeck.nd) (ss_cons (s_set 2 scDeck.nd (e_op op_mod (e_op op_add (e_op op_mul (e_v 2) e_int) (e_v 3)) e_int))
      (ss_one (s_if (t_cmp op_ge (e_callB call_absN m_abs PyProof.Rows.boot_abs (a_cons (e_v 3) a_nil)) (e_op op_pow e_int e_int)) (ss_one (s_expr (e_bm PySem.F.plainAttrs_list PySem.F.slot_list_insert PySem.F.type_list_insert mt_insert0 (e_v 1) (a_cons e_int (a_cons (e_op op_sub (e_callB call_absN m_abs PyProof.Rows.boot_abs (a_cons (e_v 3) a_nil)) (e_op op_pow e_int e_int)) a_nil))))) ss_nil))))
    (ss_one (s_ret (e_lst (a_cons (e_v 1) (a_cons (e_v 2) (a_cons e_int a_nil))))))))), ?_⟩
  (try dsimp only [cxOf, Cx.nox, Cx.wish, blkX, Cx.withX, Cx.marked])
  refine ⟨_, inferInstance, fun ns h63 => ?_⟩
  refine x_rho [_, none, none, none] rfl ?_
  repeat array_mem_dec
  refine ⟨Nat.zero_le _, .inl fun p hp => ?_⟩
  repeat array_mem_dec
  refine x_seq ?_
  repeat array_mem_dec
  refine x_loopS (fun i ρ W => ∃ (fo : Int) (gs : List Int) (u : Option DV), ρ = [some (.scr ns), some (.pt p), some (.im (.int fo)), u] ∧ W = wset W0 p (.lst (intsD gs)) ∧ gs.length ≤ i ∧ 0 ≤ fo ∧ fo < 2305843009213693951) ⟨11, [], none, rfl, rfl, Nat.le_refl _, by decide, by decide⟩ ?_ ?_
  · rintro i z ρ W hi ⟨fo, gs, u, rfl, rfl, hl, f0, f1⟩
    have hil : i < ns.length := (List.getElem?_eq_some_iff.mp hi).1
    have hw : wset W0 p (.lst (intsD gs)) p = some (.lst (intsD gs)) := wset_same
    repeat array_mem_dec
    have b0 : 0 ≤ (fo * 1000003 + z) % (2305843009213693951 : Int) := Int.emod_nonneg _ (by decide)
    have b1 : (fo * 1000003 + z) % (2305843009213693951 : Int) < 2305843009213693951 := Int.emod_lt_of_pos _ (by decide)
    refine i_d (fun _ => ?_) (fun _ => ?_)
    · repeat array_mem_dec
      refine x_insert0 hw (by rw [List.length_map]; exact small1000 (by omega)) ?_
      repeat array_mem_dec
      exact ⟨_, _ :: gs, _, rfl, wset_wset, by rw [List.length_cons]; omega, b0, b1⟩
    · repeat array_mem_dec
      exact ⟨_, gs, _, rfl, rfl, by omega, b0, b1⟩
  · rintro ρ W ⟨fo, gs, u, rfl, rfl, hl, f0, f1⟩
    repeat array_mem_dec
    refine ⟨(by show 3 ≤ sizeLine; decide), .inl fun q hq => ?_⟩
    have pq : p ≠ q := fun z => by rw [← z, wset_same] at hq; cases hq
    exact ⟨q, p, _, gs, rfl, wset_same, by rw [wset_ne pq]; exact wset_same, pq, ⟨fo, 0, rfl, f0, f1, Int.le_refl _, Int.le_refl _, by omega⟩, rfl⟩
theorem ok_take (F : Fun K "_law_take" "_law_take" sTake f fd) : FnOk P w K mg base CX0 1 f fd ["deck", "many"] (spT (mkRs Dk) SDraw) := by
  refine F.okO scTake rfl (fun n ds R hh => by obtain ⟨m, e, _⟩ := hh; rw [e]; rfl) fun cdv A outer s H E hr => ?_
  have hu := hr.units
  refine ⟨_, (ss_cons (s_while (t_w (w_and (t_cmp (op_neU hu) (e_ix (e_v 0) e_int) (e_lst a_nil)) (w_and1 (t_cmp op_lt (e_ix (e_ix (e_v 0) e_int) (e_un un_neg e_int)) e_int)))) (ss_one (s_expr (e_bm0 PySem.F.plainAttrs_list PySem.F.slot_list_pop PySem.F.type_list_pop mt_pop (e_ix (e_v 0) e_int)))))
    (ss_cons (s_if (t_cmp (op_neU hu) (e_ix (e_v 0) e_int) (e_lst a_nil)) (ss_cons (s_set 2 scTake.nd (e_op op_mod (e_ix (e_ix (e_v 0) e_int) (e_un un_neg e_int)) (e_v 1)))
      (ss_cons (s_asg (e_op op_fdivL (e_ix (e_ix (e_v 0) e_int) (e_un un_neg e_int)) (e_v 1)) (g_sub (e_ix (e_v 0) e_int) (e_un un_neg e_int) set_list))
      (ss_one (s_ret (e_v 2))))) ss_nil)
    (ss_cons (s_asg (e_op op_add (e_ix (e_v 0) e_int) e_int) (g_sub (e_v 0) e_int set_list))
    (ss_cons (s_set 3 scTake.nd (e_ix (e_v 0) e_int))
    (ss_cons (s_set 4 scTake.nd (e_op op_add (e_op op_mul (e_op op_add (e_ix (e_v 0) e_int) e_int) (e_op op_pow (e_op op_add (e_v 3) e_int) e_int)) (e_op op_mul e_int (e_v 3))))
    (ss_one (s_ret (e_op op_mod (e_op op_fdivL (e_op op_mod (e_op op_pow (e_op op_mod (e_v 4) e_int) e_int) e_int) e_int) (e_v 1))))))))), ?_⟩
  clear hu
  (try dsimp only [cxOf, Cx.nox, Cx.wish, blkX, Cx.withX, Cx.marked])
  refine fun t g O => ⟨_, inferInstance, ?_⟩
  rintro n ds R c gs gt ⟨fo, kk, rfl, f0, f1, k0, k1, hl⟩ ⟨m, rfl, hn, m0, m1, q⟩
  refine x_rho [_, _, none, none, none] rfl ?_
  refine x_seq ?_
  have keys : ∀ (gs : List Int) (k : Int), WO t g (.lst [.pt g, .im (.int fo), .im (.int k)]) gs t = some (.lst [.pt g, .im (.int fo), .im (.int k)]) ∧ WO t g (.lst [.pt g, .im (.int fo), .im (.int k)]) gs g = some (.lst (intsD gs)) := fun gs k => ⟨wset_same, by unfold WO; rw [wset_ne gt]; exact wset_same⟩
  refine x_while (fun j ρ W => ∃ gs' : List Int, j = gs'.length ∧ gs'.length ≤ 100 ∧ ρ = [some (.pt t), some (.im (.int m)), none, none, none] ∧ W = WO t g (.lst [.pt g, .im (.int fo), .im (.int kk)]) gs') gs.length ⟨gs, rfl, hl, rfl, rfl⟩ ?_
  rintro j ρ W ⟨gs', rfl, hl', rfl, rfl⟩
  obtain ⟨wt, wg⟩ := keys gs' kk
  have cl : PyData.canLay0 (.list (gs'.map .int)) = true := canAll_ints gs'
  repeat array_mem_dec
  refine x_ixP wt rfl ?_
  repeat array_mem_dec
  refine ⟨_, dat_ints wg, cl, ?_⟩
  rcases List.eq_nil_or_concat gs' with rfl | ⟨L, z, rfl⟩
  · repeat array_mem_dec
    refine i_F ?_
    repeat array_mem_dec
    refine x_seq ?_
    repeat array_mem_dec
    refine x_ixP wt rfl ?_
    repeat array_mem_dec
    refine ⟨_, dat_ints wg, cl, ?_⟩
    repeat array_mem_dec
    refine i_F ?_
    repeat array_mem_dec
    refine x_ixP wt rfl ?_
    repeat array_mem_dec
    refine ⟨t, _, 2, 2, rfl, rfl, wt, rfl, ?_⟩
    have wt2 : wset (WO t g (.lst [.pt g, .im (.int fo), .im (.int kk)]) []) t (.lst ([DV.pt g, .im (.int fo), .im (.int kk)].set 2 (.im (.int (kk + 1))))) = WO t g (.lst [.pt g, .im (.int fo), .im (.int (kk + 1))]) [] := wset_wset
    rw [wt2]
    obtain ⟨wt', wg'⟩ := keys [] (kk + 1)
    repeat array_mem_dec
    refine x_ixP wt' rfl ?_
    repeat array_mem_dec
    refine x_ixP wt' rfl ?_
    repeat array_mem_dec
    have c0 : ∀ x : Int, 0 ≤ x % 2305843009213693951 ∧ x % 2305843009213693951 < 2305843009213693951 := fun x => ⟨Int.emod_nonneg _ (by decide), Int.emod_lt_of_pos _ (by decide)⟩
    obtain ⟨c1, c2⟩ := c0 ((fo + 40503) * (kk + 1 + 5) ^ Int.toNat 3 + 69621 * (kk + 1))
    exact ⟨n + 1, _, [], _, rfl, wt', wg', ⟨fo, kk + 1, rfl, f0, f1, by omega, by omega, by simp⟩, rfl, q _ (Int.emod_nonneg _ (by omega)) (Int.emod_lt_of_pos _ m0)⟩
  · rw [List.concat_eq_append] at *
    have wg2 : WO t g (.lst [.pt g, .im (.int fo), .im (.int kk)]) (L ++ [z]) g = some (.lst (intsD L ++ [.im (.int z)])) := by rw [wg]; simp
    have re : ∀ y, wset (WO t g (.lst [.pt g, .im (.int fo), .im (.int kk)]) (L ++ [z])) g (.lst (intsD y)) = WO t g (.lst [.pt g, .im (.int fo), .im (.int kk)]) y := fun y => by unfold WO; rw [wset_comm (Ne.symm gt), wset_wset]
    have nz : PyData.eqv (.list ((L ++ [z]).map .int)) (.list []) = false := by cases L <;> rfl
    rw [nz]
    repeat array_mem_dec
    refine x_ixP wt rfl ?_
    repeat array_mem_dec
    refine x_ixP wg2 atI_last' ?_
    repeat array_mem_dec
    refine i_d (fun h2 => ?_) (fun h2 => ?_)
    · repeat array_mem_dec
      refine x_ixP wt rfl ?_
      refine x_ty wg2 ?_
      refine x_pop wg2 ?_
      exact ⟨L.length, by simp, L, rfl, by simp at hl'; omega, rfl, re L⟩
    · refine x_seq ?_
      repeat array_mem_dec
      refine x_ixP wt rfl ?_
      repeat array_mem_dec
      refine ⟨_, dat_ints wg, cl, ?_⟩
      rw [nz]
      repeat array_mem_dec
      refine x_ixP wt rfl ?_
      repeat array_mem_dec
      refine x_ixP wg2 atI_last' ?_
      repeat array_mem_dec
      refine x_ixP wt rfl ?_
      repeat array_mem_dec
      refine x_ixP wg2 atI_last' ?_
      repeat array_mem_dec
      refine x_ixP wt rfl ?_
      repeat array_mem_dec
      refine ⟨g, _, -1, L.length, rfl, rfl, wg2, by rw [List.length_append, List.length_map]; exact ixN_last, ?_⟩
      rw [show (intsD L ++ [DV.im (.int z)]).set L.length (.im (.int (z / m))) = intsD (L ++ [z / m]) by simp, re]
      repeat array_mem_dec
      exact ⟨n + 1, _, L ++ [z / m], _, rfl, (keys _ _).1, (keys _ _).2, ⟨fo, kk, rfl, f0, f1, by omega, by omega, by simp at hl' ⊢; omega⟩, rfl, q _ (Int.emod_nonneg _ (by omega)) (Int.emod_lt_of_pos _ m0)⟩
end

abbrev sSame : Stmt := top 11
theorem scSame : FnScope ["found", "due"] ["found", "due"] (defScope sSame) := ⟨rfl, rfl, rfl, by decide +kernel, rfl, by decide +kernel, by decide +kernel⟩
def SSame (n : Nat) : DSp := fun ds R _ => ∃ d, ds = [d, d] ∧ d.depth < n ∧ Sm d ∧ d.canLay0 = true ∧ R (.im (.bool true))
def isSq : PyData → Bool
  | .list _ => true
  | .tuple _ => true
  | _ => false
theorem isSq_kit {K : PySem.W.Frag} (d : PyData) (h : d.canLay0 = true) : PySem.W.kitAny K (.type (tyD d)) (["list", "tuple"].map Value.type) = some (isSq d) := by
  cases d with
  | dict _ => cases h
  | _ => rfl
theorem depth_get : ∀ {ds : List PyData} {i : Nat} {d : PyData}, ds[i]? = some d → d.depth ≤ PyData.depthAll ds
  | [], _, _, h => by simp at h
  | x :: r, 0, d, h => by simp at h; subst h; rw [PyData.depthAll]; omega
  | x :: r, i + 1, d, h => by
    have := depth_get (ds := r) (i := i) (d := d) (by simpa using h)
    rw [PyData.depthAll]; omega
theorem can_get : ∀ {ds : List PyData} {i : Nat} {d : PyData}, PyData.canLayAll0 ds = true → ds[i]? = some d → d.canLay0 = true
  | [], _, _, _, h => by simp at h
  | x :: r, 0, d, c, h => by
    have c' : x.canLay0 = true ∧ PyData.canLayAll0 r = true := by simpa [PyData.canLayAll0] using c
    simp at h; subst h; exact c'.1
  | x :: r, i + 1, d, c, h => by
    have c' : x.canLay0 = true ∧ PyData.canLayAll0 r = true := by simpa [PyData.canLayAll0] using c
    exact can_get (ds := r) (i := i) c'.2 (by simpa using h)
theorem bools_rep (n : Nat) : boolsL (List.replicate n (.im (.bool true))) = some (List.replicate n true) := by
  have := boolsL_map (List.replicate n true)
  rwa [List.map_replicate] at this
section
variable {P : Program} {w : World} {K : PySem.W.Frag} {mg : Str → Option Value} {base : Heap} {f : Addr} {fd : FuncData}
theorem ok_same {n : Nat} {fS : Addr} {fdS : FuncData} (F : Fun K "_law_same" "_law_same" sSame f fd) (D_law_same : Dn P w K mg base (n + 1) "_law_same" fS fdS ["found", "due"] (spD (SSame n)))
    (m_isinstance : mg "isinstance" = none) (m_bool : mg "bool" = none) (m_list : mg "list" = none) (m_tuple : mg "tuple" = none) (m_len : mg "len" = none) (m_zip : mg "zip" = none) (m_all : mg "all" = none) : FnOk P w K mg base CX0 (n + 1 + 1) f fd ["found", "due"] (spD (SSame (n + 1))) := by
  refine F.okD scSame (fun ds R X hh => by obtain ⟨d, e, _⟩ := hh; rw [e]; rfl) fun cdv A outer s H E hr => ?_
  have hu := hr.units
  refine ⟨_, (ss_cons (s_if (t_w (w_or (t_cmp (op_neU hu) (e_isi m_isinstance m_bool PyProof.Rows.boot_bool (e_v 0)) (e_isi m_isinstance m_bool PyProof.Rows.boot_bool (e_v 1))) (w_or1 (t_cmp (op_neU hu) (e_isi m_isinstance m_list PyProof.Rows.boot_list (e_v 0)) (e_isi m_isinstance m_list PyProof.Rows.boot_list (e_v 1)))))) (ss_one (s_ret e_bl)) ss_nil)
    (ss_cons (s_if (t_cmp (op_neU hu) (e_isi m_isinstance m_tuple PyProof.Rows.boot_tuple (e_v 0)) (e_isi m_isinstance m_tuple PyProof.Rows.boot_tuple (e_v 1))) (ss_one (s_ret e_bl)) ss_nil)
    (ss_cons (s_if (t_not (t_b (e_callB (call_isTyK (K := K) rfl) m_isinstance PyProof.Rows.boot_isinstance (a_cons (e_v 1) (a_cons (e_tup (a_cons (e_tyV m_list PyProof.Rows.boot_list) (a_cons (e_tyV m_tuple PyProof.Rows.boot_tuple) a_nil))) a_nil))))) (ss_one (s_ret (e_cmp (op_eqU hu) (e_v 0) (e_v 1)))) ss_nil)
    (ss_cons (s_if (t_cmp (op_neU hu) (e_callB call_lenN m_len PySem.boot_len (a_cons (e_v 0) a_nil)) (e_callB call_lenN m_len PySem.boot_len (a_cons (e_v 1) a_nil))) (ss_one (s_ret e_bl)) ss_nil)
    (ss_one (s_ret (e_callB (call_allN rfl) m_all PyProof.Rows.boot_all (a_cons (e_comp (N' := ["one", "other"]) (ix := [none, none]) ⟨rfl, rfl, rfl, rfl, rfl, rfl⟩ (i_or (i_zip .L .L m_zip (a_cons (e_v 0) (a_cons (e_v 1) a_nil))) (i_zip .T .T m_zip (a_cons (e_v 0) (a_cons (e_v 1) a_nil)))) (fun _ _ _ _ => (g_tupU (n := 2) (gs_cons (g_name 0 (show List.Nodup (["one", "other"] : List Str) by decide +kernel)) (gs_cons (g_name 1 (show List.Nodup (["one", "other"] : List Str) by decide +kernel)) gs_nil)))) (fun _ _ _ _ => ts_nil) (fun _ _ _ _ => (e_call D_law_same hr (a_cons (e_v 0) (a_cons (e_v 1) a_nil))))) a_nil)))))))), ?_⟩
  clear hu
  (try dsimp only [cxOf, Cx.nox, Cx.wish, blkX, Cx.withX, Cx.marked])
  refine fun O X => ⟨_, inferInstance, ?_⟩
  rintro ds R ⟨d, rfl, hd, hsm, hc, q⟩
  refine x_seq ?_
  repeat array_mem_dec
  refine i_nF rfl ?_
  repeat array_mem_dec
  refine i_nF rfl ?_
  repeat array_mem_dec
  refine x_seq ?_
  repeat array_mem_dec
  refine i_nF rfl ?_
  repeat array_mem_dec
  refine x_seq ?_
  repeat array_mem_dec
  refine x_tupR (by show 2 ≤ sizeLine; decide) rfl ?_
  repeat array_mem_dec
  refine ⟨_, d, ["list", "tuple"], isSq d, rfl, rfl, isSq_kit d hc, ?_⟩
  repeat array_mem_dec
  cases d with
  | list es =>
    refine i_NT ?_
    repeat array_mem_dec
    refine x_seq ?_
    repeat array_mem_dec
    refine i_nF rfl ?_
    repeat array_mem_dec
    refine .inl ?_
    repeat array_mem_dec
    refine x_zip seqK_list seqK_list ?_
    have hl : es.length < 1000000 := hsm.1
    refine x_compZ (fun i ys W => W = W0 ∧ ys = List.replicate i (.im (.bool true))) (by rw [Nat.min_self]; exact Nat.le_of_lt (Nat.lt_of_lt_of_le hl (by decide))) ⟨rfl, rfl⟩ (fun _ _ _ _ => ⟨trivial, trivial⟩) ?_ ?_
    · rintro i a b ys W ha hb _ ⟨rfl, rfl⟩
      rw [ha] at hb; cases hb
      repeat array_mem_dec
      refine x_pureI (ds := [a, a]) ⟨a, rfl, ?_, hsm.2.get ha, can_get hc ha, rfl, by rw [List.replicate_succ']⟩
      have := depth_get ha
      simp only [PyData.depth] at hd
      omega
    · rintro ys W ⟨rfl, rfl⟩
      refine n_own fun p W' hp wp fp => ?_
      repeat array_mem_dec
      refine ⟨_, _, _, rfl, seqL_pt wp, bools_rep _, ?_⟩
      rw [show (List.replicate (min es.length es.length) true).all id = true by simp]
      exact q
  | tuple es =>
    refine i_NT ?_
    repeat array_mem_dec
    refine x_seq ?_
    repeat array_mem_dec
    refine i_nF rfl ?_
    repeat array_mem_dec
    refine .inr ?_
    repeat array_mem_dec
    refine x_zip seqK_tuple seqK_tuple ?_
    have hl : es.length < 1000000 := hsm.1
    refine x_compZ (fun i ys W => W = W0 ∧ ys = List.replicate i (.im (.bool true))) (by rw [Nat.min_self]; exact Nat.le_of_lt (Nat.lt_of_lt_of_le hl (by decide))) ⟨rfl, rfl⟩ (fun _ _ _ _ => ⟨trivial, trivial⟩) ?_ ?_
    · rintro i a b ys W ha hb _ ⟨rfl, rfl⟩
      rw [ha] at hb; cases hb
      repeat array_mem_dec
      refine x_pureI (ds := [a, a]) ⟨a, rfl, ?_, hsm.2.get ha, can_get hc ha, rfl, by rw [List.replicate_succ']⟩
      have := depth_get ha
      simp only [PyData.depth] at hd
      omega
    · rintro ys W ⟨rfl, rfl⟩
      refine n_own fun p W' hp wp fp => ?_
      repeat array_mem_dec
      refine ⟨_, _, _, rfl, seqL_pt wp, bools_rep _, ?_⟩
      rw [show (List.replicate (min es.length es.length) true).all id = true by simp]
      exact q
  | dict _ => cases hc
  | _ => 
    refine i_NF ?_
    repeat array_mem_dec
    first | (refine x_eqT rfl rfl hc (by show 0 ≤ 64; decide) ?_; exact q) | (rw [decide_eq_true rfl]; exact q)
theorem all_same (F : Fun K "_law_same" "_law_same" sSame f fd) (b : Binds K fd ["found", "due"] []) (m : mg "_law_same" = some (.ref f))
    (m_isinstance : mg "isinstance" = none) (m_bool : mg "bool" = none) (m_list : mg "list" = none) (m_tuple : mg "tuple" = none) (m_len : mg "len" = none) (m_zip : mg "zip" = none) (m_all : mg "all" = none) : ∀ n : Nat, Dn P w K mg base (n + 1) "_law_same" f fd ["found", "due"] (spD (SSame n))
  | 0 => ⟨F.okD scSame (fun ds R X ⟨d, e, hd, _⟩ => absurd hd (Nat.not_lt_zero _)) fun cdv A outer s H E hr => ⟨_, ss_never, fun O X => ⟨_, inferInstance, fun ds R ⟨d, e, hd, _⟩ => absurd hd (Nat.not_lt_zero _)⟩⟩, b, F.kp, m⟩
  | n + 1 => ⟨(ok_same F ⟨(all_same F b m m_isinstance m_bool m_list m_tuple m_len m_zip m_all n).ok, b, F.kp, m⟩ m_isinstance m_bool m_list m_tuple m_len m_zip m_all : FnOk P w K mg base CX0 (n + 1 + 1) f fd ["found", "due"] (spD (SSame (n + 1)))), b, F.kp, m⟩
end

abbrev sPlace : Stmt := top 12
abbrev sBellN : Stmt := top 13
abbrev sWorthN : Stmt := top 14
abbrev sRecs : Stmt := top 15
abbrev sEndW : Stmt := top 16
abbrev sBeat : Stmt := top 17
abbrev sDown : Stmt := top 18
abbrev sSize : Stmt := top 20
theorem scPlace : FnScope ["deck", "way"] ["deck"] (defScope sPlace) := ⟨rfl, rfl, rfl, by decide +kernel, rfl, by decide +kernel, by decide +kernel⟩
theorem scBellN : FnScope ["deck", "way"] ["deck"] (defScope sBellN) := ⟨rfl, rfl, rfl, by decide +kernel, rfl, by decide +kernel, by decide +kernel⟩
theorem scWorthN : FnScope ["deck", "way"] ["deck"] (defScope sWorthN) := ⟨rfl, rfl, rfl, by decide +kernel, rfl, by decide +kernel, by decide +kernel⟩
theorem scRecs : FnScope ["deck", "most", "records", "k", "way", "many", "bells", "place", "word", "at", "worth"] ["deck", "most"] (defScope sRecs) := ⟨rfl, rfl, rfl, by decide +kernel, rfl, by decide +kernel, by decide +kernel⟩
theorem scEndW : FnScope ["record", "told", "bells", "place", "word", "at", "worth", "way"] ["record", "told"] (defScope sEndW) := ⟨rfl, rfl, rfl, by decide +kernel, rfl, by decide +kernel, by decide +kernel⟩
theorem scBeat : FnScope ["deck", "beat", "falls", "way"] ["deck", "beat", "falls"] (defScope sBeat) := ⟨rfl, rfl, rfl, by decide +kernel, rfl, by decide +kernel, by decide +kernel⟩
theorem scDown : FnScope ["deck", "record", "n", "beat", "way", "number"] ["deck", "record", "n", "beat"] (defScope sDown) := ⟨rfl, rfl, rfl, by decide +kernel, rfl, by decide +kernel, by decide +kernel⟩
theorem scSize : FnScope ["deck", "way"] ["deck"] (defScope sSize) := ⟨rfl, rfl, rfl, by decide +kernel, rfl, by decide +kernel, by decide +kernel⟩
structure Rec where
  bells : List Int
  place : Int
  word : Str
  spot : Int
  worth : Int
  way : Int
def recD (r : Rec) : PyData := .list [.list (r.bells.map .int), .int r.place, .str r.word, .int r.spot, .int r.worth, .int r.way]
structure RecN (m : Nat) (r : Rec) : Prop where
  b : r.bells.length ≤ m
  w : r.word = "spot" ∨ r.word = "cell"
  y0 : 0 ≤ r.way
  y1 : r.way ≤ 3
abbrev RecOk : Rec → Prop := RecN 2
theorem RecN.up {m k : Nat} {r : Rec} (h : RecN m r) (hk : m ≤ k) : RecN k r := ⟨Nat.le_trans h.b hk, h.w, h.y0, h.y1⟩
def kpD : Option Int → PyData
  | none => .none
  | some k => .int k
abbrev Wr := Option (Str × Int × Option Int)
def wrD : Wr → PyData
  | none => .none
  | some (k, a, w) => .tuple [.str k, .int a, kpD w]
def endW (r : Rec) (told : Bool) : Wr := if r.way = 0 then none else if r.way = 3 ∨ (r.way = 2 ∧ told = false) then some (r.word, r.spot, none) else some (r.word, r.spot, some r.worth)
inductive Ev where
  | fin (b p : Int) (w : Wr) | bell (b k : Int) | late (b : Int) (n : Nat) (w : Int) | down (b n c w : Int)
def evD : Ev → PyData
  | .fin b p w => .tuple [.str "end", .int b, .int p, wrD w]
  | .bell b k => .tuple [.str "bell", .int b, .int k]
  | .late b n w => .tuple [.str "late", .int b, .int n, .int w]
  | .down b n c w => .tuple [.str "down", .int b, .int n, .int c, .int w]
def SAnyI : DTp := fun n ds R => ds = [] ∧ n ≤ 998000000 ∧ ∀ (r : Int) (n' : Nat), n' ≤ n + 5 → R (.im (.int r)) n'
def SSize : DTp := fun n ds R => ds = [] ∧ n ≤ 998000000 ∧ ∀ (r n' : Nat), r ≤ 290 → n' ≤ n + 5 → R (.im (.int r)) n'
def SRecs : DTp := fun n ds R => ∃ most : Nat, ds = [.int most] ∧ most ≤ 290 ∧ n ≤ 990000000 ∧ ∀ (rs : List Rec) (n' : Nat), rs.length = most → (∀ r ∈ rs, RecOk r) → n' ≤ n + 100 * most → R (.nw (rs.map recD)) n'
def SEndW : DSp := fun ds R _ => ∃ (r : Rec) (told : Bool), ds = [recD r, .bool told] ∧ R (.im (wrD (endW r told)))
def SBeat : DTp := fun n ds R => ∃ (beat : Int) (falls : Bool), ds = [.int beat, .bool falls] ∧ n ≤ 998000000 ∧ ∀ (r : Int) (n' : Nat), n' ≤ n + 5 → R (.im (.int r)) n'
def SDown : DTp := fun n ds R => ∃ (r : Rec) (m beat : Int), ds = [recD r, .int m, .int beat] ∧ n ≤ 997000000 ∧ ∀ (b k c w : Int) (n' : Nat), n' ≤ n + 10 → R (.im (evD (.down b k c w))) n'
theorem imAll_ints : ∀ xs : List Int, ImAll (xs.map PyData.int) = true
  | [] => rfl
  | x :: r => by show (Im (.int x) && ImAll (r.map PyData.int)) = true; rw [imAll_ints r]; rfl
theorem small9 {n : Nat} (h : n ≤ 900000) : n < sizeLine := Nat.lt_of_le_of_lt h (by decide)
section
variable {P : Program} {w : World} {K : PySem.W.Frag} {mg : Str → Option Value} {base : Heap} {f : Addr} {fd : FuncData}
theorem ok_place {fT : Addr} {fdT : FuncData} (F : Fun K "_law_place" "_law_place" sPlace f fd) (D_law_take : Dn P w K mg base 1 "_law_take" fT fdT ["deck", "many"] (spT (mkRs Dk) SDraw)) (m_int : mg "int" = none) : FnOk P w K mg base CX0 2 f fd ["deck"] (spT (mkRs Dk) SAnyI) := by
  refine F.okT scPlace mkRs_ok rfl (fun n ds R hh => by obtain ⟨e, _⟩ := hh; rw [e]; rfl) fun cdv A outer s H E hr => ?_
  have hu := hr.units
  refine ⟨_, (ss_cons (s_set 1 scPlace.nd (e_call D_law_take hr (a_cons (e_v 0) (a_cons e_int a_nil))))
    (ss_cons (s_if (t_cmp (op_eqU hu) (e_v 1) e_int) (ss_one (s_ret (e_op op_add (e_op op_pow e_int e_int) (e_call D_law_take hr (a_cons (e_v 0) (a_cons e_int a_nil)))))) ss_nil)
    (ss_one (s_ret (e_op op_mul (e_call D_law_take hr (a_cons (e_v 0) (a_cons e_int a_nil))) (e_ix (e_lst (a_cons e_int (a_cons (e_un un_neg e_int) a_nil))) (e_callTy call_intN m_int PyProof.Rows.boot_int (a_cons (e_cmp (op_eqU hu) (e_v 1) e_int) a_nil)))))))), ?_⟩
  clear hu
  (try dsimp only [cxOf, Cx.nox, Cx.wish, blkX, Cx.withX, Cx.marked])
  refine fun t g O => ⟨_, inferInstance, ?_⟩
  rintro n ds R ⟨rfl, hn, q⟩
  refine x_rho [_, none] rfl ?_
  have wt : WT t g n t = some (.tray g n) := wset_same
  generalize WT t g n = W at wt
  repeat array_mem_dec
  refine x_draw wt (by omega) (by omega) (by omega) fun way W1 y0 y1 wt f1 => ?_
  repeat array_mem_dec
  refine x_seq ?_
  repeat array_mem_dec
  refine i_d (fun h => ?_) (fun h => ?_)
  · repeat array_mem_dec
    refine x_draw wt (by omega) (by omega) (by omega) fun r W2 r0 r1 wt f2 => ?_
    repeat array_mem_dec
    exact ⟨_, wt, q _ _ (by omega)⟩
  · repeat array_mem_dec
    refine x_draw wt (by omega) (by omega) (by omega) fun r W2 r0 r1 wt f2 => ?_
    repeat array_mem_dec
    refine x_newF (ds := [.int 1, .int (-1)]) (by show 2 ≤ sizeLine; decide) ?_
    repeat array_mem_dec
    by_cases h8 : way = 8
    · rw [decide_eq_true h8]
      refine x_ixL (D := .int (-1)) rfl ?_
      repeat array_mem_dec
      exact ⟨_, wt, q _ _ (by omega)⟩
    · rw [decide_eq_false h8]
      refine x_ixL (D := .int 1) rfl ?_
      repeat array_mem_dec
      exact ⟨_, wt, q _ _ (by omega)⟩
theorem ok_belln {fT : Addr} {fdT : FuncData} (F : Fun K "_law_bell" "_law_bell" sBellN f fd) (D_law_take : Dn P w K mg base 1 "_law_take" fT fdT ["deck", "many"] (spT (mkRs Dk) SDraw)) : FnOk P w K mg base CX0 2 f fd ["deck"] (spT (mkRs Dk) SAnyI) := by
  refine F.okT scBellN mkRs_ok rfl (fun n ds R hh => by obtain ⟨e, _⟩ := hh; rw [e]; rfl) fun cdv A outer s H E hr => ?_
  have hu := hr.units
  refine ⟨_, (ss_cons (s_set 1 scBellN.nd (e_call D_law_take hr (a_cons (e_v 0) (a_cons e_int a_nil))))
    (ss_cons (s_if (t_cmp op_lt (e_v 1) e_int) (ss_one (s_ret (e_call D_law_take hr (a_cons (e_v 0) (a_cons e_int a_nil))))) ss_nil)
    (ss_one (s_ret (e_op op_add (e_ix (e_lst (a_cons e_int (a_cons (e_un un_neg e_int) (a_cons (e_op op_pow e_int e_int) a_nil)))) (e_op op_sub (e_v 1) e_int)) (e_call D_law_take hr (a_cons (e_v 0) (a_cons e_int a_nil)))))))), ?_⟩
  clear hu
  (try dsimp only [cxOf, Cx.nox, Cx.wish, blkX, Cx.withX, Cx.marked])
  refine fun t g O => ⟨_, inferInstance, ?_⟩
  rintro n ds R ⟨rfl, hn, q⟩
  refine x_rho [_, none] rfl ?_
  have wt : WT t g n t = some (.tray g n) := wset_same
  generalize WT t g n = W at wt
  repeat array_mem_dec
  refine x_draw wt (by omega) (by omega) (by omega) fun way W1 y0 y1 wt f1 => ?_
  repeat array_mem_dec
  refine x_seq ?_
  repeat array_mem_dec
  refine i_d (fun h => ?_) (fun h => ?_)
  · repeat array_mem_dec
    refine x_draw wt (by omega) (by omega) (by omega) fun r W2 r0 r1 wt f2 => ?_
    exact ⟨_, wt, q _ _ (by omega)⟩
  · repeat array_mem_dec
    refine x_newF (ds := [.int 5, .int (-20), .int _]) (by show 3 ≤ sizeLine; decide) ?_
    repeat array_mem_dec
    obtain ⟨z, hz⟩ : ∃ z : Int, atI [PyData.int 5, .int (-20), .int (10 ^ Int.toNat 59)] (way - 9) = some (.int z) := by
      obtain e | e | e : way - 9 = 0 ∨ way - 9 = 1 ∨ way - 9 = 2 := by omega
      · rw [e]; exact ⟨_, rfl⟩
      · rw [e]; exact ⟨_, rfl⟩
      · rw [e]; exact ⟨_, rfl⟩
    refine x_ixL hz ?_
    repeat array_mem_dec
    refine x_draw wt (by omega) (by omega) (by omega) fun r W2 r0 r1 wt f2 => ?_
    repeat array_mem_dec
    exact ⟨_, wt, q _ _ (by omega)⟩
theorem ok_worthn {fT : Addr} {fdT : FuncData} (F : Fun K "_law_worth" "_law_worth" sWorthN f fd) (D_law_take : Dn P w K mg base 1 "_law_take" fT fdT ["deck", "many"] (spT (mkRs Dk) SDraw)) : FnOk P w K mg base CX0 2 f fd ["deck"] (spT (mkRs Dk) SAnyI) := by
  refine F.okT scWorthN mkRs_ok rfl (fun n ds R hh => by obtain ⟨e, _⟩ := hh; rw [e]; rfl) fun cdv A outer s H E hr => ?_
  have hu := hr.units
  refine ⟨_, (ss_cons (s_set 1 scWorthN.nd (e_call D_law_take hr (a_cons (e_v 0) (a_cons e_int a_nil))))
    (ss_cons (s_if (t_cmp op_lt (e_v 1) e_int) (ss_one (s_ret (e_ix (e_lst (a_consts rfl)) (e_v 1)))) ss_nil)
    (ss_cons (s_if (t_cmp (op_eqU hu) (e_v 1) e_int) (ss_one (s_ret (e_call D_law_take hr (a_cons (e_v 0) (a_cons e_int a_nil))))) ss_nil)
    (ss_one (s_ret (e_op op_add (e_op op_mul (e_call D_law_take hr (a_cons (e_v 0) (a_cons e_int a_nil))) e_int) (e_call D_law_take hr (a_cons (e_v 0) (a_cons e_int a_nil))))))))), ?_⟩
  clear hu
  (try dsimp only [cxOf, Cx.nox, Cx.wish, blkX, Cx.withX, Cx.marked])
  refine fun t g O => ⟨_, inferInstance, ?_⟩
  rintro n ds R ⟨rfl, hn, q⟩
  refine x_rho [_, none] rfl ?_
  have wt : WT t g n t = some (.tray g n) := wset_same
  generalize WT t g n = W at wt
  repeat array_mem_dec
  refine x_draw wt (by omega) (by omega) (by omega) fun way W1 y0 y1 wt f1 => ?_
  repeat array_mem_dec
  refine x_seq ?_
  repeat array_mem_dec
  refine i_d (fun h => ?_) (fun h => ?_)
  · repeat array_mem_dec
    refine x_newF (ds := [.int 0, .int 4294967295]) (by show 2 ≤ sizeLine; decide) ?_
    repeat array_mem_dec
    obtain rfl | rfl : way = 0 ∨ way = 1 := by omega
    · refine x_ixL (D := .int 0) rfl ?_
      exact ⟨_, wt, q _ _ (by omega)⟩
    · refine x_ixL (D := .int 4294967295) rfl ?_
      exact ⟨_, wt, q _ _ (by omega)⟩
  · repeat array_mem_dec
    refine x_seq ?_
    repeat array_mem_dec
    refine i_d (fun h => ?_) (fun h => ?_)
    · repeat array_mem_dec
      refine x_draw wt (by omega) (by omega) (by omega) fun r W2 r0 r1 wt f2 => ?_
      exact ⟨_, wt, q _ _ (by omega)⟩
    · repeat array_mem_dec
      refine x_draw wt (by omega) (by omega) (by omega) fun r W2 r0 r1 wt f2 => ?_
      repeat array_mem_dec
      refine x_draw wt (by omega) (by omega) (by omega) fun r' W3 r0' r1' wt f3 => ?_
      repeat array_mem_dec
      exact ⟨_, wt, q _ _ (by omega)⟩
theorem ok_size {fT : Addr} {fdT : FuncData} (F : Fun K "_law_size" "_law_size" sSize f fd) (D_law_take : Dn P w K mg base 1 "_law_take" fT fdT ["deck", "many"] (spT (mkRs Dk) SDraw)) (m_int : mg "int" = none) : FnOk P w K mg base CX0 2 f fd ["deck"] (spT (mkRs Dk) SSize) := by
  refine F.okT scSize mkRs_ok rfl (fun n ds R hh => by obtain ⟨e, _⟩ := hh; rw [e]; rfl) fun cdv A outer s H E hr => ?_
  have hu := hr.units
  refine ⟨_, (ss_cons (s_set 1 scSize.nd (e_call D_law_take hr (a_cons (e_v 0) (a_cons e_int a_nil))))
    (ss_cons (s_if (t_cmp (op_eqU hu) (e_v 1) e_int) (ss_one (s_ret (e_op op_add e_int (e_call D_law_take hr (a_cons (e_v 0) (a_cons e_int a_nil)))))) ss_nil)
    (ss_one (s_ret (e_call D_law_take hr (a_cons (e_v 0) (a_cons (e_ix (e_lst (a_consts rfl)) (e_op op_add (e_callTy call_intN m_int PyProof.Rows.boot_int (a_cons (e_cmp op_gt (e_v 1) e_int) a_nil)) (e_callTy call_intN m_int PyProof.Rows.boot_int (a_cons (e_cmp (op_eqU hu) (e_v 1) e_int) a_nil)))) a_nil))))))), ?_⟩
  clear hu
  (try dsimp only [cxOf, Cx.nox, Cx.wish, blkX, Cx.withX, Cx.marked])
  refine fun t g O => ⟨_, inferInstance, ?_⟩
  rintro n ds R ⟨rfl, hn, q⟩
  refine x_rho [_, none] rfl ?_
  have wt : WT t g n t = some (.tray g n) := wset_same
  generalize WT t g n = W at wt
  repeat array_mem_dec
  refine x_draw wt (by omega) (by omega) (by omega) fun way W1 y0 y1 wt f1 => ?_
  repeat array_mem_dec
  refine x_seq ?_
  repeat array_mem_dec
  refine i_d (fun h => ?_) (fun h => ?_)
  · repeat array_mem_dec
    refine x_draw wt (by omega) (by omega) (by omega) fun r W2 r0 r1 wt f2 => ?_
    repeat array_mem_dec
    rw [show (111 : Int) + r = ((111 + r.toNat : Nat) : Int) by omega]
    exact ⟨_, wt, q _ _ (by omega) (by omega)⟩
  · repeat array_mem_dec
    refine x_newF (ds := [.int 9, .int 61, .int 111]) (by show 3 ≤ sizeLine; decide) ?_
    repeat array_mem_dec
    obtain ⟨z, hz, z0, z1⟩ : ∃ z : Int, atI [PyData.int 9, .int 61, .int 111] ((if decide (7 < way) = true then 1 else 0) + if decide (way = 11) = true then 1 else 0) = some (.int z) ∧ 0 < z ∧ z ≤ 111 := by
      by_cases h1 : 7 < way
      · rw [decide_eq_true h1]
        by_cases h2 : way = 11
        · rw [decide_eq_true h2]; exact ⟨111, rfl, by decide, by decide⟩
        · rw [decide_eq_false h2]; exact ⟨61, rfl, by decide, by decide⟩
      · rw [decide_eq_false h1, decide_eq_false (show ¬ way = 11 by omega)]; exact ⟨9, rfl, by decide, by decide⟩
    refine x_ixL hz ?_
    repeat array_mem_dec
    refine x_draw wt (by omega) z0 (by omega) fun r W2 r0 r1 wt f2 => ?_
    rw [show r = ((r.toNat : Nat) : Int) by omega]
    exact ⟨_, wt, q _ _ (by omega) (by omega)⟩
theorem ok_beat {fT : Addr} {fdT : FuncData} (F : Fun K "_law_beat" "_law_beat" sBeat f fd) (D_law_take : Dn P w K mg base 1 "_law_take" fT fdT ["deck", "many"] (spT (mkRs Dk) SDraw)) (m_int : mg "int" = none) : FnOk P w K mg base CX0 2 f fd ["deck", "beat", "falls"] (spT (mkRs Dk) SBeat) := by
  refine F.okT scBeat mkRs_ok rfl (fun n ds R hh => by obtain ⟨a, b, e, _⟩ := hh; rw [e]; rfl) fun cdv A outer s H E hr => ?_
  have hu := hr.units
  refine ⟨_, (ss_cons (s_set 3 scBeat.nd (e_call D_law_take hr (a_cons (e_v 0) (a_cons e_int a_nil))))
    (ss_cons (s_if (t_b (e_v 2)) (ss_one (s_ret (e_op op_add (e_call D_law_take hr (a_cons (e_v 0) (a_cons e_int a_nil))) (e_op op_mul (e_op op_pow e_int e_int) (e_callTy call_intN m_int PyProof.Rows.boot_int (a_cons (e_cmp (op_eqU hu) (e_v 3) e_int) a_nil)))))) ss_nil)
    (ss_cons (s_if (t_cmp op_lt (e_v 3) e_int) (ss_one (s_ret (e_v 1))) ss_nil)
    (ss_one (s_ret (e_op op_add (e_v 1) (e_ix (e_lst (a_cons e_int (a_cons (e_call D_law_take hr (a_cons (e_v 0) (a_cons e_int a_nil))) (a_cons (e_op op_pow e_int e_int) a_nil)))) (e_op op_add (e_callTy call_intN m_int PyProof.Rows.boot_int (a_cons (e_cmp op_gt (e_v 3) e_int) a_nil)) (e_callTy call_intN m_int PyProof.Rows.boot_int (a_cons (e_cmp (op_eqU hu) (e_v 3) e_int) a_nil)))))))))), ?_⟩
  clear hu
  (try dsimp only [cxOf, Cx.nox, Cx.wish, blkX, Cx.withX, Cx.marked])
  refine fun t g O => ⟨_, inferInstance, ?_⟩
  rintro n ds R ⟨beat, falls, rfl, hn, q⟩
  refine x_rho [_, _, _, none] rfl ?_
  have wt : WT t g n t = some (.tray g n) := wset_same
  generalize WT t g n = W at wt
  repeat array_mem_dec
  refine x_draw wt (by omega) (by omega) (by omega) fun way W1 y0 y1 wt f1 => ?_
  repeat array_mem_dec
  refine x_seq ?_
  repeat array_mem_dec
  cases falls with
  | true =>
    repeat array_mem_dec
    refine x_draw wt (by omega) (by omega) (by omega) fun r W2 r0 r1 wt f2 => ?_
    repeat array_mem_dec
    exact ⟨_, wt, q _ _ (by omega)⟩
  | false =>
    repeat array_mem_dec
    refine x_seq ?_
    repeat array_mem_dec
    refine i_d (fun h => ?_) (fun h => ?_)
    · repeat array_mem_dec
      exact ⟨_, wt, q _ _ (by omega)⟩
    · repeat array_mem_dec
      refine x_draw wt (by omega) (by omega) (by omega) fun r W2 r0 r1 wt f2 => ?_
      repeat array_mem_dec
      refine x_newF (ds := [.int 1, .int r, .int _]) (by show 3 ≤ sizeLine; decide) ?_
      repeat array_mem_dec
      obtain ⟨z, hz⟩ : ∃ z : Int, atI [PyData.int 1, .int r, .int (10 ^ Int.toNat 20)] ((if decide (5 < way) = true then 1 else 0) + if decide (way = 7) = true then 1 else 0) = some (.int z) := by
        by_cases h1 : 5 < way
        · rw [decide_eq_true h1]
          by_cases h2 : way = 7
          · rw [decide_eq_true h2]; exact ⟨_, rfl⟩
          · rw [decide_eq_false h2]; exact ⟨_, rfl⟩
        · rw [decide_eq_false h1, decide_eq_false (show ¬ way = 7 by omega)]; exact ⟨_, rfl⟩
      refine x_ixL hz ?_
      repeat array_mem_dec
      exact ⟨_, wt, q _ _ (by omega)⟩
theorem ok_down {fT fW : Addr} {fdT fdW : FuncData} (F : Fun K "_law_down" "_law_down" sDown f fd) (D_law_take : Dn P w K mg base 1 "_law_take" fT fdT ["deck", "many"] (spT (mkRs Dk) SDraw)) (D_law_worth : Dn P w K mg base 2 "_law_worth" fW fdW ["deck"] (spT (mkRs Dk) SAnyI)) : FnOk P w K mg base CX0 3 f fd ["deck", "record", "n", "beat"] (spT (mkRs Dk) SDown) := by
  refine F.okT scDown mkRs_ok rfl (fun n ds R hh => by obtain ⟨a, b, c, e, _⟩ := hh; rw [e]; rfl) fun cdv A outer s H E hr => ?_
  have hu := hr.units
  refine ⟨_, (ss_cons (s_set 4 scDown.nd (e_call D_law_take hr (a_cons (e_v 0) (a_cons e_int a_nil))))
    (ss_cons (s_if (t_cmp (op_eqU hu) (e_v 4) e_int) (ss_one (s_ret (e_tup (a_cons e_str (a_cons (e_v 3) (a_cons (e_v 2) (a_cons (e_ix (e_v 1) e_int) (a_cons (e_ix (e_v 1) e_int) a_nil)))))))) ss_nil)
    (ss_cons (s_set 5 scDown.nd (e_op op_sub (e_op op_add (e_v 2) e_int) (e_call D_law_take hr (a_cons (e_v 0) (a_cons e_int a_nil)))))
    (ss_cons (s_if (t_cmp (op_eqU hu) (e_v 4) e_int) (ss_one (s_set 5 scDown.nd (e_call D_law_take hr (a_cons (e_v 0) (a_cons e_int a_nil))))) ss_nil)
    (ss_one (s_ret (e_tup (a_cons e_str (a_cons (e_v 3) (a_cons (e_v 5) (a_cons (e_call D_law_take hr (a_cons (e_v 0) (a_cons e_int a_nil))) (a_cons (e_call D_law_worth hr (a_cons (e_v 0) a_nil)) a_nil)))))))))))), ?_⟩
  clear hu
  (try dsimp only [cxOf, Cx.nox, Cx.wish, blkX, Cx.withX, Cx.marked])
  refine fun t g O => ⟨_, inferInstance, ?_⟩
  rintro n ds R ⟨r, m, beat, rfl, hn, q⟩
  refine x_rho [_, _, _, _, none, none] rfl ?_
  have wt : WT t g n t = some (.tray g n) := wset_same
  generalize WT t g n = W at wt
  repeat array_mem_dec
  refine x_draw wt (by omega) (by omega) (by omega) fun way W1 y0 y1 wt f1 => ?_
  repeat array_mem_dec
  refine x_seq ?_
  repeat array_mem_dec
  refine i_d (fun h => ?_) (fun h => ?_)
  · repeat array_mem_dec
    refine x_ixL (D := .int r.spot) rfl ?_
    repeat array_mem_dec
    refine x_ixL (D := .int r.worth) rfl ?_
    repeat array_mem_dec
    exact x_tupIm (ds := [.str "down", .int beat, .int m, .int r.spot, .int r.worth]) (by show 5 ≤ sizeLine; decide) ⟨_, wt, q beat m r.spot r.worth _ (by omega)⟩
  repeat array_mem_dec
  refine x_draw wt (by omega) (by omega) (by omega) fun z W2 z0 z1 wt f2 => ?_
  repeat array_mem_dec
  refine x_join (fun ρ W => ∃ (u : Option DV) (num : Int) (k : Nat), ρ = [some (.pt t), some (.im (recD r)), some (.im (.int m)), some (.im (.int beat)), u, some (.im (.int num))] ∧ W t = some (.tray g k) ∧ k ≤ n + 3) (fun kk jn => ?_) ?_
  · repeat array_mem_dec
    refine i_d (fun h => ?_) (fun h => ?_)
    · repeat array_mem_dec
      refine x_draw wt (by omega) (by omega) (by omega) fun z W3 z0 z1 wt f3 => ?_
      repeat array_mem_dec
      exact jn _ _ ⟨_, _, _, rfl, wt, by omega⟩
    · repeat array_mem_dec
      exact jn _ _ ⟨_, _, _, rfl, wt, by omega⟩
  clear wt
  rintro ρ W ⟨u, num, k, rfl, wt, hk⟩
  repeat array_mem_dec
  refine x_draw wt (by omega) (by omega) (by omega) fun c W3 c0 c1 wt f3 => ?_
  repeat array_mem_dec
  refine x_tray (ds := []) wt rfl ⟨rfl, by omega, fun v n' hn' => ⟨rfl, x_rim ?_⟩⟩
  have wt2 : wset W3 t (.tray g n') t = some (.tray g n') := wset_same
  repeat array_mem_dec
  exact x_tupIm (ds := [.str "down", .int beat, .int num, .int c, .int v]) (by show 5 ≤ sizeLine; decide) ⟨_, wt2, q beat num c v _ (by omega)⟩
theorem ok_endw (F : Fun K "_law_end_wrote" "_law_end_wrote" sEndW f fd) : FnOk P w K mg base CX0 1 f fd ["record", "told"] (spD SEndW) := by
  refine F.okD scEndW (fun ds R X hh => by obtain ⟨a, b, e, _⟩ := hh; rw [e]; rfl) fun cdv A outer s H E hr => ?_
  have hu := hr.units
  refine ⟨_, (ss_cons (s_asg (e_v 0) (g_tupU (n := 6) (gs_cons (g_name 2 scEndW.nd) (gs_cons (g_name 3 scEndW.nd) (gs_cons (g_name 4 scEndW.nd) (gs_cons (g_name 5 scEndW.nd) (gs_cons (g_name 6 scEndW.nd) (gs_cons (g_name 7 scEndW.nd) gs_nil))))))))
    (ss_cons (s_if (t_cmp (op_eqU hu) (e_v 7) e_int) (ss_one (s_ret e_non)) ss_nil)
    (ss_cons (s_if (t_w (w_or (t_cmp (op_eqU hu) (e_v 7) e_int) (w_or1 (t_w (w_and (t_cmp (op_eqU hu) (e_v 7) e_int) (w_and1 (t_not (t_b (e_v 1))))))))) (ss_one (s_ret (e_tup (a_cons (e_v 4) (a_cons (e_v 5) (a_cons e_non a_nil)))))) ss_nil)
    (ss_one (s_ret (e_tup (a_cons (e_v 4) (a_cons (e_v 5) (a_cons (e_v 6) a_nil))))))))), ?_⟩
  clear hu
  (try dsimp only [cxOf, Cx.nox, Cx.wish, blkX, Cx.withX, Cx.marked])
  refine fun O X => ⟨_, inferInstance, ?_⟩
  rintro ds R ⟨r, told, rfl, q⟩
  refine x_rho [_, _, none, none, none, none, none, none] rfl ?_
  unfold recD
  unfold endW at q
  repeat array_mem_dec
  refine x_seq ?_
  repeat array_mem_dec
  refine i_d (fun h => ?_) (fun h => ?_)
  · repeat array_mem_dec
    rw [if_pos h] at q
    exact q
  rw [if_neg h] at q
  repeat array_mem_dec
  refine x_seq ?_
  repeat array_mem_dec
  refine i_d (fun h3 => ?_) (fun h3 => ?_)
  · repeat array_mem_dec
    rw [if_pos (.inl h3)] at q
    exact x_tupIm (ds := [.str r.word, .int r.spot, .none]) (by show 3 ≤ sizeLine; decide) q
  repeat array_mem_dec
  refine i_d (fun h2 => ?_) (fun h2 => ?_)
  · repeat array_mem_dec
    cases told with
    | false =>
      rw [if_pos (.inr ⟨h2, rfl⟩)] at q
      repeat array_mem_dec
      exact x_tupIm (ds := [.str r.word, .int r.spot, .none]) (by show 3 ≤ sizeLine; decide) q
    | true =>
      rw [if_neg (by rintro (z | z); exact h3 z; cases z.2)] at q
      repeat array_mem_dec
      exact x_tupIm (ds := [.str r.word, .int r.spot, .int r.worth]) (by show 3 ≤ sizeLine; decide) q
  · repeat array_mem_dec
    rw [if_neg (by rintro (z | z); exact h3 z; exact h2 z.1)] at q
    exact x_tupIm (ds := [.str r.word, .int r.spot, .int r.worth]) (by show 3 ≤ sizeLine; decide) q
end

abbrev sWritten : Stmt := top 19
theorem scWritten : FnScope ["deck", "records", "tail", "falls", "diary", "waits", "beat", "n", "bells", "slot", "j", "late"] ["deck", "records", "tail"] (defScope sWritten) := ⟨rfl, rfl, rfl, by decide +kernel, rfl, by decide +kernel, by decide +kernel⟩
/-! what a diary tells -/
def isFin : Ev → Bool
  | .fin _ _ _ => true
  | _ => false
def cnt (es : List Ev) : Nat := (es.filter isFin).length
theorem cnt_snoc (es : List Ev) (e : Ev) : cnt (es ++ [e]) = cnt es + (if isFin e = true then 1 else 0) := by
  unfold cnt
  rw [List.filter_append, List.length_append]
  cases h : isFin e <;> simp [h]
def likeP : Nat → List Ev → List (Int × Int)
  | _, [] => []
  | n, .fin _ _ _ :: r => likeP (n + 1) r
  | n, .bell _ k :: r => ((n : Int), k) :: likeP n r
  | n, .late _ _ _ :: r => likeP n r
  | n, .down _ _ _ _ :: r => likeP n r
theorem cnt_cons (e : Ev) (es : List Ev) : cnt (e :: es) = (if isFin e = true then 1 else 0) + cnt es := by
  unfold cnt
  rw [List.filter_cons]
  cases h : isFin e <;> simp [h]; omega
theorem likeP_app : ∀ (a b : List Ev) (n : Nat), likeP n (a ++ b) = likeP n a ++ likeP (n + cnt a) b
  | [], b, n => by show likeP n b = likeP (n + 0) b; rfl
  | .fin x y z :: r, b, n => by
    show likeP (n + 1) (r ++ b) = likeP (n + 1) r ++ _
    rw [likeP_app r b (n + 1), cnt_cons]
    congr 2
    simp [isFin]; omega
  | .bell x k :: r, b, n => by
    show _ :: likeP n (r ++ b) = _ :: likeP n r ++ _
    rw [likeP_app r b n, cnt_cons]
    simp [isFin]
  | .late x y z :: r, b, n => by
    show likeP n (r ++ b) = likeP n r ++ _
    rw [likeP_app r b n, cnt_cons]
    simp [isFin]
  | .down x y z v :: r, b, n => by
    show likeP n (r ++ b) = likeP n r ++ _
    rw [likeP_app r b n, cnt_cons]
    simp [isFin]
def finsP (es : List Ev) : List (Int × Wr) := es.filterMap fun e => match e with | .fin _ p w => some (p, w) | _ => none
theorem finsP_snoc (es : List Ev) (e : Ev) : finsP (es ++ [e]) = finsP es ++ (match e with | .fin _ p w => [(p, w)] | _ => []) := by
  unfold finsP
  rw [List.filterMap_append]
  congr 1
  cases e <;> rfl
def dueR (rs : List Rec) : Nat → List (Int × Int)
  | 0 => []
  | n + 1 => dueR rs n ++ (match rs[n]? with | some r => r.bells.map fun k => ((n : Int), k) | none => [])
def IsLate (rs : List Rec) (c k : Nat) (w : Int) : Prop := k < c ∧ ∃ r, rs[k]? = some r ∧ r.way = 2 ∧ w = r.worth
def LateOk (rs : List Rec) (es : List Ev) : Prop := ∀ (i : Nat) b k w, es[i]? = some (.late b k w) → IsLate rs (cnt (es.take i)) k w
theorem LateOk.snoc {rs : List Rec} {es : List Ev} {e : Ev} (h : LateOk rs es) (he : ∀ b k w, e = .late b k w → IsLate rs (cnt es) k w) : LateOk rs (es ++ [e]) := fun i b k w hi => by
  by_cases hl : i < es.length
  · rw [List.getElem?_append_left hl] at hi
    rw [List.take_append_of_le_length (by omega)]
    exact h i b k w hi
  · rw [List.getElem?_append_right (by omega)] at hi
    have e0 : i - es.length = 0 := by
      cases q : i - es.length with
      | zero => rfl
      | succ m => rw [q] at hi; simp at hi
    rw [e0] at hi
    have ei : i = es.length := by omega
    subst ei
    rw [List.take_append_of_le_length (by omega), List.take_length]
    exact he b k w (Option.some.inj hi)
def HasLate (es : List Ev) (k : Nat) : Prop := ∃ (i : Nat) (b w : Int), es[i]? = some (.late b k w)
theorem HasLate.snoc {es : List Ev} {k : Nat} {e : Ev} (h : HasLate es k) : HasLate (es ++ [e]) k := by
  obtain ⟨i, b, w, hi⟩ := h
  exact ⟨i, b, w, by rw [List.getElem?_append_left (List.getElem?_eq_some_iff.mp hi).1]; exact hi⟩
theorem HasLate.last {es : List Ev} {k : Nat} {b w : Int} : HasLate (es ++ [.late b k w]) k := ⟨es.length, b, w, by simp⟩
/-- the diary so far: c ends, the bells told up to B, the lates that wait -/
structure DiaryOk (rs : List Rec) (es : List Ev) (cc : Nat) (B : List (Int × Int)) (ws : List Nat) : Prop where
  f : finsP es = (rs.take cc).map fun r => (r.place, endW r false)
  c : cnt es = cc
  b : likeP 0 es = B
  l : LateOk rs es
  w : ∀ k ∈ ws, k < cc ∧ ∃ r, rs[k]? = some r ∧ r.way = 2
  a : ∀ (k : Nat) r, k < cc → rs[k]? = some r → r.way = 2 → k ∈ ws ∨ HasLate es k
section
variable {rs : List Rec} {es : List Ev} {c : Nat} {B : List (Int × Int)} {ws : List Nat}
theorem DiaryOk.down (h : DiaryOk rs es c B ws) (b n x w : Int) : DiaryOk rs (es ++ [.down b n x w]) c B ws :=
  ⟨by rw [finsP_snoc, List.append_nil]; exact h.f, by rw [cnt_snoc]; exact h.c, by rw [likeP_app]; show likeP 0 es ++ [] = B; rw [List.append_nil]; exact h.b, h.l.snoc (fun _ _ _ e => by cases e), h.w, fun k r h1 h2 h3 => (h.a k r h1 h2 h3).imp id HasLate.snoc⟩
theorem DiaryOk.bell (h : DiaryOk rs es c B ws) (b k : Int) : DiaryOk rs (es ++ [.bell b k]) c (B ++ [((c : Int), k)]) ws :=
  ⟨by rw [finsP_snoc, List.append_nil]; exact h.f, by rw [cnt_snoc]; exact h.c, by rw [likeP_app, h.b, h.c, Nat.zero_add]; rfl, h.l.snoc (fun _ _ _ e => by cases e), h.w, fun k r h1 h2 h3 => (h.a k r h1 h2 h3).imp id HasLate.snoc⟩
theorem DiaryOk.late (h : DiaryOk rs es c B ws) (b : Int) {i k : Nat} {r : Rec} (hk : ws[i]? = some k) (hr : rs[k]? = some r) : DiaryOk rs (es ++ [.late b k r.worth]) c B (ws.eraseIdx i) := by
  have hw := h.w k (List.mem_of_getElem? hk)
  refine ⟨by rw [finsP_snoc, List.append_nil]; exact h.f, by rw [cnt_snoc]; exact h.c, by rw [likeP_app]; show likeP 0 es ++ [] = B; rw [List.append_nil]; exact h.b, h.l.snoc fun _ _ _ e => ?_, fun k' hk' => h.w k' (List.mem_of_mem_eraseIdx hk'), fun k' r' h1 h2 h3 => ?_⟩
  · cases e
    obtain ⟨r', e', w'⟩ := hw.2
    rw [hr] at e'; cases e'
    rw [h.c]
    exact ⟨hw.1, r, hr, w', rfl⟩
  · by_cases e : k' = k
    · subst e; exact .inr .last
    · rcases h.a k' r' h1 h2 h3 with z | z
      · left
        obtain ⟨j, hj, e2⟩ := List.getElem_of_mem z
        have hji : j ≠ i := fun q => by
          subst q
          rw [List.getElem?_eq_getElem hj, e2] at hk
          exact e (Option.some.inj hk)
        exact List.mem_eraseIdx_iff_getElem.mpr ⟨j, hj, hji, e2⟩
      · exact .inr z.snoc
theorem DiaryOk.fin (h : DiaryOk rs es c B ws) (b : Int) {r : Rec} (hr : rs[c]? = some r) : DiaryOk rs (es ++ [.fin b r.place (endW r false)]) (c + 1) B (if r.way = 2 then ws ++ [c] else ws) := by
  refine ⟨?_, by rw [cnt_snoc, h.c]; rfl, by rw [likeP_app]; show likeP 0 es ++ [] = B; rw [List.append_nil]; exact h.b, h.l.snoc (fun _ _ _ e => by cases e), fun k hk => ?_, fun k r' h1 h2 h3 => ?_⟩
  · rw [finsP_snoc, h.f, List.take_add_one, hr, List.map_append]
    rfl
  · by_cases hy : r.way = 2
    · rw [if_pos hy] at hk
      rcases List.mem_append.mp hk with z | z
      · obtain ⟨z1, z2⟩ := h.w k z; exact ⟨by omega, z2⟩
      · rw [List.mem_singleton.mp z]; exact ⟨by omega, r, hr, hy⟩
    · rw [if_neg hy] at hk
      obtain ⟨z1, z2⟩ := h.w k hk; exact ⟨by omega, z2⟩
  · by_cases e : k = c
    · subst e
      rw [hr] at h2; cases h2
      rw [if_pos h3]
      exact .inl (List.mem_append.mpr (.inr (List.mem_singleton.mpr rfl)))
    · rcases h.a k r' (by omega) h2 h3 with z | z
      · left
        split
        · exact List.mem_append.mpr (.inl z)
        · exact z
      · exact .inr z.snoc
end
/-- the whole diary -/
structure Good (rs : List Rec) (tail : List Int) (es : List Ev) : Prop where
  f : finsP es = rs.map fun r => (r.place, endW r false)
  b : likeP 0 es = dueR rs rs.length ++ tail.map fun k => ((rs.length : Int), k)
  l : LateOk rs es
  a : ∀ (k : Nat) r, rs[k]? = some r → r.way = 2 → HasLate es k
  s : es.length ≤ 100000
def SWritten : DTp := fun n ds R => ∃ (rs : List Rec) (tail : List Int), ds = [.list (rs.map recD), .list (tail.map .int)] ∧ rs.length ≤ 330 ∧ tail.length ≤ 10 ∧ (∀ r ∈ rs, RecN 5 r) ∧ n ≤ 980000000 ∧ ∀ (es : List Ev) (n' : Nat), Good rs tail es → n' ≤ n + 1000000 → R (.nw (es.map evD)) n'
theorem DiaryOk.rev {rs : List Rec} {es : List Ev} {c : Nat} {B : List (Int × Int)} {ws : List Nat} (h : DiaryOk rs es c B ws) : DiaryOk rs es c B ws.reverse :=
  ⟨h.f, h.c, h.b, h.l, fun k hk => h.w k (List.mem_reverse.mp hk), fun k r h1 h2 h3 => (h.a k r h1 h2 h3).imp List.mem_reverse.mpr id⟩
theorem DiaryOk.bells {rs : List Rec} {c : Nat} {ws : List Nat} {b : Int} : ∀ {tail : List Int} {es : List Ev} {B : List (Int × Int)}, DiaryOk rs es c B ws → DiaryOk rs (es ++ tail.map fun k => .bell b k) c (B ++ tail.map fun k => ((c : Int), k)) ws
  | [], es, B, h => by simpa using h
  | k :: r, es, B, h => by
    have := DiaryOk.bells (b := b) (tail := r) (h.bell b k)
    simpa using this
def wsD (ws : List Nat) : List PyData := ws.map fun k => .int (k : Nat)
theorem im_wr : ∀ w : Wr, Im (wrD w) = true
  | none => rfl
  | some (k, a, none) => rfl
  | some (k, a, some w) => rfl
theorem im_ev (e : Ev) : Im (evD e) = true := by cases e <;> simp [evD, Im, ImAll, im_wr]
theorem can_ws : ∀ ws : List Nat, PyData.canLayAll0 (wsD ws) = true
  | [] => rfl
  | k :: r => by show (PyData.canLay0 (.int k) && PyData.canLayAll0 (wsD r)) = true; rw [can_ws r]; rfl
section
variable {P : Program} {w : World} {K : PySem.W.Frag} {mg : Str → Option Value} {base : Heap} {f : Addr} {fd : FuncData}
theorem ok_recs {fT fB fP fW : Addr} {fdT fdB fdP fdW : FuncData} (F : Fun K "_law_records" "_law_records" sRecs f fd) (D_law_take : Dn P w K mg base 1 "_law_take" fT fdT ["deck", "many"] (spT (mkRs Dk) SDraw)) (D_law_bell : Dn P w K mg base 2 "_law_bell" fB fdB ["deck"] (spT (mkRs Dk) SAnyI)) (D_law_place : Dn P w K mg base 2 "_law_place" fP fdP ["deck"] (spT (mkRs Dk) SAnyI)) (D_law_worth : Dn P w K mg base 2 "_law_worth" fW fdW ["deck"] (spT (mkRs Dk) SAnyI)) (m_range : mg "range" = none) (m_min : mg "min" = none) (m_int : mg "int" = none) : FnOk P w K mg base CX0 3 f fd ["deck", "most"] (spT (mkRs Dk) SRecs) := by
  refine F.okT scRecs mkRs_ok rfl (fun n ds R hh => by obtain ⟨a, e, _⟩ := hh; rw [e]; rfl) fun cdv A outer s H E hr => ?_
  have hu := hr.units
  refine ⟨_, (ss_cons (s_set 2 scRecs.nd (e_lst a_nil))
    (ss_cons (s_for (i_range1 m_range (a_cons (e_v 1) a_nil)) (g_name 3 scRecs.nd) (ss_cons (s_set 4 scRecs.nd (e_ix (e_lst (a_consts rfl)) (e_call D_law_take hr (a_cons (e_v 0) (a_cons e_int a_nil)))))
      (ss_cons (s_set 5 scRecs.nd (e_ix (e_lst (a_consts rfl)) (e_call D_law_take hr (a_cons (e_v 0) (a_cons e_int a_nil)))))
      (ss_cons (s_if (t_cmp op_gt (e_v 1) e_int) (ss_one (s_set 5 scRecs.nd (e_callB (call_minN rfl) m_min PyProof.Rows.boot_min (a_cons (e_v 5) (a_cons (e_callTy call_intN m_int PyProof.Rows.boot_int (a_cons (e_cmp (op_neU hu) (e_v 4) e_int) a_nil)) a_nil))))) ss_nil)
      (ss_cons (s_comp 6 (N' := ["j", "deck"]) (ix := [none, some 0]) ⟨rfl, rfl, rfl, rfl, rfl, rfl⟩ scRecs.nd (i_range1 m_range (a_cons (e_v 5) a_nil)) (fun _ _ _ _ => (g_name 0 (show List.Nodup (["j", "deck"] : List Str) by decide +kernel))) (fun _ _ _ _ => ts_nil) (fun _ _ _ _ => (e_call D_law_bell hr (a_cons (e_v 1) a_nil))))
      (ss_cons (s_set 7 scRecs.nd (e_call D_law_place hr (a_cons (e_v 0) a_nil)))
      (ss_cons (s_set 8 scRecs.nd e_str)
      (ss_cons (s_set 9 scRecs.nd e_int)
      (ss_cons (s_set 10 scRecs.nd e_int)
      (ss_cons (s_if (t_cmp op_gt (e_v 4) e_int) (ss_cons (s_if (t_w (w_and (t_cmp (op_eqU hu) (e_v 4) e_int) (w_and1 (t_cmp (op_eqU hu) (e_call D_law_take hr (a_cons (e_v 0) (a_cons e_int a_nil))) e_int)))) (ss_one (s_set 8 scRecs.nd e_str)) ss_nil)
        (ss_cons (s_set 9 scRecs.nd (e_op op_add (e_call D_law_take hr (a_cons (e_v 0) (a_cons e_int a_nil))) (e_op op_mul (e_op op_mul (e_call D_law_take hr (a_cons (e_v 0) (a_cons e_int a_nil))) e_int) (e_callTy call_intN m_int PyProof.Rows.boot_int (a_cons (e_cmp (op_eqU hu) (e_v 8) e_str) a_nil)))))
        (ss_one (s_set 10 scRecs.nd (e_call D_law_worth hr (a_cons (e_v 0) a_nil)))))) ss_nil)
      (ss_one (s_expr (e_bm PySem.F.plainAttrs_list PySem.F.slot_list_append PySem.F.type_list_append mt_append (e_v 2) (a_cons (e_lst (a_cons (e_v 6) (a_cons (e_v 7) (a_cons (e_v 8) (a_cons (e_v 9) (a_cons (e_v 10) (a_cons (e_v 4) a_nil))))))) a_nil))))))))))))))
    (ss_one (s_ret (e_v 2))))), ?_⟩
  clear hu
  (try dsimp only [cxOf, Cx.nox, Cx.wish, blkX, Cx.withX, Cx.marked])
  refine fun t g O => ⟨_, inferInstance, ?_⟩
  rintro n ds R ⟨most, rfl, hm, hn, q⟩
  refine x_rho [_, _, none, none, none, none, none, none, none, none, none] rfl ?_
  have wt : WT t g n t = some (.tray g n) := wset_same
  generalize WT t g n = W at wt
  repeat array_mem_dec
  refine x_newL (Nat.zero_le _) fun p W1 hp wp fp => ?_
  replace wt := fp.at (ne_new wt hp) wt
  have hpt : p ≠ t := fun z => by rw [z, wt] at wp; cases wp
  clear hp fp
  repeat array_mem_dec
  refine x_seq ?_
  repeat array_mem_dec
  refine x_loopR (fun i ρ W => ∃ (u3 u4 u5 u6 u7 u8 u9 u10 : Option DV) (rs : List Rec) (k : Nat), ρ = [some (.pt t), some (.im (.int most)), some (.pt p), u3, u4, u5, u6, u7, u8, u9, u10] ∧ W p = some (.lst ((rs.map recD).map .im)) ∧ rs.length = i ∧ (∀ r ∈ rs, RecOk r) ∧ W t = some (.tray g k) ∧ k ≤ n + 100 * i) ⟨_, _, _, _, _, _, _, _, [], _, rfl, wp, rfl, (fun r hr => by cases hr), wt, by omega⟩ ?_ ?_
  · clear wt wp
    rintro i ρ W hi ⟨u3, u4, u5, u6, u7, u8, u9, u10, rs, k, rfl, wp, hl, hrs, wt, hk⟩
    have him : i < 290 := by omega
    have hk2 : k ≤ n + 29000 := by omega
    repeat array_mem_dec
    refine x_newF (ds := [.int 0, .int 1, .int 1, .int 1, .int 2, .int 2, .int 3]) (by show 7 ≤ sizeLine; decide) ?_
    repeat array_mem_dec
    refine x_draw wt (by omega) (by omega) (by omega) fun c W2 c0 c1 wt f2 => ?_
    replace wp := f2.at hpt wp
    obtain ⟨way, hway, y0, y1⟩ : ∃ z : Int, atI [PyData.int 0, .int 1, .int 1, .int 1, .int 2, .int 2, .int 3] c = some (.int z) ∧ 0 ≤ z ∧ z ≤ 3 := by
      obtain rfl | rfl | rfl | rfl | rfl | rfl | rfl : c = 0 ∨ c = 1 ∨ c = 2 ∨ c = 3 ∨ c = 4 ∨ c = 5 ∨ c = 6 := by omega
      all_goals exact ⟨_, rfl, by decide, by decide⟩
    refine x_ixL hway ?_
    refine x_gnR [_, _, _, _, _, _, _, _, _, _, _] rfl ?_
    repeat array_mem_dec
    refine x_newF (ds := [.int 0, .int 0, .int 0, .int 0, .int 1, .int 1, .int 2]) (by show 7 ≤ sizeLine; decide) ?_
    repeat array_mem_dec
    refine x_draw wt (by omega) (by omega) (by omega) fun d W3 d0 d1 wt f3 => ?_
    replace wp := f3.at hpt wp
    obtain ⟨many, hmany, a0, a1⟩ : ∃ z : Int, atI [PyData.int 0, .int 0, .int 0, .int 0, .int 1, .int 1, .int 2] d = some (.int z) ∧ 0 ≤ z ∧ z ≤ 2 := by
      obtain rfl | rfl | rfl | rfl | rfl | rfl | rfl : d = 0 ∨ d = 1 ∨ d = 2 ∨ d = 3 ∨ d = 4 ∨ d = 5 ∨ d = 6 := by omega
      all_goals exact ⟨_, rfl, by decide, by decide⟩
    refine x_ixL hmany ?_
    refine x_gnR [_, _, _, _, _, _, _, _, _, _, _] rfl ?_
    repeat array_mem_dec
    refine x_join (fun ρ W => ∃ (mm : Int), ρ = [some (.pt t), some (.im (.int most)), some (.pt p), some (.im (.int (0 + (i : Nat)))), some (.im (.int way)), some (.im (.int mm)), u6, u7, u8, u9, u10] ∧ 0 ≤ mm ∧ mm ≤ 2 ∧ W p = some (.lst ((rs.map recD).map .im)) ∧ W t = some (.tray g (k + 1 + 1))) (fun kk jn => ?_) ?_
    · repeat array_mem_dec
      refine i_d (fun h => ?_) (fun h => ?_)
      · repeat array_mem_dec
        refine jn _ _ ⟨_, rfl, ?_, ?_, wp, wt⟩
        · split
          · split <;> omega
          · omega
        · split
          · split <;> omega
          · omega
      · repeat array_mem_dec
        exact jn _ _ ⟨many, rfl, a0, a1, wp, wt⟩
    clear wt wp
    rintro ρ W4 ⟨mm, rfl, mm0, mm1, wp, wt⟩
    repeat array_mem_dec
    refine x_compR (fun j ys W => ∃ (bs : List Int) (k' : Nat), ys = (bs.map PyData.int).map .im ∧ bs.length = j ∧ W p = some (.lst ((rs.map recD).map .im)) ∧ W t = some (.tray g k') ∧ k' ≤ k + 2 + 5 * j) (Nat.le_of_lt (small1000 (by omega))) ⟨[], _, rfl, rfl, wp, wt, by omega⟩ ?_ ?_
    · rintro j ys W hj _ ⟨bs, k', rfl, hlb, wp, wt, hk'⟩
      have hj2 : j < 2 := by omega
      repeat array_mem_dec
      refine x_tray (ds := []) wt rfl ⟨rfl, by omega, fun z n' hn' => ⟨rfl, x_rim ?_⟩⟩
      exact ⟨bs ++ [z], n', by simp, by simp [hlb], (wset_ne hpt).trans wp, wset_same, by omega⟩
    clear wt wp
    rintro ys W5 ⟨bs, k5, rfl, hlb, wp, wt, hk5⟩
    have hb2 : bs.length ≤ 2 := by omega
    have hk5' : k5 ≤ k + 12 := by omega
    clear hk5
    refine n_dat ?_
    refine x_gnR [_, _, _, _, _, _, _, _, _, _, _] rfl ?_
    repeat array_mem_dec
    refine x_tray (ds := []) wt rfl ⟨rfl, by omega, fun place n6 hn6 => ⟨rfl, x_rim ?_⟩⟩
    replace wp : wset W5 t (.tray g n6) p = _ := (wset_ne hpt).trans wp
    replace wt : wset W5 t (.tray g n6) t = some (.tray g n6) := wset_same
    generalize wset W5 t (.tray g n6) = W6 at wt wp
    repeat array_mem_dec
    refine x_join (fun ρ W => ∃ (word : Str) (sp wo : Int) (k' : Nat), ρ = [some (.pt t), some (.im (.int most)), some (.pt p), some (.im (.int (0 + (i : Nat)))), some (.im (.int way)), some (.im (.int mm)), some (.im (.list (bs.map .int))), some (.im (.int place)), some (.im (.str word)), some (.im (.int sp)), some (.im (.int wo))] ∧ (word = "spot" ∨ word = "cell") ∧ W p = some (.lst ((rs.map recD).map .im)) ∧ W t = some (.tray g k') ∧ k' ≤ k + 40) (fun kk jn => ?_) ?_
    · repeat array_mem_dec
      refine i_d (fun hy => ?_) (fun hy => ?_)
      · refine x_join (fun ρ W => ∃ (word : Str) (k' : Nat), ρ = [some (.pt t), some (.im (.int most)), some (.pt p), some (.im (.int (0 + (i : Nat)))), some (.im (.int way)), some (.im (.int mm)), some (.im (.list (bs.map .int))), some (.im (.int place)), some (.im (.str word)), some (.im (.int 0)), some (.im (.int 0))] ∧ (word = "spot" ∨ word = "cell") ∧ W p = some (.lst ((rs.map recD).map .im)) ∧ W t = some (.tray g k') ∧ k' ≤ k + 20) (fun kk jn => ?_) ?_
        · repeat array_mem_dec
          refine i_d (fun h1 => ?_) (fun h1 => ?_)
          · repeat array_mem_dec
            refine x_draw wt (by omega) (by omega) (by omega) fun e W7 e0 e1 wt f7 => ?_
            replace wp := f7.at hpt wp
            repeat array_mem_dec
            refine i_d (fun h2 => ?_) (fun h2 => ?_)
            · repeat array_mem_dec
              exact jn _ _ ⟨"cell", _, rfl, .inr rfl, wp, wt, by omega⟩
            · repeat array_mem_dec
              exact jn _ _ ⟨"spot", _, rfl, .inl rfl, wp, wt, by omega⟩
          · repeat array_mem_dec
            exact jn _ _ ⟨"spot", _, rfl, .inl rfl, wp, wt, by omega⟩
        clear wt wp
        rintro ρ W7 ⟨word, k7, rfl, hw, wp, wt, hk7⟩
        repeat array_mem_dec
        refine x_draw wt (by omega) (by omega) (by omega) fun e W8 e0 e1 wt f8 => ?_
        replace wp := f8.at hpt wp
        repeat array_mem_dec
        refine x_draw wt (by omega) (by omega) (by omega) fun e' W9 e0' e1' wt f9 => ?_
        replace wp := f9.at hpt wp
        repeat array_mem_dec
        refine x_tray (ds := []) wt rfl ⟨rfl, by omega, fun wo n10 hn10 => ⟨rfl, x_rim ?_⟩⟩
        replace wp : wset W9 t (.tray g n10) p = _ := (wset_ne hpt).trans wp
        replace wt : wset W9 t (.tray g n10) t = some (.tray g n10) := wset_same
        generalize wset W9 t (.tray g n10) = W10 at wt wp
        repeat array_mem_dec
        exact jn _ _ ⟨word, _, wo, _, rfl, hw, wp, wt, by omega⟩
      · repeat array_mem_dec
        exact jn _ _ ⟨"spot", 0, 0, _, rfl, .inl rfl, wp, wt, by omega⟩
    clear wt wp
    rintro ρ W7 ⟨word, sp, wo, k7, rfl, hw, wp, wt, hk7⟩
    repeat array_mem_dec
    refine x_newF (ds := [.list (bs.map .int), .int place, .str word, .int sp, .int wo, .int way]) (by show 6 ≤ sizeLine; decide) ?_
    repeat array_mem_dec
    refine x_appendA wp (by rw [List.length_map, List.length_map]; exact small1000 (by omega)) fun W8 w8 f8 => ?_
    replace wt := f8.at hpt.symm wt
    repeat array_mem_dec
    exact ⟨_, _, _, _, _, _, _, _, rs ++ [⟨bs, place, word, sp, wo, way⟩], _, rfl, by rw [w8]; simp [recD], by simp [hl], fun r hr => by
      rcases List.mem_append.mp hr with h | h
      · exact hrs r h
      · rw [List.mem_singleton.mp h]; exact ⟨hb2, hw, y0, y1⟩, wt, by omega⟩
  · clear wt wp
    rintro ρ W ⟨u3, u4, u5, u6, u7, u8, u9, u10, rs, k, rfl, wp, hl, hrs, wt, hk⟩
    repeat array_mem_dec
    exact ⟨_, wt, ret_nw wp (q rs k (by omega) hrs (by omega))⟩
theorem erase_map {α β : Type} (f : α → β) : ∀ (l : List α) (i : Nat), (l.map f).eraseIdx i = (l.eraseIdx i).map f
  | [], _ => rfl
  | _ :: _, 0 => rfl
  | a :: r, i + 1 => by show f a :: (r.map f).eraseIdx i = f a :: (r.eraseIdx i).map f; rw [erase_map f r i]
theorem ix_ws {ws : List Nat} {i : Int} (h0 : 0 ≤ i) (h1 : i < ws.length) : ∃ k, ws[i.toNat]? = some k ∧ seqIndex? i ((wsD ws).map DV.im).length = some i.toNat ∧ ((wsD ws).map DV.im)[i.toNat]? = some (.im (.int (k : Nat))) := by
  have hl : i.toNat < ws.length := by omega
  refine ⟨ws[i.toNat], List.getElem?_eq_getElem hl, ?_, ?_⟩
  · have e : ((wsD ws).map DV.im).length = ws.length := by unfold wsD; rw [List.length_map, List.length_map]
    rw [e]
    unfold seqIndex?
    have e2 : (if i < 0 then i + (ws.length : Int) else i) = i := if_neg (by omega)
    simp only [e2]
    simp [h0, h1]
  · unfold wsD
    rw [List.getElem?_map, List.getElem?_map, List.getElem?_eq_getElem hl]
    rfl
theorem ok_written {fT fB fE fD : Addr} {fdT fdB fdE fdD : FuncData} (F : Fun K "_law_written" "_law_written" sWritten f fd) (D_law_take : Dn P w K mg base 1 "_law_take" fT fdT ["deck", "many"] (spT (mkRs Dk) SDraw)) (D_law_beat : Dn P w K mg base 2 "_law_beat" fB fdB ["deck", "beat", "falls"] (spT (mkRs Dk) SBeat)) (D_law_end_wrote : Dn P w K mg base 1 "_law_end_wrote" fE fdE ["record", "told"] (spD SEndW)) (D_law_down : Dn P w K mg base 3 "_law_down" fD fdD ["deck", "record", "n", "beat"] (spT (mkRs Dk) SDown)) (m_range : mg "range" = none) (m_len : mg "len" = none) (m_reversed : mg "reversed" = none) : FnOk P w K mg base CX0 4 f fd ["deck", "records", "tail"] (spT (mkRs Dk) SWritten) := by
  refine F.okT scWritten mkRs_ok rfl (fun n ds R hh => by obtain ⟨a, b, e, _⟩ := hh; rw [e]; rfl) fun cdv A outer s H E hr => ?_
  have hu := hr.units
  refine ⟨_, (ss_cons (s_set 3 scWritten.nd (e_cmp (op_eqU hu) (e_call D_law_take hr (a_cons (e_v 0) (a_cons e_int a_nil))) e_int))
    (ss_cons (s_set 4 scWritten.nd (e_lst a_nil))
    (ss_cons (s_set 5 scWritten.nd (e_lst a_nil))
    (ss_cons (s_set 6 scWritten.nd e_int)
    (ss_cons (s_for (i_range1 m_range (a_cons (e_callB call_lenN m_len PySem.boot_len (a_cons (e_v 1) a_nil)) a_nil)) (g_name 7 scWritten.nd) (ss_cons (s_set 8 scWritten.nd (e_ix (e_ix (e_v 1) (e_v 7)) e_int))
      (ss_cons (s_set 9 scWritten.nd (e_un un_neg e_int))
      (ss_cons (s_if (t_cmp op_lt (e_callB call_lenN m_len PySem.boot_len (a_cons (e_v 1) a_nil)) e_int) (ss_one (s_set 9 scWritten.nd (e_call D_law_take hr (a_cons (e_v 0) (a_cons (e_op op_add (e_callB call_lenN m_len PySem.boot_len (a_cons (e_v 8) a_nil)) e_int) a_nil))))) ss_nil)
      (ss_one (s_for (i_range1 m_range (a_cons (e_op op_add (e_callB call_lenN m_len PySem.boot_len (a_cons (e_v 8) a_nil)) e_int) a_nil)) (g_name 10 scWritten.nd) (ss_cons (s_if (t_cmp (op_eqU hu) (e_v 10) (e_v 9)) (ss_one (s_expr (e_bm PySem.F.plainAttrs_list PySem.F.slot_list_append PySem.F.type_list_append mt_append (e_v 4) (a_cons (e_call D_law_down hr (a_cons (e_v 0) (a_cons (e_ix (e_v 1) (e_v 7)) (a_cons (e_v 7) (a_cons (e_v 6) a_nil))))) a_nil)))) ss_nil)
        (ss_cons (s_if (t_w (w_and (t_cmp (op_neU hu) (e_v 5) (e_lst a_nil)) (w_and1 (t_cmp (op_eqU hu) (e_call D_law_take hr (a_cons (e_v 0) (a_cons e_int a_nil))) e_int)))) (ss_cons (s_set 11 scWritten.nd (e_bm PySem.F.plainAttrs_list PySem.F.slot_list_pop PySem.F.type_list_pop mt_popAt (e_v 5) (a_cons (e_call D_law_take hr (a_cons (e_v 0) (a_cons (e_callB call_lenN m_len PySem.boot_len (a_cons (e_v 5) a_nil)) a_nil))) a_nil)))
          (ss_one (s_expr (e_bm PySem.F.plainAttrs_list PySem.F.slot_list_append PySem.F.type_list_append mt_append (e_v 4) (a_cons (e_tup (a_cons e_str (a_cons (e_v 6) (a_cons (e_v 11) (a_cons (e_ix (e_ix (e_v 1) (e_v 11)) e_int) a_nil))))) a_nil))))) ss_nil)
        (ss_cons (s_if (t_cmp op_le (e_v 10) (e_callB call_lenN m_len PySem.boot_len (a_cons (e_v 8) a_nil))) (ss_one (s_set 6 scWritten.nd (e_call D_law_beat hr (a_cons (e_v 0) (a_cons (e_v 6) (a_cons (e_v 3) a_nil)))))) ss_nil)
        (ss_one (s_if (t_cmp op_lt (e_v 10) (e_callB call_lenN m_len PySem.boot_len (a_cons (e_v 8) a_nil))) (ss_one (s_expr (e_bm PySem.F.plainAttrs_list PySem.F.slot_list_append PySem.F.type_list_append mt_append (e_v 4) (a_cons (e_tup (a_cons e_str (a_cons (e_v 6) (a_cons (e_ix (e_v 8) (e_v 10)) a_nil)))) a_nil)))) (ss_one (s_if (t_cmp (op_eqU hu) (e_v 10) (e_callB call_lenN m_len PySem.boot_len (a_cons (e_v 8) a_nil))) (ss_cons (s_expr (e_bm PySem.F.plainAttrs_list PySem.F.slot_list_append PySem.F.type_list_append mt_append (e_v 4) (a_cons (e_tup (a_cons e_str (a_cons (e_v 6) (a_cons (e_ix (e_ix (e_v 1) (e_v 7)) e_int) (a_cons (e_call D_law_end_wrote hr (a_cons (e_ix (e_v 1) (e_v 7)) (a_cons e_bl a_nil))) a_nil))))) a_nil)))
            (ss_one (s_if (t_cmp (op_eqU hu) (e_ix (e_ix (e_v 1) (e_v 7)) e_int) e_int) (ss_one (s_expr (e_bm PySem.F.plainAttrs_list PySem.F.slot_list_append PySem.F.type_list_append mt_append (e_v 5) (a_cons (e_v 7) a_nil)))) ss_nil))) ss_nil)))))))))))))
    (ss_cons (s_for (i_rev m_reversed (a_cons (e_v 5) a_nil)) (g_name 11 scWritten.nd) (ss_one (s_expr (e_bm PySem.F.plainAttrs_list PySem.F.slot_list_append PySem.F.type_list_append mt_append (e_v 4) (a_cons (e_tup (a_cons e_str (a_cons (e_op op_add (e_v 6) e_int) (a_cons (e_v 11) (a_cons (e_ix (e_ix (e_v 1) (e_v 11)) e_int) a_nil))))) a_nil)))))
    (ss_one (s_ret (e_op op_cat (e_v 4) (e_comp (N' := ["k", "beat"]) (ix := [none, some 6]) ⟨rfl, rfl, rfl, rfl, rfl, rfl⟩ (i_list (e_v 2)) (fun _ _ _ _ => (g_name 0 (show List.Nodup (["k", "beat"] : List Str) by decide +kernel))) (fun _ _ _ _ => ts_nil) (fun _ _ _ _ => (e_tup (a_cons e_str (a_cons (e_op op_add (e_v 1) e_int) (a_cons (e_v 0) a_nil))))))))))))))), ?_⟩
  clear hu
  (try dsimp only [cxOf, Cx.nox, Cx.wish, blkX, Cx.withX, Cx.marked])
  refine fun t g O => ⟨_, inferInstance, ?_⟩
  rintro n0 ds R ⟨rs, tail, rfl, hrl, htl, hrs, hn, q⟩
  refine x_rho [_, _, _, none, none, none, none, none, none, none, none, none] rfl ?_
  have wt : WT t g n0 t = some (.tray g n0) := wset_same
  generalize WT t g n0 = W at wt
  repeat array_mem_dec
  refine x_draw wt (by omega) (by omega) (by omega) fun fl W1 fl0 fl1 wt f1 => ?_
  repeat array_mem_dec
  generalize decide (fl = 3) = falls
  refine x_newL (Nat.zero_le _) fun p W2 hp wp fp => ?_
  replace wt := fp.at (ne_new wt hp) wt
  have hpt : p ≠ t := fun z => by rw [z, wt] at wp; cases wp
  clear hp fp
  repeat array_mem_dec
  refine x_newL (Nat.zero_le _) fun qq W3 hq wq fq => ?_
  replace wt := fq.at (ne_new wt hq) wt
  have hpq := ne_new wp hq
  replace wp := fq.at hpq wp
  have hqt : qq ≠ t := fun z => by rw [z, wt] at wq; cases wq
  clear hq fq f1
  repeat array_mem_dec
  refine x_join (fun ρ W => ∃ (beat : Int) (u7 u8 u9 u10 u11 : Option DV) (es : List Ev) (ws : List Nat) (k : Nat), ρ = [some (.pt t), some (.im (.list (rs.map recD))), some (.im (.list (tail.map .int))), some (.im (.bool falls)), some (.pt p), some (.pt qq), some (.im (.int beat)), u7, u8, u9, u10, u11] ∧ W p = some (.lst ((es.map evD).map .im)) ∧ W qq = some (.lst ((wsD ws).map .im)) ∧ W t = some (.tray g k) ∧ DiaryOk rs es rs.length (dueR rs rs.length) ws ∧ es.length ≤ 40 * 330 ∧ ws.length ≤ 330 ∧ k ≤ n0 + 1 + 300 * 330) (fun kk jn => ?_) ?_
  · repeat array_mem_dec
    rw [List.length_map]
    repeat array_mem_dec
    refine x_loopR (fun n ρ W => ∃ (beat : Int) (u7 u8 u9 u10 u11 : Option DV) (es : List Ev) (ws : List Nat) (k : Nat), ρ = [some (.pt t), some (.im (.list (rs.map recD))), some (.im (.list (tail.map .int))), some (.im (.bool falls)), some (.pt p), some (.pt qq), some (.im (.int beat)), u7, u8, u9, u10, u11] ∧ W p = some (.lst ((es.map evD).map .im)) ∧ W qq = some (.lst ((wsD ws).map .im)) ∧ W t = some (.tray g k) ∧ DiaryOk rs es n (dueR rs n) ws ∧ es.length ≤ 40 * n ∧ ws.length ≤ n ∧ k ≤ n0 + 1 + 300 * n) ⟨0, _, _, _, _, _, [], [], _, rfl, wp, wq, wt, ⟨rfl, rfl, rfl, (fun i b k w h => by simp at h), (fun k h => by cases h), fun k r h => absurd h (Nat.not_lt_zero k)⟩, by simp, by simp, by omega⟩ ?_ ?_
    · clear wt wp wq
      rintro n ρ W hn' ⟨beat, u7, u8, u9, u10, u11, es, ws, k, rfl, wp, wq, wt, hD, hel, hwl, hk⟩
      have hnl : n < rs.length := by omega
      have hrn : rs[n]? = some rs[n] := List.getElem?_eq_getElem hnl
      have hro := hrs rs[n] (List.getElem_mem hnl)
      generalize rs[n] = r at hrn hro
      have hk2 : k ≤ n0 + 1 + 99000 := by omega
      have ixr : atI (rs.map recD) (0 + (n : Int)) = some (recD r) := by rw [Int.zero_add]; exact atI_nat (by rw [List.getElem?_map, hrn]; rfl)
      have bl := hro.b
      repeat array_mem_dec
      refine x_ixL ixr ?_
      repeat array_mem_dec
      refine x_ixL (D := .list (r.bells.map .int)) rfl ?_
      refine x_gnR [_, _, _, _, _, _, _, _, _, _, _, _] rfl ?_
      repeat array_mem_dec
      refine x_join (fun ρ W => ∃ (slot : Int) (k' : Nat), ρ = [some (.pt t), some (.im (.list (rs.map recD))), some (.im (.list (tail.map .int))), some (.im (.bool falls)), some (.pt p), some (.pt qq), some (.im (.int beat)), some (.im (.int (0 + (n : Nat)))), some (.im (.list (r.bells.map .int))), some (.im (.int slot)), u10, u11] ∧ W p = some (.lst ((es.map evD).map .im)) ∧ W qq = some (.lst ((wsD ws).map .im)) ∧ W t = some (.tray g k') ∧ k' ≤ k + 1) (fun kk jn => ?_) ?_
      · repeat array_mem_dec
        refine i_d (fun h => ?_) (fun h => ?_)
        · repeat array_mem_dec
          rw [List.length_map]
          refine x_draw wt (by omega) (by omega) (by omega) fun sl W4 s0 s1 wt f4 => ?_
          repeat array_mem_dec
          exact jn _ _ ⟨_, _, rfl, f4.at hpt wp, f4.at hqt wq, wt, by omega⟩
        · repeat array_mem_dec
          exact jn _ _ ⟨_, _, rfl, wp, wq, wt, by omega⟩
      clear wt wp wq
      rintro ρ W4 ⟨slot, k4, rfl, wp, wq, wt, hk4⟩
      repeat array_mem_dec
      rw [List.length_map]
      repeat array_mem_dec
      have hlast : r.bells.length + 2 = r.bells.length + 1 + 1 := rfl
      refine x_loopR (fun j ρ W => ∃ (beat : Int) (u10 u11 : Option DV) (es : List Ev) (ws : List Nat) (k' : Nat), ρ = [some (.pt t), some (.im (.list (rs.map recD))), some (.im (.list (tail.map .int))), some (.im (.bool falls)), some (.pt p), some (.pt qq), some (.im (.int beat)), some (.im (.int (0 + (n : Nat)))), some (.im (.list (r.bells.map .int))), some (.im (.int slot)), u10, u11] ∧ W p = some (.lst ((es.map evD).map .im)) ∧ W qq = some (.lst ((wsD ws).map .im)) ∧ W t = some (.tray g k') ∧ DiaryOk rs es (n + (if r.bells.length < j then 1 else 0)) (dueR rs n ++ (r.bells.take j).map fun k => ((n : Int), k)) ws ∧ es.length ≤ 40 * n + 4 * j ∧ ws.length ≤ n + (if r.bells.length < j then 1 else 0) ∧ k' ≤ k4 + 30 * j) ⟨beat, _, _, es, ws, _, rfl, wp, wq, wt, by simpa using hD, by omega, by omega, by omega⟩ ?_ ?_
      · clear wt wp wq hD hel hwl
        rintro j ρ W hj ⟨beat, u10, u11, es, ws, k5, rfl, wp, wq, wt, hD, hel, hwl, hk5⟩
        have hj4 : j ≤ 6 := by omega
        have hwn : ws.length ≤ 331 := by split at hwl <;> omega
        have hel2 : es.length ≤ 14000 := by omega
        generalize hc : n + (if r.bells.length < j then 1 else 0) = c at hD hwl
        refine x_join (fun ρ W => ∃ (es : List Ev) (k6 : Nat), ρ = [some (.pt t), some (.im (.list (rs.map recD))), some (.im (.list (tail.map .int))), some (.im (.bool falls)), some (.pt p), some (.pt qq), some (.im (.int beat)), some (.im (.int (0 + (n : Nat)))), some (.im (.list (r.bells.map .int))), some (.im (.int slot)), some (.im (.int (0 + (j : Nat)))), u11] ∧ W p = some (.lst ((es.map evD).map .im)) ∧ W qq = some (.lst ((wsD ws).map .im)) ∧ W t = some (.tray g k6) ∧ DiaryOk rs es c (dueR rs n ++ (r.bells.take j).map fun k => ((n : Int), k)) ws ∧ es.length ≤ 40 * n + 4 * j + 1 ∧ k6 ≤ k5 + 10) (fun kk jn => ?_) ?_
        · repeat array_mem_dec
          refine i_d (fun h => ?_) (fun h => ?_)
          · repeat array_mem_dec
            repeat array_mem_dec
            refine x_ixL ixr ?_
            repeat array_mem_dec
            refine x_tray (ds := [recD r, .int (0 + (n : Nat)), .int beat]) wt rfl ⟨r, _, beat, rfl, by omega, fun b m c' w n' hn' => ⟨rfl, x_rim ?_⟩⟩
            replace wp : wset W t (.tray g n') p = _ := (wset_ne hpt).trans wp
            replace wq : wset W t (.tray g n') qq = _ := (wset_ne hqt).trans wq
            replace wt : wset W t (.tray g n') t = some (.tray g n') := wset_same
            generalize wset W t (.tray g n') = W6 at wt wp wq
            repeat array_mem_dec
            refine x_appendA wp (by rw [List.length_map, List.length_map]; exact small9 (by omega)) fun W7 w7 f7 => ?_
            repeat array_mem_dec
            exact jn _ _ ⟨es ++ [.down b m c' w], _, rfl, by rw [w7]; simp, f7.at hpq.symm wq, f7.at hpt.symm wt, hD.down b m c' w, by simp; omega, by omega⟩
          · repeat array_mem_dec
            exact jn _ _ ⟨es, _, rfl, wp, wq, wt, hD, by omega, by omega⟩
        clear wt wp wq hD hel hel2
        rintro ρ W6 ⟨es, k6, rfl, wp, wq, wt, hD, hel, hk6⟩
        have hel2 : es.length ≤ 14001 := by omega
        refine x_join (fun ρ W => ∃ (u11 : Option DV) (es : List Ev) (ws : List Nat) (k7 : Nat), ρ = [some (.pt t), some (.im (.list (rs.map recD))), some (.im (.list (tail.map .int))), some (.im (.bool falls)), some (.pt p), some (.pt qq), some (.im (.int beat)), some (.im (.int (0 + (n : Nat)))), some (.im (.list (r.bells.map .int))), some (.im (.int slot)), some (.im (.int (0 + (j : Nat)))), u11] ∧ W p = some (.lst ((es.map evD).map .im)) ∧ W qq = some (.lst ((wsD ws).map .im)) ∧ W t = some (.tray g k7) ∧ DiaryOk rs es c (dueR rs n ++ (r.bells.take j).map fun k => ((n : Int), k)) ws ∧ es.length ≤ 40 * n + 4 * j + 2 ∧ ws.length ≤ c ∧ k7 ≤ k6 + 2) (fun kk jn => ?_) ?_
        · repeat array_mem_dec
          refine ⟨_, dat_pt wq, can_ws ws, ?_⟩
          have hwc : ws.length ≤ c := by omega
          cases ws with
          | nil =>
            repeat array_mem_dec
            refine i_F ?_
            repeat array_mem_dec
            exact jn _ _ ⟨_, es, [], _, rfl, wp, wq, wt, hD, by omega, by omega, by omega⟩
          | cons w0 wr =>
            repeat array_mem_dec
            refine i_T ?_
            repeat array_mem_dec
            refine x_draw wt (by omega) (by omega) (by omega) fun c4 W7 c0 c1 wt f7 => ?_
            replace wp := f7.at hpt wp
            replace wq := f7.at hqt wq
            repeat array_mem_dec
            refine i_d (fun h => ?_) (fun h => ?_)
            · repeat array_mem_dec
              repeat array_mem_dec
              rw [List.length_map, show (wsD (w0 :: wr)).length = (w0 :: wr).length from List.length_map ..]
              refine x_draw wt (by omega) (by simp only [List.length_cons]; omega) (by omega) fun at_ W8 a0 a1 wt f8 => ?_
              replace wp := f8.at hpt wp
              replace wq := f8.at hqt wq
              repeat array_mem_dec
              obtain ⟨lk, h1, h2, h3⟩ := ix_ws a0 a1
              obtain ⟨hlc, rl, hrl', hway⟩ := hD.w lk (List.mem_of_getElem? h1)
              refine ⟨qq, _, at_, at_.toNat, _, rfl, rfl, wq, by omega, by omega, h2, h3, ?_⟩
              have wp9 : wset W8 qq (.lst (((wsD (w0 :: wr)).map DV.im).eraseIdx at_.toNat)) p = _ := (wset_ne hpq).trans wp
              have wt9 : wset W8 qq (.lst (((wsD (w0 :: wr)).map DV.im).eraseIdx at_.toNat)) t = _ := (wset_ne hqt.symm).trans wt
              have wq9 : wset W8 qq (.lst (((wsD (w0 :: wr)).map DV.im).eraseIdx at_.toNat)) qq = some (.lst ((wsD ((w0 :: wr).eraseIdx at_.toNat)).map .im)) := by rw [wset_same]; unfold wsD; rw [erase_map, erase_map]
              generalize wset W8 qq (.lst (((wsD (w0 :: wr)).map DV.im).eraseIdx at_.toNat)) = W9 at wp9 wt9 wq9
              repeat array_mem_dec
              repeat array_mem_dec
              refine x_ixL (D := recD rl) (atI_nat (by rw [List.getElem?_map, hrl']; rfl)) ?_
              repeat array_mem_dec
              refine x_ixL (D := .int rl.worth) rfl ?_
              repeat array_mem_dec
              refine x_tupIm (ds := [.str "late", .int beat, .int (lk : Nat), .int rl.worth]) (by show 4 ≤ sizeLine; decide) ?_
              repeat array_mem_dec
              refine x_appendA wp9 (by rw [List.length_map, List.length_map]; exact small9 (by omega)) fun W10 w10 f10 => ?_
              repeat array_mem_dec
              exact jn _ _ ⟨_, es ++ [.late beat lk rl.worth], (w0 :: wr).eraseIdx at_.toNat, _, rfl, by rw [w10]; simp [evD], f10.at hpq.symm wq9, f10.at hpt.symm wt9, hD.late beat h1 hrl', by simp; omega, by have := List.length_eraseIdx_le (w0 :: wr) at_.toNat; omega, by omega⟩
            · repeat array_mem_dec
              exact jn _ _ ⟨_, es, _, _, rfl, wp, wq, wt, hD, by omega, by omega, by omega⟩
        clear wt wp wq hD hel hel2 hwl hwn
        rintro ρ W7 ⟨u11', es, ws, k7, rfl, wp, wq, wt, hD, hel, hwl, hk7⟩
        have hel2 : es.length ≤ 14002 := by omega
        refine x_join (fun ρ W => ∃ (beat : Int) (k8 : Nat), ρ = [some (.pt t), some (.im (.list (rs.map recD))), some (.im (.list (tail.map .int))), some (.im (.bool falls)), some (.pt p), some (.pt qq), some (.im (.int beat)), some (.im (.int (0 + (n : Nat)))), some (.im (.list (r.bells.map .int))), some (.im (.int slot)), some (.im (.int (0 + (j : Nat)))), u11'] ∧ W p = some (.lst ((es.map evD).map .im)) ∧ W qq = some (.lst ((wsD ws).map .im)) ∧ W t = some (.tray g k8) ∧ k8 ≤ k7 + 5) (fun kk jn => ?_) ?_
        · repeat array_mem_dec
          rw [List.length_map]
          refine i_d (fun h => ?_) (fun h => ?_)
          · repeat array_mem_dec
            refine x_tray (ds := [.int beat, .bool falls]) wt rfl ⟨beat, falls, rfl, by omega, fun b' n' hn' => ⟨rfl, x_rim ?_⟩⟩
            replace wp : wset W7 t (.tray g n') p = _ := (wset_ne hpt).trans wp
            replace wq : wset W7 t (.tray g n') qq = _ := (wset_ne hqt).trans wq
            replace wt : wset W7 t (.tray g n') t = some (.tray g n') := wset_same
            generalize wset W7 t (.tray g n') = W8 at wt wp wq
            repeat array_mem_dec
            exact jn _ _ ⟨b', n', rfl, wp, wq, wt, by omega⟩
          · repeat array_mem_dec
            exact jn _ _ ⟨beat, _, rfl, wp, wq, wt, by omega⟩
        clear wt wp wq
        rintro ρ W8 ⟨beat', k8, rfl, wp, wq, wt, hk8⟩
        repeat array_mem_dec
        rw [List.length_map]
        refine i_d (fun hlt => ?_) (fun hlt => ?_)
        · have hjl : j < r.bells.length := by omega
          have hcn : c = n := by rw [← hc, if_neg (by omega)]; rfl
          subst hcn
          repeat array_mem_dec
          repeat array_mem_dec
          refine x_ixL (D := .int r.bells[j]) (by rw [Int.zero_add]; exact atI_nat (by rw [List.getElem?_map, List.getElem?_eq_getElem hjl]; rfl)) ?_
          repeat array_mem_dec
          refine x_tupIm (ds := [.str "bell", .int beat', .int r.bells[j]]) (by show 3 ≤ sizeLine; decide) ?_
          repeat array_mem_dec
          refine x_appendA wp (by rw [List.length_map, List.length_map]; exact small9 (by omega)) fun W9 w9 f9 => ?_
          repeat array_mem_dec
          refine ⟨beat', _, _, es ++ [.bell beat' r.bells[j]], ws, k8, rfl, by rw [w9]; simp [evD], f9.at hpq.symm wq, f9.at hpt.symm wt, ?_, by simp; omega, by rw [if_neg (by omega)]; exact hwl, by omega⟩
          rw [if_neg (by omega), Nat.add_zero]
          have := hD.bell beat' r.bells[j]
          rw [List.append_assoc] at this
          rw [List.take_add_one, List.getElem?_eq_getElem hjl, List.map_append]
          exact this
        · repeat array_mem_dec
          rw [List.length_map]
          refine i_d (fun heq => ?_) (fun heq => ?_)
          · have hjl : j = r.bells.length := by omega
            have hcn : c = n := by rw [← hc, if_neg (by omega)]; rfl
            subst hcn
            repeat array_mem_dec
            repeat array_mem_dec
            refine x_ixL ixr ?_
            repeat array_mem_dec
            refine x_ixL (D := .int r.place) rfl ?_
            repeat array_mem_dec
            refine x_ixL ixr ?_
            repeat array_mem_dec
            refine x_pureI (ds := [recD r, .bool false]) ⟨r, false, rfl, ?_⟩
            repeat array_mem_dec
            refine x_tupIm (ds := [.str "end", .int beat', .int r.place, wrD (endW r false)]) (by show 4 ≤ sizeLine; decide) ?_
            repeat array_mem_dec
            refine x_appendA wp (by rw [List.length_map, List.length_map]; exact small9 (by omega)) fun W9 w9 f9 => ?_
            replace wq := f9.at hpq.symm wq
            replace wt := f9.at hpt.symm wt
            have w9' : W9 p = some (.lst (((es ++ [Ev.fin beat' r.place (endW r false)]).map evD).map .im)) := by rw [w9]; simp [evD]
            have hF := hD.fin beat' hrn
            repeat array_mem_dec
            refine x_ixL ixr ?_
            repeat array_mem_dec
            refine x_ixL (D := .int r.way) rfl ?_
            repeat array_mem_dec
            refine i_d (fun hy => ?_) (fun hy => ?_)
            · rw [if_pos hy] at hF
              repeat array_mem_dec
              repeat array_mem_dec
              refine x_appendA wq (by rw [List.length_map, show (wsD ws).length = ws.length from List.length_map ..]; exact small9 (by omega)) fun W10 w10 f10 => ?_
              repeat array_mem_dec
              refine ⟨beat', _, _, _, ws ++ [c], k8, rfl, f10.at hpq w9', by rw [w10]; simp [wsD], f10.at hqt.symm wt, ?_, by simp; omega, by rw [if_pos (by omega)]; simp; omega, by omega⟩
              rw [if_pos (by omega), List.take_of_length_le (show r.bells.length ≤ j + 1 by omega)]
              rw [hjl, List.take_length] at hF
              exact hF
            · rw [if_neg hy] at hF
              repeat array_mem_dec
              refine ⟨beat', _, _, _, ws, k8, rfl, w9', wq, wt, ?_, by simp; omega, by rw [if_pos (by omega)]; omega, by omega⟩
              rw [if_pos (by omega), List.take_of_length_le (show r.bells.length ≤ j + 1 by omega)]
              rw [hjl, List.take_length] at hF
              exact hF
          · repeat array_mem_dec
            have hgt : r.bells.length < j := by omega
            refine ⟨beat', _, _, es, ws, k8, rfl, wp, wq, wt, ?_, by omega, ?_, by omega⟩
            · rw [if_pos (by omega), List.take_of_length_le (show r.bells.length ≤ j + 1 by omega)]
              rw [List.take_of_length_le (show r.bells.length ≤ j by omega)] at hD
              rw [if_pos hgt] at hc
              rw [hc]; exact hD
            · rw [if_pos (by omega)]
              rw [if_pos hgt] at hc
              omega
      · rintro ρ W ⟨beat, u10, u11, es, ws, k', rfl, wp, wq, wt, hD, hel, hwl, hk'⟩
        have e2 : ((r.bells.length : Int) + 2).toNat = r.bells.length + 2 := by omega
        rw [e2] at hD hel hwl hk'
        rw [if_pos (by omega)] at hD hwl
        rw [List.take_of_length_le (by omega)] at hD
        refine ⟨beat, _, _, _, _, _, es, ws, k', rfl, wp, wq, wt, ?_, by omega, by omega, by omega⟩
        show DiaryOk rs es (n + 1) (dueR rs n ++ (match rs[n]? with | some r => r.bells.map fun k => ((n : Int), k) | none => [])) ws
        rw [hrn]
        exact hD
    · rintro ρ W ⟨beat, u7, u8, u9, u10, u11, es, ws, k, rfl, wp, wq, wt, hD, hel, hwl, hk⟩
      have e2 : ((rs.length : Int)).toNat = rs.length := by omega
      rw [e2] at hD hel hwl hk
      exact jn _ _ ⟨beat, _, _, _, _, _, es, ws, k, rfl, wp, wq, wt, hD, by omega, by omega, by omega⟩
  clear wt wp wq
  rintro ρ W ⟨beat, u7, u8, u9, u10, u11, es, ws, k, rfl, wp, wq, wt, hD, hel, hwl, hk⟩
  refine x_seq ?_
  repeat array_mem_dec
  refine x_rvP wq ?_
  have erev : ((wsD ws).map DV.im).reverse = (wsD ws.reverse).map DV.im := by unfold wsD; rw [← List.map_reverse, ← List.map_reverse]
  rw [erev]
  refine x_loop (fun i ρ W => ∃ (u11 : Option DV) (es : List Ev), ρ = [some (.pt t), some (.im (.list (rs.map recD))), some (.im (.list (tail.map .int))), some (.im (.bool falls)), some (.pt p), some (.pt qq), some (.im (.int beat)), u7, u8, u9, u10, u11] ∧ W p = some (.lst ((es.map evD).map .im)) ∧ W qq = some (.lst ((wsD ws).map .im)) ∧ W t = some (.tray g k) ∧ DiaryOk rs es rs.length (dueR rs rs.length) (ws.reverse.drop i) ∧ es.length ≤ 40 * 330 + i) ⟨_, es, rfl, wp, wq, wt, by rw [List.drop_zero]; exact hD.rev, by omega⟩ (fun i ρ W ⟨_, _, _, _, h, _⟩ => h) ?_ ?_
  · clear wt wp wq hD hel
    rintro i v ρ W hv ⟨u11, es, rfl, wp, wq, wt, hD, hel⟩
    have hv' : ((wsD ws.reverse).map DV.im)[i]? = some v := hv
    unfold wsD at hv'
    rw [List.getElem?_map, List.getElem?_map] at hv'
    cases hi : ws.reverse[i]? with
    | none => rw [hi] at hv'; cases hv'
    | some lk =>
      rw [hi] at hv'; cases hv'
      have hil : i < ws.length := by have := (List.getElem?_eq_some_iff.mp hi).1; rw [List.length_reverse] at this; exact this
      have hi0 : (ws.reverse.drop i)[0]? = some lk := by rw [List.getElem?_drop]; exact hi
      obtain ⟨hlc, rl, hrl', hway⟩ := hD.w lk (List.mem_of_getElem? hi0)
      repeat array_mem_dec
      repeat array_mem_dec
      refine x_ixL (D := recD rl) (atI_nat (by rw [List.getElem?_map, hrl']; rfl)) ?_
      repeat array_mem_dec
      refine x_ixL (D := .int rl.worth) rfl ?_
      repeat array_mem_dec
      refine x_tupIm (ds := [.str "late", .int (beat + 1), .int (lk : Nat), .int rl.worth]) (by show 4 ≤ sizeLine; decide) ?_
      repeat array_mem_dec
      refine x_appendA wp (by rw [List.length_map, List.length_map]; exact small9 (by omega)) fun W2 w2 f2 => ?_
      repeat array_mem_dec
      refine ⟨_, es ++ [.late (beat + 1) lk rl.worth], rfl, by rw [w2]; simp [evD], f2.at hpq.symm wq, f2.at hpt.symm wt, ?_, by simp; omega⟩
      have := hD.late (beat + 1) hi0 hrl'
      rw [List.eraseIdx_zero, List.tail_drop] at this
      exact this
  · clear wt wp wq hD hel
    rintro ρ W ⟨u11, es, rfl, wp, wq, wt, hD, hel⟩
    have hlen : ((wsD ws.reverse).map DV.im).length = ws.reverse.length := by unfold wsD; rw [List.length_map, List.length_map]
    have hD2 : DiaryOk rs es rs.length (dueR rs rs.length) [] := by
      have hD' : DiaryOk rs es rs.length (dueR rs rs.length) (ws.reverse.drop ((wsD ws.reverse).map DV.im).length) := hD
      rw [hlen, List.drop_length] at hD'
      exact hD'
    have hel' : es.length ≤ 40 * 330 + ((wsD ws.reverse).map DV.im).length := hel
    rw [hlen, List.length_reverse] at hel'
    repeat array_mem_dec
    refine x_compL (fun j ys W => ys = (((tail.take j).map fun k => evD (.bell (beat + 2) k))).map .im ∧ W p = some (.lst ((es.map evD).map .im)) ∧ W t = some (.tray g k)) (by rw [List.length_map]; exact Nat.le_of_lt (small1000 (by omega))) ⟨rfl, wp, wt⟩ ?_ ?_
    · rintro j d ys W hd _ ⟨rfl, wp, wt⟩
      rw [List.getElem?_map] at hd
      obtain ⟨z, hz, rfl⟩ := Option.map_eq_some_iff.mp hd
      repeat array_mem_dec
      refine x_tupIm (ds := [.str "bell", .int (beat + 2), .int z]) (by show 3 ≤ sizeLine; decide) ⟨?_, wp, wt⟩
      rw [List.take_add_one, hz]
      simp [evD]
    clear wt wp
    rintro ys W2 ⟨rfl, wp, wt⟩
    rw [List.length_map, List.take_length]
    refine n_dat ?_
    repeat array_mem_dec
    refine x_cat (vs := (es.map evD).map .im) (us := ((tail.map fun k => evD (.bell (beat + 2) k))).map .im) (seqL_pt wp) rfl (Nat.le_of_lt (small9 (by simp only [List.length_map]; omega))) ?_
    rw [show (es.map evD).map DV.im ++ (tail.map fun k => evD (.bell (beat + 2) k)).map DV.im = ((es ++ tail.map fun k => Ev.bell (beat + 2) k).map evD).map DV.im by simp [Function.comp_def]]
    refine n_own fun p2 W3 hp2 wp2 fp2 => ?_
    replace wt := fp2.at (ne_new wt hp2) wt
    have hB := DiaryOk.bells (b := beat + 2) (tail := tail) hD2
    refine ⟨_, wt, ret_nw wp2 (q _ _ ⟨?_, hB.b, hB.l, fun kx r hr hy => ?_, by rw [List.length_append, List.length_map]; omega⟩ (by omega))⟩
    · rw [hB.f, List.take_length]
    · rcases hB.a kx r (List.getElem?_eq_some_iff.mp hr).1 hr hy with z | z
      · cases z
      · exact z
end

def evL (es : List Ev) : PyData := .list (es.map evD)
def WOk : Wr → Prop
  | none => True
  | some (k, _, _) => k = "spot" ∨ k = "cell"
theorem endW_ok {m : Nat} {r : Rec} (h : RecN m r) (told : Bool) : WOk (endW r told) := by
  unfold endW
  split
  · trivial
  · split
    · exact h.w
    · exact h.w
theorem can_kp : ∀ o : Option Int, (kpD o).canLay0 = true
  | none => rfl
  | some _ => rfl
theorem can_wr : ∀ {w : Wr}, WOk w → (wrD w).canLay0 = true
  | none, _ => rfl
  | some (k, a, o), h => by
    rcases h with rfl | rfl <;> (simp only [wrD, PyData.canLay0, PyData.canLayAll0, Bool.and_true, Bool.true_and, can_kp]; decide +kernel)
theorem can_ev : ∀ {e : Ev}, (∀ b p w, e = .fin b p w → WOk w) → (evD e).canLay0 = true
  | .fin b p w, h => by
    simp only [evD, PyData.canLay0, PyData.canLayAll0, Bool.and_true, Bool.true_and, can_wr (h b p w rfl)]; decide +kernel
  | .bell b k, _ => by simp only [evD, PyData.canLay0, PyData.canLayAll0, Bool.and_true, Bool.true_and]; decide +kernel
  | .late b n w, _ => by simp only [evD, PyData.canLay0, PyData.canLayAll0, Bool.and_true, Bool.true_and]; decide +kernel
  | .down b n c w, _ => by simp only [evD, PyData.canLay0, PyData.canLayAll0, Bool.and_true, Bool.true_and]; decide +kernel
theorem can_evs : ∀ {es : List Ev}, (∀ b p w, Ev.fin b p w ∈ es → WOk w) → PyData.canLayAll0 (es.map evD) = true
  | [], _ => rfl
  | e :: r, h => by
    show (PyData.canLay0 (evD e) && PyData.canLayAll0 (r.map evD)) = true
    rw [can_ev fun b p w q => h b p w (by rw [q]; exact List.mem_cons_self ..), can_evs fun b p w q => h b p w (List.mem_cons_of_mem _ q)]
    rfl
theorem Good.can {rs : List Rec} {tail : List Int} {es : List Ev} {m : Nat} (h : Good rs tail es) (hr : ∀ r ∈ rs, RecN m r) : (evL es).canLay0 = true := by
  refine can_evs fun b p w hm => ?_
  have : (p, w) ∈ finsP es := List.mem_filterMap.mpr ⟨_, hm, rfl⟩
  rw [h.f] at this
  obtain ⟨r, h1, h2⟩ := List.mem_map.mp this
  cases h2
  exact endW_ok (hr r h1) false
theorem depth_wr : ∀ w : Wr, (wrD w).depth ≤ 1
  | none => by decide
  | some (k, a, none) => by simp [wrD, kpD, PyData.depth, PyData.depthAll]
  | some (k, a, some _) => by simp [wrD, kpD, PyData.depth, PyData.depthAll]
theorem depth_ev (e : Ev) : (evD e).depth ≤ 2 := by
  cases e with
  | fin b p w =>
    have := depth_wr w
    simp only [evD, PyData.depth, PyData.depthAll]; omega
  | bell b k => simp [evD, PyData.depth, PyData.depthAll]
  | late b n w => simp [evD, PyData.depth, PyData.depthAll]
  | down b n c w => simp [evD, PyData.depth, PyData.depthAll]
theorem depth_evs : ∀ es : List Ev, PyData.depthAll (es.map evD) ≤ 2
  | [] => by decide
  | e :: r => by
    have h1 := depth_ev e
    have h2 := depth_evs r
    rw [List.map_cons, PyData.depthAll]; omega
theorem depth_evL (es : List Ev) : (evL es).depth ≤ 64 := by
  have := depth_evs es
  simp only [evL, PyData.depth]; omega
theorem cutTo {α : Type} {l : List α} {k : Nat} (h : k ≤ l.length) : cutD l none (some (k : Int)) = l.take k := by
  unfold cutD
  rw [HT.sIx_nat, show HT.sIx l.length 0 none = 0 from rfl, Nat.min_eq_left h, List.drop_zero, Nat.sub_zero]
abbrev sSettled : Stmt := top 3
theorem scSettled : FnScope ["diary", "ends", "event", "n", "wrote"] ["diary"] (defScope sSettled) := ⟨rfl, rfl, rfl, by decide +kernel, rfl, by decide +kernel, by decide +kernel⟩
def eD (e : Int × Wr) : PyData := .tuple [.int e.1, wrD e.2]
def isL (k : Nat) : Ev → Bool
  | .late _ n _ => decide (n = k)
  | _ => false
def lateB (es : List Ev) (k : Nat) : Bool := es.any (isL k)
theorem lateB_snoc (es : List Ev) (e : Ev) (k : Nat) : lateB (es ++ [e]) k = (lateB es k || isL k e) := by
  unfold lateB; rw [List.any_append]; simp
def ent (rs : List Rec) (es : List Ev) (k : Nat) : Int × Wr := match rs[k]? with
  | some r => (r.place, endW r (lateB es k))
  | none => (0, none)
def stF (rs : List Rec) (es : List Ev) (c : Nat) : List (Int × Wr) := (List.range c).map (ent rs es)
def stOf (rs : List Rec) (es : List Ev) : List (Int × Wr) := stF rs es (cnt es)
structure Pre (rs : List Rec) (es : List Ev) : Prop where
  f : finsP es = (rs.take (cnt es)).map fun r => (r.place, endW r false)
  c : cnt es ≤ rs.length
  l : LateOk rs es
  s : es.length ≤ 100000
theorem fins_len (es : List Ev) : (finsP es).length = cnt es := by
  induction es with
  | nil => rfl
  | cons e r ih =>
    rw [cnt_cons]
    cases e with
    | fin b p w => show (finsP r).length + 1 = 1 + cnt r; omega
    | bell b k => show (finsP r).length = 0 + cnt r; omega
    | late b n w => show (finsP r).length = 0 + cnt r; omega
    | down b n c w => show (finsP r).length = 0 + cnt r; omega
theorem fins_split (es : List Ev) (i : Nat) : finsP es = finsP (es.take i) ++ finsP (es.drop i) := by
  unfold finsP
  rw [← List.filterMap_append, List.take_append_drop]
theorem Pre.take {rs : List Rec} {es : List Ev} (h : Pre rs es) (i : Nat) : Pre rs (es.take i) := by
  have hs := fins_split es i
  have hl := fins_len (es.take i)
  have hlen := congrArg List.length hs
  rw [fins_len, List.length_append, hl] at hlen
  have hc := h.c
  refine ⟨?_, by omega, fun j b k w hj => ?_, by rw [List.length_take]; have := h.s; omega⟩
  · have e : (finsP es).take (cnt (es.take i)) = finsP (es.take i) := by rw [hs, ← hl, List.take_left]
    rw [← e, h.f, ← List.map_take, List.take_take, Nat.min_eq_left (by omega)]
  · have hji : j < i := by
      have := (List.getElem?_eq_some_iff.mp hj).1
      rw [List.length_take] at this; omega
    rw [List.getElem?_take_of_lt hji] at hj
    rw [List.take_take, Nat.min_eq_left (by omega)]
    exact h.l j b k w hj
theorem lateB_lt {rs : List Rec} {es : List Ev} (h : LateOk rs es) {k : Nat} (hb : lateB es k = true) : k < cnt es ∧ ∃ r, rs[k]? = some r ∧ r.way = 2 := by
  unfold lateB at hb
  obtain ⟨e, he, hl⟩ := List.any_eq_true.mp hb
  obtain ⟨i, hi, e2⟩ := List.getElem_of_mem he
  cases e with
  | late b n w =>
    have hn : n = k := of_decide_eq_true hl
    subst hn
    obtain ⟨h1, r, h2, h3, _⟩ := h i b n w (by rw [List.getElem?_eq_getElem hi, e2])
    have hle : cnt (es.take i) ≤ cnt es := by
      have hs := congrArg List.length (fins_split es i)
      rw [fins_len, List.length_append, fins_len] at hs
      omega
    exact ⟨by omega, r, h2, h3⟩
  | fin _ _ _ => cases hl
  | bell _ _ => cases hl
  | down _ _ _ _ => cases hl
theorem ent_same {rs : List Rec} {es : List Ev} {e : Ev} {k : Nat} (h : isL k e = false) : ent rs (es ++ [e]) k = ent rs es k := by
  unfold ent
  rw [lateB_snoc, h, Bool.or_false]
theorem stOf_plain {rs : List Rec} {es : List Ev} {e : Ev} (h : ∀ k, isL k e = false) (hf : isFin e = false) : stOf rs (es ++ [e]) = stOf rs es := by
  unfold stOf stF
  rw [cnt_snoc, hf]
  exact List.map_congr_left fun k _ => ent_same (h k)
theorem stOf_fin {rs : List Rec} {es : List Ev} {b p : Int} {w : Wr} (h : Pre rs (es ++ [.fin b p w])) (hp : Pre rs es) : stOf rs (es ++ [.fin b p w]) = stOf rs es ++ [(p, w)] := by
  have hc : cnt (es ++ [.fin b p w]) = cnt es + 1 := by rw [cnt_snoc]; rfl
  have hcl := h.c
  rw [hc] at hcl
  have hr : rs[cnt es]? = some rs[cnt es] := List.getElem?_eq_getElem (by omega)
  generalize rs[cnt es] = r at hr
  have hf := h.f
  rw [finsP_snoc, hc, List.take_add_one, hr, List.map_append, hp.f] at hf
  have hpw : [(p, w)] = [(r.place, endW r false)] := List.append_cancel_left hf
  have hnl : lateB es (cnt es) = false := by
    cases q : lateB es (cnt es) with
    | false => rfl
    | true => exact absurd (lateB_lt hp.l q).1 (Nat.lt_irrefl _)
  unfold stOf stF
  rw [hc, List.range_succ, List.map_append]
  congr 1
  · exact List.map_congr_left fun k _ => ent_same rfl
  · rw [hpw]
    show [ent rs (es ++ [.fin b p w]) (cnt es)] = _
    rw [ent_same rfl]
    unfold ent
    rw [hr, hnl]
theorem stOf_late {rs : List Rec} {es : List Ev} {b v : Int} {n : Nat} {r : Rec} (hr : rs[n]? = some r) : stOf rs (es ++ [.late b n v]) = (stOf rs es).set n (r.place, endW r true) := by
  unfold stOf stF
  rw [show cnt (es ++ [.late b n v]) = cnt es by rw [cnt_snoc]; rfl]
  refine List.ext_getElem? fun k => ?_
  rw [List.getElem?_set]
  by_cases hk : n = k
  · subst hk
    rw [if_pos rfl]
    by_cases hlt : n < cnt es
    · rw [if_pos (by simpa using hlt), List.getElem?_map, List.getElem?_range hlt]
      show some (ent rs (es ++ [.late b n v]) n) = _
      unfold ent
      rw [hr, lateB_snoc, show isL n (.late b n v) = true from decide_eq_true rfl, Bool.or_true]
    · rw [if_neg (by simpa using hlt), List.getElem?_map, List.getElem?_eq_none (by simpa using hlt)]
      rfl
  · rw [if_neg hk, List.getElem?_map, List.getElem?_map]
    by_cases hlt : k < cnt es
    · rw [List.getElem?_range hlt]
      show some (ent rs (es ++ [.late b n v]) k) = some (ent rs es k)
      rw [ent_same (show isL k (.late b n v) = false from decide_eq_false hk)]
    · rw [List.getElem?_eq_none (by simpa using hlt)]
      rfl
def SSettled : DSp := fun ds R _ => ∃ (rs : List Rec) (es : List Ev), ds = [evL es] ∧ Pre rs es ∧ R (.nw ((stOf rs es).map eD))
theorem stOf_len (rs : List Rec) (es : List Ev) : (stOf rs es).length = cnt es := by unfold stOf stF; rw [List.length_map, List.length_range]
theorem stOf_get {rs : List Rec} {es : List Ev} {n : Nat} (h : n < cnt es) : (stOf rs es)[n]? = some (ent rs es n) := by
  unfold stOf stF
  rw [List.getElem?_map, List.getElem?_range h]; rfl
theorem cnt_le (es : List Ev) : cnt es ≤ es.length := List.length_filter_le ..
theorem endW2 {r : Rec} (h : r.way = 2) (b : Bool) : endW r b = some (r.word, r.spot, if b = true then some r.worth else none) := by
  unfold endW
  rw [if_neg (by omega)]
  cases b with
  | true => rw [if_neg (by rintro (z | z); omega; cases z.2), if_pos rfl]
  | false => rw [if_pos (.inr ⟨h, rfl⟩), if_neg (by decide)]
theorem endW_n2 {r : Rec} (h : ¬ r.way = 2) (b : Bool) : endW r b = endW r false := by
  unfold endW
  by_cases h0 : r.way = 0
  · rw [if_pos h0, if_pos h0]
  · rw [if_neg h0, if_neg h0]
    by_cases h3 : r.way = 3
    · rw [if_pos (.inl h3), if_pos (.inl h3)]
    · rw [if_neg (by rintro (z | z); exact h3 z; exact h z.1), if_neg (by rintro (z | z); exact h3 z; exact h z.1)]
section
variable {P : Program} {w : World} {K : PySem.W.Frag} {mg : Str → Option Value} {base : Heap} {f : Addr} {fd : FuncData}
theorem ok_settled (F : Fun K "settled" "settled" sSettled f fd) : FnOk P w K mg base CX0 1 f fd ["diary"] (spD SSettled) := by
  refine F.okD scSettled (fun ds R X hh => by obtain ⟨a, b, e, _⟩ := hh; rw [e]; rfl) fun cdv A outer s H E hr => ?_
  have hu := hr.units
  refine ⟨_, (ss_cons (s_set 1 scSettled.nd (e_lst a_nil))
    (ss_cons (s_for (i_list (e_v 0)) (g_name 2 scSettled.nd) (ss_one (s_if (t_cmp (op_eqU hu) (e_ix (e_v 2) e_int) e_str) (ss_one (s_expr (e_bm PySem.F.plainAttrs_list PySem.F.slot_list_append PySem.F.type_list_append mt_append (e_v 1) (a_cons (e_tup (a_cons (e_ix (e_v 2) e_int) (a_cons (e_ix (e_v 2) e_int) a_nil))) a_nil)))) (ss_one (s_if (t_cmp (op_eqU hu) (e_ix (e_v 2) e_int) e_str) (ss_cons (s_set 3 scSettled.nd (e_ix (e_v 2) e_int))
          (ss_cons (s_set 4 scSettled.nd (e_ix (e_ix (e_v 1) (e_v 3)) e_int))
          (ss_one (s_asg (e_tup (a_cons (e_ix (e_ix (e_v 1) (e_v 3)) e_int) (a_cons (e_tup (a_cons (e_ix (e_v 4) e_int) (a_cons (e_ix (e_v 4) e_int) (a_cons (e_ix (e_v 2) e_int) a_nil)))) a_nil))) (g_sub (e_v 1) (e_v 3) set_list))))) ss_nil)))))
    (ss_one (s_ret (e_v 1))))), ?_⟩
  clear hu
  (try dsimp only [cxOf, Cx.nox, Cx.wish, blkX, Cx.withX, Cx.marked])
  refine fun O X => ⟨_, inferInstance, ?_⟩
  rintro ds R ⟨rs, es, rfl, hP, q⟩
  refine x_rho [_, none, none, none, none] rfl ?_
  have hel := hP.s
  unfold evL
  repeat array_mem_dec
  refine x_newL (Nat.zero_le _) fun p W1 hp wp fp => ?_
  repeat array_mem_dec
  refine x_seq ?_
  repeat array_mem_dec
  refine x_loopL (fun i ρ W => ∃ u2 u3 u4, ρ = [some (.im (.list (es.map evD))), some (.pt p), u2, u3, u4] ∧ W p = some (.lst (((stOf rs (es.take i)).map eD).map .im))) ⟨_, _, _, rfl, wp⟩ ?_ ?_
  · clear wp
    rintro i d ρ W hd ⟨u2, u3, u4, rfl, wp⟩
    rw [List.getElem?_map] at hd
    obtain ⟨e, he, rfl⟩ := Option.map_eq_some_iff.mp hd
    have et : es.take (i + 1) = es.take i ++ [e] := by rw [List.take_add_one, he]; rfl
    have hil : (es.take i).length ≤ 100000 := by rw [List.length_take]; omega
    have hcl := cnt_le (es.take i)
    have hP1 := hP.take (i + 1)
    have hP0 := hP.take i
    rw [et] at hP1
    rw [et]
    repeat array_mem_dec
    cases e with
    | fin b pl w =>
      dsimp only [evD]
      array_get_dec
      refine x_tupIm (ds := [.int pl, wrD w]) (by show 2 ≤ sizeLine; decide) ?_
      repeat array_mem_dec
      refine x_appendA wp (by rw [List.length_map, List.length_map, stOf_len]; exact small9 (by omega)) fun W2 w2 f2 => ?_
      repeat array_mem_dec
      refine ⟨_, _, _, rfl, ?_⟩
      rw [w2, stOf_fin hP1 hP0]
      simp [eD]
    | bell b k =>
      dsimp only [evD]
      array_get_dec
      exact ⟨_, _, _, rfl, by rw [stOf_plain (fun _ => rfl) rfl]; exact wp⟩
    | late b n v =>
      obtain ⟨hlt, r, hr, hway, hv⟩ := hP.l i b n v he
      have hix : atI (((stOf rs (es.take i)).map eD).map DV.im) (n : Int) = some (.im (eD (r.place, endW r (lateB (es.take i) n)))) := atI_nat (by rw [List.getElem?_map, List.getElem?_map, stOf_get hlt]; unfold ent; rw [hr]; rfl)
      rw [endW2 hway] at hix
      dsimp only [evD]
      array_get_dec
      refine x_ixP wp hix ?_
      repeat array_mem_dec
      refine x_ixT (D := wrD (some (r.word, r.spot, if lateB (es.take i) n = true then some r.worth else none))) rfl ?_
      array_get_dec
      refine x_ixP wp hix ?_
      repeat array_mem_dec
      refine x_ixT (D := .int r.place) rfl ?_
      repeat array_mem_dec
      refine x_ixT (D := .str r.word) rfl ?_
      repeat array_mem_dec
      refine x_ixT (D := .int r.spot) rfl ?_
      array_get_dec
      refine x_tupIm (ds := [.str r.word, .int r.spot, .int v]) (by show 3 ≤ sizeLine; decide) ?_
      array_get_dec
      refine x_tupIm (ds := [.int r.place, .tuple [.str r.word, .int r.spot, .int v]]) (by show 2 ≤ sizeLine; decide) ?_
      array_get_dec
      refine x_setA wp (j := n) (ixN_ok (Int.natCast_nonneg n) (by rw [List.length_map, List.length_map, stOf_len]; omega)) fun W2 w2 f2 => ?_
      refine ⟨_, _, _, rfl, ?_⟩
      rw [w2, stOf_late hr, endW2 hway, List.map_set, List.map_set, hv]
      rfl
    | down b m c w =>
      dsimp only [evD]
      array_get_dec
      exact ⟨_, _, _, rfl, by rw [stOf_plain (fun _ => rfl) rfl]; exact wp⟩
  · rintro ρ W ⟨u2, u3, u4, rfl, wp⟩
    rw [List.length_map, List.take_length] at wp
    repeat array_mem_dec
    exact ret_nw wp q
end
theorem ent_ok {m : Nat} {rs : List Rec} (hr : ∀ r ∈ rs, RecN m r) (es : List Ev) (k : Nat) : WOk (ent rs es k).2 := by
  unfold ent
  cases h : rs[k]? with
  | none => trivial
  | some r => exact endW_ok (hr r (List.mem_of_getElem? h)) _
theorem stOf_ok {m : Nat} {rs : List Rec} (hr : ∀ r ∈ rs, RecN m r) (es : List Ev) : ∀ e ∈ stOf rs es, WOk e.2 := fun e he => by
  unfold stOf stF at he
  obtain ⟨k, _, rfl⟩ := List.mem_map.mp he
  exact ent_ok hr es k
theorem Good.pre {rs : List Rec} {tail : List Int} {es : List Ev} (h : Good rs tail es) : Pre rs es := by
  have hc : cnt es = rs.length := by rw [← fins_len, h.f, List.length_map]
  exact ⟨by rw [hc, List.take_length]; exact h.f, by omega, h.l, h.s⟩
theorem Good.all {rs : List Rec} {tail : List Int} {es : List Ev} (h : Good rs tail es) : stOf rs es = rs.map fun r => (r.place, endW r true) := by
  have hc : cnt es = rs.length := by rw [← fins_len, h.f, List.length_map]
  refine List.ext_getElem? fun k => ?_
  by_cases hk : k < rs.length
  · have hr : rs[k]? = some rs[k] := List.getElem?_eq_getElem hk
    rw [stOf_get (by omega), List.getElem?_map, hr]
    generalize rs[k] = r at hr
    show some (ent rs es k) = some (r.place, endW r true)
    unfold ent
    rw [hr]
    show some (r.place, endW r (lateB es k)) = _
    by_cases hy : r.way = 2
    · obtain ⟨i, b, w, hi⟩ := h.a k r hr hy
      have hb : lateB es k = true := List.any_eq_true.mpr ⟨_, List.mem_of_getElem? hi, decide_eq_true rfl⟩
      rw [hb]
    · rw [endW_n2 hy, ← endW_n2 hy true]
  · rw [List.getElem?_eq_none (by rw [stOf_len]; omega), List.getElem?_eq_none (by rw [List.length_map]; omega)]
abbrev sThing : Stmt := top 1
abbrev sAhead : Stmt := top 4
abbrev sUnlike : Stmt := top 5
abbrev sCause : Stmt := top 6
abbrev sApart : Stmt := top 7
theorem scThing : FnScope ["wrote"] ["wrote"] (defScope sThing) := ⟨rfl, rfl, rfl, by decide +kernel, rfl, by decide +kernel, by decide +kernel⟩
theorem scAhead : FnScope ["diary", "lists", "bells", "event"] ["diary"] (defScope sAhead) := ⟨rfl, rfl, rfl, by decide +kernel, rfl, by decide +kernel, by decide +kernel⟩
theorem scUnlike : FnScope ["wrote", "written"] ["wrote", "written"] (defScope sUnlike) := ⟨rfl, rfl, rfl, by decide +kernel, rfl, by decide +kernel, by decide +kernel⟩
theorem scCause : FnScope ["bells", "others", "end", "ended"] ["bells", "others", "end", "ended"] (defScope sCause) := ⟨rfl, rfl, rfl, by decide +kernel, rfl, by decide +kernel, by decide +kernel⟩
theorem scApart : FnScope ["one", "other", "ends", "others", "bells", "other_bells", "n", "cause"] ["one", "other"] (defScope sApart) := ⟨rfl, rfl, rfl, by decide +kernel, rfl, by decide +kernel, by decide +kernel⟩
theorem by_snoc {P : List Ev → Prop} (h0 : P []) (hs : ∀ es e, P es → P (es ++ [e])) (es : List Ev) : P es := by
  have h : ∀ l : List Ev, P l.reverse := fun l => by
    induction l with
    | nil => exact h0
    | cons a r ih => rw [List.reverse_cons]; exact hs _ _ ih
  have := h es.reverse
  rwa [List.reverse_reverse] at this
def bstep (s : List (List Int) × List Int) : Ev → List (List Int) × List Int
  | .fin _ _ _ => (s.1 ++ [s.2], [])
  | .bell _ k => (s.1, s.2 ++ [k])
  | .late _ _ _ => s
  | .down _ _ _ _ => s
def bst (es : List Ev) : List (List Int) × List Int := es.foldl bstep ([], [])
theorem bst_snoc (es : List Ev) (e : Ev) : bst (es ++ [e]) = bstep (bst es) e := by unfold bst; rw [List.foldl_append]; rfl
theorem bst_len (es : List Ev) : (bst es).1.length = cnt es := by
  refine by_snoc (P := fun es => (bst es).1.length = cnt es) rfl (fun es e ih => ?_) es
  rw [bst_snoc, cnt_snoc]
  cases e with
  | fin b p w => show ((bst es).1 ++ [_]).length = _; rw [List.length_append, ih]; rfl
  | bell b k => exact ih
  | late b n w => exact ih
  | down b n c w => exact ih
def pick (n : Nat) (xs : List (Int × Int)) : List Int := (xs.filter fun p => decide (p.1 = (n : Int))).map (·.2)
theorem pick_app (n : Nat) (a b : List (Int × Int)) : pick n (a ++ b) = pick n a ++ pick n b := by unfold pick; rw [List.filter_append, List.map_append]
theorem pick_same (n : Nat) (ks : List Int) : pick n (ks.map fun k => ((n : Int), k)) = ks := by
  unfold pick
  induction ks with
  | nil => rfl
  | cons k r ih =>
    rw [List.map_cons, List.filter_cons_of_pos (by simp), List.map_cons, ih]
theorem pick_other {n m : Nat} (h : n ≠ m) (ks : List Int) : pick n (ks.map fun k => ((m : Int), k)) = [] := by
  unfold pick
  induction ks with
  | nil => rfl
  | cons k r ih =>
    rw [List.map_cons, List.filter_cons_of_neg (by simp; omega), ih]
theorem pick_bst (es : List Ev) : (∀ n, n < cnt es → some (pick n (likeP 0 es)) = (bst es).1[n]?) ∧ pick (cnt es) (likeP 0 es) = (bst es).2 ∧ ∀ n, cnt es < n → pick n (likeP 0 es) = [] := by
  refine by_snoc (P := fun es => (∀ n, n < cnt es → some (pick n (likeP 0 es)) = (bst es).1[n]?) ∧ pick (cnt es) (likeP 0 es) = (bst es).2 ∧ ∀ n, cnt es < n → pick n (likeP 0 es) = []) ⟨fun n h => absurd h (Nat.not_lt_zero n), rfl, fun n _ => rfl⟩ (fun es e ih => ?_) es
  obtain ⟨h1, h2, h3⟩ := ih
  have hl := bst_len es
  rw [bst_snoc, cnt_snoc, likeP_app, Nat.zero_add]
  cases e with
  | fin b p w =>
    show (∀ n, n < cnt es + 1 → some (pick n (likeP 0 es ++ [])) = ((bst es).1 ++ [(bst es).2])[n]?) ∧ pick (cnt es + 1) (likeP 0 es ++ []) = [] ∧ ∀ n, cnt es + 1 < n → pick n (likeP 0 es ++ []) = []
    rw [List.append_nil]
    refine ⟨fun n hn => ?_, h3 _ (Nat.lt_succ_self _), fun n hn => h3 n (by omega)⟩
    by_cases hc : n < cnt es
    · rw [List.getElem?_append_left (by omega)]; exact h1 n hc
    · have : n = cnt es := by omega
      subst this
      rw [List.getElem?_append_right (by omega), hl, Nat.sub_self, h2]; rfl
  | bell b k =>
    show (∀ n, n < cnt es + 0 → some (pick n (likeP 0 es ++ [((cnt es : Int), k)])) = (bst es).1[n]?) ∧ pick (cnt es + 0) (likeP 0 es ++ [((cnt es : Int), k)]) = (bst es).2 ++ [k] ∧ ∀ n, cnt es + 0 < n → pick n (likeP 0 es ++ [((cnt es : Int), k)]) = []
    have ps := pick_same (cnt es) [k]
    have po : ∀ n, n ≠ cnt es → pick n [((cnt es : Int), k)] = [] := fun n hn => pick_other hn [k]
    rw [Nat.add_zero]
    refine ⟨fun n hn => ?_, ?_, fun n hn => ?_⟩
    · rw [pick_app, po n (by omega), List.append_nil]; exact h1 n hn
    · rw [pick_app, h2]; exact congrArg _ ps
    · rw [pick_app, po n (by omega), List.append_nil]; exact h3 n hn
  | late b m w =>
    show (∀ n, n < cnt es + 0 → some (pick n (likeP 0 es ++ [])) = (bst es).1[n]?) ∧ pick (cnt es + 0) (likeP 0 es ++ []) = (bst es).2 ∧ ∀ n, cnt es + 0 < n → pick n (likeP 0 es ++ []) = []
    rw [List.append_nil, Nat.add_zero]; exact ⟨h1, h2, h3⟩
  | down b m c w =>
    show (∀ n, n < cnt es + 0 → some (pick n (likeP 0 es ++ [])) = (bst es).1[n]?) ∧ pick (cnt es + 0) (likeP 0 es ++ []) = (bst es).2 ∧ ∀ n, cnt es + 0 < n → pick n (likeP 0 es ++ []) = []
    rw [List.append_nil, Nat.add_zero]; exact ⟨h1, h2, h3⟩
def bellsAt (rs : List Rec) (n : Nat) : List Int := match rs[n]? with
  | some r => r.bells
  | none => []
theorem pick_due (rs : List Rec) (n : Nat) : ∀ m, pick n (dueR rs m) = if n < m then bellsAt rs n else []
  | 0 => by rw [if_neg (Nat.not_lt_zero n)]; rfl
  | m + 1 => by
    show pick n (dueR rs m ++ _) = _
    rw [pick_app, pick_due rs n m]
    by_cases h : n = m
    · subst h
      rw [if_neg (Nat.lt_irrefl _), if_pos (Nat.lt_succ_self _), List.nil_append]
      unfold bellsAt
      cases rs[n]? with
      | none => rfl
      | some r => exact pick_same n r.bells
    · have e : (if n < m then bellsAt rs n else []) = if n < m + 1 then bellsAt rs n else [] := by
        by_cases h2 : n < m
        · rw [if_pos h2, if_pos (by omega)]
        · rw [if_neg h2, if_neg (by omega)]
      cases hm : rs[m]? with
      | none => exact (List.append_nil _).trans e
      | some r => exact (congrArg _ (pick_other h r.bells)).trans ((List.append_nil _).trans e)
theorem Good.cnt {rs : List Rec} {tail : List Int} {es : List Ev} (h : Good rs tail es) : T1.cnt es = rs.length := by rw [← fins_len, h.f, List.length_map]
theorem Good.ahead {rs : List Rec} {tail : List Int} {es : List Ev} (h : Good rs tail es) : (bst es).1 = rs.map (·.bells) := by
  have hc := h.cnt
  have hl := bst_len es
  refine List.ext_getElem? fun k => ?_
  by_cases hk : k < rs.length
  · rw [← (pick_bst es).1 k (by omega), h.b, pick_app, pick_due, if_pos hk, pick_other (by omega), List.append_nil, List.getElem?_map]
    unfold bellsAt
    rw [List.getElem?_eq_getElem hk]; rfl
  · rw [List.getElem?_eq_none (by omega), List.getElem?_eq_none (by rw [List.length_map]; omega)]
def intL (l : List Int) : PyData := .list (l.map .int)
theorem frz_lists : ∀ (qs : List (Addr × List Int)) (W : Wd), (∀ x ∈ qs, W x.1 = some (.lst ((x.2.map PyData.int).map .im))) → (qs.map (·.1)).Nodup → ∃ W2, frzL (frz 3) W (qs.map fun x => .pt x.1) = some (qs.map fun x => intL x.2, W2) ∧ ∀ a, (∀ x ∈ qs, x.1 ≠ a) → W2 a = W a
  | [], W, _, _ => ⟨W, rfl, fun a _ => rfl⟩
  | x :: r, W, h, hn => by
    rw [List.map_cons, List.nodup_cons] at hn
    have e : frz 3 W (.pt x.1) = some (intL x.2, wdel W x.1) := by
      unfold frz
      rw [h x (List.mem_cons_self ..)]
      show (frzL (frz 2) (wdel W x.1) ((x.2.map PyData.int).map .im)).map _ = _
      rw [frzL_im (fun _ _ => rfl)]; rfl
    obtain ⟨W2, e2, k2⟩ := frz_lists r (wdel W x.1) (fun y hy => by rw [wdel_ne (fun z => hn.1 (by rw [← z]; exact List.mem_map.mpr ⟨y, hy, rfl⟩))]; exact h y (List.mem_cons_of_mem _ hy)) hn.2
    refine ⟨W2, ?_, fun a ha => ?_⟩
    · rw [List.map_cons]; unfold frzL; rw [e]
      show (frzL (frz 3) (wdel W x.1) _).map _ = _
      rw [e2]; rfl
    · rw [k2 a fun y hy => ha y (List.mem_cons_of_mem _ hy), wdel_ne (Ne.symm (ha x (List.mem_cons_self ..)))]
def SAhead : DSp := fun ds R _ => ∃ es : List Ev, ds = [evL es] ∧ es.length ≤ 100000 ∧ R (.nw ((bst es).1.map intL))
abbrev Tg := Option (Str × Int)
def thg : Wr → Tg
  | none => none
  | some (k, a, _) => some (k, a)
def thD : Tg → PyData
  | none => .none
  | some (k, a) => .tuple [.str k, .int a]
def unl : Wr → Wr → Bool
  | some (_, _, some a), some (_, _, some b) => !decide (a = b)
  | _, _ => false
def SThing : DSp := fun ds R _ => ∃ w : Wr, ds = [wrD w] ∧ R (.im (thD (thg w)))
def SUnlike : DSp := fun ds R _ => ∃ w v : Wr, ds = [wrD w, wrD v] ∧ (w.isSome = true → v.isSome = true) ∧ R (.im (.bool (unl w v)))
def cau (b b' : List Int) (x y : Int × Wr) : Option Str := if b = b' then (if x.1 = y.1 then (if thg x.2 = thg y.2 then (if unl x.2 y.2 = true then some "worth" else none) else some "thing") else some "place") else some "bell"
def cD : Option Str → PyData
  | none => .none
  | some s => .str s
def SCause : DSp := fun ds R _ => ∃ (b b' : List Int) (x y : Int × Wr), ds = [intL b, intL b', eD x, eD y] ∧ WOk x.2 ∧ WOk y.2 ∧ R (.im (cD (cau b b' x y)))
def cz (rs ss : List Rec) (n : Nat) : Option Str := match rs[n]?, ss[n]? with
  | some r, some s => cau r.bells s.bells (r.place, endW r true) (s.place, endW s true)
  | _, _ => none
def firstA (c : Nat → Option Str) : Nat → Option (Nat × Str)
  | 0 => none
  | m + 1 => match firstA c m with
    | some x => some x
    | none => (c m).map fun s => (m, s)
theorem firstA_none {c : Nat → Option Str} : ∀ {m : Nat}, (∀ j, j < m → c j = none) → firstA c m = none
  | 0, _ => rfl
  | m + 1, h => by unfold firstA; rw [firstA_none fun j hj => h j (by omega), h m (Nat.lt_succ_self m)]; rfl
theorem firstA_hit {c : Nat → Option Str} {n : Nat} {s : Str} (h : ∀ j, j < n → c j = none) (hn : c n = some s) : ∀ {m : Nat}, n < m → firstA c m = some (n, s)
  | m + 1, hm => by
    unfold firstA
    by_cases e : n = m
    · subst e; rw [firstA_none h, hn]; rfl
    · rw [firstA_hit h hn (show n < m by omega)]
def apD : Option (Nat × Str) → PyData
  | none => .none
  | some (n, c) => .tuple [.int (n : Nat), .str c]
def apR (rs ss : List Rec) : PyData := apD (firstA (cz rs ss) (min rs.length ss.length))
def SApart : DSp := fun ds R _ => ∃ (rs ss : List Rec) (t u : List Int) (es fs : List Ev), ds = [evL es, evL fs] ∧ Good rs t es ∧ Good ss u fs ∧ (∀ r ∈ rs, RecN 5 r) ∧ (∀ r ∈ ss, RecN 5 r) ∧ R (.im (apR rs ss))
theorem eqv_ints : ∀ xs ys : List Int, PyData.eqvAll (xs.map .int) (ys.map .int) = decide (xs = ys)
  | [], [] => rfl
  | [], y :: ys => by simp [PyData.eqvAll]
  | x :: xs, [] => by simp [PyData.eqvAll]
  | x :: xs, y :: ys => by
    show (PyData.eqv (.int x) (.int y) && PyData.eqvAll (xs.map .int) (ys.map .int)) = _
    rw [eqv_int, eqv_ints xs ys]
    by_cases h1 : x = y <;> by_cases h2 : xs = ys <;> simp [h1, h2]
theorem eqv_intL (xs ys : List Int) : PyData.eqv (intL xs) (intL ys) = decide (xs = ys) := eqv_ints xs ys
theorem can_ints : ∀ xs : List Int, PyData.canLayAll0 (xs.map .int) = true
  | [] => rfl
  | x :: r => by show (PyData.canLay0 (.int x) && PyData.canLayAll0 (r.map .int)) = true; rw [can_ints r]; rfl
theorem depth_ints : ∀ xs : List Int, PyData.depthAll (xs.map .int) = 0
  | [] => rfl
  | x :: r => by rw [List.map_cons, PyData.depthAll, depth_ints r]; rfl
theorem ok_intL (xs ys : List Int) : EqOk (intL xs) (intL ys) := .inr ⟨can_ints xs, can_ints ys, by
  have h1 := depth_ints xs
  have h2 : (intL xs).depth ≤ 64 := by simp only [intL, PyData.depth]; omega
  exact Nat.le_trans (Nat.min_le_left ..) h2⟩
theorem eqv_th : ∀ a b : Tg, PyData.eqv (thD a) (thD b) = decide (a = b)
  | none, none => rfl
  | none, some (_, _) => rfl
  | some (_, _), none => rfl
  | some (k, a), some (k', a') => by
    show (PyData.eqv (.str k) (.str k') && (PyData.eqv (.int a) (.int a') && true)) = _
    rw [eqv_str, eqv_int]
    by_cases h1 : k = k' <;> by_cases h2 : a = a' <;> simp [h1, h2]
theorem can_th {w : Wr} (h : WOk w) : (thD (thg w)).canLay0 = true := by
  match w, h with
  | none, _ => rfl
  | some (k, a, o), h => rcases h with rfl | rfl <;> (simp only [thg, thD, PyData.canLay0, PyData.canLayAll0, Bool.and_true, Bool.true_and]; decide +kernel)
theorem ok_th {w v : Wr} (h : WOk w) (h' : WOk v) : EqOk (thD (thg w)) (thD (thg v)) := .inr ⟨can_th h, can_th h', by
  have h2 : (thD (thg w)).depth ≤ 64 := by
    match w with
    | none => decide
    | some (k, a, o) => simp [thg, thD, PyData.depth, PyData.depthAll]
  exact Nat.le_trans (Nat.min_le_left ..) h2⟩
section
variable {P : Program} {w : World} {K : PySem.W.Frag} {mg : Str → Option Value} {base : Heap} {f : Addr} {fd : FuncData}
theorem ok_thing (F : Fun K "thing_of" "thing_of" sThing f fd) : FnOk P w K mg base CX0 1 f fd ["wrote"] (spD SThing) := by
  refine F.okD scThing (fun ds R X hh => by obtain ⟨a, e, _⟩ := hh; rw [e]; rfl) fun cdv A outer s H E hr => ?_
  have hu := hr.units
  refine ⟨_, (ss_one (s_ret (e_if (t_isN (e_v 0)) e_non (e_tup (a_cons (e_ix (e_v 0) e_int) (a_cons (e_ix (e_v 0) e_int) a_nil)))))), ?_⟩
  clear hu
  (try dsimp only [cxOf, Cx.nox, Cx.wish, blkX, Cx.withX, Cx.marked])
  refine fun O X => ⟨_, inferInstance, ?_⟩
  rintro ds R ⟨w, rfl, q⟩
  match w, q with
  | none, q =>
    dsimp only [wrD]
    array_get_dec
    exact q
  | some (k, a, o), q =>
    dsimp only [wrD]
    array_get_dec
    refine i_F ?_
    array_get_dec
    refine x_tupIm (ds := [.str k, .int a]) (by show 2 ≤ sizeLine; decide) ?_
    exact q
theorem ok_ahead (F : Fun K "bells_ahead" "bells_ahead" sAhead f fd) : FnOk P w K mg base CX0 1 f fd ["diary"] (spD SAhead) := by
  refine F.okD scAhead (fun ds R X hh => by obtain ⟨a, e, _⟩ := hh; rw [e]; rfl) fun cdv A outer s H E hr => ?_
  have hu := hr.units
  refine ⟨_, (ss_cons (s_set 1 scAhead.nd (e_lst a_nil))
    (ss_cons (s_set 2 scAhead.nd (e_lst a_nil))
    (ss_cons (s_for (i_list (e_v 0)) (g_name 3 scAhead.nd) (ss_one (s_if (t_cmp (op_eqU hu) (e_ix (e_v 3) e_int) e_str) (ss_cons (s_expr (e_bm PySem.F.plainAttrs_list PySem.F.slot_list_append PySem.F.type_list_append mt_append (e_v 1) (a_cons (e_v 2) a_nil)))
        (ss_one (s_set 2 scAhead.nd (e_lst a_nil)))) (ss_one (s_if (t_cmp (op_eqU hu) (e_ix (e_v 3) e_int) e_str) (ss_one (s_expr (e_bm PySem.F.plainAttrs_list PySem.F.slot_list_append PySem.F.type_list_append mt_append (e_v 2) (a_cons (e_ix (e_v 3) e_int) a_nil)))) ss_nil)))))
    (ss_one (s_ret (e_v 1)))))), ?_⟩
  clear hu
  (try dsimp only [cxOf, Cx.nox, Cx.wish, blkX, Cx.withX, Cx.marked])
  refine fun O X => ⟨_, inferInstance, ?_⟩
  rintro ds R ⟨es, rfl, hel, q⟩
  refine x_rho [_, none, none, none] rfl ?_
  unfold evL
  repeat array_mem_dec
  refine x_newL (Nat.zero_le _) fun p W1 hp wp fp => ?_
  repeat array_mem_dec
  refine x_newL (Nat.zero_le _) fun b W2 hb wb fb => ?_
  have hpb := ne_new wp hb
  replace wp := fb.at hpb wp
  repeat array_mem_dec
  refine x_seq ?_
  repeat array_mem_dec
  refine x_loopL (fun i ρ W => ∃ (b : Addr) (u3 : Option DV) (qs : List (Addr × List Int)), ρ = [some (.im (.list (es.map evD))), some (.pt p), some (.pt b), u3] ∧ W p = some (.lst (qs.map fun x => .pt x.1)) ∧ W b = some (.lst (((bst (es.take i)).2.map PyData.int).map .im)) ∧ p ≠ b ∧ (∀ x ∈ qs, W x.1 = some (.lst ((x.2.map PyData.int).map .im)) ∧ x.1 ≠ p ∧ x.1 ≠ b) ∧ (qs.map (·.1)).Nodup ∧ qs.map (·.2) = (bst (es.take i)).1 ∧ qs.length ≤ i ∧ (bst (es.take i)).2.length ≤ i) ⟨b, _, [], rfl, wp, wb, hpb, (fun x hx => by cases hx), List.nodup_nil, rfl, Nat.le_refl _, Nat.le_refl _⟩ ?_ ?_
  · clear wp wb hpb fb hb fp hp
    rintro i d ρ W hd ⟨b, u3, qs, rfl, wp, wb, hpb, hq, hn, hm, hl, hl2⟩
    rw [List.getElem?_map] at hd
    obtain ⟨e, he, rfl⟩ := Option.map_eq_some_iff.mp hd
    have hil : i < es.length := (List.getElem?_eq_some_iff.mp he).1
    have et : es.take (i + 1) = es.take i ++ [e] := by rw [List.take_add_one, he]; rfl
    rw [et, bst_snoc]
    repeat array_mem_dec
    cases e with
    | fin bb pl w =>
      dsimp only [evD]
      array_get_dec
      refine x_appendA wp (by rw [List.length_map]; exact small9 (by omega)) fun W2 w2 f2 => ?_
      replace wb := f2.at (Ne.symm hpb) wb
      array_get_dec
      refine x_newL (Nat.zero_le _) fun b' W3 hb' wb' fb' => ?_
      have hpb' := ne_new w2 hb'
      have hbb' := ne_new wb hb'
      array_get_dec
      refine ⟨b', _, qs ++ [(b, (bst (es.take i)).2)], rfl, ?_, wb', hpb', fun x hx => ?_, ?_, ?_, by simp; omega, Nat.zero_le _⟩
      · rw [fb'.at hpb' w2]; simp
      · rcases List.mem_append.mp hx with hx | hx
        · obtain ⟨z1, z2, z3⟩ := hq x hx
          have z4 := f2.at z2 z1
          have z5 := ne_new z4 hb'
          exact ⟨fb'.at z5 z4, z2, z5⟩
        · rw [List.mem_singleton.mp hx]
          exact ⟨fb'.at hbb' wb, Ne.symm hpb, hbb'⟩
      · rw [List.map_append, List.nodup_append]
        refine ⟨hn, by simp, fun a ha c hc => ?_⟩
        obtain ⟨x, hx, rfl⟩ := List.mem_map.mp ha
        have : c = b := by simpa using hc
        rw [this]
        exact (hq x hx).2.2
      · rw [List.map_append, hm]; rfl
    | bell bb k =>
      dsimp only [evD]
      array_get_dec
      refine x_appendA wb (by rw [List.length_map, List.length_map]; exact small9 (by omega)) fun W2 w2 f2 => ?_
      array_get_dec
      refine ⟨b, _, qs, rfl, f2.at hpb wp, ?_, hpb, fun x hx => ?_, hn, hm, by omega, ?_⟩
      · rw [w2]; simp [bstep]
      · obtain ⟨z1, z2, z3⟩ := hq x hx
        exact ⟨f2.at z3 z1, z2, z3⟩
      · show ((bst (es.take i)).2 ++ [k]).length ≤ i + 1
        rw [List.length_append]; simp; omega
    | late bb m v =>
      dsimp only [evD]
      array_get_dec
      exact ⟨b, _, qs, rfl, wp, wb, hpb, hq, hn, hm, by omega, by show (bst (es.take i)).2.length ≤ i + 1; omega⟩
    | down bb m c v =>
      dsimp only [evD]
      array_get_dec
      exact ⟨b, _, qs, rfl, wp, wb, hpb, hq, hn, hm, by omega, by show (bst (es.take i)).2.length ≤ i + 1; omega⟩
  · rintro ρ W ⟨b, u3, qs, rfl, wp, wb, hpb, hq, hn, hm, hl, hl2⟩
    rw [List.length_map, List.take_length] at hm
    repeat array_mem_dec
    obtain ⟨W2, e2, k2⟩ := frz_lists qs W (fun x hx => (hq x hx).1) hn
    refine ⟨_, _, W2, wp, e2, by rw [k2 p fun x hx => (hq x hx).2.1, wp]; rfl, ?_⟩
    rw [show (qs.map fun x => intL x.2) = (bst es).1.map intL by rw [← hm, List.map_map]; rfl]
    exact q
theorem ok_unlike (F : Fun K "are_worths_unlike" "are_worths_unlike" sUnlike f fd) : FnOk P w K mg base CX0 1 f fd ["wrote", "written"] (spD SUnlike) := by
  refine F.okD scUnlike (fun ds R X hh => by obtain ⟨a, b, e, _⟩ := hh; rw [e]; rfl) fun cdv A outer s H E hr => ?_
  have hu := hr.units
  refine ⟨_, (ss_cons (s_if (t_w (w_or (t_isN (e_v 0)) (w_or (t_isN (e_ix (e_v 0) e_int)) (w_or1 (t_isN (e_ix (e_v 1) e_int)))))) (ss_one (s_ret e_bl)) ss_nil)
    (ss_one (s_ret (e_cmp (op_neU hu) (e_ix (e_v 0) e_int) (e_ix (e_v 1) e_int))))), ?_⟩
  clear hu
  (try dsimp only [cxOf, Cx.nox, Cx.wish, blkX, Cx.withX, Cx.marked])
  refine fun O X => ⟨_, inferInstance, ?_⟩
  rintro ds R ⟨w, v, rfl, hv, q⟩
  match w, v, hv, q with
  | none, v, _, q =>
    replace q : R (.im (.bool false)) := by cases v <;> exact q
    generalize wrD v = dv
    dsimp only [wrD]
    repeat array_mem_dec
    refine x_seq ?_
    array_get_dec
    exact q
  | some (k, a, none), v, _, q =>
    replace q : R (.im (.bool false)) := by cases v <;> exact q
    generalize wrD v = dv
    dsimp only [wrD, kpD]
    repeat array_mem_dec
    refine x_seq ?_
    array_get_dec
    refine i_F ?_
    array_get_dec
    exact q
  | some (k, a, some x), some (k', a', none), _, q =>
    dsimp only [wrD, kpD]
    repeat array_mem_dec
    refine x_seq ?_
    array_get_dec
    refine i_F ?_
    array_get_dec
    refine i_F ?_
    array_get_dec
    exact q
  | some (k, a, some x), some (k', a', some y), _, q =>
    dsimp only [wrD, kpD]
    repeat array_mem_dec
    refine x_seq ?_
    array_get_dec
    refine i_F ?_
    array_get_dec
    refine i_F ?_
    array_get_dec
    refine i_F ?_
    array_get_dec
    exact q
  | some (k, a, some x), none, hv, q => exact absurd (hv rfl) (by decide)
theorem ok_cause {fT fU : Addr} {fdT fdU : FuncData} (F : Fun K "cause_between" "cause_between" sCause f fd) (Dthing_of : Dn P w K mg base 1 "thing_of" fT fdT ["wrote"] (spD SThing)) (Dare_worths_unlike : Dn P w K mg base 1 "are_worths_unlike" fU fdU ["wrote", "written"] (spD SUnlike)) : FnOk P w K mg base CX0 2 f fd ["bells", "others", "end", "ended"] (spD SCause) := by
  refine F.okD scCause (fun ds R X hh => by obtain ⟨a, b, c, d, e, _⟩ := hh; rw [e]; rfl) fun cdv A outer s H E hr => ?_
  have hu := hr.units
  refine ⟨_, (ss_cons (s_if (t_cmp (op_neU hu) (e_v 0) (e_v 1)) (ss_one (s_ret e_str)) ss_nil)
    (ss_cons (s_if (t_cmp (op_neU hu) (e_ix (e_v 2) e_int) (e_ix (e_v 3) e_int)) (ss_one (s_ret e_str)) ss_nil)
    (ss_cons (s_if (t_cmp (op_neU hu) (e_call Dthing_of hr (a_cons (e_ix (e_v 2) e_int) a_nil)) (e_call Dthing_of hr (a_cons (e_ix (e_v 3) e_int) a_nil))) (ss_one (s_ret e_str)) ss_nil)
    (ss_one (s_ret (e_if (t_b (e_call Dare_worths_unlike hr (a_cons (e_ix (e_v 2) e_int) (a_cons (e_ix (e_v 3) e_int) a_nil)))) e_str e_non)))))), ?_⟩
  clear hu
  (try dsimp only [cxOf, Cx.nox, Cx.wish, blkX, Cx.withX, Cx.marked])
  refine fun O X => ⟨_, inferInstance, ?_⟩
  rintro ds R ⟨b, b', x, y, rfl, hx, hy, q⟩
  unfold cau at q
  dsimp only [eD]
  repeat array_mem_dec
  refine x_seq ?_
  repeat array_mem_dec
  refine x_neD (d1 := intL b) (d2 := intL b') rfl rfl (ok_intL b b') ?_
  rw [eqv_intL]
  repeat array_mem_dec
  refine i_n (fun h => ?_) (fun h => ?_)
  · rw [if_neg h] at q
    array_get_dec
    exact q
  rw [if_pos h] at q
  repeat array_mem_dec
  refine x_seq ?_
  array_get_dec
  refine i_n (fun h => ?_) (fun h => ?_)
  · rw [if_neg h] at q
    array_get_dec
    exact q
  rw [if_pos h] at q
  repeat array_mem_dec
  refine x_seq ?_
  array_get_dec
  refine x_pureI (ds := [wrD x.2]) ⟨x.2, rfl, ?_⟩
  array_get_dec
  refine x_pureI (ds := [wrD y.2]) ⟨y.2, rfl, ?_⟩
  array_get_dec
  refine x_neD (d1 := thD (thg x.2)) (d2 := thD (thg y.2)) rfl rfl (ok_th hx hy) ?_
  rw [eqv_th]
  repeat array_mem_dec
  refine i_n (fun h => ?_) (fun h => ?_)
  · rw [if_neg h] at q
    array_get_dec
    exact q
  rw [if_pos h] at q
  array_get_dec
  refine x_pureI (ds := [wrD x.2, wrD y.2]) ⟨x.2, y.2, rfl, fun z => ?_, ?_⟩
  · cases h1 : x.2 with
    | none => rw [h1] at z; cases z
    | some s =>
      rw [h1] at h
      cases h2 : y.2 with
      | none => rw [h2] at h; cases h
      | some _ => rfl
  array_get_dec
  cases hu : unl x.2 y.2 with
  | true =>
    rw [hu, if_pos rfl] at q
    array_get_dec
    exact q
  | false =>
    rw [hu, if_neg (by decide)] at q
    array_get_dec
    exact q
theorem ok_apart {fS fB fC : Addr} {fdS fdB fdC : FuncData} (F : Fun K "apart" "apart" sApart f fd) (Dsettled : Dn P w K mg base 1 "settled" fS fdS ["diary"] (spD SSettled)) (Dbells_ahead : Dn P w K mg base 1 "bells_ahead" fB fdB ["diary"] (spD SAhead)) (Dcause_between : Dn P w K mg base 2 "cause_between" fC fdC ["bells", "others", "end", "ended"] (spD SCause)) (m_len : mg "len" = none) (m_min : mg "min" = none) (m_range : mg "range" = none) : FnOk P w K mg base CX0 3 f fd ["one", "other"] (spD SApart) := by
  refine F.okD scApart (fun ds R X hh => by obtain ⟨a, b, c, d, e, g, h, _⟩ := hh; rw [h]; rfl) fun cdv A outer s H E hr => ?_
  have hu := hr.units
  refine ⟨_, (ss_cons (s_set 2 scApart.nd (e_call Dsettled hr (a_cons (e_v 0) a_nil)))
    (ss_cons (s_set 3 scApart.nd (e_call Dsettled hr (a_cons (e_v 1) a_nil)))
    (ss_cons (s_set 4 scApart.nd (e_call Dbells_ahead hr (a_cons (e_v 0) a_nil)))
    (ss_cons (s_set 5 scApart.nd (e_call Dbells_ahead hr (a_cons (e_v 1) a_nil)))
    (ss_cons (s_for (i_range1 m_range (a_cons (e_callB (call_minN rfl) m_min PyProof.Rows.boot_min (a_cons (e_callB call_lenN m_len PySem.boot_len (a_cons (e_v 2) a_nil)) (a_cons (e_callB call_lenN m_len PySem.boot_len (a_cons (e_v 3) a_nil)) a_nil))) a_nil)) (g_name 6 scApart.nd) (ss_cons (s_set 7 scApart.nd (e_call Dcause_between hr (a_cons (e_ix (e_v 4) (e_v 6)) (a_cons (e_ix (e_v 5) (e_v 6)) (a_cons (e_ix (e_v 2) (e_v 6)) (a_cons (e_ix (e_v 3) (e_v 6)) a_nil))))))
      (ss_one (s_if (t_notN (e_v 7)) (ss_one (s_ret (e_tup (a_cons (e_v 6) (a_cons (e_v 7) a_nil))))) ss_nil))))
    (ss_one (s_ret e_non))))))), ?_⟩
  clear hu
  (try dsimp only [cxOf, Cx.nox, Cx.wish, blkX, Cx.withX, Cx.marked])
  refine fun O X => ⟨_, inferInstance, ?_⟩
  rintro ds R ⟨rs, ss, t, u, es, fs, rfl, hG, hG', hr5, hs5, q⟩
  refine x_rho [_, _, none, none, none, none, none, none] rfl ?_
  have hP := hG.pre
  have hP' := hG'.pre
  have hA := hG.all
  have hA' := hG'.all
  have hB := hG.ahead
  have hB' := hG'.ahead
  have hl := cnt_le es
  have hl' := cnt_le fs
  rw [hG.cnt] at hl
  rw [hG'.cnt] at hl'
  have hes := hG.s
  have hfs := hG'.s
  repeat array_mem_dec
  refine x_pureI (ds := [evL es]) ⟨rs, es, rfl, hP, x_rnF ?_⟩
  rw [hA]
  repeat array_mem_dec
  refine x_pureI (ds := [evL fs]) ⟨ss, fs, rfl, hP', x_rnF ?_⟩
  rw [hA']
  repeat array_mem_dec
  refine x_pureI (ds := [evL es]) ⟨es, rfl, hes, x_rnF ?_⟩
  rw [hB]
  repeat array_mem_dec
  refine x_pureI (ds := [evL fs]) ⟨fs, rfl, hfs, x_rnF ?_⟩
  rw [hB']
  repeat array_mem_dec
  refine x_seq ?_
  repeat array_mem_dec
  rw [show (if ((List.map eD (ss.map fun r => (r.place, endW r true))).length : Int) < ((List.map eD (rs.map fun r => (r.place, endW r true))).length : Int) then ((List.map eD (ss.map fun r => (r.place, endW r true))).length : Int) else ((List.map eD (rs.map fun r => (r.place, endW r true))).length : Int)) = ((min rs.length ss.length : Nat) : Int) by rw [List.length_map, List.length_map, List.length_map, List.length_map]; split <;> omega]
  repeat array_mem_dec
  refine x_loopR (fun i ρ W => ∃ u6 u7, ρ = [some (.im (evL es)), some (.im (evL fs)), some (.im (.list ((rs.map fun r => (r.place, endW r true)).map eD))), some (.im (.list ((ss.map fun r => (r.place, endW r true)).map eD))), some (.im (.list ((rs.map (·.bells)).map intL))), some (.im (.list ((ss.map (·.bells)).map intL))), u6, u7] ∧ ∀ j, j < i → cz rs ss j = none) ⟨_, _, rfl, fun j hj => absurd hj (Nat.not_lt_zero j)⟩ ?_ ?_
  · rintro i ρ W hi ⟨u6, u7, rfl, hz⟩
    have hi1 : i < rs.length := by omega
    have hi2 : i < ss.length := by omega
    have e1 : rs[i]? = some rs[i] := List.getElem?_eq_getElem hi1
    have e2 : ss[i]? = some ss[i] := List.getElem?_eq_getElem hi2
    have o1 := endW_ok (hr5 rs[i] (List.getElem_mem hi1)) true
    have o2 := endW_ok (hs5 ss[i] (List.getElem_mem hi2)) true
    generalize rs[i] = r at e1 o1
    generalize ss[i] = s' at e2 o2
    have hc : cz rs ss i = cau r.bells s'.bells (r.place, endW r true) (s'.place, endW s' true) := by unfold cz; rw [e1, e2]
    repeat array_mem_dec
    refine x_ixL (D := intL r.bells) (by rw [Int.zero_add]; exact atI_nat (by rw [List.getElem?_map, List.getElem?_map, e1]; rfl)) ?_
    repeat array_mem_dec
    refine x_ixL (D := intL s'.bells) (by rw [Int.zero_add]; exact atI_nat (by rw [List.getElem?_map, List.getElem?_map, e2]; rfl)) ?_
    repeat array_mem_dec
    refine x_ixL (D := eD (r.place, endW r true)) (by rw [Int.zero_add]; exact atI_nat (by rw [List.getElem?_map, List.getElem?_map, e1]; rfl)) ?_
    repeat array_mem_dec
    refine x_ixL (D := eD (s'.place, endW s' true)) (by rw [Int.zero_add]; exact atI_nat (by rw [List.getElem?_map, List.getElem?_map, e2]; rfl)) ?_
    repeat array_mem_dec
    refine x_pureI (ds := [intL r.bells, intL s'.bells, eD (r.place, endW r true), eD (s'.place, endW s' true)]) ⟨_, _, _, _, rfl, o1, o2, ?_⟩
    rw [← hc]
    cases hcz : cz rs ss i with
    | none =>
      dsimp only [cD]
      array_get_dec
      refine ⟨_, _, rfl, fun j hj => ?_⟩
      by_cases e : j = i
      · rw [e]; exact hcz
      · exact hz j (by omega)
    | some c =>
      dsimp only [cD]
      array_get_dec
      rw [Int.zero_add]
      refine i_T ?_
      array_get_dec
      refine x_tupIm (ds := [.int (i : Nat), .str c]) (by show 2 ≤ sizeLine; decide) ?_
      unfold apR at q
      rw [firstA_hit hz hcz (m := min rs.length ss.length) hi] at q
      exact q
  · rintro ρ W ⟨u6, u7, rfl, hz⟩
    unfold apR at q
    rw [firstA_none (m := min rs.length ss.length) hz] at q
    array_get_dec
    exact q
end

abbrev sSpoilt : Stmt := top 21
abbrev sSecond : Stmt := top 22
theorem scSpoilt : FnScope ["deck", "record", "way", "bells", "place", "word", "at", "worth", "how", "much"] ["deck", "record", "way"] (defScope sSpoilt) := ⟨rfl, rfl, rfl, by decide +kernel, rfl, by decide +kernel, by decide +kernel⟩
theorem scSecond : FnScope ["deck", "records", "marks", "found", "way", "place", "at"] ["deck", "records", "marks"] (defScope sSecond) := ⟨rfl, rfl, rfl, by decide +kernel, rfl, by decide +kernel, by decide +kernel⟩
def SSpoil : DTp := fun n ds R => ∃ (m : Nat) (r : Rec) (way : Int), ds = [recD r, .int way] ∧ RecN m r ∧ m ≤ 5 ∧ 0 ≤ way ∧ way < 10 ∧ n ≤ 998000000 ∧ ∀ (r' : Rec) (n' : Nat), RecN (m + 1) r' → n' ≤ n + 5 → R (.im (recD r')) n'
def mkD (x : Int × Int) : PyData := .tuple [.int x.1, .int x.2]
def SSecond : DTp := fun n ds R => ∃ (rs : List Rec) (ms : List (Int × Int)), ds = [.list (rs.map recD), .list (ms.map mkD)] ∧ rs.length ≤ 290 ∧ (∀ r ∈ rs, RecN 2 r) ∧ ms.length ≤ 3 ∧ (∀ x ∈ ms, 0 ≤ x.1 ∧ x.1 < 13 ∧ 0 ≤ x.2) ∧ n ≤ 985000000 ∧ ∀ (ss : List Rec) (n' : Nat), ss.length ≤ 330 → (∀ r ∈ ss, RecN 5 r) → n' ≤ n + 100000 → R (.nw (ss.map recD)) n'
theorem cutD_map {α β : Type} (g : α → β) (l : List α) (lo hi : Option Int) : cutD (l.map g) lo hi = (cutD l lo hi).map g := by
  unfold cutD
  rw [List.length_map, List.map_take, List.map_drop]
theorem cut_two {α : Type} (bs : List α) (a : Int) : (cutD bs none (some a)).length + (cutD bs (some a) none).length ≤ bs.length := by
  have h := HT.sIx_le bs.length 0 (Nat.zero_le _) (some a)
  unfold cutD
  rw [show HT.sIx bs.length bs.length (some a) = HT.sIx bs.length 0 (some a) from rfl, show HT.sIx bs.length 0 none = 0 from rfl, show HT.sIx bs.length bs.length none = bs.length from rfl]
  simp only [List.length_take, List.length_drop]
  omega
theorem cut_le {α : Type} (bs : List α) (lo hi : Option Int) : (cutD bs lo hi).length ≤ bs.length := by
  unfold cutD
  simp only [List.length_take, List.length_drop]
  omega
theorem cut_mem {α : Type} {bs : List α} {lo hi : Option Int} {x : α} (h : x ∈ cutD bs lo hi) : x ∈ bs := by
  unfold cutD at h
  exact List.mem_of_mem_drop (List.mem_of_mem_take h)
theorem can_rec {m : Nat} {r : Rec} (h : RecN m r) : (recD r).canLay0 = true := by
  obtain ⟨bs, pl, wd, sp, wo, hw⟩ := r
  rcases h.w with e | e <;> (dsimp only at e; subst e; simp only [recD, PyData.canLay0, PyData.canLayAll0, can_ints, Bool.and_true, Bool.true_and]; decide +kernel)
theorem can_recs {m : Nat} : ∀ {rs : List Rec}, (∀ r ∈ rs, RecN m r) → PyData.canLayAll0 (rs.map recD) = true
  | [], _ => rfl
  | r :: l, h => by
    show (PyData.canLay0 (recD r) && PyData.canLayAll0 (l.map recD)) = true
    rw [can_rec (h r (List.mem_cons_self ..)), can_recs fun x hx => h x (List.mem_cons_of_mem _ hx)]; rfl
section
variable {P : Program} {w : World} {K : PySem.W.Frag} {mg : Str → Option Value} {base : Heap} {f : Addr} {fd : FuncData}
theorem ok_spoilt {fT : Addr} {fdT : FuncData} (F : Fun K "_law_spoilt_end" "_law_spoilt_end" sSpoilt f fd) (D_law_take : Dn P w K mg base 1 "_law_take" fT fdT ["deck", "many"] (spT (mkRs Dk) SDraw)) (m_min : mg "min" = none) (m_int : mg "int" = none) : FnOk P w K mg base CX0 2 f fd ["deck", "record", "way"] (spT (mkRs Dk) SSpoil) := by
  refine F.okT scSpoilt mkRs_ok rfl (fun n ds R hh => by obtain ⟨a, b, c, e, _⟩ := hh; rw [e]; rfl) fun cdv A outer s H E hr => ?_
  have hu := hr.units
  refine ⟨_, (ss_cons (s_asg (e_v 1) (g_tupU (n := 6) (gs_cons (g_name 3 scSpoilt.nd) (gs_cons (g_name 4 scSpoilt.nd) (gs_cons (g_name 5 scSpoilt.nd) (gs_cons (g_name 6 scSpoilt.nd) (gs_cons (g_name 7 scSpoilt.nd) (gs_cons (g_name 8 scSpoilt.nd) gs_nil))))))))
    (ss_cons (s_set 9 scSpoilt.nd (e_op op_add e_int (e_call D_law_take hr (a_cons (e_v 0) (a_cons e_int a_nil)))))
    (ss_cons (s_if (t_w (w_or (t_cmp (op_eqU hu) (e_v 2) e_int) (w_or1 (t_cmp (op_eqU hu) (e_v 2) e_int)))) (ss_one (s_ret (e_lst (a_cons (e_v 3) (a_cons (e_v 4) (a_cons (e_v 5) (a_cons (e_v 6) (a_cons (e_op op_mod (e_op op_add (e_v 7) (e_ix (e_lst (a_cons e_int (a_cons (e_op op_mul (e_v 9) e_int) a_nil))) (e_v 2))) e_int) (a_cons (e_v 8) a_nil))))))))) ss_nil)
    (ss_cons (s_if (t_cmp (op_eqU hu) (e_v 2) e_int) (ss_one (s_ret (e_lst (a_cons (e_v 3) (a_cons (e_op op_add (e_v 4) (e_v 9)) (a_cons (e_v 5) (a_cons (e_v 6) (a_cons (e_v 7) (a_cons (e_v 8) a_nil))))))))) ss_nil)
    (ss_cons (s_if (t_cmp (op_eqU hu) (e_v 2) e_int) (ss_one (s_ret (e_lst (a_cons (e_v 3) (a_cons (e_v 4) (a_cons (e_v 5) (a_cons (e_op op_mod (e_op op_add (e_v 6) (e_v 9)) e_int) (a_cons (e_v 7) (a_cons (e_v 8) a_nil))))))))) ss_nil)
    (ss_cons (s_if (t_cmp (op_eqU hu) (e_v 2) e_int) (ss_one (s_ret (e_lst (a_cons (e_v 3) (a_cons (e_v 4) (a_cons (e_ix (e_lst (a_consts rfl)) (e_callTy call_intN m_int PyProof.Rows.boot_int (a_cons (e_cmp (op_eqU hu) (e_v 5) e_str) a_nil))) (a_cons (e_op op_mod (e_v 6) e_int) (a_cons (e_v 7) (a_cons (e_callB (call_minN rfl) m_min PyProof.Rows.boot_min (a_cons (e_v 8) (a_cons e_int a_nil))) a_nil))))))))) ss_nil)
    (ss_cons (s_if (t_cmp (op_eqU hu) (e_v 2) e_int) (ss_one (s_ret (e_lst (a_cons (e_v 3) (a_cons (e_v 4) (a_cons e_str (a_cons (e_op op_mod (e_v 6) e_int) (a_cons (e_v 7) (a_cons (e_ix (e_lst (a_consts rfl)) (e_op op_mod (e_op op_add (e_v 8) (e_v 9)) e_int)) a_nil))))))))) ss_nil)
    (ss_cons (s_if (t_cmp (op_eqU hu) (e_v 2) e_int) (ss_one (s_ret (e_lst (a_cons (e_op op_cat (e_op op_cat (e_sl sl_list (e_v 3) o_none (o_some (e_op op_mod (e_v 9) e_int))) (e_lst (a_cons (e_op op_mod (e_v 9) e_int) a_nil))) (e_sl sl_list (e_v 3) (o_some (e_op op_mod (e_v 9) e_int)) o_none)) (a_cons (e_v 4) (a_cons (e_v 5) (a_cons (e_v 6) (a_cons (e_v 7) (a_cons (e_v 8) a_nil))))))))) ss_nil)
    (ss_cons (s_if (t_cmp (op_eqU hu) (e_v 2) e_int) (ss_one (s_ret (e_lst (a_cons (e_sl sl_list (e_v 3) (o_some e_int) o_none) (a_cons (e_v 4) (a_cons (e_v 5) (a_cons (e_v 6) (a_cons (e_v 7) (a_cons (e_v 8) a_nil))))))))) ss_nil)
    (ss_cons (s_if (t_cmp (op_eqU hu) (e_v 2) e_int) (ss_one (s_ret (e_lst (a_cons (e_op op_cat (e_sl sl_list (e_v 3) o_none (o_some (e_un un_neg e_int))) (e_comp (N' := ["k", "much"]) (ix := [none, some 9]) ⟨rfl, rfl, rfl, rfl, rfl, rfl⟩ (i_list (e_sl sl_list (e_v 3) (o_some (e_un un_neg e_int)) o_none)) (fun _ _ _ _ => (g_name 0 (show List.Nodup (["k", "much"] : List Str) by decide +kernel))) (fun _ _ _ _ => ts_nil) (fun _ _ _ _ => (e_op op_add (e_v 0) (e_v 1))))) (a_cons (e_v 4) (a_cons (e_v 5) (a_cons (e_v 6) (a_cons (e_v 7) (a_cons (e_v 8) a_nil))))))))) ss_nil)
    (ss_one (s_ret (e_lst (a_cons (e_rev (e_v 3) (o_some (e_un un_neg e_int))) (a_cons (e_v 4) (a_cons (e_v 5) (a_cons (e_v 6) (a_cons (e_v 7) (a_cons (e_v 8) a_nil))))))))))))))))))), ?_⟩
  clear hu
  (try dsimp only [cxOf, Cx.nox, Cx.wish, blkX, Cx.withX, Cx.marked])
  refine fun t g O => ⟨_, inferInstance, ?_⟩
  rintro n ds R ⟨m, r, way, rfl, hR, hm, y0, y1, hn, q⟩
  refine x_rho [_, _, _, none, none, none, none, none, none, none] rfl ?_
  obtain ⟨bs, pl, wd, sp, wo, hw⟩ := r
  have hb : bs.length ≤ m := hR.b
  have hwd : wd = "spot" ∨ wd = "cell" := hR.w
  have hw0 : 0 ≤ hw := hR.y0
  have hw1 : hw ≤ 3 := hR.y1
  have wt : WT t g n t = some (.tray g n) := wset_same
  generalize WT t g n = W at wt
  dsimp only [recD]
  repeat array_mem_dec
  refine x_draw wt (by omega) (by omega) (by omega) fun c W1 c0 c1 wt f1 => ?_
  repeat array_mem_dec
  refine x_seq ?_
  refine x_rho [_, _, _, _, _, _, _, _, _, _] rfl ?_
  have fin : ∀ (W : Wd) (bs' : List Int) (pl' : Int) (wd' : Str) (sp' wo' hw' : Int), W t = some (.tray g (n + 1)) → bs'.length ≤ m + 1 → (wd' = "spot" ∨ wd' = "cell") → 0 ≤ hw' → hw' ≤ 3 → (retT t g R).rt (.im (.list [.list (bs'.map .int), .int pl', .str wd', .int sp', .int wo', .int hw'])) W := fun W bs' pl' wd' sp' wo' hw' wt h1 h2 h3 h4 => ⟨_, wt, q ⟨bs', pl', wd', sp', wo', hw'⟩ _ ⟨h1, h2, h3, h4⟩ (by omega)⟩
  repeat array_mem_dec
  refine i_d (fun h => ?_) (fun h => ?_)
  · subst h
    repeat array_mem_dec
    refine x_newF (ds := [.int 1, .int ((1 + c) * 455555555)]) (by show 2 ≤ sizeLine; decide) ?_
    repeat array_mem_dec
    refine x_ixL (D := .int 1) rfl ?_
    repeat array_mem_dec
    exact x_newF (ds := [.list (bs.map .int), .int pl, .str wd, .int sp, .int _, .int hw]) (by show 6 ≤ sizeLine; decide) (fin _ _ _ _ _ _ _ wt (by omega) hwd hw0 hw1)
  repeat array_mem_dec
  refine i_d (fun h => ?_) (fun h => ?_)
  · subst h
    repeat array_mem_dec
    refine x_newF (ds := [.int 1, .int ((1 + c) * 455555555)]) (by show 2 ≤ sizeLine; decide) ?_
    repeat array_mem_dec
    refine x_ixL (D := .int ((1 + c) * 455555555)) rfl ?_
    repeat array_mem_dec
    exact x_newF (ds := [.list (bs.map .int), .int pl, .str wd, .int sp, .int _, .int hw]) (by show 6 ≤ sizeLine; decide) (fin _ _ _ _ _ _ _ wt (by omega) hwd hw0 hw1)
  repeat array_mem_dec
  refine x_seq ?_
  refine x_rho [_, _, _, _, _, _, _, _, _, _] rfl ?_
  repeat array_mem_dec
  refine i_d (fun h => ?_) (fun h => ?_)
  · repeat array_mem_dec
    exact x_newF (ds := [.list (bs.map .int), .int _, .str wd, .int sp, .int wo, .int hw]) (by show 6 ≤ sizeLine; decide) (fin _ _ _ _ _ _ _ wt (by omega) hwd hw0 hw1)
  repeat array_mem_dec
  refine x_seq ?_
  refine x_rho [_, _, _, _, _, _, _, _, _, _] rfl ?_
  repeat array_mem_dec
  refine i_d (fun h => ?_) (fun h => ?_)
  · repeat array_mem_dec
    exact x_newF (ds := [.list (bs.map .int), .int pl, .str wd, .int _, .int wo, .int hw]) (by show 6 ≤ sizeLine; decide) (fin _ _ _ _ _ _ _ wt (by omega) hwd hw0 hw1)
  repeat array_mem_dec
  refine x_seq ?_
  refine x_rho [_, _, _, _, _, _, _, _, _, _] rfl ?_
  repeat array_mem_dec
  refine i_d (fun h => ?_) (fun h => ?_)
  · repeat array_mem_dec
    refine x_newF (ds := [.str "cell", .str "spot"]) (by show 2 ≤ sizeLine; decide) ?_
    repeat array_mem_dec
    obtain ⟨z, hz, z0⟩ : ∃ z : Str, atI [PyData.str "cell", .str "spot"] (if decide (wd = "cell") = true then 1 else 0) = some (.str z) ∧ (z = "spot" ∨ z = "cell") := by
      rcases hwd with rfl | rfl
      · exact ⟨"cell", rfl, .inr rfl⟩
      · exact ⟨"spot", rfl, .inl rfl⟩
    refine x_ixL hz ?_
    repeat array_mem_dec
    exact x_newF (ds := [.list (bs.map .int), .int pl, .str z, .int _, .int wo, .int _]) (by show 6 ≤ sizeLine; decide) (fin _ _ _ _ _ _ _ wt (by omega) z0 (by split <;> omega) (by split <;> omega))
  repeat array_mem_dec
  refine x_seq ?_
  refine x_rho [_, _, _, _, _, _, _, _, _, _] rfl ?_
  repeat array_mem_dec
  refine i_d (fun h => ?_) (fun h => ?_)
  · repeat array_mem_dec
    refine x_newF (ds := [.int 0, .int 1, .int 2, .int 3]) (by show 4 ≤ sizeLine; decide) ?_
    repeat array_mem_dec
    obtain ⟨z, hz, z0, z1⟩ : ∃ z : Int, atI [PyData.int 0, .int 1, .int 2, .int 3] ((hw + (1 + c)) % 4) = some (.int z) ∧ 0 ≤ z ∧ z ≤ 3 := by
      obtain e | e | e | e : (hw + (1 + c)) % 4 = 0 ∨ (hw + (1 + c)) % 4 = 1 ∨ (hw + (1 + c)) % 4 = 2 ∨ (hw + (1 + c)) % 4 = 3 := by omega
      all_goals (rw [e]; exact ⟨_, rfl, by decide, by decide⟩)
    refine x_ixL hz ?_
    repeat array_mem_dec
    exact x_newF (ds := [.list (bs.map .int), .int pl, .str "spot", .int _, .int wo, .int z]) (by show 6 ≤ sizeLine; decide) (fin _ _ _ _ _ _ _ wt (by omega) (.inl rfl) z0 z1)
  repeat array_mem_dec
  refine x_seq ?_
  refine x_rho [_, _, _, _, _, _, _, _, _, _] rfl ?_
  repeat array_mem_dec
  refine i_d (fun h => ?_) (fun h => ?_)
  · have ct := cut_two bs ((1 + c) % 2)
    repeat array_mem_dec
    refine x_slL ?_
    rw [cutD_map]
    refine n_dat ?_
    repeat array_mem_dec
    refine x_newF (ds := [.int ((1 + c) % 5)]) (by show 1 ≤ sizeLine; decide) ?_
    refine x_cat rfl rfl (by rw [List.length_map, List.length_map]; exact Nat.le_of_lt (small9 (by simp; omega))) ?_
    rw [← List.map_append]
    refine n_dat ?_
    repeat array_mem_dec
    refine x_slL ?_
    rw [cutD_map]
    refine n_dat ?_
    refine x_cat rfl rfl (by rw [List.length_map, List.length_map]; exact Nat.le_of_lt (small9 (by simp; omega))) ?_
    rw [← List.map_append]
    refine n_dat ?_
    rw [show (cutD bs none (some ((1 + c) % 2))).map PyData.int ++ [PyData.int ((1 + c) % 5)] ++ (cutD bs (some ((1 + c) % 2)) none).map PyData.int = (cutD bs none (some ((1 + c) % 2)) ++ [(1 + c) % 5] ++ cutD bs (some ((1 + c) % 2)) none).map PyData.int by simp]
    repeat array_mem_dec
    exact x_newF (ds := [.list ((cutD bs none (some ((1 + c) % 2)) ++ [(1 + c) % 5] ++ cutD bs (some ((1 + c) % 2)) none).map .int), .int pl, .str wd, .int sp, .int wo, .int hw]) (by show 6 ≤ sizeLine; decide) (fin _ _ _ _ _ _ _ wt (by simp; omega) hwd hw0 hw1)
  repeat array_mem_dec
  refine x_seq ?_
  refine x_rho [_, _, _, _, _, _, _, _, _, _] rfl ?_
  repeat array_mem_dec
  refine i_d (fun h => ?_) (fun h => ?_)
  · have ct := cut_le bs (some 1) none
    repeat array_mem_dec
    refine x_slL ?_
    rw [cutD_map]
    refine n_dat ?_
    repeat array_mem_dec
    exact x_newF (ds := [.list ((cutD bs (some 1) none).map .int), .int pl, .str wd, .int sp, .int wo, .int hw]) (by show 6 ≤ sizeLine; decide) (fin _ _ _ _ _ _ _ wt (by omega) hwd hw0 hw1)
  repeat array_mem_dec
  refine x_seq ?_
  refine x_rho [_, _, _, _, _, _, _, _, _, _] rfl ?_
  repeat array_mem_dec
  refine i_d (fun h => ?_) (fun h => ?_)
  · have ct := cut_two bs (-1)
    repeat array_mem_dec
    refine x_slL ?_
    rw [cutD_map]
    refine n_dat ?_
    repeat array_mem_dec
    refine x_slL ?_
    rw [cutD_map]
    refine n_dat ?_
    repeat array_mem_dec
    generalize cutD bs none (some (-1)) = b1 at ct
    generalize cutD bs (some (-1)) none = b2 at ct
    refine x_compL (fun j ys W => ys = (((b2.take j).map fun k => k + (1 + c)).map PyData.int).map DV.im ∧ W t = some (.tray g (n + 1))) (by rw [List.length_map]; exact Nat.le_of_lt (small9 (by omega))) ⟨rfl, wt⟩ ?_ ?_
    · rintro j d ys W hd _ ⟨rfl, wt⟩
      rw [List.getElem?_map] at hd
      obtain ⟨e, he, rfl⟩ := Option.map_eq_some_iff.mp hd
      repeat array_mem_dec
      refine ⟨?_, wt⟩
      rw [List.take_add_one, he]
      simp
    clear wt
    rintro ys W2 ⟨rfl, wt⟩
    rw [List.length_map, List.take_length]
    refine n_dat ?_
    refine x_cat rfl rfl (by simp only [List.length_map]; exact Nat.le_of_lt (small9 (by omega))) ?_
    rw [← List.map_append, ← List.map_append]
    refine n_dat ?_
    repeat array_mem_dec
    exact x_newF (ds := [.list ((b1 ++ b2.map fun k => k + (1 + c)).map .int), .int pl, .str wd, .int sp, .int wo, .int hw]) (by show 6 ≤ sizeLine; decide) (fin _ _ _ _ _ _ _ wt (by simp; omega) hwd hw0 hw1)
  repeat array_mem_dec
  refine x_revL ?_
  rw [← List.map_reverse]
  repeat array_mem_dec
  exact x_newF (ds := [.list (bs.reverse.map .int), .int pl, .str wd, .int sp, .int wo, .int hw]) (by show 6 ≤ sizeLine; decide) (fin _ _ _ _ _ _ _ wt (by simp; omega) hwd hw0 hw1)
end

abbrev sDue : Stmt := top 23
abbrev sLaw : Stmt := top 24
theorem scDue : FnScope ["ones", "others", "n", "mine", "yours"] ["ones", "others"] (defScope sDue) := ⟨rfl, rfl, rfl, by decide +kernel, rfl, by decide +kernel, by decide +kernel⟩
theorem scLaw : FnScope ["script", "deck", "marks", "place", "k", "ones", "others", "one", "other", "handed", "due"] ["script"] (defScope sLaw) := ⟨rfl, rfl, rfl, by decide +kernel, rfl, by decide +kernel, by decide +kernel⟩
def SDue : DSp := fun ds R _ => ∃ rs ss : List Rec, ds = [.list (rs.map recD), .list (ss.map recD)] ∧ (∀ r ∈ rs, RecN 5 r) ∧ (∀ r ∈ ss, RecN 5 r) ∧ rs.length ≤ 330 ∧ ss.length ≤ 330 ∧ R (.im (apR rs ss))
theorem cut_recs {rs : List Rec} (lo hi : Option Int) : cutD ((rs.map recD).map DV.im) lo hi = ((cutD rs lo hi).map recD).map DV.im := by rw [cutD_map, cutD_map]
theorem cut_drop (ss : List Rec) (a : Nat) : (cutD ss none (some (a : Int))).length + (cutD ss (some ((a : Int) + 1)) none).length ≤ ss.length + 10 := by
  unfold cutD
  rw [HT.sIx_nat, show ((a : Int) + 1) = ((a + 1 : Nat) : Int) by omega, HT.sIx_nat, show HT.sIx ss.length 0 none = 0 from rfl, show HT.sIx ss.length ss.length none = ss.length from rfl]
  simp only [List.length_take, List.length_drop]
  omega
theorem eqv_recs : ∀ ss : List Rec, PyData.eqv (.list (ss.map recD)) (.list []) = decide (ss = [])
  | [] => rfl
  | s :: r => rfl
section
variable {P : Program} {w : World} {K : PySem.W.Frag} {mg : Str → Option Value} {base : Heap} {f : Addr} {fd : FuncData}
theorem ok_second {fT fR fS : Addr} {fdT fdR fdS : FuncData} (F : Fun K "_law_second" "_law_second" sSecond f fd) (D_law_take : Dn P w K mg base 1 "_law_take" fT fdT ["deck", "many"] (spT (mkRs Dk) SDraw)) (D_law_records : Dn P w K mg base 3 "_law_records" fR fdR ["deck", "most"] (spT (mkRs Dk) SRecs)) (D_law_spoilt_end : Dn P w K mg base 2 "_law_spoilt_end" fS fdS ["deck", "record", "way"] (spT (mkRs Dk) SSpoil)) (m_len : mg "len" = none) (m_max : mg "max" = none) (m_list : mg "list" = none) : FnOk P w K mg base CX0 4 f fd ["deck", "records", "marks"] (spT (mkRs Dk) SSecond) := by
  refine F.okT scSecond mkRs_ok rfl (fun n ds R hh => by obtain ⟨a, b, e, _⟩ := hh; rw [e]; rfl) fun cdv A outer s H E hr => ?_
  have hu := hr.units
  refine ⟨_, (ss_cons (s_set 3 scSecond.nd (e_callTy call_listN m_list PyProof.Rows.boot_list (a_cons (e_v 1) a_nil)))
    (ss_cons (s_for (i_list (e_v 2)) (g_tupU (n := 2) (gs_cons (g_name 4 scSecond.nd) (gs_cons (g_name 5 scSecond.nd) gs_nil))) (ss_cons (s_set 6 scSecond.nd (e_op op_mod (e_v 5) (e_callB (call_maxN rfl) m_max PyProof.Rows.boot_max (a_cons e_int (a_cons (e_callB call_lenN m_len PySem.boot_len (a_cons (e_v 3) a_nil)) a_nil)))))
      (ss_one (s_if (t_w (w_or (t_cmp (op_eqU hu) (e_v 3) (e_lst a_nil)) (w_or1 (t_cmp (op_eqU hu) (e_v 4) e_int)))) (ss_one (s_set 3 scSecond.nd (e_op op_cat (e_op op_cat (e_sl sl_list (e_v 3) o_none (o_some (e_v 6))) (e_call D_law_records hr (a_cons (e_v 0) (a_cons e_int a_nil)))) (e_sl sl_list (e_v 3) (o_some (e_v 6)) o_none)))) (ss_one (s_if (t_cmp op_lt (e_v 4) e_int) (ss_one (s_asg (e_call D_law_spoilt_end hr (a_cons (e_v 0) (a_cons (e_ix (e_v 3) (e_v 6)) (a_cons (e_v 4) a_nil)))) (g_sub (e_v 3) (e_v 6) set_list))) (ss_one (s_if (t_cmp (op_eqU hu) (e_v 4) e_int) (ss_one (s_set 3 scSecond.nd (e_op op_cat (e_sl sl_list (e_v 3) o_none (o_some (e_v 6))) (e_sl sl_list (e_v 3) (o_some (e_op op_add (e_v 6) e_int)) o_none)))) (ss_one (s_set 3 scSecond.nd (e_op op_cat (e_sl sl_list (e_v 3) o_none (o_some (e_v 6))) (e_call D_law_records hr (a_cons (e_v 0) (a_cons (e_call D_law_take hr (a_cons (e_v 0) (a_cons e_int a_nil))) a_nil))))))))))))))
    (ss_one (s_ret (e_v 3))))), ?_⟩
  clear hu
  (try dsimp only [cxOf, Cx.nox, Cx.wish, blkX, Cx.withX, Cx.marked])
  refine fun t g O => ⟨_, inferInstance, ?_⟩
  rintro n ds R ⟨rs, ms, rfl, hrl, hrs, hml, hms, hn, q⟩
  refine x_rho [_, _, _, none, none, none, none] rfl ?_
  have wt : WT t g n t = some (.tray g n) := wset_same
  generalize WT t g n = W at wt
  repeat array_mem_dec
  refine x_listL (n_own fun p W1 hp wp fp => ?_)
  replace wt := fp.at (ne_new wt hp) wt
  have hpt : p ≠ t := fun z => by rw [z, wt] at wp; cases wp
  clear hp fp
  repeat array_mem_dec
  refine x_seq ?_
  repeat array_mem_dec
  refine x_loopL (fun i ρ W => ∃ (p : Addr) (u4 u5 u6 : Option DV) (ss : List Rec) (k : Nat), ρ = [some (.pt t), some (.im (.list (rs.map recD))), some (.im (.list (ms.map mkD))), some (.pt p), u4, u5, u6] ∧ W p = some (.lst ((ss.map recD).map .im)) ∧ W t = some (.tray g k) ∧ p ≠ t ∧ (∀ r ∈ ss, RecN (2 + i) r) ∧ ss.length ≤ 290 + 10 * i ∧ k ≤ n + 10000 * i) ⟨p, _, _, _, rs, n, rfl, wp, wt, hpt, hrs, by omega, by omega⟩ ?_ ?_
  · clear wp wt hpt
    rintro i d ρ W hd ⟨p, u4, u5, u6, ss, k, rfl, wp, wt, hpt, hss, hsl, hk⟩
    rw [List.getElem?_map] at hd
    obtain ⟨x, hx, rfl⟩ := Option.map_eq_some_iff.mp hd
    have hi : i < ms.length := (List.getElem?_eq_some_iff.mp hx).1
    obtain ⟨x0, x1, x2⟩ := hms x (List.mem_of_getElem? hx)
    obtain ⟨way, place⟩ := x
    dsimp only at x0 x1 x2
    dsimp only [mkD]
    repeat array_mem_dec
    obtain ⟨a, ha, a1⟩ : ∃ a : Nat, place % (if (((ss.map recD).map DV.im).length : Int) > 1 then (((ss.map recD).map DV.im).length : Int) else 1) = (a : Int) ∧ a < max 1 ss.length := by
      rw [List.length_map, List.length_map]
      obtain ⟨M, hM, hM1⟩ : ∃ M : Nat, (if (ss.length : Int) > 1 then (ss.length : Int) else 1) = (M : Int) ∧ M = max 1 ss.length := ⟨max 1 ss.length, by split <;> omega, rfl⟩
      rw [hM]
      have h0 := Int.emod_nonneg place (show (M : Int) ≠ 0 by omega)
      have h1 := Int.emod_lt_of_pos place (show (0 : Int) < M by omega)
      exact ⟨(place % (M : Int)).toNat, by omega, by omega⟩
    rw [ha]
    have hsl2 : ss.length ≤ 320 := by omega
    have ct := cut_two ss (a : Int)
    have grow : ∀ (W' : Wd) (ρ' : Rho) (l1 l2 rs' : List Rec) (k' : Nat) (u4 u5 u6 : Option DV), W' t = some (.tray g k') → k' ≤ k + 10000 → (∀ r ∈ l1, r ∈ ss) → (∀ r ∈ l2, r ∈ ss) → (∀ r ∈ rs', RecN 2 r) → l1.length + rs'.length + l2.length ≤ ss.length + 10 → ∀ vs, vs = ((l1 ++ rs' ++ l2).map recD).map DV.im → newL vs W' fun v W2 => ∃ (p : Addr) (u4 u5 u6 : Option DV) (ss : List Rec) (k : Nat), [some (.pt t), some (.im (.list (rs.map recD))), some (.im (.list (ms.map mkD))), some v, some (.im (.int way)), some (.im (.int place)), some (.im (.int (a : Int)))] = [some (.pt t), some (.im (.list (rs.map recD))), some (.im (.list (ms.map mkD))), some (.pt p), u4, u5, u6] ∧ W2 p = some (.lst ((ss.map recD).map .im)) ∧ W2 t = some (.tray g k) ∧ p ≠ t ∧ (∀ r ∈ ss, RecN (2 + (i + 1)) r) ∧ ss.length ≤ 290 + 10 * (i + 1) ∧ k ≤ n + 10000 * (i + 1) := by
      intro W' ρ' l1 l2 rs' k' u4 u5 u6 wt hk' h1 h2 h3 hl vs hvs
      subst hvs
      refine n_own fun p' W2 hp' wp' fp' => ?_
      have wt2 := fp'.at (ne_new wt hp') wt
      refine ⟨p', _, _, _, _, k', rfl, wp', wt2, (fun z => by rw [z, wt2] at wp'; cases wp'), fun r hr => ?_, by simp only [List.length_append]; omega, by omega⟩
      rcases List.mem_append.mp hr with hr | hr
      · rcases List.mem_append.mp hr with hr | hr
        · exact (hss r (h1 r hr)).up (by omega)
        · exact (h3 r hr).up (by omega)
      · exact (hss r (h2 r hr)).up (by omega)
    refine ⟨_, dat_pt wp, can_recs hss, ?_⟩
    rw [eqv_recs]
    repeat array_mem_dec
    refine i_d (fun hnil => ?_) (fun hne => ?_)
    · repeat array_mem_dec
      refine x_slP wp ?_
      rw [cut_recs]
      refine n_dat ?_
      repeat array_mem_dec
      refine x_trayI (ds := [.int 1]) wt ⟨1, rfl, by omega, by omega, fun rs' n' hl' hr' hn' => x_rnF ?_⟩
      have wp' : wset W t (.tray g n') p = _ := (wset_ne hpt).trans wp
      have wt' : wset W t (.tray g n') t = some (.tray g n') := wset_same
      generalize wset W t (.tray g n') = W' at wp' wt'
      refine x_cat rfl rfl (by simp only [List.length_map]; exact Nat.le_of_lt (small9 (by omega))) ?_
      rw [← List.map_append, ← List.map_append]
      refine n_dat ?_
      repeat array_mem_dec
      refine x_slP wp' ?_
      rw [cut_recs]
      refine n_dat ?_
      refine x_cat rfl rfl (by simp only [List.length_map, List.length_append]; exact Nat.le_of_lt (small9 (by omega))) ?_
      rw [← List.map_append, ← List.map_append]
      exact grow W' [] _ _ rs' n' none none none wt' (by omega) (fun r hr => cut_mem hr) (fun r hr => cut_mem hr) hr' (by omega) _ rfl
    repeat array_mem_dec
    refine i_d (fun h11 => ?_) (fun h11 => ?_)
    · repeat array_mem_dec
      refine x_slP wp ?_
      rw [cut_recs]
      refine n_dat ?_
      repeat array_mem_dec
      refine x_trayI (ds := [.int 1]) wt ⟨1, rfl, by omega, by omega, fun rs' n' hl' hr' hn' => x_rnF ?_⟩
      have wp' : wset W t (.tray g n') p = _ := (wset_ne hpt).trans wp
      have wt' : wset W t (.tray g n') t = some (.tray g n') := wset_same
      generalize wset W t (.tray g n') = W' at wp' wt'
      refine x_cat rfl rfl (by simp only [List.length_map]; exact Nat.le_of_lt (small9 (by omega))) ?_
      rw [← List.map_append, ← List.map_append]
      refine n_dat ?_
      repeat array_mem_dec
      refine x_slP wp' ?_
      rw [cut_recs]
      refine n_dat ?_
      refine x_cat rfl rfl (by simp only [List.length_map, List.length_append]; exact Nat.le_of_lt (small9 (by omega))) ?_
      rw [← List.map_append, ← List.map_append]
      exact grow W' [] _ _ rs' n' none none none wt' (by omega) (fun r hr => cut_mem hr) (fun r hr => cut_mem hr) hr' (by omega) _ rfl
    repeat array_mem_dec
    refine i_d (fun h10 => ?_) (fun h10 => ?_)
    · have hal : a < ss.length := by
        have : 0 < ss.length := List.length_pos_iff.mpr hne
        omega
      have e1 : ss[a]? = some ss[a] := List.getElem?_eq_getElem hal
      have hra := hss ss[a] (List.getElem_mem hal)
      generalize ss[a] = r at e1 hra
      repeat array_mem_dec
      refine x_ixP wp (atI_nat (v := .im (recD r)) (by rw [List.getElem?_map, List.getElem?_map, e1]; rfl)) ?_
      repeat array_mem_dec
      refine x_trayI (ds := [recD r, .int way]) wt ⟨2 + i, r, way, rfl, hra, by omega, x0, by omega, by omega, fun r' n' hr' hn' => x_rim ?_⟩
      have wp' : wset W t (.tray g n') p = _ := (wset_ne hpt).trans wp
      have wt' : wset W t (.tray g n') t = some (.tray g n') := wset_same
      generalize wset W t (.tray g n') = W' at wp' wt'
      repeat array_mem_dec
      refine x_setA wp' (j := a) (ixN_ok (Int.natCast_nonneg a) (by rw [List.length_map, List.length_map]; omega)) fun W2 w2 f2 => ?_
      refine ⟨p, _, _, _, ss.set a r', n', rfl, by rw [w2, List.map_set, List.map_set], f2.at hpt.symm wt', hpt, fun z hz => ?_, by rw [List.length_set]; omega, by omega⟩
      rcases List.mem_or_eq_of_mem_set hz with hz | hz
      · exact (hss z hz).up (by omega)
      · rw [hz]; exact hr'.up (by omega)
    repeat array_mem_dec
    refine i_d (fun h10' => ?_) (fun h10' => ?_)
    · repeat array_mem_dec
      refine x_slP wp ?_
      rw [cut_recs]
      refine n_dat ?_
      repeat array_mem_dec
      refine x_slP wp ?_
      rw [cut_recs]
      refine n_dat ?_
      have ct2 := cut_le ss (some ((a : Int) + 1)) none
      refine x_cat rfl rfl (by simp only [List.length_map]; exact Nat.le_of_lt (small9 (by omega))) ?_
      rw [← List.map_append, ← List.map_append]
      exact grow W [] (cutD ss none (some (a : Int))) (cutD ss (some ((a : Int) + 1)) none) [] k none none none wt (by omega) (fun r hr => cut_mem hr) (fun r hr => cut_mem hr) (fun r hr => by cases hr) (by simp only [List.length_nil]; have := cut_drop ss a; omega) _ (by rw [List.append_nil])
    · repeat array_mem_dec
      refine x_slP wp ?_
      rw [cut_recs]
      refine n_dat ?_
      repeat array_mem_dec
      refine x_draw wt (by omega) (by omega) (by omega) fun c W3 c0 c1 wt f3 => ?_
      replace wp := f3.at hpt wp
      obtain ⟨c, rfl⟩ : ∃ c' : Nat, c = (c' : Int) := ⟨c.toNat, by omega⟩
      repeat array_mem_dec
      refine x_trayI (ds := [.int c]) wt ⟨c, rfl, by omega, by omega, fun rs' n' hl' hr' hn' => x_rnF ?_⟩
      have wp' : wset W3 t (.tray g n') p = _ := (wset_ne hpt).trans wp
      have wt' : wset W3 t (.tray g n') t = some (.tray g n') := wset_same
      generalize wset W3 t (.tray g n') = W' at wp' wt'
      refine x_cat rfl rfl (by simp only [List.length_map]; exact Nat.le_of_lt (small9 (by omega))) ?_
      rw [← List.map_append, ← List.map_append]
      exact grow W' [] (cutD ss none (some (a : Int))) [] rs' n' none none none wt' (by omega) (fun r hr => cut_mem hr) (fun r hr => by cases hr) hr' (by simp only [List.length_nil]; omega) _ (by rw [List.append_nil])
  · rintro ρ W ⟨p, u4, u5, u6, ss, k, rfl, wp, wt, hpt, hss, hsl, hk⟩
    rw [List.length_map] at hss hsl hk
    repeat array_mem_dec
    exact ⟨_, wt, ret_nw wp (q ss k (by omega) (fun r hr => (hss r hr).up (by omega)) (by omega))⟩
theorem ok_dueA {fE : Addr} {fdE : FuncData} (F : Fun K "_law_due" "_law_due" sDue f fd) (D_law_end_wrote : Dn P w K mg base 1 "_law_end_wrote" fE fdE ["record", "told"] (spD SEndW)) (m_len : mg "len" = none) (m_min : mg "min" = none) (m_range : mg "range" = none) : FnOk P w K mg base CX0 2 f fd ["ones", "others"] (spD SDue) := by
  refine F.okD scDue (fun ds R X hh => by obtain ⟨a, b, e, _⟩ := hh; rw [e]; rfl) fun cdv A outer s H E hr => ?_
  have hu := hr.units
  refine ⟨_, (ss_cons (s_for (i_range1 m_range (a_cons (e_callB (call_minN rfl) m_min PyProof.Rows.boot_min (a_cons (e_callB call_lenN m_len PySem.boot_len (a_cons (e_v 0) a_nil)) (a_cons (e_callB call_lenN m_len PySem.boot_len (a_cons (e_v 1) a_nil)) a_nil))) a_nil)) (g_name 2 scDue.nd) (ss_cons (s_if (t_cmp (op_neU hu) (e_ix (e_ix (e_v 0) (e_v 2)) e_int) (e_ix (e_ix (e_v 1) (e_v 2)) e_int)) (ss_one (s_ret (e_tup (a_cons (e_v 2) (a_cons e_str a_nil))))) ss_nil)
      (ss_cons (s_if (t_cmp (op_neU hu) (e_ix (e_ix (e_v 0) (e_v 2)) e_int) (e_ix (e_ix (e_v 1) (e_v 2)) e_int)) (ss_one (s_ret (e_tup (a_cons (e_v 2) (a_cons e_str a_nil))))) ss_nil)
      (ss_cons (s_set 3 scDue.nd (e_call D_law_end_wrote hr (a_cons (e_ix (e_v 0) (e_v 2)) (a_cons e_bl a_nil))))
      (ss_cons (s_set 4 scDue.nd (e_call D_law_end_wrote hr (a_cons (e_ix (e_v 1) (e_v 2)) (a_cons e_bl a_nil))))
      (ss_one (s_if (t_w (w_or (t_isN (e_v 3)) (w_or1 (t_isN (e_v 4))))) (ss_one (s_if (t_cmp (op_neU hu) (e_v 3) (e_v 4)) (ss_one (s_ret (e_tup (a_cons (e_v 2) (a_cons e_str a_nil))))) ss_nil)) (ss_one (s_if (t_cmp (op_neU hu) (e_sl sl_tup (e_v 3) o_none (o_some e_int)) (e_sl sl_tup (e_v 4) o_none (o_some e_int))) (ss_one (s_ret (e_tup (a_cons (e_v 2) (a_cons e_str a_nil))))) (ss_one (s_if (t_w (w_and (t_in (op_notInU hu) e_non (e_lst (a_cons (e_ix (e_v 3) e_int) (a_cons (e_ix (e_v 4) e_int) a_nil)))) (w_and1 (t_cmp (op_neU hu) (e_ix (e_v 3) e_int) (e_ix (e_v 4) e_int))))) (ss_one (s_ret (e_tup (a_cons (e_v 2) (a_cons e_str a_nil))))) ss_nil)))))))))))
    (ss_one (s_ret e_non))), ?_⟩
  clear hu
  (try dsimp only [cxOf, Cx.nox, Cx.wish, blkX, Cx.withX, Cx.marked])
  refine fun O X => ⟨_, inferInstance, ?_⟩
  rintro ds R ⟨rs, ss, rfl, hr5, hs5, hrl, hsl, q⟩
  refine x_rho [_, _, none, none, none] rfl ?_
  repeat array_mem_dec
  refine x_seq ?_
  repeat array_mem_dec
  rw [show (if ((List.map recD ss).length : Int) < ((List.map recD rs).length : Int) then ((List.map recD ss).length : Int) else ((List.map recD rs).length : Int)) = ((min rs.length ss.length : Nat) : Int) by rw [List.length_map, List.length_map]; split <;> omega]
  repeat array_mem_dec
  refine x_loopR (fun i ρ W => ∃ u2 u3 u4, ρ = [some (.im (.list (rs.map recD))), some (.im (.list (ss.map recD))), u2, u3, u4] ∧ ∀ j, j < i → cz rs ss j = none) ⟨_, _, _, rfl, fun j hj => absurd hj (Nat.not_lt_zero j)⟩ ?_ ?_
  · rintro i ρ W hi ⟨u2, u3, u4, rfl, hz⟩
    have hi1 : i < rs.length := by omega
    have hi2 : i < ss.length := by omega
    have e1 : rs[i]? = some rs[i] := List.getElem?_eq_getElem hi1
    have e2 : ss[i]? = some ss[i] := List.getElem?_eq_getElem hi2
    have o1 := endW_ok (hr5 rs[i] (List.getElem_mem hi1)) true
    have o2 := endW_ok (hs5 ss[i] (List.getElem_mem hi2)) true
    generalize rs[i] = r at e1 o1
    generalize ss[i] = s' at e2 o2
    have hc : cz rs ss i = cau r.bells s'.bells (r.place, endW r true) (s'.place, endW s' true) := by unfold cz; rw [e1, e2]
    have g1 : atI (rs.map recD) (0 + (i : Int)) = some (recD r) := by rw [Int.zero_add]; exact atI_nat (by rw [List.getElem?_map, e1]; rfl)
    have g2 : atI (ss.map recD) (0 + (i : Int)) = some (recD s') := by rw [Int.zero_add]; exact atI_nat (by rw [List.getElem?_map, e2]; rfl)
    have hit : ∀ (c : Str) (W : Wd), cz rs ss i = some c → (retE R).rt (.im (.tuple [.int (0 + (i : Nat)), .str c])) W := fun c W hcz => by
      unfold apR at q
      rw [firstA_hit hz hcz (m := min rs.length ss.length) hi] at q
      rw [Int.zero_add]
      exact q
    have miss : cz rs ss i = none → ∀ j, j < i + 1 → cz rs ss j = none := fun h j hj => by
      by_cases e : j = i
      · rw [e]; exact h
      · exact hz j (by omega)
    unfold cau at hc
    repeat array_mem_dec
    refine x_seq ?_
    repeat array_mem_dec
    refine x_ixL g1 ?_
    repeat array_mem_dec
    refine x_ixL (D := intL r.bells) rfl ?_
    repeat array_mem_dec
    refine x_ixL g2 ?_
    repeat array_mem_dec
    refine x_ixL (D := intL s'.bells) rfl ?_
    refine x_neD (d1 := intL r.bells) (d2 := intL s'.bells) rfl rfl (ok_intL _ _) ?_
    rw [eqv_intL]
    repeat array_mem_dec
    refine i_n (fun h => ?_) (fun h => ?_)
    · rw [if_neg h] at hc
      array_get_dec
      exact x_tupIm (ds := [.int (0 + (i : Nat)), .str "bell"]) (by show 2 ≤ sizeLine; decide) (hit _ W hc)
    rw [if_pos h] at hc
    clear h
    repeat array_mem_dec
    refine x_seq ?_
    repeat array_mem_dec
    refine x_ixL g1 ?_
    repeat array_mem_dec
    refine x_ixL (D := .int r.place) rfl ?_
    repeat array_mem_dec
    refine x_ixL g2 ?_
    repeat array_mem_dec
    refine x_ixL (D := .int s'.place) rfl ?_
    repeat array_mem_dec
    refine i_n (fun h => ?_) (fun h => ?_)
    · rw [if_neg h] at hc
      array_get_dec
      exact x_tupIm (ds := [.int (0 + (i : Nat)), .str "place"]) (by show 2 ≤ sizeLine; decide) (hit _ W hc)
    rw [if_pos h] at hc
    clear h
    repeat array_mem_dec
    refine x_ixL g1 ?_
    repeat array_mem_dec
    refine x_pureI (ds := [recD r, .bool true]) ⟨r, true, rfl, ?_⟩
    repeat array_mem_dec
    refine x_ixL g2 ?_
    repeat array_mem_dec
    refine x_pureI (ds := [recD s', .bool true]) ⟨s', true, rfl, ?_⟩
    generalize endW r true = w1 at o1 hc
    generalize endW s' true = w2 at o2 hc
    dsimp only at hc
    match w1, w2, o1, o2, hc with
    | none, none, o1, o2, hc =>
      dsimp only [wrD]
      array_get_dec
      refine i_T ?_
      array_get_dec
      refine x_neD (d1 := .none) (d2 := .none) rfl rfl (.inr ⟨rfl, rfl, by decide⟩) ?_
      repeat array_mem_dec
      refine i_F ?_
      repeat array_mem_dec
      exact ⟨_, _, _, rfl, miss hc⟩
    | none, some (k', a', x'), o1, o2, hc =>
      rw [if_neg (by intro z; cases z)] at hc
      dsimp only [wrD]
      array_get_dec
      refine i_T ?_
      array_get_dec
      refine x_neD (d1 := .none) (d2 := wrD (some (k', a', x'))) rfl rfl (.inr ⟨rfl, can_wr o2, by show min 0 _ ≤ 64; rw [Nat.zero_min]; decide⟩) ?_
      repeat array_mem_dec
      refine i_T ?_
      repeat array_mem_dec
      exact x_tupIm (ds := [.int (0 + (i : Nat)), .str "thing"]) (by show 2 ≤ sizeLine; decide) (hit _ W hc)
    | some (k, a, x), none, o1, o2, hc =>
      rw [if_neg (by intro z; cases z)] at hc
      dsimp only [wrD]
      array_get_dec
      refine i_F ?_
      array_get_dec
      refine i_T ?_
      array_get_dec
      refine x_neD (d1 := wrD (some (k, a, x))) (d2 := .none) rfl rfl (.inr ⟨can_wr o1, rfl, by show min _ 0 ≤ 64; rw [Nat.min_zero]; decide⟩) ?_
      repeat array_mem_dec
      refine i_T ?_
      repeat array_mem_dec
      exact x_tupIm (ds := [.int (0 + (i : Nat)), .str "thing"]) (by show 2 ≤ sizeLine; decide) (hit _ W hc)
    | some (k, a, x), some (k', a', x'), o1, o2, hc =>
      dsimp only [wrD]
      array_get_dec
      refine i_F ?_
      array_get_dec
      refine i_F ?_
      array_get_dec
      refine ⟨_, rfl, by show ¬ (0 = 0 ∧ 2 = 3); decide, ?_⟩
      array_get_dec
      refine ⟨_, rfl, by show ¬ (0 = 0 ∧ 2 = 3); decide, ?_⟩
      refine x_neD (d1 := thD (thg (some (k, a, x)))) (d2 := thD (thg (some (k', a', x')))) rfl rfl (ok_th o1 o2) ?_
      rw [eqv_th]
      repeat array_mem_dec
      refine i_n (fun h => ?_) (fun h => ?_)
      · rw [if_neg h] at hc
        array_get_dec
        exact x_tupIm (ds := [.int (0 + (i : Nat)), .str "thing"]) (by show 2 ≤ sizeLine; decide) (hit _ W hc)
      rw [if_pos h] at hc
      match x, x', hc with
      | none, x', hc =>
        replace hc : cz rs ss i = none := hc
        have fl : flatD (kpD x') = true := by cases x' <;> rfl
        generalize kpD x' = d' at fl
        dsimp only [kpD]
        array_get_dec
        refine x_newF (ds := [.none, d']) (by show 2 ≤ sizeLine; decide) ?_
        array_get_dec
        refine ⟨.none, [.none, d'], rfl, rfl, .inl ⟨rfl, by show (true && (flatD d' && true)) = true; rw [fl]; rfl⟩, ?_⟩
        array_get_dec
        refine i_F ?_
        array_get_dec
        exact ⟨_, _, _, rfl, miss hc⟩
      | some v, none, hc =>
        replace hc : cz rs ss i = none := hc
        dsimp only [kpD]
        array_get_dec
        refine x_newF (ds := [.int v, .none]) (by show 2 ≤ sizeLine; decide) ?_
        array_get_dec
        refine ⟨.none, [.int v, .none], rfl, rfl, .inl ⟨rfl, rfl⟩, ?_⟩
        array_get_dec
        refine i_F ?_
        array_get_dec
        exact ⟨_, _, _, rfl, miss hc⟩
      | some v, some v', hc =>
        dsimp only [kpD]
        array_get_dec
        refine x_newF (ds := [.int v, .int v']) (by show 2 ≤ sizeLine; decide) ?_
        array_get_dec
        refine ⟨.none, [.int v, .int v'], rfl, rfl, .inl ⟨rfl, rfl⟩, ?_⟩
        array_get_dec
        refine i_T ?_
        array_get_dec
        refine i_n (fun hv => ?_) (fun hv => ?_)
        · rw [if_pos (by show (!decide (v = v')) = true; rw [decide_eq_false hv]; rfl)] at hc
          array_get_dec
          exact x_tupIm (ds := [.int (0 + (i : Nat)), .str "worth"]) (by show 2 ≤ sizeLine; decide) (hit _ W hc)
        · rw [if_neg (by show ¬ (!decide (v = v')) = true; rw [decide_eq_true hv]; decide)] at hc
          array_get_dec
          exact ⟨_, _, _, rfl, miss hc⟩
  · rintro ρ W ⟨u2, u3, u4, rfl, hz⟩
    unfold apR at q
    rw [firstA_none (m := min rs.length ss.length) hz] at q
    array_get_dec
    exact q
end

theorem cau_symm (b b' : List Int) (x y : Int × Wr) : cau b b' x y = cau b' b y x := by
  have hu : unl x.2 y.2 = unl y.2 x.2 := by
    obtain ⟨_, w⟩ := x
    obtain ⟨_, v⟩ := y
    match w, v with
    | none, none => rfl
    | none, some (_, _, none) => rfl
    | none, some (_, _, some _) => rfl
    | some (_, _, none), none => rfl
    | some (_, _, some _), none => rfl
    | some (_, _, none), some (_, _, none) => rfl
    | some (_, _, none), some (_, _, some _) => rfl
    | some (_, _, some _), some (_, _, none) => rfl
    | some (_, _, some a), some (_, _, some b) => show (!decide (a = b)) = !decide (b = a); rw [decide_eq_decide.mpr (eq_comm (a := a) (b := b))]
  unfold cau
  rw [hu]
  by_cases h1 : b = b'
  · rw [if_pos h1, if_pos h1.symm]
    by_cases h2 : x.1 = y.1
    · rw [if_pos h2, if_pos h2.symm]
      by_cases h3 : thg x.2 = thg y.2
      · rw [if_pos h3, if_pos h3.symm]
      · rw [if_neg h3, if_neg (Ne.symm h3)]
    · rw [if_neg h2, if_neg (Ne.symm h2)]
  · rw [if_neg h1, if_neg (Ne.symm h1)]
theorem apR_symm (rs ss : List Rec) : apR ss rs = apR rs ss := by
  have h : cz ss rs = cz rs ss := by
    funext n
    unfold cz
    cases rs[n]? with
    | none => cases ss[n]? <;> rfl
    | some r =>
      cases ss[n]? with
      | none => rfl
      | some s => exact cau_symm ..
  unfold apR
  rw [h, Nat.min_comm]
theorem apR_self (rs : List Rec) : apR rs rs = .none := by
  have h : ∀ n, cz rs rs n = none := fun n => by
    unfold cz
    cases rs[n]? with
    | none => rfl
    | some r =>
      have hu : unl (endW r true) (endW r true) = false := by
        match endW r true with
        | none => rfl
        | some (_, _, none) => rfl
        | some (_, _, some a) => show (!decide (a = a)) = false; rw [decide_eq_true rfl]; rfl
      show cau _ _ _ _ = none
      unfold cau
      rw [if_pos rfl, if_pos rfl, if_pos rfl, hu]; rfl
  unfold apR
  rw [firstA_none fun j _ => h j]; rfl
def goodC (o : Option Str) : Prop := ∀ s, o = some s → s = "bell" ∨ s = "place" ∨ s = "thing" ∨ s = "worth"
theorem cz_good (rs ss : List Rec) (n : Nat) : goodC (cz rs ss n) := by
  unfold cz
  cases rs[n]? with
  | none => exact fun s h => by cases h
  | some r =>
    cases ss[n]? with
    | none => exact fun s h => by cases h
    | some s' =>
      show goodC (cau _ _ _ _)
      unfold cau
      intro s h
      split at h
      · split at h
        · split at h
          · split at h
            · exact .inr (.inr (.inr (Option.some.inj h).symm))
            · cases h
          · exact .inr (.inr (.inl (Option.some.inj h).symm))
        · exact .inr (.inl (Option.some.inj h).symm)
      · exact .inl (Option.some.inj h).symm
theorem firstA_some {c : Nat → Option Str} : ∀ {m n : Nat} {s : Str}, firstA c m = some (n, s) → c n = some s
  | m + 1, n, s, h => by
    unfold firstA at h
    cases e : firstA c m with
    | some x => rw [e] at h; cases h; exact firstA_some e
    | none =>
      rw [e] at h
      obtain ⟨s', h1, h2⟩ := Option.map_eq_some_iff.mp h
      cases h2; exact h1
theorem apR_can (rs ss : List Rec) : (apR rs ss).canLay0 = true ∧ (apR rs ss).depth < 4 ∧ Sm (apR rs ss) := by
  unfold apR
  cases e : firstA (cz rs ss) (min rs.length ss.length) with
  | none => exact ⟨rfl, by decide, trivial⟩
  | some x =>
    obtain ⟨n, s⟩ := x
    refine ⟨?_, by simp [apD, PyData.depth, PyData.depthAll], ⟨by show 2 < 1000000; decide, trivial, trivial, trivial⟩⟩
    rcases cz_good rs ss n s (firstA_some e) with rfl | rfl | rfl | rfl <;> (simp only [apD, PyData.canLay0, PyData.canLayAll0, Bool.and_true, Bool.true_and]; decide +kernel)
section
variable {P : Program} {w : World} {K : PySem.W.Frag} {mg : Str → Option Value} {base : Heap} {f : Addr} {fd : FuncData}
theorem ok_law {fD fT fR fW fZ fS fA fO fN : Addr} {fdD fdT fdR fdW fdZ fdS fdA fdO fdN : FuncData} (F : Fun K "law" "law" sLaw f fd) (D_law_deck : Dn P w K mg base 1 "_law_deck" fD fdD ["script"] (spMk K (mkRs Dk))) (D_law_take : Dn P w K mg base 1 "_law_take" fT fdT ["deck", "many"] (spT (mkRs Dk) SDraw))
    (D_law_records : Dn P w K mg base 3 "_law_records" fR fdR ["deck", "most"] (spT (mkRs Dk) SRecs)) (D_law_written : Dn P w K mg base 4 "_law_written" fW fdW ["deck", "records", "tail"] (spT (mkRs Dk) SWritten)) (D_law_size : Dn P w K mg base 2 "_law_size" fZ fdZ ["deck"] (spT (mkRs Dk) SSize)) (D_law_same : Dn P w K mg base 5 "_law_same" fS fdS ["found", "due"] (spD (SSame 4)))
    (Dapart : Dn P w K mg base 3 "apart" fA fdA ["one", "other"] (spD SApart)) (D_law_due : Dn P w K mg base 2 "_law_due" fO fdO ["ones", "others"] (spD SDue)) (D_law_second : Dn P w K mg base 4 "_law_second" fN fdN ["deck", "records", "marks"] (spT (mkRs Dk) SSecond))
    (m_range : mg "range" = none) (m_list : mg "list" = none) : FnOk P w K mg base CX0 6 f fd ["script"] (spLawD K) := by
  refine F.okLaw scLaw (mkRs_ok (Iv := Dk)) fun cdv A outer s H E hr => ?_
  have hu := hr.units
  refine ⟨_, (ss_cons (s_set 1 scLaw.nd (e_call D_law_deck hr (a_cons (e_v 0) a_nil)))
    (ss_cons (s_set 2 scLaw.nd (e_lst a_nil))
    (ss_cons (s_set 3 scLaw.nd (e_call D_law_take hr (a_cons (e_v 1) (a_cons e_int a_nil))))
    (ss_cons (s_for (i_range1 m_range (a_cons (e_call D_law_take hr (a_cons (e_v 1) (a_cons e_int a_nil))) a_nil)) (g_name 4 scLaw.nd) (ss_cons (s_if (t_cmp op_gt (e_call D_law_take hr (a_cons (e_v 1) (a_cons e_int a_nil))) e_int) (ss_one (s_set 3 scLaw.nd (e_call D_law_take hr (a_cons (e_v 1) (a_cons e_int a_nil))))) ss_nil)
      (ss_one (s_expr (e_bm PySem.F.plainAttrs_list PySem.F.slot_list_append PySem.F.type_list_append mt_append (e_v 2) (a_cons (e_tup (a_cons (e_call D_law_take hr (a_cons (e_v 1) (a_cons e_int a_nil))) (a_cons (e_v 3) a_nil))) a_nil))))))
    (ss_cons (s_set 5 scLaw.nd (e_call D_law_records hr (a_cons (e_v 1) (a_cons (e_call D_law_size hr (a_cons (e_v 1) a_nil)) a_nil))))
    (ss_cons (s_set 6 scLaw.nd (e_call D_law_second hr (a_cons (e_v 1) (a_cons (e_v 5) (a_cons (e_v 2) a_nil)))))
    (ss_cons (s_set 7 scLaw.nd (e_call D_law_written hr (a_cons (e_v 1) (a_cons (e_v 5) (a_cons (e_op op_rep (e_lst (a_cons e_int a_nil)) (e_call D_law_take hr (a_cons (e_v 1) (a_cons e_int a_nil)))) a_nil)))))
    (ss_cons (s_set 8 scLaw.nd (e_call D_law_written hr (a_cons (e_v 1) (a_cons (e_v 6) (a_cons (e_op op_rep (e_lst (a_cons e_int a_nil)) (e_call D_law_take hr (a_cons (e_v 1) (a_cons e_int a_nil)))) a_nil)))))
    (ss_cons (s_set 9 scLaw.nd (e_lst (a_cons (e_callTy call_listN m_list PyProof.Rows.boot_list (a_cons (e_v 7) a_nil)) (a_cons (e_callTy call_listN m_list PyProof.Rows.boot_list (a_cons (e_v 8) a_nil)) a_nil))))
    (ss_cons (s_set 10 scLaw.nd (e_call D_law_due hr (a_cons (e_v 5) (a_cons (e_v 6) a_nil))))
    (ss_cons (s_if (t_w (w_or (t_not (t_b (e_call D_law_same hr (a_cons (e_call Dapart hr (a_cons (e_ix (e_v 9) e_int) (a_cons (e_ix (e_v 9) e_int) a_nil))) (a_cons (e_v 10) a_nil))))) (w_or1 (t_not (t_b (e_call D_law_same hr (a_cons (e_call Dapart hr (a_cons (e_ix (e_v 9) e_int) (a_cons (e_ix (e_v 9) e_int) a_nil))) (a_cons (e_v 10) a_nil)))))))) (ss_one (s_ret e_bl)) ss_nil)
    (ss_cons (s_if (t_cmp (op_neU hu) (e_v 9) (e_lst (a_cons (e_v 7) (a_cons (e_v 8) a_nil)))) (ss_one (s_ret e_bl)) ss_nil)
    (ss_cons (s_if (t_w (w_or (t_notN (e_call Dapart hr (a_cons (e_callTy call_listN m_list PyProof.Rows.boot_list (a_cons (e_v 7) a_nil)) (a_cons (e_callTy call_listN m_list PyProof.Rows.boot_list (a_cons (e_v 7) a_nil)) a_nil)))) (w_or1 (t_notN (e_call Dapart hr (a_cons (e_ix (e_v 9) e_int) (a_cons (e_ix (e_v 9) e_int) a_nil))))))) (ss_one (s_ret e_bl)) ss_nil)
    (ss_one (s_ret (e_cmp (op_eqU hu) (e_v 9) (e_lst (a_cons (e_v 7) (a_cons (e_v 8) a_nil))))))))))))))))))), ?_⟩
  clear hu
  (try dsimp only [cxOf, Cx.nox, Cx.wish, blkX, Cx.withX, Cx.marked])
  refine ⟨_, inferInstance, fun ns h63 => ?_⟩
  refine x_rho [_, none, none, none, none, none, none, none, none, none, none] rfl ?_
  repeat array_mem_dec
  refine ⟨ns, rfl, h63, fun a z => z, fun t g ht hg gt => ?_⟩
  have wt : wset (wset W0 g .part) t (.tray g 0) t = some (.tray g 0) := wset_same
  generalize wset (wset W0 g .part) t (.tray g 0) = W1 at wt
  refine x_gnR [_, _, _, _, _, _, _, _, _, _, _] rfl ?_
  repeat array_mem_dec
  refine x_newL (Nat.zero_le _) fun p W2 hp wp fp => ?_
  replace wt := fp.at (ne_new wt hp) wt
  have hpt : p ≠ t := fun z => by rw [z, wt] at wp; cases wp
  clear hp fp
  refine x_gnR [_, _, _, _, _, _, _, _, _, _, _] rfl ?_
  repeat array_mem_dec
  refine x_draw wt (by omega) (by omega) (by omega) fun pl W3 pl0 pl1 wt f3 => ?_
  replace wp := f3.at hpt wp
  refine x_gnR [_, _, _, _, _, _, _, _, _, _, _] rfl ?_
  repeat array_mem_dec
  refine x_join (fun ρ W => ∃ (pl : Int) (u4 : Option DV) (ms : List (Int × Int)) (k : Nat), ρ = [some (.scr ns), some (.pt t), some (.pt p), some (.im (.int pl)), u4, none, none, none, none, none, none] ∧ W p = some (.lst ((ms.map mkD).map .im)) ∧ W t = some (.tray g k) ∧ ms.length ≤ 3 ∧ (∀ x ∈ ms, 0 ≤ x.1 ∧ x.1 < 13 ∧ 0 ≤ x.2) ∧ k ≤ 100) (fun kk jn => ?_) ?_
  · repeat array_mem_dec
    refine x_draw wt (by omega) (by omega) (by omega) fun mn W4 mn0 mn1 wt f4 => ?_
    replace wp := f4.at hpt wp
    repeat array_mem_dec
    refine x_loopR (fun i ρ W => ∃ (pl : Int) (u4 : Option DV) (ms : List (Int × Int)) (k : Nat), ρ = [some (.scr ns), some (.pt t), some (.pt p), some (.im (.int pl)), u4, none, none, none, none, none, none] ∧ W p = some (.lst ((ms.map mkD).map .im)) ∧ W t = some (.tray g k) ∧ ms.length = i ∧ (∀ x ∈ ms, 0 ≤ x.1 ∧ x.1 < 13 ∧ 0 ≤ x.2) ∧ k ≤ 2 + 5 * i ∧ 0 ≤ pl) ⟨pl, _, [], _, rfl, wp, wt, rfl, (fun x hx => by cases hx), by omega, pl0⟩ ?_ ?_
    · clear wp wt
      rintro i ρ W hi ⟨pl, u4, ms, k, rfl, wp, wt, hl, hms, hk, pl0⟩
      have hi3 : i < 3 := by omega
      repeat array_mem_dec
      refine x_join (fun ρ W => ∃ (pl : Int) (k' : Nat), ρ = [some (.scr ns), some (.pt t), some (.pt p), some (.im (.int pl)), some (.im (.int (0 + (i : Nat)))), none, none, none, none, none, none] ∧ W p = some (.lst ((ms.map mkD).map .im)) ∧ W t = some (.tray g k') ∧ 0 ≤ pl ∧ k' ≤ k + 2) (fun kk jn => ?_) ?_
      · repeat array_mem_dec
        refine x_draw wt (by omega) (by omega) (by omega) fun c W5 c0 c1 wt f5 => ?_
        replace wp := f5.at hpt wp
        repeat array_mem_dec
        refine i_d (fun h => ?_) (fun h => ?_)
        · repeat array_mem_dec
          refine x_draw wt (by omega) (by omega) (by omega) fun c W6 c0 c1 wt f6 => ?_
          repeat array_mem_dec
          exact jn _ _ ⟨_, _, rfl, f6.at hpt wp, wt, c0, by omega⟩
        · repeat array_mem_dec
          exact jn _ _ ⟨_, _, rfl, wp, wt, pl0, by omega⟩
      clear wp wt
      rintro ρ W5 ⟨pl', k5, rfl, wp, wt, pl0', hk5⟩
      repeat array_mem_dec
      refine x_draw wt (by omega) (by omega) (by omega) fun c W6 c0 c1 wt f6 => ?_
      replace wp := f6.at hpt wp
      repeat array_mem_dec
      refine x_tupIm (ds := [.int c, .int pl']) (by show 2 ≤ sizeLine; decide) ?_
      repeat array_mem_dec
      refine x_appendA wp (by rw [List.length_map, List.length_map]; exact small9 (by omega)) fun W7 w7 f7 => ?_
      repeat array_mem_dec
      exact ⟨_, _, ms ++ [(c, pl')], _, rfl, by rw [w7]; simp [mkD], f7.at hpt.symm wt, by simp [hl], fun x hx => by
        rcases List.mem_append.mp hx with hx | hx
        · exact hms x hx
        · rw [List.mem_singleton.mp hx]; exact ⟨c0, c1, pl0'⟩, by omega, pl0'⟩
    · rintro ρ W ⟨pl, u4, ms, k, rfl, wp, wt, hl, hms, hk, pl0⟩
      exact jn _ _ ⟨_, _, ms, k, rfl, wp, wt, by omega, hms, by omega⟩
  clear wp wt f3
  rintro ρ W4 ⟨pl, u4, ms, k4, rfl, wp, wt, hml, hms, hk4⟩
  repeat array_mem_dec
  refine x_tray (ds := []) wt rfl ⟨rfl, by omega, fun sz n6 hsz hn6 => ⟨rfl, x_rim ?_⟩⟩
  replace wp : wset W4 t (.tray g n6) p = _ := (wset_ne hpt).trans wp
  replace wt : wset W4 t (.tray g n6) t = some (.tray g n6) := wset_same
  generalize wset W4 t (.tray g n6) = W6 at wt wp
  repeat array_mem_dec
  refine x_trayI (ds := [.int sz]) wt ⟨sz, rfl, hsz, by omega, fun rs n7 hrl hrs hn7 => x_rnF ?_⟩
  replace wp : wset W6 t (.tray g n7) p = _ := (wset_ne hpt).trans wp
  replace wt : wset W6 t (.tray g n7) t = some (.tray g n7) := wset_same
  generalize wset W6 t (.tray g n7) = W7 at wt wp
  refine x_gnR [_, _, _, _, _, _, _, _, _, _, _] rfl ?_
  repeat array_mem_dec
  have ef : frzL (frz 4) W7 [.im (.list (rs.map recD)), .pt p] = some ([.list (rs.map recD), .list (ms.map mkD)], wdel W7 p) := by
    have e1 : frz 4 W7 (.pt p) = some (.list (ms.map mkD), wdel W7 p) := by
      unfold frz
      rw [wp]
      show (frzL (frz 3) (wdel W7 p) ((ms.map mkD).map .im)).map _ = _
      rw [frzL_im (fun _ _ => rfl)]; rfl
    show ((frz 4 W7 (.im (.list (rs.map recD)))).bind fun x => (((frz 4 x.2 (.pt p)).bind fun y => (frzL (frz 4) y.2 []).map fun z => (y.1 :: z.1, z.2)).map fun z => (x.1 :: z.1, z.2))) = _
    show ((frz 4 W7 (.pt p)).bind fun y => (frzL (frz 4) y.2 []).map fun z => (y.1 :: z.1, z.2)).map _ = _
    rw [e1]; rfl
  have wt' : wdel W7 p t = some (.tray g n7) := (wdel_ne hpt.symm).trans wt
  refine ⟨t, g, n7, _, rfl, wt, .inr ⟨_, _, ef, wt', rs, ms, rfl, by omega, hrs, hml, hms, by omega, fun ss n8 hsl hss hn8 => x_rnF ?_⟩⟩
  clear wt wp ef
  have wt : wset (wdel W7 p) t (.tray g n8) t = some (.tray g n8) := wset_same
  clear wt'
  generalize wset (wdel W7 p) t (.tray g n8) = W8 at wt
  refine x_gnR [_, _, _, _, _, _, _, _, _, _, _] rfl ?_
  repeat array_mem_dec
  refine x_newF (ds := [.int 1]) (by show 1 ≤ sizeLine; decide) ?_
  repeat array_mem_dec
  refine x_draw wt (by omega) (by omega) (by omega) fun tn W9 t0 t1 wt f9 => ?_
  refine x_rep (vs := [.im (.int 1)]) rfl (by omega) (by omega) (Nat.le_of_lt (small1000 (by show 1 * tn.toNat ≤ _; omega))) ?_
  rw [show (List.replicate tn.toNat [DV.im (PyData.int 1)]).flatten = ((List.replicate tn.toNat (1 : Int)).map PyData.int).map DV.im by simp]
  have htl : (List.replicate tn.toNat (1 : Int)).length ≤ 5 := by rw [List.length_replicate]; omega
  generalize List.replicate tn.toNat (1 : Int) = tail at htl
  refine n_dat ?_
  repeat array_mem_dec
  have hrs5 : ∀ r ∈ rs, RecN 5 r := fun r h => (hrs r h).up (by decide)
  refine x_trayI (ds := [.list (rs.map recD), .list (tail.map .int)]) wt ⟨rs, tail, rfl, by omega, by omega, hrs5, by omega, fun es n10 hG hn10 => x_rnF ?_⟩
  replace wt : wset W9 t (.tray g n10) t = some (.tray g n10) := wset_same
  generalize wset W9 t (.tray g n10) = W10 at wt
  refine x_gnR [_, _, _, _, _, _, _, _, _, _, _] rfl ?_
  repeat array_mem_dec
  refine x_newF (ds := [.int 2]) (by show 1 ≤ sizeLine; decide) ?_
  repeat array_mem_dec
  refine x_draw wt (by omega) (by omega) (by omega) fun tn' W11 t0' t1' wt f11 => ?_
  refine x_rep (vs := [.im (.int 2)]) rfl (by omega) (by omega) (Nat.le_of_lt (small1000 (by show 1 * tn'.toNat ≤ _; omega))) ?_
  rw [show (List.replicate tn'.toNat [DV.im (PyData.int 2)]).flatten = ((List.replicate tn'.toNat (2 : Int)).map PyData.int).map DV.im by simp]
  have htl' : (List.replicate tn'.toNat (2 : Int)).length ≤ 5 := by rw [List.length_replicate]; omega
  generalize List.replicate tn'.toNat (2 : Int) = tail' at htl'
  refine n_dat ?_
  repeat array_mem_dec
  refine x_trayI (ds := [.list (ss.map recD), .list (tail'.map .int)]) wt ⟨ss, tail', rfl, by omega, by omega, hss, by omega, fun fs n12 hG' hn12 => x_rnF ?_⟩
  replace wt : wset W11 t (.tray g n12) t = some (.tray g n12) := wset_same
  generalize wset W11 t (.tray g n12) = W12 at wt
  refine x_gnR [_, _, _, _, _, _, _, _, _, _, _] rfl ?_
  repeat array_mem_dec
  refine x_listL (n_dat ?_)
  repeat array_mem_dec
  refine x_listL (n_dat ?_)
  repeat array_mem_dec
  refine x_newF (ds := [.list (es.map evD), .list (fs.map evD)]) (by show 2 ≤ sizeLine; decide) ?_
  refine x_gnR [_, _, _, _, _, _, _, _, _, _, _] rfl ?_
  repeat array_mem_dec
  refine x_pureI (ds := [.list (rs.map recD), .list (ss.map recD)]) ⟨rs, ss, rfl, hrs5, hss, by omega, hsl, x_rim ?_⟩
  refine x_gnR [_, _, _, _, _, _, _, _, _, _, _] rfl ?_
  obtain ⟨ac, ad, asm⟩ := apR_can rs ss
  have ce := hG.can hrs5
  have cf := hG'.can hss
  have cB : (PyData.list [evL es, evL fs]).canLay0 = true := by
    show (PyData.canLay0 (evL es) && (PyData.canLay0 (evL fs) && true)) = true
    rw [ce, cf]; rfl
  have dB : (PyData.list [evL es, evL fs]).depth ≤ 64 := by
    have h1 := depth_evs es
    have h2 := depth_evs fs
    simp only [evL, PyData.depth, PyData.depthAll]; omega
  refine x_seq ?_
  repeat array_mem_dec
  refine x_ixL (D := evL es) rfl ?_
  repeat array_mem_dec
  refine x_ixL (D := evL fs) rfl ?_
  repeat array_mem_dec
  refine x_pureI (ds := [evL es, evL fs]) ⟨rs, ss, tail, tail', es, fs, rfl, hG, hG', hrs5, hss, x_rim ?_⟩
  repeat array_mem_dec
  refine x_pureI (ds := [apR rs ss, apR rs ss]) ⟨_, rfl, ad, asm, ac, x_rim ?_⟩
  repeat array_mem_dec
  refine x_ixL (D := evL fs) rfl ?_
  repeat array_mem_dec
  refine x_ixL (D := evL es) rfl ?_
  repeat array_mem_dec
  refine x_pureI (ds := [evL fs, evL es]) ⟨ss, rs, tail', tail, fs, es, rfl, hG', hG, hss, hrs5, x_rim ?_⟩
  rw [apR_symm rs ss]
  repeat array_mem_dec
  refine x_pureI (ds := [apR rs ss, apR rs ss]) ⟨_, rfl, ad, asm, ac, x_rim ?_⟩
  repeat array_mem_dec
  refine x_seq ?_
  repeat array_mem_dec
  refine x_newF (ds := [.list (es.map evD), .list (fs.map evD)]) (by show 2 ≤ sizeLine; decide) ?_
  refine x_neT (d1 := .list [evL es, evL fs]) rfl rfl cB dB ?_
  repeat array_mem_dec
  refine x_seq ?_
  repeat array_mem_dec
  refine x_listL (n_dat ?_)
  repeat array_mem_dec
  refine x_listL (n_dat ?_)
  repeat array_mem_dec
  refine x_pureI (ds := [evL es, evL es]) ⟨rs, rs, tail, tail, es, es, rfl, hG, hG, hrs5, hrs5, x_rim ?_⟩
  rw [apR_self rs]
  repeat array_mem_dec
  refine i_F ?_
  repeat array_mem_dec
  refine x_ixL (D := evL fs) rfl ?_
  repeat array_mem_dec
  refine x_ixL (D := evL fs) rfl ?_
  repeat array_mem_dec
  refine x_pureI (ds := [evL fs, evL fs]) ⟨ss, ss, tail', tail', fs, fs, rfl, hG', hG', hss, hss, x_rim ?_⟩
  rw [apR_self ss]
  repeat array_mem_dec
  refine i_F ?_
  repeat array_mem_dec
  refine x_newF (ds := [.list (es.map evD), .list (fs.map evD)]) (by show 2 ≤ sizeLine; decide) ?_
  exact x_eqT (d1 := .list [evL es, evL fs]) rfl rfl cB dB rfl
end
theorem list_of1 {α : Type} (us : List α) (hl : us.length = 1) : ∃ a0, us = [a0] := by
  cases us with
  | nil => cases hl
  | cons a r =>
    have e : r = [] := List.length_eq_zero_iff.mp (Nat.succ.inj hl)
    exact ⟨a, by rw [e]⟩
theorem list_of2 {α : Type} (us : List α) (hl : us.length = 2) : ∃ a0 a1, us = [a0, a1] := by
  cases us with
  | nil => cases hl
  | cons a r =>
    obtain ⟨a0, e⟩ := list_of1 r (Nat.succ.inj hl)
    exact ⟨a, a0, by rw [e]⟩
theorem list_of3 {α : Type} (us : List α) (hl : us.length = 3) : ∃ a0 a1 a2, us = [a0, a1, a2] := by
  cases us with
  | nil => cases hl
  | cons a r =>
    obtain ⟨a0, a1, e⟩ := list_of2 r (Nat.succ.inj hl)
    exact ⟨a, a0, a1, by rw [e]⟩
theorem list_of4 {α : Type} (us : List α) (hl : us.length = 4) : ∃ a0 a1 a2 a3, us = [a0, a1, a2, a3] := by
  cases us with
  | nil => cases hl
  | cons a r =>
    obtain ⟨a0, a1, a2, e⟩ := list_of3 r (Nat.succ.inj hl)
    exact ⟨a, a0, a1, a2, by rw [e]⟩
theorem list_of5 {α : Type} (us : List α) (hl : us.length = 5) : ∃ a0 a1 a2 a3 a4, us = [a0, a1, a2, a3, a4] := by
  cases us with
  | nil => cases hl
  | cons a r =>
    obtain ⟨a0, a1, a2, a3, e⟩ := list_of4 r (Nat.succ.inj hl)
    exact ⟨a, a0, a1, a2, a3, by rw [e]⟩
theorem all_mk {l : PySem.W.OpenLaw} {w : World} {K : PySem.W.Frag} {h : Heap} {mg : Str → Option Value} {fa : Addr} (X : K.In h) (G : h.Ns mainGlobals mg) (hfa : mg "law" = some (.ref fa))
    {od1 an1 : Option Addr} {sl1 : Array (Option Value)} {oc1 kV1 dc1 pm1 cd1 ct1 : Value} {f1 : Addr} {od2 an2 : Option Addr} {sl2 : Array (Option Value)} {oc2 kV2 dc2 pm2 cd2 ct2 : Value} {f2 : Addr} {od3 an3 : Option Addr} {sl3 : Array (Option Value)} {oc3 kV3 dc3 pm3 cd3 ct3 : Value} {f3 : Addr} {od4 an4 : Option Addr} {sl4 : Array (Option Value)} {oc4 kV4 dc4 pm4 cd4 ct4 : Value} {f4 : Addr} {od5 an5 : Option Addr} {sl5 : Array (Option Value)} {oc5 kV5 dc5 pm5 cd5 ct5 : Value} {f5 : Addr} {od6 an6 : Option Addr} {sl6 : Array (Option Value)} {oc6 kV6 dc6 pm6 cd6 ct6 : Value} {f6 : Addr} {od7 an7 : Option Addr} {sl7 : Array (Option Value)} {oc7 kV7 dc7 pm7 cd7 ct7 : Value} {f7 : Addr} {od8 an8 : Option Addr} {sl8 : Array (Option Value)} {oc8 kV8 dc8 pm8 cd8 ct8 : Value} {f8 : Addr} {od9 an9 : Option Addr} {sl9 : Array (Option Value)} {oc9 kV9 dc9 pm9 cd9 ct9 : Value} {f9 : Addr} {od10 an10 : Option Addr} {sl10 : Array (Option Value)} {oc10 kV10 dc10 pm10 cd10 ct10 : Value} {f10 : Addr} {od11 an11 : Option Addr} {sl11 : Array (Option Value)} {oc11 kV11 dc11 pm11 cd11 ct11 : Value} {f11 : Addr} {od12 an12 : Option Addr} {sl12 : Array (Option Value)} {oc12 kV12 dc12 pm12 cd12 ct12 : Value} {f12 : Addr} {od13 an13 : Option Addr} {sl13 : Array (Option Value)} {oc13 kV13 dc13 pm13 cd13 ct13 : Value} {f13 : Addr} {od14 an14 : Option Addr} {sl14 : Array (Option Value)} {oc14 kV14 dc14 pm14 cd14 ct14 : Value} {f14 : Addr} {od15 an15 : Option Addr} {sl15 : Array (Option Value)} {oc15 kV15 dc15 pm15 cd15 ct15 : Value} {f15 : Addr} {od16 an16 : Option Addr} {sl16 : Array (Option Value)} {oc16 kV16 dc16 pm16 cd16 ct16 : Value} {f16 : Addr} {od17 an17 : Option Addr} {sl17 : Array (Option Value)} {oc17 kV17 dc17 pm17 cd17 ct17 : Value} {f17 : Addr} {od18 an18 : Option Addr} {sl18 : Array (Option Value)} {oc18 kV18 dc18 pm18 cd18 ct18 : Value} {f18 : Addr} {od19 an19 : Option Addr} {sl19 : Array (Option Value)} {oc19 kV19 dc19 pm19 cd19 ct19 : Value} {f19 : Addr} {od20 an20 : Option Addr} {sl20 : Array (Option Value)} {oc20 kV20 dc20 pm20 cd20 ct20 : Value} {f20 : Addr} {od21 an21 : Option Addr} {sl21 : Array (Option Value)} {oc21 kV21 dc21 pm21 cd21 ct21 : Value} {f21 : Addr} {od22 an22 : Option Addr} {sl22 : Array (Option Value)} {oc22 kV22 dc22 pm22 cd22 ct22 : Value} {f22 : Addr} 
    (a1 : PySem.W.nsIn K mainGlobals "thing_of" = some (some (.ref f1))) (l1 : K.lookup f1 = some ⟨oc1, od1, .func (PySem.W.fnOf "thing_of" "thing_of" (defArgs sThing) (defBody sThing) (defScope sThing) .none kV1 dc1 pm1 an1 cd1 ct1), sl1⟩) (c1 : PySem.W.codeIn K cd1 "thing_of" = true) (k1 : PySem.W.keepIn K (.ref f1) = true)
    (a2 : PySem.W.nsIn K mainGlobals "settled" = some (some (.ref f2))) (l2 : K.lookup f2 = some ⟨oc2, od2, .func (PySem.W.fnOf "settled" "settled" (defArgs sSettled) (defBody sSettled) (defScope sSettled) .none kV2 dc2 pm2 an2 cd2 ct2), sl2⟩) (c2 : PySem.W.codeIn K cd2 "settled" = true) (k2 : PySem.W.keepIn K (.ref f2) = true)
    (a3 : PySem.W.nsIn K mainGlobals "bells_ahead" = some (some (.ref f3))) (l3 : K.lookup f3 = some ⟨oc3, od3, .func (PySem.W.fnOf "bells_ahead" "bells_ahead" (defArgs sAhead) (defBody sAhead) (defScope sAhead) .none kV3 dc3 pm3 an3 cd3 ct3), sl3⟩) (c3 : PySem.W.codeIn K cd3 "bells_ahead" = true) (k3 : PySem.W.keepIn K (.ref f3) = true)
    (a4 : PySem.W.nsIn K mainGlobals "are_worths_unlike" = some (some (.ref f4))) (l4 : K.lookup f4 = some ⟨oc4, od4, .func (PySem.W.fnOf "are_worths_unlike" "are_worths_unlike" (defArgs sUnlike) (defBody sUnlike) (defScope sUnlike) .none kV4 dc4 pm4 an4 cd4 ct4), sl4⟩) (c4 : PySem.W.codeIn K cd4 "are_worths_unlike" = true) (k4 : PySem.W.keepIn K (.ref f4) = true)
    (a5 : PySem.W.nsIn K mainGlobals "cause_between" = some (some (.ref f5))) (l5 : K.lookup f5 = some ⟨oc5, od5, .func (PySem.W.fnOf "cause_between" "cause_between" (defArgs sCause) (defBody sCause) (defScope sCause) .none kV5 dc5 pm5 an5 cd5 ct5), sl5⟩) (c5 : PySem.W.codeIn K cd5 "cause_between" = true) (k5 : PySem.W.keepIn K (.ref f5) = true)
    (a6 : PySem.W.nsIn K mainGlobals "apart" = some (some (.ref f6))) (l6 : K.lookup f6 = some ⟨oc6, od6, .func (PySem.W.fnOf "apart" "apart" (defArgs sApart) (defBody sApart) (defScope sApart) .none kV6 dc6 pm6 an6 cd6 ct6), sl6⟩) (c6 : PySem.W.codeIn K cd6 "apart" = true) (k6 : PySem.W.keepIn K (.ref f6) = true)
    (a7 : PySem.W.nsIn K mainGlobals "_law_deck" = some (some (.ref f7))) (l7 : K.lookup f7 = some ⟨oc7, od7, .func (PySem.W.fnOf "_law_deck" "_law_deck" (defArgs sDeck) (defBody sDeck) (defScope sDeck) .none kV7 dc7 pm7 an7 cd7 ct7), sl7⟩) (c7 : PySem.W.codeIn K cd7 "_law_deck" = true) (k7 : PySem.W.keepIn K (.ref f7) = true)
    (a8 : PySem.W.nsIn K mainGlobals "_law_take" = some (some (.ref f8))) (l8 : K.lookup f8 = some ⟨oc8, od8, .func (PySem.W.fnOf "_law_take" "_law_take" (defArgs sTake) (defBody sTake) (defScope sTake) .none kV8 dc8 pm8 an8 cd8 ct8), sl8⟩) (c8 : PySem.W.codeIn K cd8 "_law_take" = true) (k8 : PySem.W.keepIn K (.ref f8) = true)
    (a9 : PySem.W.nsIn K mainGlobals "_law_same" = some (some (.ref f9))) (l9 : K.lookup f9 = some ⟨oc9, od9, .func (PySem.W.fnOf "_law_same" "_law_same" (defArgs sSame) (defBody sSame) (defScope sSame) .none kV9 dc9 pm9 an9 cd9 ct9), sl9⟩) (c9 : PySem.W.codeIn K cd9 "_law_same" = true) (k9 : PySem.W.keepIn K (.ref f9) = true)
    (a10 : PySem.W.nsIn K mainGlobals "_law_place" = some (some (.ref f10))) (l10 : K.lookup f10 = some ⟨oc10, od10, .func (PySem.W.fnOf "_law_place" "_law_place" (defArgs sPlace) (defBody sPlace) (defScope sPlace) .none kV10 dc10 pm10 an10 cd10 ct10), sl10⟩) (c10 : PySem.W.codeIn K cd10 "_law_place" = true) (k10 : PySem.W.keepIn K (.ref f10) = true)
    (a11 : PySem.W.nsIn K mainGlobals "_law_bell" = some (some (.ref f11))) (l11 : K.lookup f11 = some ⟨oc11, od11, .func (PySem.W.fnOf "_law_bell" "_law_bell" (defArgs sBellN) (defBody sBellN) (defScope sBellN) .none kV11 dc11 pm11 an11 cd11 ct11), sl11⟩) (c11 : PySem.W.codeIn K cd11 "_law_bell" = true) (k11 : PySem.W.keepIn K (.ref f11) = true)
    (a12 : PySem.W.nsIn K mainGlobals "_law_worth" = some (some (.ref f12))) (l12 : K.lookup f12 = some ⟨oc12, od12, .func (PySem.W.fnOf "_law_worth" "_law_worth" (defArgs sWorthN) (defBody sWorthN) (defScope sWorthN) .none kV12 dc12 pm12 an12 cd12 ct12), sl12⟩) (c12 : PySem.W.codeIn K cd12 "_law_worth" = true) (k12 : PySem.W.keepIn K (.ref f12) = true)
    (a13 : PySem.W.nsIn K mainGlobals "_law_records" = some (some (.ref f13))) (l13 : K.lookup f13 = some ⟨oc13, od13, .func (PySem.W.fnOf "_law_records" "_law_records" (defArgs sRecs) (defBody sRecs) (defScope sRecs) .none kV13 dc13 pm13 an13 cd13 ct13), sl13⟩) (c13 : PySem.W.codeIn K cd13 "_law_records" = true) (k13 : PySem.W.keepIn K (.ref f13) = true)
    (a14 : PySem.W.nsIn K mainGlobals "_law_end_wrote" = some (some (.ref f14))) (l14 : K.lookup f14 = some ⟨oc14, od14, .func (PySem.W.fnOf "_law_end_wrote" "_law_end_wrote" (defArgs sEndW) (defBody sEndW) (defScope sEndW) .none kV14 dc14 pm14 an14 cd14 ct14), sl14⟩) (c14 : PySem.W.codeIn K cd14 "_law_end_wrote" = true) (k14 : PySem.W.keepIn K (.ref f14) = true)
    (a15 : PySem.W.nsIn K mainGlobals "_law_beat" = some (some (.ref f15))) (l15 : K.lookup f15 = some ⟨oc15, od15, .func (PySem.W.fnOf "_law_beat" "_law_beat" (defArgs sBeat) (defBody sBeat) (defScope sBeat) .none kV15 dc15 pm15 an15 cd15 ct15), sl15⟩) (c15 : PySem.W.codeIn K cd15 "_law_beat" = true) (k15 : PySem.W.keepIn K (.ref f15) = true)
    (a16 : PySem.W.nsIn K mainGlobals "_law_down" = some (some (.ref f16))) (l16 : K.lookup f16 = some ⟨oc16, od16, .func (PySem.W.fnOf "_law_down" "_law_down" (defArgs sDown) (defBody sDown) (defScope sDown) .none kV16 dc16 pm16 an16 cd16 ct16), sl16⟩) (c16 : PySem.W.codeIn K cd16 "_law_down" = true) (k16 : PySem.W.keepIn K (.ref f16) = true)
    (a17 : PySem.W.nsIn K mainGlobals "_law_written" = some (some (.ref f17))) (l17 : K.lookup f17 = some ⟨oc17, od17, .func (PySem.W.fnOf "_law_written" "_law_written" (defArgs sWritten) (defBody sWritten) (defScope sWritten) .none kV17 dc17 pm17 an17 cd17 ct17), sl17⟩) (c17 : PySem.W.codeIn K cd17 "_law_written" = true) (k17 : PySem.W.keepIn K (.ref f17) = true)
    (a18 : PySem.W.nsIn K mainGlobals "_law_size" = some (some (.ref f18))) (l18 : K.lookup f18 = some ⟨oc18, od18, .func (PySem.W.fnOf "_law_size" "_law_size" (defArgs sSize) (defBody sSize) (defScope sSize) .none kV18 dc18 pm18 an18 cd18 ct18), sl18⟩) (c18 : PySem.W.codeIn K cd18 "_law_size" = true) (k18 : PySem.W.keepIn K (.ref f18) = true)
    (a19 : PySem.W.nsIn K mainGlobals "_law_spoilt_end" = some (some (.ref f19))) (l19 : K.lookup f19 = some ⟨oc19, od19, .func (PySem.W.fnOf "_law_spoilt_end" "_law_spoilt_end" (defArgs sSpoilt) (defBody sSpoilt) (defScope sSpoilt) .none kV19 dc19 pm19 an19 cd19 ct19), sl19⟩) (c19 : PySem.W.codeIn K cd19 "_law_spoilt_end" = true) (k19 : PySem.W.keepIn K (.ref f19) = true)
    (a20 : PySem.W.nsIn K mainGlobals "_law_second" = some (some (.ref f20))) (l20 : K.lookup f20 = some ⟨oc20, od20, .func (PySem.W.fnOf "_law_second" "_law_second" (defArgs sSecond) (defBody sSecond) (defScope sSecond) .none kV20 dc20 pm20 an20 cd20 ct20), sl20⟩) (c20 : PySem.W.codeIn K cd20 "_law_second" = true) (k20 : PySem.W.keepIn K (.ref f20) = true)
    (a21 : PySem.W.nsIn K mainGlobals "_law_due" = some (some (.ref f21))) (l21 : K.lookup f21 = some ⟨oc21, od21, .func (PySem.W.fnOf "_law_due" "_law_due" (defArgs sDue) (defBody sDue) (defScope sDue) .none kV21 dc21 pm21 an21 cd21 ct21), sl21⟩) (c21 : PySem.W.codeIn K cd21 "_law_due" = true) (k21 : PySem.W.keepIn K (.ref f21) = true)
    (a22 : PySem.W.nsIn K mainGlobals "law" = some (some (.ref f22))) (l22 : K.lookup f22 = some ⟨oc22, od22, .func (PySem.W.fnOf "law" "law" (defArgs sLaw) (defBody sLaw) (defScope sLaw) .none kV22 dc22 pm22 an22 cd22 ct22), sl22⟩) (c22 : PySem.W.codeIn K cd22 "law" = true) (k22 : PySem.W.keepIn K (.ref f22) = true)
    
    (z1 : PySem.W.nsIn K mainGlobals "isinstance" = some none) (z2 : PySem.W.nsIn K mainGlobals "int" = some none) (z3 : PySem.W.nsIn K mainGlobals "bool" = some none) (z4 : PySem.W.nsIn K mainGlobals "list" = some none) (z5 : PySem.W.nsIn K mainGlobals "tuple" = some none) (z6 : PySem.W.nsIn K mainGlobals "len" = some none) (z7 : PySem.W.nsIn K mainGlobals "range" = some none) (z8 : PySem.W.nsIn K mainGlobals "min" = some none) (z9 : PySem.W.nsIn K mainGlobals "abs" = some none) (z10 : PySem.W.nsIn K mainGlobals "zip" = some none) (z11 : PySem.W.nsIn K mainGlobals "all" = some none) (z12 : PySem.W.nsIn K mainGlobals "reversed" = some none) (z13 : PySem.W.nsIn K mainGlobals "max" = some none) :
    ∃ fd : FuncData, (∀ (s : Shared) (v : Value), BindsTo s fd ⟨[v], []⟩ [("script", v)]) ∧ ∀ base : Heap, K.In base → base.Ns mainGlobals mg → FnOk l.prog w K mg base CX0 6 fa fd ["script"] (spLaw K) := by
  have e := hfa.symm.trans (PySem.W.mg_of X G a22)
  cases e
  have F1 := fun_mk (st := sThing) l1 c1 k1
  have b1 := F1.binds (ps := ["wrote"]) fun _ _ _ _ _ _ us hl => by obtain ⟨_, rfl⟩ := list_of1 us hl; rfl
  have m1 := PySem.W.mg_of X G a1
  have F2 := fun_mk (st := sSettled) l2 c2 k2
  have b2 := F2.binds (ps := ["diary"]) fun _ _ _ _ _ _ us hl => by obtain ⟨_, rfl⟩ := list_of1 us hl; rfl
  have m2 := PySem.W.mg_of X G a2
  have F3 := fun_mk (st := sAhead) l3 c3 k3
  have b3 := F3.binds (ps := ["diary"]) fun _ _ _ _ _ _ us hl => by obtain ⟨_, rfl⟩ := list_of1 us hl; rfl
  have m3 := PySem.W.mg_of X G a3
  have F4 := fun_mk (st := sUnlike) l4 c4 k4
  have b4 := F4.binds (ps := ["wrote", "written"]) fun _ _ _ _ _ _ us hl => by obtain ⟨_, _, rfl⟩ := list_of2 us hl; rfl
  have m4 := PySem.W.mg_of X G a4
  have F5 := fun_mk (st := sCause) l5 c5 k5
  have b5 := F5.binds (ps := ["bells", "others", "end", "ended"]) fun _ _ _ _ _ _ us hl => by obtain ⟨_, _, _, _, rfl⟩ := list_of4 us hl; rfl
  have m5 := PySem.W.mg_of X G a5
  have F6 := fun_mk (st := sApart) l6 c6 k6
  have b6 := F6.binds (ps := ["one", "other"]) fun _ _ _ _ _ _ us hl => by obtain ⟨_, _, rfl⟩ := list_of2 us hl; rfl
  have m6 := PySem.W.mg_of X G a6
  have F7 := fun_mk (st := sDeck) l7 c7 k7
  have b7 := F7.binds (ps := ["script"]) fun _ _ _ _ _ _ us hl => by obtain ⟨_, rfl⟩ := list_of1 us hl; rfl
  have m7 := PySem.W.mg_of X G a7
  have F8 := fun_mk (st := sTake) l8 c8 k8
  have b8 := F8.binds (ps := ["deck", "many"]) fun _ _ _ _ _ _ us hl => by obtain ⟨_, _, rfl⟩ := list_of2 us hl; rfl
  have m8 := PySem.W.mg_of X G a8
  have F9 := fun_mk (st := sSame) l9 c9 k9
  have b9 := F9.binds (ps := ["found", "due"]) fun _ _ _ _ _ _ us hl => by obtain ⟨_, _, rfl⟩ := list_of2 us hl; rfl
  have m9 := PySem.W.mg_of X G a9
  have F10 := fun_mk (st := sPlace) l10 c10 k10
  have b10 := F10.binds (ps := ["deck"]) fun _ _ _ _ _ _ us hl => by obtain ⟨_, rfl⟩ := list_of1 us hl; rfl
  have m10 := PySem.W.mg_of X G a10
  have F11 := fun_mk (st := sBellN) l11 c11 k11
  have b11 := F11.binds (ps := ["deck"]) fun _ _ _ _ _ _ us hl => by obtain ⟨_, rfl⟩ := list_of1 us hl; rfl
  have m11 := PySem.W.mg_of X G a11
  have F12 := fun_mk (st := sWorthN) l12 c12 k12
  have b12 := F12.binds (ps := ["deck"]) fun _ _ _ _ _ _ us hl => by obtain ⟨_, rfl⟩ := list_of1 us hl; rfl
  have m12 := PySem.W.mg_of X G a12
  have F13 := fun_mk (st := sRecs) l13 c13 k13
  have b13 := F13.binds (ps := ["deck", "most"]) fun _ _ _ _ _ _ us hl => by obtain ⟨_, _, rfl⟩ := list_of2 us hl; rfl
  have m13 := PySem.W.mg_of X G a13
  have F14 := fun_mk (st := sEndW) l14 c14 k14
  have b14 := F14.binds (ps := ["record", "told"]) fun _ _ _ _ _ _ us hl => by obtain ⟨_, _, rfl⟩ := list_of2 us hl; rfl
  have m14 := PySem.W.mg_of X G a14
  have F15 := fun_mk (st := sBeat) l15 c15 k15
  have b15 := F15.binds (ps := ["deck", "beat", "falls"]) fun _ _ _ _ _ _ us hl => by obtain ⟨_, _, _, rfl⟩ := list_of3 us hl; rfl
  have m15 := PySem.W.mg_of X G a15
  have F16 := fun_mk (st := sDown) l16 c16 k16
  have b16 := F16.binds (ps := ["deck", "record", "n", "beat"]) fun _ _ _ _ _ _ us hl => by obtain ⟨_, _, _, _, rfl⟩ := list_of4 us hl; rfl
  have m16 := PySem.W.mg_of X G a16
  have F17 := fun_mk (st := sWritten) l17 c17 k17
  have b17 := F17.binds (ps := ["deck", "records", "tail"]) fun _ _ _ _ _ _ us hl => by obtain ⟨_, _, _, rfl⟩ := list_of3 us hl; rfl
  have m17 := PySem.W.mg_of X G a17
  have F18 := fun_mk (st := sSize) l18 c18 k18
  have b18 := F18.binds (ps := ["deck"]) fun _ _ _ _ _ _ us hl => by obtain ⟨_, rfl⟩ := list_of1 us hl; rfl
  have m18 := PySem.W.mg_of X G a18
  have F19 := fun_mk (st := sSpoilt) l19 c19 k19
  have b19 := F19.binds (ps := ["deck", "record", "way"]) fun _ _ _ _ _ _ us hl => by obtain ⟨_, _, _, rfl⟩ := list_of3 us hl; rfl
  have m19 := PySem.W.mg_of X G a19
  have F20 := fun_mk (st := sSecond) l20 c20 k20
  have b20 := F20.binds (ps := ["deck", "records", "marks"]) fun _ _ _ _ _ _ us hl => by obtain ⟨_, _, _, rfl⟩ := list_of3 us hl; rfl
  have m20 := PySem.W.mg_of X G a20
  have F21 := fun_mk (st := sDue) l21 c21 k21
  have b21 := F21.binds (ps := ["ones", "others"]) fun _ _ _ _ _ _ us hl => by obtain ⟨_, _, rfl⟩ := list_of2 us hl; rfl
  have m21 := PySem.W.mg_of X G a21
  have F22 := fun_mk (st := sLaw) l22 c22 k22
  have b22 := F22.binds (ps := ["script"]) fun _ _ _ _ _ _ us hl => by obtain ⟨_, rfl⟩ := list_of1 us hl; rfl
  have m22 := PySem.W.mg_of X G a22
  have m_isinstance := PySem.W.mg_none_of X G z1
  have m_int := PySem.W.mg_none_of X G z2
  have m_bool := PySem.W.mg_none_of X G z3
  have m_list := PySem.W.mg_none_of X G z4
  have m_tuple := PySem.W.mg_none_of X G z5
  have m_len := PySem.W.mg_none_of X G z6
  have m_range := PySem.W.mg_none_of X G z7
  have m_min := PySem.W.mg_none_of X G z8
  have m_abs := PySem.W.mg_none_of X G z9
  have m_zip := PySem.W.mg_none_of X G z10
  have m_all := PySem.W.mg_none_of X G z11
  have m_reversed := PySem.W.mg_none_of X G z12
  have m_max := PySem.W.mg_none_of X G z13
  refine ⟨PySem.W.fnOf "law" "law" (defArgs sLaw) (defBody sLaw) (defScope sLaw) .none kV22 dc22 pm22 an22 cd22 ct22, fun s v => .of_eq rfl, fun base _ _ => ?_⟩
  have D8 : Dn l.prog w K mg base 1 "_law_take" f8 _ ["deck", "many"] (spT (mkRs Dk) SDraw) := ⟨ok_take F8, b8, k8, m8⟩
  have D10 : Dn l.prog w K mg base 2 "_law_place" f10 _ ["deck"] (spT (mkRs Dk) SAnyI) := ⟨ok_place F10 D8 m_int, b10, k10, m10⟩
  have D11 : Dn l.prog w K mg base 2 "_law_bell" f11 _ ["deck"] (spT (mkRs Dk) SAnyI) := ⟨ok_belln F11 D8, b11, k11, m11⟩
  have D12 : Dn l.prog w K mg base 2 "_law_worth" f12 _ ["deck"] (spT (mkRs Dk) SAnyI) := ⟨ok_worthn F12 D8, b12, k12, m12⟩
  have D13 : Dn l.prog w K mg base 3 "_law_records" f13 _ ["deck", "most"] (spT (mkRs Dk) SRecs) := ⟨ok_recs F13 D8 D11 D10 D12 m_range m_min m_int, b13, k13, m13⟩
  have D14 : Dn l.prog w K mg base 1 "_law_end_wrote" f14 _ ["record", "told"] (spD SEndW) := ⟨ok_endw F14, b14, k14, m14⟩
  have D15 : Dn l.prog w K mg base 2 "_law_beat" f15 _ ["deck", "beat", "falls"] (spT (mkRs Dk) SBeat) := ⟨ok_beat F15 D8 m_int, b15, k15, m15⟩
  have D16 : Dn l.prog w K mg base 3 "_law_down" f16 _ ["deck", "record", "n", "beat"] (spT (mkRs Dk) SDown) := ⟨ok_down F16 D8 D12, b16, k16, m16⟩
  have D17 : Dn l.prog w K mg base 4 "_law_written" f17 _ ["deck", "records", "tail"] (spT (mkRs Dk) SWritten) := ⟨ok_written F17 D8 D15 D14 D16 m_range m_len m_reversed, b17, k17, m17⟩
  have D1 : Dn l.prog w K mg base 1 "thing_of" f1 _ ["wrote"] (spD SThing) := ⟨ok_thing F1, b1, k1, m1⟩
  have D2 : Dn l.prog w K mg base 1 "settled" f2 _ ["diary"] (spD SSettled) := ⟨ok_settled F2, b2, k2, m2⟩
  have D3 : Dn l.prog w K mg base 1 "bells_ahead" f3 _ ["diary"] (spD SAhead) := ⟨ok_ahead F3, b3, k3, m3⟩
  have D4 : Dn l.prog w K mg base 1 "are_worths_unlike" f4 _ ["wrote", "written"] (spD SUnlike) := ⟨ok_unlike F4, b4, k4, m4⟩
  have D5 : Dn l.prog w K mg base 2 "cause_between" f5 _ ["bells", "others", "end", "ended"] (spD SCause) := ⟨ok_cause F5 D1 D4, b5, k5, m5⟩
  have D6 : Dn l.prog w K mg base 3 "apart" f6 _ ["one", "other"] (spD SApart) := ⟨ok_apart F6 D2 D3 D5 m_len m_min m_range, b6, k6, m6⟩
  have D19 : Dn l.prog w K mg base 2 "_law_spoilt_end" f19 _ ["deck", "record", "way"] (spT (mkRs Dk) SSpoil) := ⟨ok_spoilt F19 D8 m_min m_int, b19, k19, m19⟩
  have D20 : Dn l.prog w K mg base 4 "_law_second" f20 _ ["deck", "records", "marks"] (spT (mkRs Dk) SSecond) := ⟨ok_second F20 D8 D13 D19 m_len m_max m_list, b20, k20, m20⟩
  have D21 : Dn l.prog w K mg base 2 "_law_due" f21 _ ["ones", "others"] (spD SDue) := ⟨ok_dueA F21 D14 m_len m_min m_range, b21, k21, m21⟩
  exact ok_law F22 ⟨ok_deck F7 m_abs, b7, k7, m7⟩ D8 D13 D17 ⟨ok_size F18 D8 m_int, b18, k18, m18⟩ (all_same F9 b9 m9 m_isinstance m_bool m_list m_tuple m_len m_zip m_all 4) D6 D21 D20 m_range m_list
theorem walk {l : PySem.W.OpenLaw} {q : Program} {loose : List Str} {XP : (Str → Option Value) → Heap → Prop} {YP : World → Heap → Prop} {d : DefRec} {K : Params → PySem.W.Frag} (hn : l.most = some 63) (hdf : d.params.defaults = [])
    (hY : ∀ (w : World) (h : Heap), YP w h → (K w.params).In h)
    (F : ∀ (w : World) (mg : Str → Option Value) (fa : Addr) (h : Heap), (K w.params).In h → h.Ns mainGlobals mg → mg d.name = some (.ref fa) →
      ∃ fd : FuncData, (∀ (s : Shared) (u : Value), BindsTo s fd ⟨[u], []⟩ [("script", u)]) ∧ ∀ base : Heap, (K w.params).In base → base.Ns mainGlobals mg → FnOk l.prog w (K w.params) mg base CX0 6 fa fd ["script"] (spLaw (K w.params))) :
    PySem.W.WalkO q loose XP YP l.row.toRowW d [] (fun f vs => PySem.call f vs) :=
  L2.walk_of (n := 63) (k := 6) (x := "script") (CX := fun _ => CX0) (sp := fun w => spLaw (K w.params)) hn (by decide) hdf ⟨rfl, by decide, by decide⟩ hY F (fun _ _ a ns hl _ hS => ⟨a, ns, rfl, hS, hl, fun _ => rfl⟩) fun _ _ _ _ _ z => z
end T1
open PySem PySem.W PyProof.Rows
set_option maxRecDepth 100000 in
set_option maxHeartbeats 0 in
theorem PySem.Challenge.cw_twomakes_k34_where_two_are_apart_holds : PySem.Challenge.rw_twomakes_k34_where_two_are_apart.Holds := by
  w_on; o_law; k_head; (case hw => w_witness2)
  k_fill
  refine T1.walk (l := PySem.Challenge.rw_twomakes_k34_where_two_are_apart) rfl rfl (fun w h Y => PySem.W.kIn_of Y) ?F
  case F =>
    intro w mg fa h KX G hmg
    refine' T1.all_mk KX G hmg ?a1 ?l1 ?c1 ?k1 ?a2 ?l2 ?c2 ?k2 ?a3 ?l3 ?c3 ?k3 ?a4 ?l4 ?c4 ?k4 ?a5 ?l5 ?c5 ?k5 ?a6 ?l6 ?c6 ?k6 ?a7 ?l7 ?c7 ?k7 ?a8 ?l8 ?c8 ?k8 ?a9 ?l9 ?c9 ?k9 ?a10 ?l10 ?c10 ?k10 ?a11 ?l11 ?c11 ?k11 ?a12 ?l12 ?c12 ?k12 ?a13 ?l13 ?c13 ?k13 ?a14 ?l14 ?c14 ?k14 ?a15 ?l15 ?c15 ?k15 ?a16 ?l16 ?c16 ?k16 ?a17 ?l17 ?c17 ?k17 ?a18 ?l18 ?c18 ?k18 ?a19 ?l19 ?c19 ?k19 ?a20 ?l20 ?c20 ?k20 ?a21 ?l21 ?c21 ?k21 ?a22 ?l22 ?c22 ?k22  ?z1 ?z2 ?z3 ?z4 ?z5 ?z6 ?z7 ?z8 ?z9 ?z10 ?z11 ?z12 ?z13
    (case a1 => k_is); (case l1 => k_is); (case c1 => k_is); (case k1 => k_is)
    (case a2 => k_is); (case l2 => k_is); (case c2 => k_is); (case k2 => k_is)
    (case a3 => k_is); (case l3 => k_is); (case c3 => k_is); (case k3 => k_is)
    (case a4 => k_is); (case l4 => k_is); (case c4 => k_is); (case k4 => k_is)
    (case a5 => k_is); (case l5 => k_is); (case c5 => k_is); (case k5 => k_is)
    (case a6 => k_is); (case l6 => k_is); (case c6 => k_is); (case k6 => k_is)
    (case a7 => k_is); (case l7 => k_is); (case c7 => k_is); (case k7 => k_is)
    (case a8 => k_is); (case l8 => k_is); (case c8 => k_is); (case k8 => k_is)
    (case a9 => k_is); (case l9 => k_is); (case c9 => k_is); (case k9 => k_is)
    (case a10 => k_is); (case l10 => k_is); (case c10 => k_is); (case k10 => k_is)
    (case a11 => k_is); (case l11 => k_is); (case c11 => k_is); (case k11 => k_is)
    (case a12 => k_is); (case l12 => k_is); (case c12 => k_is); (case k12 => k_is)
    (case a13 => k_is); (case l13 => k_is); (case c13 => k_is); (case k13 => k_is)
    (case a14 => k_is); (case l14 => k_is); (case c14 => k_is); (case k14 => k_is)
    (case a15 => k_is); (case l15 => k_is); (case c15 => k_is); (case k15 => k_is)
    (case a16 => k_is); (case l16 => k_is); (case c16 => k_is); (case k16 => k_is)
    (case a17 => k_is); (case l17 => k_is); (case c17 => k_is); (case k17 => k_is)
    (case a18 => k_is); (case l18 => k_is); (case c18 => k_is); (case k18 => k_is)
    (case a19 => k_is); (case l19 => k_is); (case c19 => k_is); (case k19 => k_is)
    (case a20 => k_is); (case l20 => k_is); (case c20 => k_is); (case k20 => k_is)
    (case a21 => k_is); (case l21 => k_is); (case c21 => k_is); (case k21 => k_is)
    (case a22 => k_is); (case l22 => k_is); (case c22 => k_is); (case k22 => k_is)
    (case z1 => k_is); (case z2 => k_is); (case z3 => k_is); (case z4 => k_is); (case z5 => k_is); (case z6 => k_is); (case z7 => k_is); (case z8 => k_is); (case z9 => k_is); (case z10 => k_is); (case z11 => k_is); (case z12 => k_is); (case z13 => k_is)
