import PyProof.Rows.All
import Wide.All
import OpenK.AllK
import Wide.FinOn
import Lean
import PyProof.EqAt
import PyProof.EqKinds
import PyProof.TupleCall
import PySem.Challenge.RW_flipstack_k12_whole_stack
set_option Elab.async false
set_option linter.all false
set_option maxRecDepth 100000
/-! THE HAND LAYER, for ints, bools, texts, own classes, LISTS and tuples (index, slices, in, append, pop ..), calls, loops. Paste it whole ahead of your own text; what your proof does not reach may be deleted. -/
namespace L2
open PySem PySem.Spec PyProof.Rows

/-- a key: an int or a str -/
abbrev Key := Sum Int Str
def keyIs : Key → Value → Bool
  | .inl k, v => Value.isInt k v
  | .inr x, v => Value.isStrOf x v
def keyH (w : World) : Key → Int
  | .inl k => hashInt k
  | .inr x => hashStr w x
theorem keyIs_shape : ∀ {k : Key} {v : Value}, keyIs k v = true → (∃ i t, k = Sum.inl i ∧ v = Value.int i t) ∨ (∃ x t, k = Sum.inr x ∧ v = Value.str x t)
  | .inl i, v, h => by
    obtain ⟨t, e⟩ := Value.isInt_shape (k := i) (v := v) h
    exact .inl ⟨i, t, rfl, e⟩
  | .inr x, v, h => by
    obtain ⟨t, e⟩ := Value.isStrOf_shape (x := x) (v := v) h
    exact .inr ⟨x, t, rfl, e⟩
theorem key_ll (a b : Int) : decide ((Sum.inl a : Key) = Sum.inl b) = (a == b) := by
  by_cases e : a = b
  · subst e; simp
  · have h : ¬ (Sum.inl a : Key) = Sum.inl b := fun q => e (Sum.inl.inj q)
    rw [decide_eq_false h]
    exact (beq_eq_false_iff_ne.mpr e).symm
theorem key_rr (a b : Str) : decide ((Sum.inr a : Key) = Sum.inr b) = decide (a = b) := by
  by_cases e : a = b
  · subst e; simp
  · have h : ¬ (Sum.inr a : Key) = Sum.inr b := fun q => e (Sum.inr.inj q)
    rw [decide_eq_false h, decide_eq_false e]
theorem key_lr (a : Int) (b : Str) : decide ((Sum.inl a : Key) = Sum.inr b) = false := decide_eq_false (fun q => nomatch q)
theorem key_rl (a : Str) (b : Int) : decide ((Sum.inr a : Key) = Sum.inl b) = false := decide_eq_false (fun q => nomatch q)

def mixKind (prog : Program) (w : World) : PySem.KeyKind prog w Key where
  is := keyIs
  hash := keyH w
  inj := fun v a b ha hb => by
    rcases keyIs_shape ha with ⟨i, t, rfl, rfl⟩ | ⟨x, t, rfl, rfl⟩
    · rcases keyIs_shape hb with ⟨j, u, rfl, e⟩ | ⟨y, u, rfl, e⟩
      · injection e with e1 _; rw [e1]
      · exact nomatch e
    · rcases keyIs_shape hb with ⟨j, u, rfl, e⟩ | ⟨y, u, rfl, e⟩
      · exact nomatch e
      · injection e with e1 _; rw [e1]
  byValue := fun k v h => by
    rcases keyIs_shape h with ⟨i, t, rfl, rfl⟩ | ⟨x, t, rfl, rfl⟩ <;> rfl
  pyHash := fun hv h => by
    rcases keyIs_shape hv with ⟨i, t, rfl, rfl⟩ | ⟨x, t, rfl, rfl⟩
    · exact wpAny_pyHash_int h
    · exact wpAny_pyHash_str h
  eqBool := fun hu hv h => by
    rcases keyIs_shape hu with ⟨i, t, rfl, rfl⟩ | ⟨x, t, rfl, rfl⟩
    · rcases keyIs_shape hv with ⟨j, u, rfl, rfl⟩ | ⟨y, u, rfl, rfl⟩
      · rw [key_ll] at h; exact wpAny_eqBool_int h
      · rw [key_lr] at h; exact SeqAt.EqAt.int_str i t y u _ _ _ _ h
    · rcases keyIs_shape hv with ⟨j, u, rfl, rfl⟩ | ⟨y, u, rfl, rfl⟩
      · rw [key_rl] at h; exact SeqAt.EqAt.str_int x t j u _ _ _ _ h
      · rw [key_rr] at h; exact wpAny_eqBool_str h
  «strs» := fun k x t v h => by
    rcases keyIs_shape h with ⟨i, u, rfl, e⟩ | ⟨y, u, rfl, e⟩
    · exact nomatch e
    · injection e with e1 _
      subst e1
      cases v <;> rfl

end L2

namespace L2
open PySem PySem.Spec PyProof.Rows

/-- a value, without the heap -/
inductive V where
  | non | bl (b : Bool) | int (i : Int) | str (x : Str) | byt (b : Array UInt8) | flt (b : UInt64) | ref (a : Addr) | ty (n : String)
  deriving DecidableEq

def RelV : V → Value → Prop
  | .non, u => u = Value.none
  | .bl b, u => u = Value.bool b
  | .int i, u => ∃ t, u = Value.int i t
  | .str x, u => ∃ t, u = Value.str x t
  | .byt b, u => ∃ t, u = Value.bytes b t
  | .flt b, u => ∃ t, u = Value.float b t
  | .ref a, u => u = Value.ref a
  | .ty n, u => u = Value.type n

abbrev Vals : List V → List Value → Prop := Paired RelV
theorem Vals.length {xs : List V} {us : List Value} (r : Vals xs us) : xs.length = us.length := Paired.length r
theorem Vals.get : ∀ {xs : List V} {us : List Value} {i : Nat} {x : V}, Vals xs us → xs[i]? = some x → ∃ u, us[i]? = some u ∧ RelV x u
  | _, _, _, _, .nil, e => by simp at e
  | _, _, 0, _, .cons r _, e => by simp at e; subst e; exact ⟨_, rfl, r⟩
  | _, _, i + 1, x, .cons _ t, e => by
    obtain ⟨u, h1, h2⟩ := Vals.get (i := i) (x := x) t (by simpa using e)
    exact ⟨u, by simpa using h1, h2⟩
theorem Vals.set {x : V} {u : Value} (r : RelV x u) : ∀ {xs : List V} {us : List Value} (i : Nat), Vals xs us → Vals (xs.set i x) (us.set i u)
  | _, _, _, .nil => .nil
  | _, _, 0, .cons _ t => .cons r t
  | _, _, i + 1, .cons q t => .cons q (Vals.set r i t)
theorem Vals.append : ∀ {xs ys : List V} {us ws : List Value}, Vals xs us → Vals ys ws → Vals (xs ++ ys) (us ++ ws)
  | _, _, _, _, .nil, s => s
  | _, _, _, _, .cons r t, s => .cons r (Vals.append t s)
theorem Vals.take : ∀ {xs : List V} {us : List Value} (n : Nat), Vals xs us → Vals (xs.take n) (us.take n)
  | _, _, 0, _ => .nil
  | _, _, _ + 1, .nil => .nil
  | _, _, n + 1, .cons r t => .cons r (Vals.take n t)
theorem Vals.drop : ∀ {xs : List V} {us : List Value} (n : Nat), Vals xs us → Vals (xs.drop n) (us.drop n)
  | _, _, 0, r => r
  | _, _, _ + 1, .nil => .nil
  | _, _, n + 1, .cons _ t => Vals.drop n t
def RelO : Option V → Option Value → Prop
  | some v, some u => RelV v u
  | none, none => True
  | _, _ => False
def KV {κ : Type} : List (κ × V) → List (κ × Value) → Prop := Paired fun (p : κ × V) (q : κ × Value) => p.1 = q.1 ∧ RelV p.2 q.2

/-- a key of a dict (00_mix): an int or a text -/
def kV : Key → V
  | .inl i => .int i
  | .inr x => .str x

/-- what stands at a tracked address -/
inductive HO where
  /-- a list -/
  | lst (xs : List V)
  /-- a tuple (never changes) -/
  | tup (xs : List V)
  /-- a dict whose keys are ints and texts; one whose keys are tuples of ints and texts (the empty one is both) -/
  | dK (kvs : List (Key × V)) | dT (kvs : List (List Key × V))
  /-- a set of ints: its members, its size -/
  | set (S : Int → Bool) (n : Nat)
  /-- an instance of the class at C, its dict at dx, its attributes -/
  | ins (C dx : Addr) (fs : List (Str × V))
  /-- the dict of the instance at x -/
  | own (x : Addr)
  /-- the dict of an exception -/
  | xd (fs : List (Str × V))
  /-- a bound method, f of x -/
  | met (f x : Addr)
  /-- a range object lo, lo + 1, .. below hi -/
  | rng (lo hi : Int)
  /-- a thing that is known to the object (the script; a dict while a loop walks it): read, never written while it is so -/
  | frz (o : Obj) (u : HO)
  /-- a code object's table -/
  | tbl (ps : Array Value)
  /-- any other thing, by what is true of its one object (a def of one's own: SetO a S n := HO.ext fun h => ..) -/
  | ext (φ : Heap → Prop)

abbrev Hp := Addr → Option HO
def upd (H : Hp) (a : Addr) (o : HO) : Hp := fun b => if b = a then some o else H b
theorem upd_same {H : Hp} {a : Addr} {o : HO} : upd H a o a = some o := by unfold upd; rw [if_pos rfl]
theorem upd_ne {H : Hp} {a b : Addr} {o : HO} (h : b ≠ a) : upd H a o b = H b := by unfold upd; rw [if_neg h]
/-- two objects of different content stand apart -/
theorem ne_of {H : Hp} {a b : Addr} {o u : HO} (h : H a = some o) (h' : H b = some u) (d : o ≠ u) : a ≠ b := by
  intro e; subst e; rw [h] at h'; exact d (Option.some.inj h')
theorem ne_of_none {H : Hp} {a b : Addr} {o : HO} (h : H a = some o) (h' : H b = none) : a ≠ b := by
  intro e; subst e; rw [h] at h'; cases h'

section
variable (P : Program) (w : World)
def ObjOk (H : Hp) (h : Heap) (a : Addr) : HO → Prop
  | .lst xs => xs.length ≤ sizeLine ∧ ∃ (its : List Value) (n : Nat), Vals xs its ∧ h.get? a = some { cls := .type "list", data := .seq its.toArray n }
  | .tup xs => xs.length ≤ sizeLine ∧ ∃ its : List Value, Vals xs its ∧ IsTup h a its.toArray
  | .dK kvs => kvs.length ≤ sizeLine ∧ (a == sysModules) = false ∧ ∃ vs, KV kvs vs ∧ h.DictOf (mixKind P w) a vs
  | .dT kvs => kvs.length ≤ sizeLine ∧ (a == sysModules) = false ∧ ∃ xs : List (List Key × Addr × Value),
      Paired (fun (p : List Key × V) (q : List Key × Addr × Value) => p.1 = q.1 ∧ H q.2.1 = some (.tup (p.1.map kV)) ∧ RelV p.2 q.2.2) kvs xs ∧
      ∃ o es ep, h.get? a = some o ∧ o.ExactDict ∧ o.data = .dict es ep ∧ es.toList = xs.map (entryOfKey (tupleKind (mixKind P w))) ∧ (xs.map (·.1)).Nodup
  | .set S n => h.SetOf (intKind P w) a S n
  | .ins C dx fs => H dx = some (.own a) ∧ fs.length ≤ 1000 ∧ dx ≠ a ∧ h.get? a = some (PySem.W.instObj C dx) ∧
      ∃ mA, h.Ns1 dx mA ∧ (∀ f, RelO (fs.lookup f) (mA f)) ∧ PySem.Within mA (fs.map (·.1))
  | .own _ => ∃ o, h.get? a = some o
  | .xd fs => ∃ mA, h.Ns1 a mA ∧ ∀ f, RelO (fs.lookup f) (mA f)
  | .rng lo hi => ∃ t u v, h.get? a = some { cls := .type "range", data := .fields #[.int lo t, .int hi u, .int 1 v] }
  | .frz o u => h.get? a = some o ∧ ObjOk H h a u
  | .tbl ps => h.get? a = some { cls := .none, data := .fields ps }
  | .met f x => h.get? a = some (PySem.W.methodObj (.ref f) (.ref x))
  | .ext φ => φ h ∧ (∃ o, h.get? a = some o) ∧ ∀ h1 h2 : Heap, φ h1 → (∀ o, h1.get? a = some o → h2.get? a = some o) → φ h2
/-- the abstract heap is held -/
def HOk (H : Hp) (h : Heap) : Prop := ∀ a o, H a = some o → ObjOk P w H h a o
end

section
variable {P : Program} {w : World} {H H' : Hp} {h h' : Heap} {a : Addr} {o : HO}
theorem ObjOk.lt (x : ObjOk P w H h a o) : a < h.objs.size := by
  cases o with
  | lst xs => obtain ⟨_, _, _, _, e⟩ := x; exact Heap.lt_size e
  | tup xs => obtain ⟨_, _, _, p⟩ := x; exact p.lt
  | dK kvs => obtain ⟨_, _, _, _, o, _, _, e, _⟩ := x; exact Heap.lt_size e
  | dT kvs => obtain ⟨_, _, _, _, o, _, _, e, _⟩ := x; exact Heap.lt_size e
  | set S n => obtain ⟨o, _, _, _, e, _⟩ := x; exact Heap.lt_size e
  | ins C dx fs => obtain ⟨_, _, _, e, _⟩ := x; exact Heap.lt_size e
  | own y => obtain ⟨_, e⟩ := x; exact Heap.lt_size e
  | xd fs => obtain ⟨_, ⟨_, _, _, e, _⟩, _⟩ := x; exact Heap.lt_size e
  | rng lo hi => obtain ⟨_, _, _, e⟩ := x; exact Heap.lt_size e
  | frz ob u => obtain ⟨e, _⟩ := x; exact Heap.lt_size e
  | tbl ps => exact Heap.lt_size (show h.get? a = some _ from x)
  | met f y => exact Heap.lt_size (show h.get? a = some _ from x)
  | ext φ => obtain ⟨_, ⟨_, e⟩, _⟩ := x; exact Heap.lt_size e
theorem Paired.mapP {α β : Type} {F G : α → β → Prop} : ∀ {l₁ : List α} {l₂ : List β}, Paired F l₁ l₂ → (∀ a b, F a b → G a b) → Paired G l₁ l₂
  | _, _, .nil, _ => .nil
  | _, _, .cons r t, f => .cons (f _ _ r) (Paired.mapP t f)
/-- what an object's description leans on: its own object, its own dict, the tuples -/
theorem ObjOk.stay (x : ObjOk P w H h a o) (k : ∀ b u, (b = a ∨ H b = some (.own a)) → h.get? b = some u → h'.get? b = some u)
    (ho : ∀ b, H b = some (.own a) → H' b = some (.own a)) (ht : ∀ b xs, H b = some (.tup xs) → H' b = some (.tup xs)) : ObjOk P w H' h' a o := by
  induction o with
  | lst xs => obtain ⟨z, its, n, r, e⟩ := x; exact ⟨z, its, n, r, k _ _ (.inl rfl) e⟩
  | tup xs => obtain ⟨z, its, r, ob, e, c⟩ := x; exact ⟨z, its, r, ob, k _ _ (.inl rfl) e, c⟩
  | dK kvs => obtain ⟨z, y, vs, r, ob, es, ep, e, c⟩ := x; exact ⟨z, y, vs, r, ob, es, ep, k _ _ (.inl rfl) e, c⟩
  | dT kvs =>
    obtain ⟨z, y, xs, r, ob, es, ep, e, c⟩ := x
    exact ⟨z, y, xs, Paired.mapP r fun p q z => ⟨z.1, ht _ _ z.2.1, z.2.2⟩, ob, es, ep, k _ _ (.inl rfl) e, c⟩
  | set S n => obtain ⟨ob, es, ep, t, e, c⟩ := x; exact ⟨ob, es, ep, t, k _ _ (.inl rfl) e, c⟩
  | ins C dx fs =>
    obtain ⟨d, z, ne, e, mA, ⟨od, es, ep, e2, c⟩, r⟩ := x
    exact ⟨ho _ d, z, ne, k _ _ (.inl rfl) e, mA, ⟨od, es, ep, k _ _ (.inr d) e2, c⟩, r⟩
  | own y => obtain ⟨ob, e⟩ := x; exact ⟨ob, k _ _ (.inl rfl) e⟩
  | xd fs => obtain ⟨mA, ⟨od, es, ep, e, c⟩, r⟩ := x; exact ⟨mA, ⟨od, es, ep, k _ _ (.inl rfl) e, c⟩, r⟩
  | rng lo hi => obtain ⟨t, u, v, e⟩ := x; exact ⟨t, u, v, k _ _ (.inl rfl) e⟩
  | frz ob u ih => obtain ⟨e, q⟩ := x; exact ⟨k _ _ (.inl rfl) e, ih q⟩
  | tbl ps =>
    have e : h.get? a = some { cls := .none, data := .fields ps } := x
    show h'.get? a = some { cls := .none, data := .fields ps }
    exact k a _ (.inl rfl) e
  | met f y =>
    have e : h.get? a = some (PySem.W.methodObj (.ref f) (.ref y)) := x
    show h'.get? a = some (PySem.W.methodObj (.ref f) (.ref y))
    exact k a _ (.inl rfl) e
  | ext φ => obtain ⟨p, ⟨o, e⟩, st⟩ := x; exact ⟨st _ _ p fun o q => k _ _ (.inl rfl) q, ⟨o, k _ _ (.inl rfl) e⟩, st⟩
theorem HOk.lt (x : HOk P w H h) (e : H a = some o) : a < h.objs.size := (x a o e).lt
theorem HOk.fresh (x : HOk P w H h) (e : h.objs.size ≤ a) : H a = none := by
  cases q : H a with
  | none => rfl
  | some u => exact absurd (Nat.lt_of_lt_of_le (x.lt q) e) (Nat.lt_irrefl _)
/-- every object of the heap is kept -/
theorem HOk.kept (x : HOk P w H h) (k : ∀ b u, h.get? b = some u → h'.get? b = some u) : HOk P w H h' := fun a o e =>
  (x a o e).stay (fun b u _ q => k b u q) (fun _ q => q) fun _ _ q => q
/-- a new object is laid and tracked -/
theorem HOk.laid (x : HOk P w H h) (k : ∀ b u, h.get? b = some u → h'.get? b = some u) (hp : h.objs.size ≤ a) (new : ObjOk P w (upd H a o) h' a o) : HOk P w (upd H a o) h' := fun b u e => by
  have hn := x.fresh hp
  by_cases hb : b = a
  · subst hb; rw [upd_same] at e; cases e; exact new
  · rw [upd_ne hb] at e
    exact (x b u e).stay (fun c v _ q => k c v q) (fun c q => by rw [upd_ne (ne_of_none q hn)]; exact q) fun c xs q => by rw [upd_ne (ne_of_none q hn)]; exact q
end

/-- what may be read as u: it is u, or a known u -/
def Rd (H : Hp) (a : Addr) (u : HO) : Prop := H a = some u ∨ ∃ o, H a = some (.frz o u)
theorem Rd.ok {P : Program} {w : World} {H : Hp} {h : Heap} {a : Addr} {u : HO} (r : Rd H a u) (x : HOk P w H h) : ObjOk P w H h a u := by
  rcases r with r | ⟨o, r⟩
  · exact x a u r
  · obtain ⟨_, q⟩ := x a _ r
    exact q
/-- what may be written -/
def Mut : Option HO → Prop
  | some (.lst _) => True
  | some (.dK _) => True
  | some (.dT _) => True
  | some (.set _ _) => True
  | some (.ins _ _ _) => True
  | some (.ext _) => True
  | _ => False
section
variable {P : Program} {w : World} {H : Hp} {h h' : Heap} {x e : Addr} {o' : HO}
/-- the object at e is changed: x itself, or the dict of the instance x -/
theorem HOk.write (ok : HOk P w H h) (mu : Mut (H x)) (he : e = x ∨ H e = some (.own x)) (k : ∀ b u, b ≠ e → h.get? b = some u → h'.get? b = some u) (heo : ∃ u, h'.get? e = some u)
    (new : ObjOk P w (upd H x o') h' x o') : HOk P w (upd H x o') h' := fun b u q => by
  have nown : ∀ c y, H c = some (.own y) → c ≠ x := fun c y r z => by subst z; rw [r] at mu; exact mu
  have ntup : ∀ c xs, H c = some (.tup xs) → c ≠ x := fun c xs r z => by subst z; rw [r] at mu; exact mu
  by_cases hb : b = x
  · subst hb; rw [upd_same] at q; cases q; exact new
  · rw [upd_ne hb] at q
    by_cases hbe : b = e
    · have q' : H b = some (.own x) := by
        rcases he with z | z
        · exact absurd (hbe.trans z) hb
        · rw [hbe]; exact z
      rw [q] at q'; cases q'
      obtain ⟨v, hv⟩ := heo
      exact ⟨v, by rw [hbe]; exact hv⟩
    · refine (ok b u q).stay (fun c v hc r => k c v ?_ r) (fun c r => by rw [upd_ne (nown c b r)]; exact r) fun c xs r => by rw [upd_ne (ntup c xs r)]; exact r
      rcases hc with rfl | hc
      · exact hbe
      · rintro rfl
        rcases he with z | z
        · exact nown c b hc z
        · rw [hc] at z; cases z; exact hb rfl
end

/-! ### kept unless tracked; of the frames at fs (the callers') the slots may change (an exception that passes writes there); of the records at ex (iterators) nothing is said -/
structure Un (fs ex : List Addr) (H H' : Hp) (h h' : Heap) : Prop where
  keep : ∀ b o, h.get? b = some o → H b = none → b ∉ fs → b ∉ ex → h'.get? b = some o
  slot : ∀ b o, h.get? b = some o → H b = none → b ∈ fs → b ∉ ex → ∃ sl, h'.get? b = some { o with slots := sl }
  free : ∀ b o, h.get? b = some o → H b = none → b ∉ ex → H' b = none
  there : ∀ b o, h.get? b = some o → b ∉ ex → ∃ o', h'.get? b = some o'
  tups : ∀ b xs, H b = some (.tup xs) → H' b = some (.tup xs)
  frzs : ∀ b o u, H b = some (.frz o u) → H' b = some (.frz o u)
  tbls : ∀ b ps, H b = some (.tbl ps) → ∃ more, H' b = some (.tbl (ps ++ more))
section
variable {fs fs' ex ex' : List Addr} {H H1 H2 : Hp} {h h1 h2 h' : Heap} {a x e : Addr} {o : HO}
theorem Un.any (u : Un fs ex H H1 h h1) {b : Addr} {ob : Obj} (q : h.get? b = some ob) (n : H b = none) (hx : b ∉ ex) : ∃ sl, h1.get? b = some { ob with slots := sl } := by
  by_cases hb : b ∈ fs
  · exact u.slot b ob q n hb hx
  · exact ⟨ob.slots, u.keep b ob q n hb hx⟩
theorem Un.kept (k : ∀ b u, h.get? b = some u → h'.get? b = some u) : Un fs ex H H h h' :=
  ⟨fun b ob q _ _ _ => k b ob q, fun b ob q _ _ _ => ⟨ob.slots, k b ob q⟩, fun _ _ _ n _ => n, fun b ob q _ => ⟨ob, k b ob q⟩, fun _ _ q => q, fun _ _ _ q => q, fun _ ps q => ⟨#[], by rw [q]; simp⟩⟩
theorem Un.refl : Un fs ex H H h h := Un.kept fun _ _ q => q
theorem Un.laid (k : ∀ b u, h.get? b = some u → h'.get? b = some u) (hp : h.objs.size ≤ a) (hn : H a = none) : Un fs ex H (upd H a o) h h' where
  keep := fun b u q _ _ _ => k b u q
  slot := fun b u q _ _ _ => ⟨u.slots, k b u q⟩
  free := fun b u q n _ => by rw [upd_ne (Nat.ne_of_lt (Nat.lt_of_lt_of_le (Heap.lt_size q) hp))]; exact n
  there := fun b u q _ => ⟨u, k b u q⟩
  tups := fun b xs q => by rw [upd_ne (ne_of_none q hn)]; exact q
  frzs := fun b u xs q => by rw [upd_ne (ne_of_none q hn)]; exact q
  tbls := fun b ps q => ⟨#[], by rw [upd_ne (ne_of_none q hn), q]; simp⟩
theorem Un.write (mu : Mut (H x)) (he : e = x ∨ H e = some (.own x)) (k : ∀ b u, b ≠ e → h.get? b = some u → h'.get? b = some u) (heo : ∃ u, h'.get? e = some u) : Un fs ex H (upd H x o) h h' := by
  have hx : ∀ b, H b = none → b ≠ x := fun b n z => by subst z; rw [n] at mu; exact mu
  have hb : ∀ b, H b = none → b ≠ e := fun b n z => by
    subst z
    rcases he with r | r
    · exact hx b n r
    · rw [n] at r; cases r
  have hm : ∀ b u, H b = some u → ¬ Mut (some u) → b ≠ x := fun b u q nm z => by subst z; rw [q] at mu; exact nm mu
  refine ⟨fun b u q n _ _ => k b u (hb b n) q, fun b u q n _ _ => ⟨u.slots, k b u (hb b n) q⟩, fun b u q n _ => by rw [upd_ne (hx b n)]; exact n, fun b u q _ => ?_,
    fun b xs q => by rw [upd_ne (hm b _ q fun z => z)]; exact q, fun b u xs q => by rw [upd_ne (hm b _ q fun z => z)]; exact q, fun b ps q => ⟨#[], by rw [upd_ne (hm b _ q fun z => z), q]; simp⟩⟩
  by_cases hbe : b = e
  · subst hbe; exact heo
  · exact ⟨u, k b u hbe q⟩
end

/-! ### the heap without what is tracked -/
def trk (h : Heap) (H : Hp) : List Addr := (List.range h.objs.size).filter fun a => (H a).isSome
def hidT (h : Heap) (H : Hp) : Heap := PySem.W.hideAll h (trk h H)
theorem hidT_size (h : Heap) (H : Hp) : (hidT h H).objs.size = h.objs.size := PySem.W.hideAll_size _ _
theorem hidT_get {h : Heap} {H : Hp} {b : Addr} {o : Obj} (e : h.get? b = some o) (n : H b = none) : (hidT h H).get? b = some o :=
  PySem.W.hideAll_get _ e fun hm => by
    have q : (H b).isSome = true := (List.mem_filter.mp hm).2
    rw [n] at q; simp at q
theorem of_hidT {h : Heap} {H : Hp} {b : Addr} {o : Obj} (e : (hidT h H).get? b = some o) : h.get? b = some o ∧ H b = none := by
  have e' : h.get? b = some o := PySem.W.of_hideAll (trk h H) e
  refine ⟨e', ?_⟩
  cases q : H b with
  | none => rfl
  | some x =>
    have hm : b ∈ trk h H := List.mem_filter.mpr ⟨List.mem_range.mpr (Heap.lt_size e'), by simp [q]⟩
    have z : (hidT h H).get? b = none := PySem.W.hideAll_none (trk h H) hm
    rw [z] at e; cases e

/-! ### OpenK's ledger, filled with every new object but one -/
def allNews (g h : Heap) (L : Addr) : List (Addr × Obj) := (List.range h.objs.size).filterMap fun a => if a = L ∨ (g.get? a).isSome = true then none else (h.get? a).map fun o => (a, o)
def rest (g h : Heap) (L d : Addr) : List (Addr × Obj) := (allNews g h L).filter fun p => decide (p.1 ≠ d)
end L2

namespace L2
open PySem PySem.Spec PyProof.Rows

/-- the module's facts, over the base: the heap at the law's entry without what is tracked there -/
structure Mod (K : PySem.W.Frag) (mg : Str → Option Value) (base : Heap) : Prop where
  kin : K.In base
  glob : base.Ns mainGlobals mg
  blt : ∃ mb, base.Ns builtinsNs mb ∧ ∀ x : Str, x ≠ "__name__" → mb x = bootBuiltins x
  nolimit : base.NoLimit

/-- the context: a def's body (or a comprehension's block) running. base: fixed through the whole law; s₀, H₀: the entry; outer: the frames whose slots others may change (a def's callers); stack: all frames that run;
   ex: iterators that were made ahead of the entry and are walked here (a comprehension's); fn: the names whose cells were made at the entry (a def: all; a comprehension's block: its own); calm: not within an except suite; pn: pins that every state bears; xe: what is wanted of an exception that leaves the code -/
structure Cx where
  prog : Program
  w : World
  K : PySem.W.Frag
  mg : Str → Option Value
  base : Heap
  A : Around
  N : List Str
  s₀ : Shared
  H₀ : Hp
  env : Env
  outer : List Env
  stack : List Env
  ex : List Addr
  fn : Str → Bool
  calm : Bool
  pn : List (Addr × Obj)
  xe : Value → Shared → Prop
/-- the callers' frames -/
def frs (l : List Env) : List Addr := l.filterMap (·.frame)
abbrev Cx.fs (X : Cx) : List Addr := frs X.outer

def Vis (sc : Scope) (x : Str) : Prop := sc.names.lookup x = some .local ∨ sc.names.lookup x = some .cell ∨ sc.names.lookup x = some .free
def Loc (sc : Scope) (x : Str) : Prop := sc.names.lookup x = some .local ∨ sc.names.lookup x = some .cell
def Look (env : Env) (h : Heap) (m : Str → Option Value) (x : Str) (u : Value) : Prop :=
  (env.kindOf x = some .local ∧ m x = some u) ∨ ((env.kindOf x = some .cell ∨ env.kindOf x = some .free) ∧ ∃ c, env.cells.lookup x = some c ∧ h.IsCell c (some u))

structure Cx.Ok (X : Cx) : Prop where
  mod : Mod X.K X.mg X.base
  kind : X.env.scope.kind = .function
  glob : X.env.globals = mainGlobals
  blt : X.env.builtins = builtinsNs
  above : X.s₀.heap.objs.size ≤ X.env.locals
  inj : ∀ x y c, X.env.cells.lookup x = some c → X.env.cells.lookup y = some c → x = y
  has : ∀ x, (X.env.kindOf x = some .cell ∨ X.env.kindOf x = some .free) → ∃ c, X.env.cells.lookup x = some c
  cab : ∀ x c, X.fn x = true → X.env.cells.lookup x = some c → X.s₀.heap.objs.size ≤ c
  hd : X.calm = true → X.A.handled = none
  frames : X.A.frames = some X.stack
  stk : X.stack = X.outer ∨ (X.stack = X.env :: X.outer ∧ X.env.frame = some X.env.locals)
  exf : ∀ b ∈ X.ex, b ≠ X.env.locals ∧ ∀ x c, X.env.cells.lookup x = some c → c ≠ b
  bs : ∀ b o, X.base.get? b = some o → X.s₀.heap.get? b = some o ∧ X.H₀ b = none
  bsz : X.base.objs.size ≤ X.s₀.heap.objs.size
  noex : ∀ b o, X.base.get? b = some o → b ∉ X.ex
  exfs : ∀ b ∈ X.ex, b ∉ X.fs
  funs : X.s₀.heap.FunFrames X.base X.outer
  frf : ∀ b ∈ X.fs, X.H₀ b = none

structure Inv (X : Cx) (pins : List (Addr × Obj)) (σ : List (Option V)) (H : Hp) (s : Shared) : Prop where
  ok : X.Ok
  os : s.os = X.s₀.os
  bare : AllBare s.gens
  base : Un X.fs X.ex X.H₀ H X.s₀.heap s.heap
  loc : ∃ m, s.heap.Ns X.env.locals m ∧ ∀ (i : Nat) (x : Str) (v : V), X.N[i]? = some x → σ[i]? = some (some v) → Vis X.env.scope x → ∃ u, RelV v u ∧ Look X.env s.heap m x u
  cell : ∀ x c, X.env.cells.lookup x = some c → ∃ v, s.heap.IsCell c v
  free : H X.env.locals = none
  freeC : ∀ x c, X.env.cells.lookup x = some c → H c = none
  pin : ∀ p ∈ X.pn ++ pins, s.heap.get? p.1 = some p.2 ∧ H p.1 = none ∧ p.1 ≠ X.env.locals ∧ p.1 ∉ X.fs ∧ ∀ v, p.2.data ≠ .cell v
  hok : HOk X.prog X.w H s.heap
  len : σ.length = X.N.length

section
variable {X : Cx} {pins : List (Addr × Obj)} {σ : List (Option V)} {H H' : Hp} {s : Shared} {h' : Heap}

theorem Cx.Ok.nofr (ok : X.Ok) {b : Addr} {o : Obj} (e : X.base.get? b = some o) : b ∉ X.fs := fun hb => by
  have := (ok.funs.mem hb).1
  rw [e] at this; cases this
theorem Inv.bs (I : Inv X pins σ H s) : ∀ b o, X.base.get? b = some o → s.heap.get? b = some o ∧ H b = none := fun b o e =>
  ⟨I.base.keep b o (I.ok.bs b o e).1 (I.ok.bs b o e).2 (I.ok.nofr e) (I.ok.noex b o e), I.base.free b o (I.ok.bs b o e).1 (I.ok.bs b o e).2 (I.ok.noex b o e)⟩
theorem Inv.bk (I : Inv X pins σ H s) : ∀ b o, X.base.get? b = some o → s.heap.get? b = some o := fun b o e => (I.bs b o e).1
theorem Inv.mod (I : Inv X pins σ H s) : Mod X.K X.mg X.base := I.ok.mod
theorem Inv.kIn (I : Inv X pins σ H s) : X.K.In s.heap := I.ok.mod.kin.keeps I.bk
theorem Inv.lt (I : Inv X pins σ H s) : X.env.locals < s.heap.objs.size := let ⟨_, hn, _⟩ := I.loc; hn.lt
theorem Inv.sz (I : Inv X pins σ H s) : X.s₀.heap.objs.size ≤ s.heap.objs.size := Nat.le_trans I.ok.above (Nat.le_of_lt I.lt)
theorem Inv.nofs (I : Inv X pins σ H s) {a : Addr} (h : s.heap.objs.size ≤ a) : a ∉ X.fs := fun hb => by
  obtain ⟨_, o, ho, _⟩ := I.ok.funs.mem hb
  exact absurd (Nat.lt_of_lt_of_le (Heap.lt_size ho) (Nat.le_trans I.sz h)) (Nat.lt_irrefl _)
theorem Inv.cne (I : Inv X pins σ H s) : ∀ x c, X.env.cells.lookup x = some c → c ≠ X.env.locals := fun x c e z => by
  obtain ⟨v, o, ho, hd⟩ := I.cell x c e
  obtain ⟨m, ⟨o', es, ep, ho', hd', _⟩, _⟩ := I.loc
  rw [z, ho'] at ho; cases ho; rw [hd'] at hd; cases hd
theorem Inv.funs (I : Inv X pins σ H s) : s.heap.FunFrames X.base X.outer := by
  have all : ∀ (l : List Env), (∀ b ∈ frs l, b ∈ X.fs) → X.s₀.heap.FunFrames X.base l → s.heap.FunFrames X.base l := by
    intro l
    induction l with
    | nil => intro _ _; trivial
    | cons env r ih =>
      intro hs hl
      obtain ⟨hk, ⟨L, o, hf, hn, ho, hd⟩, hr⟩ := hl
      have hL : L ∈ X.fs := hs L (by unfold frs; rw [List.filterMap_cons, hf]; exact List.mem_cons_self)
      obtain ⟨sl, e⟩ := I.base.slot L o ho (I.ok.frf L hL) hL fun z => I.ok.exfs L z hL
      exact ⟨hk, ⟨L, _, hf, hn, e, hd⟩, ih (fun b hb => hs b (by unfold frs; rw [List.filterMap_cons, hf]; exact List.mem_cons_of_mem _ hb)) hr⟩
  exact all X.outer (fun _ hb => hb) I.ok.funs

/-- the frames that run, for a call -/
theorem Inv.stack (I : Inv X pins σ H s) : s.heap.FunFrames X.base X.stack := by
  rcases I.ok.stk with e | ⟨e, hf⟩
  · rw [e]; exact I.funs
  · rw [e]
    obtain ⟨m, hn, _⟩ := I.loc
    refine .cons (by rw [I.ok.kind]; decide) hf hn ?_ I.funs
    exact Heap.get?_none_of_le (Nat.le_trans I.ok.bsz I.ok.above)
theorem Inv.stkSub (I : Inv X pins σ H s) : ∀ b ∈ frs X.stack, b ∈ X.env.locals :: X.fs := fun b hb => by
  rcases I.ok.stk with e | ⟨e, hf⟩
  · rw [e] at hb; exact List.mem_cons_of_mem _ hb
  · rw [e] at hb
    unfold frs at hb
    rw [List.filterMap_cons, hf] at hb
    exact hb
theorem Inv.stkFree (I : Inv X pins σ H s) : ∀ b ∈ frs X.stack, H b = none := fun b hb => by
  rcases List.mem_cons.mp (I.stkSub b hb) with e | hb
  · rw [e]; exact I.free
  · obtain ⟨_, o, ho, _⟩ := I.ok.funs.mem hb
    exact I.base.free b o ho (I.ok.frf b hb) fun z => I.ok.exfs b z hb

/-- THE STEP: the untracked objects but the frame and the records at ch are kept (the callers' frames up to slots), the frame's map is kept, the new abstract heap is held -/
theorem Inv.step {g' : Array GenState} {t' : Nat} {d' : Drawn} {ch : List Addr} (I : Inv X pins σ H s)
    (hch : ∀ b ∈ ch, (b ∈ X.ex ∨ X.s₀.heap.objs.size ≤ b) ∧ b ≠ X.env.locals ∧ (∀ x c, X.env.cells.lookup x = some c → c ≠ b) ∧ ∀ p ∈ X.pn ++ pins, p.1 ≠ b)
    (keep : ∀ b o, b ≠ X.env.locals → b ∉ X.fs → b ∉ ch → s.heap.get? b = some o → H b = none → h'.get? b = some o)
    (slot : ∀ b o, b ≠ X.env.locals → b ∈ X.fs → b ∉ ch → s.heap.get? b = some o → H b = none → ∃ sl, h'.get? b = some { o with slots := sl }) (free : ∀ b o, b ∉ ch → s.heap.get? b = some o → H b = none → H' b = none)
    (there : ∀ b o, b ∉ ch → s.heap.get? b = some o → ∃ o', h'.get? b = some o')
    (tups : ∀ b xs, H b = some (.tup xs) → H' b = some (.tup xs)) (frzs : ∀ b o u, H b = some (.frz o u) → H' b = some (.frz o u)) (tbls : ∀ b ps, H b = some (.tbl ps) → ∃ more, H' b = some (.tbl (ps ++ more)))
    (ns : ∀ m, s.heap.Ns X.env.locals m → h'.Ns X.env.locals m) (hok : HOk X.prog X.w H' h') (hg : AllBare g') :
    Inv X pins σ H' { s with heap := h', gens := g', drawn := d', toks := t' } := by
  have neL : ∀ b o, X.s₀.heap.get? b = some o → b ≠ X.env.locals := fun b o e => Nat.ne_of_lt (Nat.lt_of_lt_of_le (Heap.lt_size e) I.ok.above)
  have neC : ∀ b o, X.s₀.heap.get? b = some o → b ∉ X.ex → b ∉ ch := fun b o e hx hb => by
    rcases (hch b hb).1 with z | z
    · exact hx z
    · exact absurd (Nat.lt_of_lt_of_le (Heap.lt_size e) z) (Nat.lt_irrefl _)
  have cellK : ∀ x c, X.env.cells.lookup x = some c → ∀ v, s.heap.IsCell c v → h'.IsCell c v := fun x c e v ⟨o, ho, hd⟩ => by
    have nch : c ∉ ch := fun z => (hch c z).2.2.1 x c e rfl
    by_cases hc : c ∈ X.fs
    · obtain ⟨sl, q⟩ := slot c o (I.cne x c e) hc nch ho (I.freeC x c e)
      exact ⟨_, q, hd⟩
    · exact ⟨o, keep c o (I.cne x c e) hc nch ho (I.freeC x c e), hd⟩
  refine ⟨I.ok, I.os, hg, ⟨fun b o e n hb hx => ?_, fun b o e n hb hx => ?_, fun b o e n hx => ?_, fun b o e hx => ?_, fun b xs e => tups b xs (I.base.tups b xs e), fun b o xs e => frzs b o xs (I.base.frzs b o xs e), fun b ps e => ?_⟩, ?_, fun x c e => ?_, ?_, fun x c e => ?_, fun p hp => ?_, hok, I.len⟩
  · exact keep b o (neL b o e) hb (neC b o e hx) (I.base.keep b o e n hb hx) (I.base.free b o e n hx)
  · obtain ⟨sl, e1⟩ := I.base.slot b o e n hb hx
    obtain ⟨sl', e2⟩ := slot b _ (neL b o e) hb (neC b o e hx) e1 (I.base.free b o e n hx)
    exact ⟨sl', e2⟩
  · obtain ⟨o', e1⟩ := I.base.there b o e hx
    exact free b o' (neC b o e hx) e1 (I.base.free b o e n hx)
  · obtain ⟨o', e1⟩ := I.base.there b o e hx
    exact there b o' (neC b o e hx) e1
  · obtain ⟨m1, e1⟩ := I.base.tbls b ps e
    obtain ⟨m2, e2⟩ := tbls b _ e1
    exact ⟨m1 ++ m2, by rw [e2, Array.append_assoc]⟩
  · obtain ⟨m, hn, hl⟩ := I.loc
    refine ⟨m, ns m hn, fun i x v e1 e2 e3 => ?_⟩
    obtain ⟨u, r, l⟩ := hl i x v e1 e2 e3
    refine ⟨u, r, ?_⟩
    rcases l with l | ⟨k, c, e, z⟩
    · exact .inl l
    · exact .inr ⟨k, c, e, cellK x c e _ z⟩
  · obtain ⟨v, z⟩ := I.cell x c e
    exact ⟨v, cellK x c e v z⟩
  · obtain ⟨m, ⟨o, _, _, ho, _⟩, _⟩ := I.loc
    exact free _ o (fun z => (hch _ z).2.1 rfl) ho I.free
  · obtain ⟨v, o, ho, hd⟩ := I.cell x c e
    exact free c o (fun z => (hch c z).2.2.1 x c e rfl) ho (I.freeC x c e)
  · obtain ⟨e, n, ne, nf, d⟩ := I.pin p hp
    have nch : p.1 ∉ ch := fun z => (hch p.1 z).2.2.2 p hp rfl
    exact ⟨keep p.1 p.2 ne nf nch e n, free p.1 p.2 nch e n, ne, nf, d⟩
/-- .. where the frame's own object is kept too -/
theorem Inv.un {t' : Nat} (I : Inv X pins σ H s) (u : Un X.fs [] H H' s.heap h') (hok : HOk X.prog X.w H' h') : Inv X pins σ H' { s with heap := h', toks := t' } := by
  obtain ⟨m, ⟨o, es, ep, ho, r⟩, _⟩ := id I.loc
  obtain ⟨sl, hL⟩ := u.any ho I.free (by simp)
  exact I.step (g' := s.gens) (d' := s.drawn) (ch := []) (fun _ z => nomatch z) (fun b o _ hb _ e n => u.keep b o e n hb (by simp)) (fun b o _ hb _ e n => u.slot b o e n hb (by simp)) (fun b o _ e n => u.free b o e n (by simp)) (fun b o _ e => u.there b o e (by simp)) u.tups u.frzs u.tbls (fun m' hm => by
    obtain ⟨o', es', ep', ho', r'⟩ := hm
    rw [ho] at ho'; cases ho'
    exact ⟨_, es', ep', hL, r'⟩) hok I.bare
/-- behind a call (or a comprehension's block): the slots of this frame may have changed too, the records at ch may have turned -/
theorem Inv.call {g' : Array GenState} {t' : Nat} {d' : Drawn} {ch : List Addr} (I : Inv X pins σ H s) (u : Un (frs X.stack) ch H H' s.heap h') (hok : HOk X.prog X.w H' h') (hg : AllBare g')
    (hch : ∀ b ∈ ch, (b ∈ X.ex ∨ X.s₀.heap.objs.size ≤ b) ∧ b ≠ X.env.locals ∧ (∀ x c, X.env.cells.lookup x = some c → c ≠ b) ∧ ∀ p ∈ X.pn ++ pins, p.1 ≠ b) :
    Inv X pins σ H' { s with heap := h', gens := g', drawn := d', toks := t' } := by
  obtain ⟨m, ⟨o, es, ep, ho, r⟩, _⟩ := id I.loc
  obtain ⟨sl, hL⟩ := u.any ho I.free fun z => (hch _ z).2.1 rfl
  exact I.step (ch := ch) hch (fun b o hL hb hc e n => u.keep b o e n (fun z => (List.mem_cons.mp (I.stkSub b z)).elim hL hb) hc) (fun b o _ _ hc e n => u.any e n hc) (fun b o hc e n => u.free b o e n hc) (fun b o hc e => u.there b o e hc) u.tups u.frzs u.tbls (fun m' hm => by
    obtain ⟨o', es', ep', ho', r'⟩ := hm
    rw [ho] at ho'; cases ho'
    exact ⟨_, es', ep', hL, r'⟩) hok hg
/-- an untracked record of ours (an iterator) has turned -/
theorem Inv.turned {t' : Nat} {it : Addr} (I : Inv X pins σ H s) (k : ∀ b o, b ≠ it → s.heap.get? b = some o → h'.get? b = some o) (hn : H it = none) (hL : it ≠ X.env.locals)
    (h1 : it ∈ X.ex ∨ X.s₀.heap.objs.size ≤ it) (h2 : ∀ x c, X.env.cells.lookup x = some c → c ≠ it) (h3 : ∀ p ∈ X.pn ++ pins, p.1 ≠ it) : Inv X pins σ H { s with heap := h', toks := t' } := by
  have nit : ∀ b u, H b = some u → b ≠ it := fun b u e z => by rw [z, hn] at e; cases e
  refine I.step (g' := s.gens) (d' := s.drawn) (ch := [it]) (fun b hb => ?_) (fun b o _ _ hc e _ => k b o (fun z => hc (by simp [z])) e) (fun b o _ _ hc e _ => ⟨o.slots, k b o (fun z => hc (by simp [z])) e⟩) (fun _ _ _ _ n => n)
    (fun b o hc e => ⟨o, k b o (fun z => hc (by simp [z])) e⟩) (fun _ _ e => e) (fun _ _ _ e => e) (fun b ps e => ⟨#[], by rw [e]; simp⟩) (fun m hm => ?_) (fun b u e => ?_) I.bare
  · have e : b = it := by simpa using hb
    subst e
    exact ⟨h1, hL, h2, h3⟩
  · obtain ⟨o, es, ep, ho, r⟩ := hm
    exact ⟨o, es, ep, k _ o (Ne.symm hL) ho, r⟩
  · refine (I.hok b u e).stay (fun c v hc q => k c v ?_ q) (fun _ q => q) fun _ _ q => q
    rcases hc with z | z
    · rw [z]; exact nit b u e
    · exact nit c _ z
theorem Inv.tok (I : Inv X pins σ H s) (t : Nat) : Inv X pins σ H { s with toks := t } := I.un (h' := s.heap) (t' := t) Un.refl I.hok
/-- all objects kept -/
theorem Inv.kept {t' : Nat} (I : Inv X pins σ H s) (k : ∀ b u, s.heap.get? b = some u → h'.get? b = some u) : Inv X pins σ H { s with heap := h', toks := t' } := I.un (Un.kept k) (I.hok.kept k)
/-- a new object laid and tracked -/
theorem Inv.laid {a : Addr} {o : HO} {t' : Nat} (I : Inv X pins σ H s) (k : ∀ b u, s.heap.get? b = some u → h'.get? b = some u) (hp : s.heap.objs.size ≤ a) (new : ObjOk X.prog X.w (upd H a o) h' a o) :
    Inv X pins σ (upd H a o) { s with heap := h', toks := t' } := I.un (Un.laid k hp (I.hok.fresh hp)) (I.hok.laid k hp new)
/-- an object written -/
theorem Inv.write {x e : Addr} {o : HO} {t' : Nat} (I : Inv X pins σ H s) (mu : Mut (H x)) (he : e = x ∨ H e = some (.own x)) (k : ∀ b u, b ≠ e → s.heap.get? b = some u → h'.get? b = some u) (heo : ∃ u, h'.get? e = some u)
    (new : ObjOk X.prog X.w (upd H x o) h' x o) : Inv X pins σ (upd H x o) { s with heap := h', toks := t' } := I.un (Un.write mu he k heo) (I.hok.write mu he k heo new)
/-- forgetting slots, pins -/
theorem Inv.weak {σ' : List (Option V)} (I : Inv X pins σ H s) (hl : σ'.length = σ.length) (w : ∀ (i : Nat) v, σ'[i]? = some (some v) → σ[i]? = some (some v)) : Inv X pins σ' H s :=
  ⟨I.ok, I.os, I.bare, I.base, let ⟨m, hn, hl'⟩ := I.loc; ⟨m, hn, fun i x v e1 e2 e3 => hl' i x v e1 (w i v e2) e3⟩, I.cell, I.free, I.freeC, I.pin, I.hok, hl.trans I.len⟩
theorem Inv.pins_of {pins' : List (Addr × Obj)} (I : Inv X pins σ H s) (h : ∀ p ∈ pins', s.heap.get? p.1 = some p.2 ∧ H p.1 = none ∧ p.1 ≠ X.env.locals ∧ p.1 ∉ X.fs ∧ ∀ v, p.2.data ≠ .cell v) : Inv X pins' σ H s :=
  ⟨I.ok, I.os, I.bare, I.base, I.loc, I.cell, I.free, I.freeC, fun p hp => (List.mem_append.mp hp).elim (fun z => I.pin p (List.mem_append_left _ z)) (h p), I.hok, I.len⟩

theorem nodup_ix {N : List Str} (hN : N.Nodup) {i j : Nat} {x : Str} (a : N[i]? = some x) (b : N[j]? = some x) : i = j := by
  obtain ⟨h1, e1⟩ := List.getElem?_eq_some_iff.mp a
  obtain ⟨h2, e2⟩ := List.getElem?_eq_some_iff.mp b
  exact (List.getElem_inj hN).mp (e1.trans e2.symm)

/-- a name is stored; what changed -/
theorem store_ok2 {M : Model} {A : Around} {E : Value → Shared → Prop} {i : Nat} {x : Str} {v : V} {u : Value} {Q : Unit → Shared → Prop} (I : Inv X pins σ H s) (hN : X.N.Nodup) (hi : X.N[i]? = some x) (hx : Loc X.env.scope x) (r : RelV v u)
    (h : ∀ s', Inv X pins (σ.set i (some v)) H s' → (∃ a, Heap.SameBut a s.heap s'.heap ∧ (a = X.env.locals ∨ X.env.cells.lookup x = some a)) → Q () s') (hf : X.fn x = true ∨ X.env.scope.names.lookup x = some .local := by first | exact .inl rfl | exact .inr rfl | assumption) : wpAny M A (storeName X.env x u) Q E s := by
  obtain ⟨m, hn, hl⟩ := id I.loc
  have hcls : (X.env.scope.kind == .class || (X.env.scope.kind == .module && X.env.locals != X.env.globals)) = false := by rw [I.ok.kind]; rfl
  have hiσ : i < σ.length := by rw [I.len]; exact (List.getElem?_eq_some_iff.mp hi).1
  have cne := I.cne
  have tracked : ∀ {a : Addr} {h' : Heap}, (∃ o, s.heap.get? a = some o ∧ H a = none) → Heap.SameBut a s.heap h' → HOk X.prog X.w H h' := fun {a h'} ha hs b ob e => by
    obtain ⟨_, _, hfree⟩ := ha
    refine (I.hok b ob e).stay (fun c w' hc q => (hs.2 c ?_).trans q) (fun _ q => q) fun _ _ q => q
    rintro rfl
    rcases hc with rfl | hc
    · rw [hfree] at e; cases e
    · rw [hfree] at hc; cases hc
  rcases hx with hk | hk
  · refine wpAny_storeName_local hk hn (fun h' hn' hs => ?_) hcls
    obtain ⟨oL, _, _, hoL, _⟩ := id hn
    refine h _ ⟨I.ok, I.os, I.bare, ⟨fun b o e n hb hx => ?_, fun b o e n hb hx => ?_, I.base.free, fun b o e hx => ?_, I.base.tups, I.base.frzs, I.base.tbls⟩, ⟨_, hn', fun j y v' e1 e2 e3 => ?_⟩, fun y c e => ?_, I.free, I.freeC, fun p hp => ?_, tracked ⟨oL, hoL, I.free⟩ hs, by simpa using I.len⟩ ⟨_, hs, .inl rfl⟩
    · exact (hs.2 b (Nat.ne_of_lt (Nat.lt_of_lt_of_le (Heap.lt_size e) I.ok.above))).trans (I.base.keep b o e n hb hx)
    · obtain ⟨sl, e1⟩ := I.base.slot b o e n hb hx
      exact ⟨sl, (hs.2 b (Nat.ne_of_lt (Nat.lt_of_lt_of_le (Heap.lt_size e) I.ok.above))).trans e1⟩
    · obtain ⟨o', e1⟩ := I.base.there b o e hx
      exact ⟨o', (hs.2 b (Nat.ne_of_lt (Nat.lt_of_lt_of_le (Heap.lt_size e) I.ok.above))).trans e1⟩
    · by_cases hj : j = i
      · subst hj
        rw [hi] at e1; cases e1
        rw [List.getElem?_set_self hiσ] at e2
        cases e2
        exact ⟨u, r, .inl ⟨hk, by simp⟩⟩
      · rw [List.getElem?_set_ne (Ne.symm hj)] at e2
        obtain ⟨u', r', q⟩ := hl j y v' e1 e2 e3
        refine ⟨u', r', ?_⟩
        rcases q with ⟨k, e⟩ | ⟨k, c, e, z⟩
        · refine .inl ⟨k, ?_⟩
          have : y ≠ x := fun e => hj (nodup_ix hN e1 (e ▸ hi))
          simp [this, e]
        · exact .inr ⟨k, c, e, z.sameBut hs (cne y c e)⟩
    · obtain ⟨w', z⟩ := I.cell y c e
      exact ⟨w', z.sameBut hs (cne y c e)⟩
    · obtain ⟨e, n, ne, nf, d⟩ := I.pin p hp
      exact ⟨(hs.2 p.1 ne).trans e, n, ne, nf, d⟩
  · have hfn : X.fn x = true := by
      rcases hf with z | z
      · exact z
      · rw [z] at hk; cases hk
    obtain ⟨c, hc⟩ := I.ok.has x (.inl hk)
    obtain ⟨w', z⟩ := I.cell x c hc
    refine wpAny_storeName_cell I.ok.kind hk hc z (fun h' hc' hs => ?_)
    obtain ⟨oc, hoc, hocd⟩ := id z
    refine h { s with heap := h' } ⟨I.ok, I.os, I.bare, ⟨fun b o e n hb hx => ?_, fun b o e n hb hx => ?_, I.base.free, fun b o e hx => ?_, I.base.tups, I.base.frzs, I.base.tbls⟩, ⟨m, hn.sameBut hs (Ne.symm (cne x c hc)), fun j y v' e1 e2 e3 => ?_⟩, fun y c' e => ?_, I.free, I.freeC, fun p hp => ?_, tracked ⟨oc, hoc, I.freeC x c hc⟩ hs, by simpa using I.len⟩ ⟨c, hs, .inr hc⟩
    · exact (hs.2 b (Nat.ne_of_lt (Nat.lt_of_lt_of_le (Heap.lt_size e) (I.ok.cab x c hfn hc)))).trans (I.base.keep b o e n hb hx)
    · obtain ⟨sl, e1⟩ := I.base.slot b o e n hb hx
      exact ⟨sl, (hs.2 b (Nat.ne_of_lt (Nat.lt_of_lt_of_le (Heap.lt_size e) (I.ok.cab x c hfn hc)))).trans e1⟩
    · obtain ⟨o', e1⟩ := I.base.there b o e hx
      exact ⟨o', (hs.2 b (Nat.ne_of_lt (Nat.lt_of_lt_of_le (Heap.lt_size e) (I.ok.cab x c hfn hc)))).trans e1⟩
    · by_cases hj : j = i
      · subst hj
        rw [hi] at e1; cases e1
        rw [List.getElem?_set_self hiσ] at e2
        cases e2
        exact ⟨u, r, .inr ⟨.inl hk, c, hc, hc'⟩⟩
      · rw [List.getElem?_set_ne (Ne.symm hj)] at e2
        obtain ⟨u', r', q⟩ := hl j y v' e1 e2 e3
        refine ⟨u', r', ?_⟩
        rcases q with q | ⟨k, c', e, z'⟩
        · exact .inl q
        · refine .inr ⟨k, c', e, z'.sameBut hs ?_⟩
          rintro rfl
          exact hj (nodup_ix hN e1 (I.ok.inj _ _ _ e hc ▸ hi))
    · by_cases hcc : c' = c
      · subst hcc; exact ⟨_, hc'⟩
      · obtain ⟨w2, z2⟩ := I.cell y c' e
        exact ⟨w2, z2.sameBut hs hcc⟩
    · obtain ⟨e, n, ne, nf, d⟩ := I.pin p hp
      refine ⟨(hs.2 p.1 ?_).trans e, n, ne, nf, d⟩
      intro q
      rw [q, hoc] at e
      have q' : oc = p.2 := Option.some.inj e
      exact d w' (by rw [← q']; exact hocd)
theorem store_ok {M : Model} {A : Around} {E : Value → Shared → Prop} {i : Nat} {x : Str} {v : V} {u : Value} {Q : Unit → Shared → Prop} (I : Inv X pins σ H s) (hN : X.N.Nodup) (hi : X.N[i]? = some x) (hx : Loc X.env.scope x) (r : RelV v u)
    (h : ∀ s', Inv X pins (σ.set i (some v)) H s' → Q () s') (hf : X.fn x = true ∨ X.env.scope.names.lookup x = some .local := by first | exact .inl rfl | exact .inr rfl | assumption) : wpAny M A (storeName X.env x u) Q E s :=
  store_ok2 I hN hi hx r (fun s' I' _ => h s' I') hf
/-- behind a call or a block, the state as it is -/
theorem Inv.call' {s' : Shared} {ch : List Addr} (I : Inv X pins σ H s) (ho : s'.os = s.os) (u : Un (frs X.stack) ch H H' s.heap s'.heap) (hok : HOk X.prog X.w H' s'.heap) (hg : AllBare s'.gens)
    (hch : ∀ b ∈ ch, (b ∈ X.ex ∨ X.s₀.heap.objs.size ≤ b) ∧ b ≠ X.env.locals ∧ (∀ x c, X.env.cells.lookup x = some c → c ≠ b) ∧ ∀ p ∈ X.pn ++ pins, p.1 ≠ b) : Inv X pins σ H' s' := by
  obtain ⟨h', g', d', t', o'⟩ := s'
  have e : o' = s.os := ho
  subst e
  exact I.call (g' := g') (t' := t') (d' := d') u hok hg hch
end

/-! ### the judgements -/
/-- an exception: its class, its own dict's address (where it has one), the abstract heap behind it -/
abbrev XK := Value → Option Addr → Hp → Prop
abbrev St := List (Option V)
abbrev VK := V → Hp → Prop
/-- an expression's reading; a test's; an argument list's -/
abbrev TE := St → Hp → VK → Prop
abbrev TT := St → Hp → (Bool → Hp → Prop) → Prop
abbrev TA := St → Hp → (List V → Hp → Prop) → Prop
/-- what is wanted behind a statement -/
structure Ends where
  nx : St → Hp → Prop
  rt : VK
  bk : St → Hp → Prop := fun _ _ => False
  ct : St → Hp → Prop := fun _ _ => False
abbrev TS := Ends → St → Hp → Prop

def EP (X : Cx) (pins : List (Addr × Obj)) (σ : St) (Q : VK) (u : Value) (s' : Shared) : Prop := ∃ v H', Inv X pins σ H' s' ∧ RelV v u ∧ Q v H'
def TP (X : Cx) (pins : List (Addr × Obj)) (σ : St) (Q : Bool → Hp → Prop) (b : Bool) (s' : Shared) : Prop := ∃ H', Inv X pins σ H' s' ∧ Q b H'
def AP (X : Cx) (pins : List (Addr × Obj)) (σ : St) (Q : List V → Hp → Prop) (us : List Value) (s' : Shared) : Prop := ∃ vs H', Inv X pins σ H' s' ∧ Vals vs us ∧ Q vs H'
def SP (X : Cx) (pins : List (Addr × Obj)) (D : Ends) (f : Flow) (s' : Shared) : Prop :=
  match f with
  | .next => ∃ σ' H', Inv X pins σ' H' s' ∧ D.nx σ' H'
  | .brk => ∃ σ' H', Inv X pins σ' H' s' ∧ D.bk σ' H'
  | .cont => ∃ σ' H', Inv X pins σ' H' s' ∧ D.ct σ' H'
  | .ret u => ∃ v σ' H', Inv X pins σ' H' s' ∧ RelV v u ∧ D.rt v H'

def PE (X : Cx) (e : Expr) (t : TE) : Prop :=
  ∀ (pins : List (Addr × Obj)) (s : Shared) (σ : St) (H : Hp) (Q : VK), Inv X pins σ H s → t σ H Q → wpAny (model X.prog X.w) X.A (eval e X.env) (EP X pins σ Q) X.xe s
def PT (X : Cx) (e : Expr) (t : TT) : Prop :=
  ∀ (pins : List (Addr × Obj)) (s : Shared) (σ : St) (H : Hp) (Q : Bool → Hp → Prop), Inv X pins σ H s → t σ H Q → wpAny (model X.prog X.w) X.A (isTrue e X.env (eval e X.env)) (TP X pins σ Q) X.xe s
/-- a test whatever its 'whole' is (and, or) -/
def PW (X : Cx) (e : Expr) (t : TT) : Prop :=
  ∀ (whole : Sem Value) (pins : List (Addr × Obj)) (s : Shared) (σ : St) (H : Hp) (Q : Bool → Hp → Prop), Inv X pins σ H s → t σ H Q → wpAny (model X.prog X.w) X.A (isTrue e X.env whole) (TP X pins σ Q) X.xe s
theorem PW.pt {X : Cx} {e : Expr} {t : TT} (h : PW X e t) : PT X e t := h _
/-- an argument list (no star), from the left -/
def PA (X : Cx) (es : List Expr) (t : TA) : Prop :=
  ∀ (pos : Pos) (pins : List (Addr × Obj)) (s : Shared) (σ : St) (H : Hp) (Q : List V → Hp → Prop), Inv X pins σ H s → t σ H Q → wpAny (model X.prog X.w) X.A (spliced (backTo pos (starEach es X.env))) (AP X pins σ Q) X.xe s
def PS (X : Cx) (st : Stmt) (t : TS) : Prop :=
  ∀ (pins : List (Addr × Obj)) (s : Shared) (σ : St) (H : Hp) (D : Ends), Inv X pins σ H s → t D σ H → wpAny (model X.prog X.w) X.A (exec st X.env) (SP X pins D) X.xe s
def PSs (X : Cx) (st : List Stmt) (t : TS) : Prop :=
  ∀ (pins : List (Addr × Obj)) (s : Shared) (σ : St) (H : Hp) (D : Ends), Inv X pins σ H s → t D σ H → wpAny (model X.prog X.w) X.A (execs st X.env) (SP X pins D) X.xe s
/-- weaken the end -/
theorem thn {α : Type} {t : Sem α} {Q Q' : α → Shared → Prop} {M : Model} {A : Around} {E : Value → Shared → Prop} {s : Shared} (h : wpAny M A t Q E s) (hQ : ∀ a s, Q a s → Q' a s) : wpAny M A t Q' E s := wpAny_mono h hQ fun _ _ x => x
end L2

namespace L2
open PySem PySem.Spec PyProof.Rows
section
variable {X : Cx}

/-! ### names and constants -/
def tVar (i : Nat) : TE := fun σ H Q => ∃ v, σ[i]? = some (some v) ∧ Q v H
def tC (v : V) : TE := fun _ H Q => Q v H
theorem pe_var {i : Nat} {x : Str} {pos : Pos} (hN : X.N[i]? = some x) (hv : Vis X.env.scope x) (hd : (x == ("__debug__" : Str)) = false := by decide) (hcd : (x == ("__classdict__" : Str)) = false := by decide) : PE X (.Name x pos) (tVar i) := by
  intro pins s σ H Q I h
  obtain ⟨v, e, h⟩ := h
  obtain ⟨m, hn, hl⟩ := I.loc
  obtain ⟨u, r, l⟩ := hl i x v hN e hv
  have fin : EP X pins σ Q u s := ⟨v, H, I, r, h⟩
  rcases l with ⟨hk, hm⟩ | ⟨hk, c, hc, hcell⟩
  · exact wpAny_Name (wpAny_loadName_local I.ok.kind hk hn hm fin) hd
  · rcases hk with hk | hk
    · exact wpAny_Name (wpAny_loadName_cell I.ok.kind hk hc hcell fin) hd
    · exact wpAny_Name (wpAny_loadName_free I.ok.kind hk hc hcell fin hcd) hd
theorem pe_int {i j pos} : PE X (.Constant (.int i) j pos) (tC (.int i)) := fun _ _ _ H _ I h => wpAny_Constant_int ⟨.int i, H, I.tok _, ⟨_, rfl⟩, h⟩
theorem pe_bl {b j pos} : PE X (.Constant (.bool b) j pos) (tC (.bl b)) := fun _ _ _ H _ I h => Constant_bool ⟨.bl b, H, I, rfl, h⟩
theorem pe_non {j pos} : PE X (.Constant .none j pos) (tC .non) := fun _ _ _ H _ I h => Constant_none ⟨.non, H, I, rfl, h⟩
theorem pe_str {x j pos} : PE X (.Constant (.str x) j pos) (tC (.str x)) := fun _ _ _ H _ I h => Calls.Constant_str ⟨.str x, H, I.tok _, ⟨_, rfl⟩, h⟩

/-- a global name of the def -/
def Gl (X : Cx) (x : Str) : Prop := X.env.kindOf x = some .globalImplicit
theorem ld_glob {E : Value → Shared → Prop} {pins : List (Addr × Obj)} {s : Shared} {σ : St} {H : Hp} {x : Str} {u : Value} {pos : Pos} {Q : Value → Shared → Prop} (I : Inv X pins σ H s) (hg : Gl X x) (hm : X.mg x = some u) (h : Q u s)
    (hd : (x == ("__debug__" : Str)) = false := by decide) : wpAny (model X.prog X.w) X.A (eval (.Name x pos) X.env) Q E s :=
  Calls.Name_function_global I.ok.kind hg (Calls.loadGlobal_global (by rw [I.ok.glob]; exact I.mod.glob.keeps I.bk) hm h) hd
theorem ld_blt {E : Value → Shared → Prop} {pins : List (Addr × Obj)} {s : Shared} {σ : St} {H : Hp} {x : Str} {u : Value} {pos : Pos} {Q : Value → Shared → Prop} (I : Inv X pins σ H s) (hg : Gl X x) (hm : X.mg x = none) (hv : bootBuiltins x = some u) (h : Q u s)
    (hn : x ≠ "__name__" := by decide) (hd : (x == ("__debug__" : Str)) = false := by decide) : wpAny (model X.prog X.w) X.A (eval (.Name x pos) X.env) Q E s := by
  obtain ⟨mb, h1, h2⟩ := I.mod.blt
  exact Calls.Name_function_global I.ok.kind hg (Calls.loadGlobal_builtin (by rw [I.ok.glob]; exact I.mod.glob.keeps I.bk) hm (by rw [I.ok.blt]; exact h1.keeps I.bk) ((h2 x hn).trans hv) h) hd
/-- a module's constant, a class, a function, as a value -/
theorem pe_glob {x : Str} {v : V} {u : Value} {pos : Pos} (hg : Gl X x) (hm : X.mg x = some u) (r : RelV v u) (hd : (x == ("__debug__" : Str)) = false := by decide) : PE X (.Name x pos) (tC v) :=
  fun _ _ _ H _ I h => ld_glob I hg hm ⟨v, H, I, r, h⟩ hd
theorem pe_bltn {x : Str} {v : V} {u : Value} {pos : Pos} (hg : Gl X x) (hm : X.mg x = none) (hv : bootBuiltins x = some u) (r : RelV v u) (hn : x ≠ "__name__" := by decide) (hd : (x == ("__debug__" : Str)) = false := by decide) : PE X (.Name x pos) (tC v) :=
  fun _ _ _ H _ I h => ld_blt I hg hm hv ⟨v, H, I, r, h⟩ hn hd

/-! ### arithmetic -/
/-- two ints -/
def t2I (ta tb : TE) (k : Int → Int → Hp → Prop) : St → Hp → Prop := fun σ H => ta σ H fun x H1 => tb σ H1 fun y H2 => ∃ i j, x = .int i ∧ y = .int j ∧ k i j H2
def tAdd (ta tb : TE) : TE := fun σ H Q => t2I ta tb (fun i j H2 => Q (.int (i + j)) H2) σ H
def tSub (ta tb : TE) : TE := fun σ H Q => t2I ta tb (fun i j H2 => Q (.int (i - j)) H2) σ H
/-- the left factor below 2^64 -/
def tMul (ta tb : TE) : TE := fun σ H Q => t2I ta tb (fun i j H2 => (-(2 ^ 64) < i ∧ i < 2 ^ 64) ∧ Q (.int (i * j)) H2) σ H
variable {a b : Expr} {ta tb : TE} {pos : Pos}
/-! ### comparisons -/
def PC (X : Cx) (op : CmpOp) (a b : Expr) (t : TE) : Prop :=
  ∀ (pins : List (Addr × Obj)) (s : Shared) (σ : St) (H : Hp) (Q : VK), Inv X pins σ H s → t σ H Q →
    wpAny (model X.prog X.w) X.A (eval a X.env) (fun v s₁ => wpAny (model X.prog X.w) X.A (eval b X.env) (fun u s₂ => wpAny (model X.prog X.w) X.A (compareOp op v u) (EP X pins σ Q) X.xe s₂) X.xe s₁) X.xe s
theorem nobehind (b : Expr) {op : CmpOp} (h : op ≠ .In) (h2 : op ≠ .NotIn) : behindInMarks op b = false := by
  have e1 : (op == CmpOp.In) = false := by cases op <;> first | rfl | exact absurd rfl h
  have e2 : (op == CmpOp.NotIn) = false := by cases op <;> first | rfl | exact absurd rfl h2
  cases b <;> simp [behindInMarks, e1, e2]
def tCmp (p : Int → Int → Bool) (ta tb : TE) : TE := fun σ H Q => t2I ta tb (fun i j H2 => Q (.bl (p i j)) H2) σ H
abbrev tLt : TE → TE → TE := tCmp fun i j => decide (i < j)
abbrev tLe : TE → TE → TE := tCmp fun i j => decide (i ≤ j)
abbrev tGt : TE → TE → TE := tCmp fun i j => decide (j < i)
abbrev tGe : TE → TE → TE := tCmp fun i j => decide (j ≤ i)
abbrev tEqI : TE → TE → TE := tCmp fun i j => decide (i = j)
abbrev tNeI : TE → TE → TE := tCmp fun i j => !decide (i = j)
/-- is None -/
def tIsN (ta : TE) : TE := fun σ H Q => ta σ H fun x H1 => Q (.bl (decide (x = .non))) H1
def tNotN (ta : TE) : TE := fun σ H Q => ta σ H fun x H1 => Q (.bl (!decide (x = .non))) H1
theorem RelV.none_iff {x : V} {v : Value} (r : RelV x v) : (v == Value.none) = decide (x = .non) := by
  cases x with
  | non => cases r; rfl
  | bl _ => cases r; rfl
  | int _ => obtain ⟨t, rfl⟩ := r; rfl
  | str _ => obtain ⟨t, rfl⟩ := r; rfl
  | byt _ => obtain ⟨t, rfl⟩ := r; rfl
  | flt _ => obtain ⟨t, rfl⟩ := r; rfl
  | ref _ => cases r; rfl
  | ty _ => cases r; rfl
theorem pc_notN {j pos'} (ha : PE X a ta) : PC X .IsNot a (.Constant .none j pos') (tNotN ta) := by
  intro pins s σ H Q I h
  refine thn (ha pins s σ H _ I h) fun v s1 ⟨x, H1, I1, r1, q1⟩ => ?_
  exact Constant_none (isnot_none_gen ⟨.bl _, H1, I1, by rw [r1.none_iff]; rfl, q1⟩)
/-- a comparison as a value, as a test -/
def tB (t : TE) : TT := fun σ H Q => t σ H fun x H1 => ∃ c, x = .bl c ∧ Q c H1
theorem pt_cmp {op : CmpOp} {t : TE} (h : PC X op a b t) (h1 : behindInMarks op b = false := by first | exact nobehind _ (by decide) (by decide) | rfl) : PT X (.Compare a [op] [b] pos) (tB t) := by
  intro pins s σ H Q I hw
  refine wpAny_isTrue_Compare1 (thn (h pins s σ H _ I hw) fun v s1 h1 => thn h1 fun u s2 h2 => thn h2 fun c s3 ⟨x, H1, I1, r1, q1⟩ => ?_) h1
  obtain ⟨d, rfl, q⟩ := q1
  cases r1
  exact wpAny_truthy_bool ⟨H1, I1, q⟩
/-- an expression whose value is a bool, as a test -/
theorem pt_val {e : Expr} {t : TE} (h : PE X e t) (he : ∀ whole, isTrue e X.env whole = (do let v ← whole; standAt e.pos; holding [v] (truthy v)) := by intro _; rfl) : PT X e (tB t) := by
  intro pins s σ H Q I hw
  refine isTrue_plain (thn (h pins s σ H _ I hw) fun v s1 ⟨x, H1, I1, r1, q1⟩ => ?_) (he _)
  obtain ⟨d, rfl, q⟩ := q1
  cases r1
  exact wpAny_truthy_bool ⟨H1, I1, q⟩

/-! ### and, or, not -/
variable {tA tB' : TT} {rest : List Expr}
def tAnd (t u : TT) : TT := fun σ H Q => t σ H fun c H1 => if c = true then u σ H1 Q else Q false H1
def tOr (t u : TT) : TT := fun σ H Q => t σ H fun c H1 => if c = true then Q true H1 else u σ H1 Q
def tNot (t : TT) : TT := fun σ H Q => t σ H fun c H1 => Q (!c) H1
theorem pw_and1 (ha : PT X a tA) : PW X (.BoolOp .And [a] pos) tA := by
  intro wh pins s σ H Q I h
  refine isTrue_and (thn (ha pins s σ H Q I h) fun c s1 e => ?_)
  cases c with
  | true => exact isTrue_and_nil e
  | false => exact e
theorem pw_or1 (ha : PT X a tA) : PW X (.BoolOp .Or [a] pos) tA := by
  intro wh pins s σ H Q I h
  refine isTrue_or (thn (ha pins s σ H Q I h) fun c s1 e => ?_)
  cases c with
  | false => exact isTrue_or_nil e
  | true => exact e
theorem pw_and (ha : PT X a tA) (hb : PW X (.BoolOp .And (b :: rest) pos) tB') : PW X (.BoolOp .And (a :: b :: rest) pos) (tAnd tA tB') := by
  intro wh pins s σ H Q I h
  refine isTrue_and (thn (ha pins s σ H _ I h) fun c s1 ⟨H1, I1, q1⟩ => ?_)
  cases c with
  | true => exact hb wh pins s1 σ H1 Q I1 q1
  | false => exact ⟨H1, I1, q1⟩
theorem pw_or (ha : PT X a tA) (hb : PW X (.BoolOp .Or (b :: rest) pos) tB') : PW X (.BoolOp .Or (a :: b :: rest) pos) (tOr tA tB') := by
  intro wh pins s σ H Q I h
  refine isTrue_or (thn (ha pins s σ H _ I h) fun c s1 ⟨H1, I1, q1⟩ => ?_)
  cases c with
  | true => exact ⟨H1, I1, q1⟩
  | false => exact hb wh pins s1 σ H1 Q I1 q1
theorem pt_not (ha : PT X a tA) : PT X (.UnaryOp .Not a pos) (tNot tA) := by
  intro pins s σ H Q I h
  exact isTrue_not (ha pins s σ H (fun c H1 => Q (!c) H1) I h)
/-- .. as values (bools) -/
def tAndV (ta tb : TE) : TE := fun σ H Q => ta σ H fun x H1 => ∃ c, x = .bl c ∧ if c = true then tb σ H1 Q else Q (.bl false) H1
def tOrV (ta tb : TE) : TE := fun σ H Q => ta σ H fun x H1 => ∃ c, x = .bl c ∧ if c = true then Q (.bl true) H1 else tb σ H1 Q
def tNotV (ta : TE) : TE := fun σ H Q => ta σ H fun x H1 => ∃ c, x = .bl c ∧ Q (.bl (!c)) H1
theorem pe_one {op} {t : TE} (h : PE X a t) : PE X (.BoolOp op [a] pos) t := fun pins s σ H Q I hw => BoolOp_one (h pins s σ H Q I hw)
theorem pe_and (ha : PE X a ta) (hb : PE X (.BoolOp .And (b :: rest) pos) tb) : PE X (.BoolOp .And (a :: b :: rest) pos) (tAndV ta tb) := by
  intro pins s σ H Q I h
  refine BoolOp_and (thn (ha pins s σ H _ I h) fun v s1 ⟨x, H1, I1, r1, q1⟩ => ?_)
  obtain ⟨c, rfl, q1⟩ := q1
  cases r1
  refine wpAny_truthy_bool ?_
  cases c with
  | true => exact hb pins s1 σ H1 Q I1 q1
  | false => exact ⟨.bl false, H1, I1, rfl, q1⟩
theorem pe_not (ha : PE X a ta) : PE X (.UnaryOp .Not a pos) (tNotV ta) := by
  intro pins s σ H Q I h
  refine UnaryOp_ (thn (ha pins s σ H _ I h) fun v s1 ⟨x, H1, I1, r1, q1⟩ => ?_)
  obtain ⟨c, rfl, q1⟩ := q1
  cases r1
  exact not_of (wpAny_truthy_bool ⟨.bl (!c), H1, I1, rfl, q1⟩)
/-- a if t else b -/
def tIf (t : TT) (ta tb : TE) : TE := fun σ H Q => t σ H fun c H1 => if c = true then ta σ H1 Q else tb σ H1 Q
end
end L2

namespace L2
open PySem PySem.Spec PyProof.Rows

/-! ### a list, a tuple that is read: tracked, frozen, or an object of the module -/
def SqL (K : PySem.W.Frag) (H : Hp) (a : Addr) (xs : List V) : Prop :=
  Rd H a (.lst xs) ∨
    ∃ (o : Obj) (its : Array Value) (n : Nat), K.lookup a = some o ∧ o.cls = .type "list" ∧ o.dict = none ∧ o.data = .seq its n ∧ its.size ≤ sizeLine ∧ Vals xs its.toList
def SqT (K : PySem.W.Frag) (H : Hp) (a : Addr) (xs : List V) : Prop :=
  Rd H a (.tup xs) ∨
    ∃ (o : Obj) (its : Array Value) (n : Nat), K.lookup a = some o ∧ o.cls = .type "tuple" ∧ o.data = .seq its n ∧ its.size ≤ sizeLine ∧ Vals xs its.toList
def absV : Value → Option V
  | .none => some .non
  | .bool b => some (.bl b)
  | .int i _ => some (.int i)
  | .str x _ => some (.str x)
  | .bytes b _ => some (.byt b)
  | .float b _ => some (.flt b)
  | .ref a => some (.ref a)
  | .type n => some (.ty n)
  | _ => none
theorem RelV.abs {x : V} {u : Value} (r : RelV x u) : absV u = some x := by
  cases x with
  | non => cases r; rfl
  | bl _ => cases r; rfl
  | int _ => obtain ⟨t, rfl⟩ := r; rfl
  | str _ => obtain ⟨t, rfl⟩ := r; rfl
  | byt _ => obtain ⟨t, rfl⟩ := r; rfl
  | flt _ => obtain ⟨t, rfl⟩ := r; rfl
  | ref _ => cases r; rfl
  | ty _ => cases r; rfl
theorem RelV.inj {x y : V} {u : Value} (r : RelV x u) (q : RelV y u) : x = y := Option.some.inj (r.abs.symm.trans q.abs)
theorem Vals.inj : ∀ {xs ys : List V} {us : List Value}, Vals xs us → Vals ys us → xs = ys
  | _, _, _, .nil, .nil => rfl
  | _, _, _, .cons r t, .cons r' t' => by rw [r.inj r', Vals.inj t t']
section
variable {X : Cx} {pins : List (Addr × Obj)} {σ : St} {H : Hp} {s : Shared} {a : Addr} {xs ys : List V}
theorem SqL.of {K : PySem.W.Frag} (h : H a = some (.lst xs)) : SqL K H a xs := .inl (.inl h)
theorem SqT.of {K : PySem.W.Frag} (h : H a = some (.tup xs)) : SqT K H a xs := .inl (.inl h)
theorem Inv.list (I : Inv X pins σ H s) (h : SqL X.K H a xs) : ∃ its : List Value, Vals xs its ∧ PlainL s.heap a its.toArray ∧ xs.length ≤ sizeLine := by
  rcases h with h | ⟨o, its, n, hk, hc, hd, hs, hz, r⟩
  · obtain ⟨z, its, n, r, e⟩ := h.ok I.hok
    exact ⟨its, r, ⟨_, n, e, rfl, rfl, rfl⟩, z⟩
  · refine ⟨its.toList, r, ⟨o, n, I.kIn a o hk, hc, hd, by simpa using hs⟩, ?_⟩
    have e := r.length
    simp only [Array.length_toList] at e
    omega
theorem Inv.tuple (I : Inv X pins σ H s) (h : SqT X.K H a xs) : ∃ its : List Value, Vals xs its ∧ IsTup s.heap a its.toArray ∧ xs.length ≤ sizeLine := by
  rcases h with h | ⟨o, its, n, hk, hc, hs, hz, r⟩
  · obtain ⟨z, its, r, p⟩ := h.ok I.hok
    exact ⟨its, r, p, z⟩
  · refine ⟨its.toList, r, ⟨o, I.kIn a o hk, hc, n, by simpa using hs⟩, ?_⟩
    have e := r.length
    simp only [Array.length_toList] at e
    omega
theorem Inv.list_inj (I : Inv X pins σ H s) (h : SqL X.K H a xs) (h' : SqL X.K H a ys) : xs = ys := by
  obtain ⟨its, r, ⟨o, n, e, _, _, d⟩, _⟩ := I.list h
  obtain ⟨its', r', ⟨o', n', e', _, _, d'⟩, _⟩ := I.list h'
  rw [e] at e'; cases e'
  rw [d] at d'
  injection d' with d1 _
  have : its = its' := by simpa using congrArg Array.toList d1
  subst this
  exact r.inj r'
end

/-! ### another wish about exceptions -/
abbrev Cx.wish (X : Cx) (E : Value → Shared → Prop) : Cx := { X with xe := E }
/-- no exception leaves -/
abbrev Cx.nox (X : Cx) : Cx := X.wish fun _ _ => False
theorem Cx.Ok.wish {X : Cx} (ok : X.Ok) (E : Value → Shared → Prop) : (X.wish E).Ok :=
  ⟨ok.mod, ok.kind, ok.glob, ok.blt, ok.above, ok.inj, ok.has, ok.cab, ok.hd, ok.frames, ok.stk, ok.exf, ok.bs, ok.bsz, ok.noex, ok.exfs, ok.funs, ok.frf⟩
theorem Cx.Ok.unwish {X : Cx} {E : Value → Shared → Prop} (ok : (X.wish E).Ok) : X.Ok :=
  ⟨ok.mod, ok.kind, ok.glob, ok.blt, ok.above, ok.inj, ok.has, ok.cab, ok.hd, ok.frames, ok.stk, ok.exf, ok.bs, ok.bsz, ok.noex, ok.exfs, ok.funs, ok.frf⟩
section
variable {X : Cx} {pins : List (Addr × Obj)} {σ : St} {H : Hp} {s : Shared} {E : Value → Shared → Prop}
theorem Inv.wish (I : Inv X pins σ H s) (E : Value → Shared → Prop) : Inv (X.wish E) pins σ H s := ⟨I.ok.wish E, I.os, I.bare, I.base, I.loc, I.cell, I.free, I.freeC, I.pin, I.hok, I.len⟩
theorem Inv.unwish (I : Inv (X.wish E) pins σ H s) : Inv X pins σ H s := ⟨I.ok.unwish, I.os, I.bare, I.base, I.loc, I.cell, I.free, I.freeC, I.pin, I.hok, I.len⟩
theorem SP.unwish {D : Ends} {f : Flow} {s' : Shared} (h : SP (X.wish E) pins D f s') : SP X pins D f s' := by
  cases f with
  | next => obtain ⟨σ', H', I, q⟩ := h; exact ⟨σ', H', I.unwish, q⟩
  | brk => obtain ⟨σ', H', I, q⟩ := h; exact ⟨σ', H', I.unwish, q⟩
  | cont => obtain ⟨σ', H', I, q⟩ := h; exact ⟨σ', H', I.unwish, q⟩
  | ret u => obtain ⟨v, σ', H', I, r, q⟩ := h; exact ⟨v, σ', H', I.unwish, r, q⟩
theorem PSs.nox {st : List Stmt} {t : TS} (h : PSs X.nox st t) : PSs X st t := fun pins s σ H D I hw =>
  wpAny_mono (h pins s σ H D (I.wish _) hw) (fun _ _ q => q.unwish) fun _ _ z => False.elim z
end

/-! ### blocks and small statements -/
section
variable {X : Cx} {st : Stmt} {rest : List Stmt} {t u : TS} {e : Expr} {te : TE} {pos : Pos}
def tNext : TS := fun D σ H => D.nx σ H
def tSeq (t u : TS) : TS := fun D σ H => t { D with nx := u D } σ H
theorem pss_nil : PSs X [] tNext := fun _ _ σ H _ I h => wpAny_execs_nil ⟨σ, H, I, h⟩
theorem pss_cons (h1 : PS X st t) (h2 : PSs X rest u) : PSs X (st :: rest) (tSeq t u) := by
  intro pins s σ H D I h
  refine wpAny_execs_cons (thn (h1 pins s σ H { D with nx := u D } I h) fun f s1 q => ?_)
  cases f with
  | next =>
    obtain ⟨σ', H', I', q⟩ := q
    exact h2 pins s1 σ' H' D I' q
  | ret v => exact q
  | brk => exact q
  | cont => exact q
theorem pss_one (h1 : PS X st t) : PSs X [st] t := by
  intro pins s σ H D I h
  refine wpAny_execs_cons (thn (h1 pins s σ H D I h) fun f s1 q => ?_)
  cases f with
  | next => exact wpAny_execs_nil q
  | ret v => exact q
  | brk => exact q
  | cont => exact q
def tBreak : TS := fun D σ H => D.bk σ H
def tCont : TS := fun D σ H => D.ct σ H
/-- in a def's body nothing is shown -/
theorem Inv.quiet {pins : List (Addr × Obj)} {σ : St} {H : Hp} {s : Shared} (I : Inv X pins σ H s) : interactive X.env = false := by simp [interactive, I.ok.kind]
/-- an expression whose value is dropped -/
def tDrop (te : TE) : TS := fun D σ H => te σ H fun _ H1 => D.nx σ H1
theorem ps_expr (he : PE X e te) (hs : swapsWith e none pos.line X.env = pure false := by rfl) : PS X (.Expr e pos) (tDrop te) := by
  intro pins s σ H D I h
  exact wpAny_Expr_any (thn (he pins s σ H _ I h) fun v s1 ⟨x, H1, I1, r1, q1⟩ => ⟨σ, H1, I1, q1⟩) I.quiet hs
def tRet (te : TE) : TS := fun D σ H => te σ H D.rt
theorem ps_ret (he : PE X e te) : PS X (.Return (some e) pos) (tRet te) := by
  intro pins s σ H D I h
  exact wpAny_Return_some (thn (he pins s σ H _ I h) fun v s1 ⟨x, H1, I1, r1, q1⟩ => ⟨x, σ, H1, I1, r1, q1⟩)
def tRetN : TS := fun D _ H => D.rt .non H
def tIfS (c : TT) (t u : TS) : TS := fun D σ H => c σ H fun b H1 => if b = true then t D σ H1 else u D σ H1
theorem ps_if {c : Expr} {a b : List Stmt} {tc : TT} (hc : PT X c tc) (ha : PSs X a t) (hb : PSs X b u) : PS X (.If c a b pos) (tIfS tc t u) := by
  intro pins s σ H D I h
  refine wpAny_If (thn (hc pins s σ H _ I h) fun d s1 ⟨H1, I1, q1⟩ => ?_)
  cases d with
  | true => exact ha pins s1 σ H1 D I1 q1
  | false => exact hb pins s1 σ H1 D I1 q1
/-- code that the proof never comes to -/
def tNever : TS := fun _ _ _ => False
end

/-! ### targets -/
abbrev TG := V → St → Hp → (St → Hp → Prop) → Prop
abbrev TGs := List V → St → Hp → (St → Hp → Prop) → Prop
def PG (X : Cx) (target : Expr) (t : TG) : Prop :=
  ∀ (pins : List (Addr × Obj)) (s : Shared) (σ : St) (H : Hp) (v : V) (u : Value) (Q : St → Hp → Prop), Inv X pins σ H s → RelV v u → t v σ H Q →
    wpAny (model X.prog X.w) X.A (assign target X.env u) (fun _ s' => ∃ σ' H', Inv X pins σ' H' s' ∧ Q σ' H') X.xe s
/-- several targets, one after another -/
def PGs (X : Cx) (ts : List Expr) (t : TGs) : Prop :=
  ∀ (pins : List (Addr × Obj)) (s : Shared) (σ : St) (H : Hp) (vs : List V) (us : List Value) (Q : St → Hp → Prop), Inv X pins σ H s → Vals vs us → t vs σ H Q →
    wpAny (model X.prog X.w) X.A (assignInOrder ((assignEach ts X.env).map (·.2)) us) (fun _ s' => ∃ σ' H', Inv X pins σ' H' s' ∧ Q σ' H') X.xe s
/-- o[i] = v, by values -/
abbrev TSet := V → V → V → Hp → (Hp → Prop) → Prop
def PSet (X : Cx) (t : TSet) : Prop :=
  ∀ (pins : List (Addr × Obj)) (s : Shared) (σ : St) (H : Hp) (o i v : V) (ov iv u : Value) (Q : Hp → Prop), Inv X pins σ H s → RelV o ov → RelV i iv → RelV v u → t o i v H Q →
    wpAny (model X.prog X.w) X.A (setItem ov iv u) (fun _ s' => ∃ H', Inv X pins σ H' s' ∧ Q H') X.xe s
/-- a op= b, by values -/
abbrev TIp := V → V → Hp → VK → Prop
def PIp (X : Cx) (op : Operator) (t : TIp) : Prop :=
  ∀ (pins : List (Addr × Obj)) (s : Shared) (σ : St) (H : Hp) (x y : V) (v u : Value) (Q : VK), Inv X pins σ H s → RelV x v → RelV y u → t x y H Q →
    wpAny (model X.prog X.w) X.A (inplaceOp op v u) (EP X pins σ Q) X.xe s
section
variable {X : Cx} {pos : Pos}
def gName (i : Nat) : TG := fun v σ H Q => Q (σ.set i (some v)) H
theorem pg_name {i : Nat} {x : Str} (hN : X.N.Nodup) (hi : X.N[i]? = some x) (hx : Loc X.env.scope x) (hf : X.fn x = true ∨ X.env.scope.names.lookup x = some .local := by first | exact .inl rfl | exact .inr rfl | assumption) : PG X (.Name x pos) (gName i) := by
  intro pins s σ H v u Q I r h
  exact wpAny_assign_Name (store_ok I hN hi hx r (fun s' I' => ⟨_, H, I', h⟩) hf)
def gNil : TGs := fun vs σ H Q => vs = [] ∧ Q σ H
def gCons (t : TG) (u : TGs) : TGs := fun vs σ H Q => ∃ v r, vs = v :: r ∧ t v σ H fun σ' H' => u r σ' H' Q
theorem pgs_nil : PGs X [] gNil := by
  intro pins s σ H vs us Q I r h
  obtain ⟨e, h⟩ := h
  subst e
  cases r
  exact assignInOrder_nil ⟨σ, H, I, h⟩
theorem pgs_cons {e : Expr} {es : List Expr} {t : TG} {u : TGs} (h1 : PG X e t) (h2 : PGs X es u)
    (hs : (assignEach (e :: es) X.env).map (·.2) = assign e X.env :: (assignEach es X.env).map (·.2) := by rfl) : PGs X (e :: es) (gCons t u) := by
  intro pins s σ H vs us Q I r h
  obtain ⟨v, vr, e1, h⟩ := h
  subst e1
  cases r with
  | cons r rr =>
    rw [hs]
    refine assignInOrder_cons (thn (h1 pins s σ H _ _ _ I r h) fun _ s1 ⟨σ1, H1, I1, q1⟩ => ?_)
    exact h2 pins s1 σ1 H1 _ _ Q I1 rr q1
/-- (a, b, ..) = a tuple of that length -/
def gTup (K : PySem.W.Frag) (n : Nat) (t : TGs) : TG := fun v σ H Q => ∃ a xs, v = .ref a ∧ SqT K H a xs ∧ xs.length = n ∧ t xs σ H Q
theorem pg_tup {es : List Expr} {k : Nat} {t : TGs} {n : Nat} (hc : X.calm = true) (h : PGs X es t)
    (hn : (assignEach es X.env).length = n := by rfl) (hst : (assignEach es X.env).findIdx? (·.1) = none := by rfl) : PG X (.Tuple es k pos) (gTup X.K n t) := by
  intro pins s σ H v u Q I r hw
  obtain ⟨a, xs, e1, hq, hl, hw⟩ := hw
  subst e1
  cases r
  obtain ⟨its, rv, ht, hz⟩ := I.tuple hq
  refine assign_Tuple_tuple (I.ok.hd hc) ht (by simp [hn, ← hl, rv.length]) hst fun h' hx => ?_
  have I1 : Inv X pins σ H { s with heap := h' } := I.kept (t' := s.toks) fun b o e => hx b o (Nat.ne_of_lt (Heap.lt_size e)) e
  exact h pins _ σ H xs _ Q I1 (by simpa using rv) hw
/-- o[i] = .. -/
def gSub (to ti : TE) (t : TSet) : TG := fun v σ H Q => to σ H fun o H1 => ti σ H1 fun i H2 => t o i v H2 fun H3 => Q σ H3
theorem pg_sub {o i : Expr} {to ti : TE} {t : TSet} (ho : PE X o to) (hi : PE X i ti) (hs : PSet X t)
    (ha : ∀ v, assign (.Subscript o i pos) X.env v = (do
      let ov ← holding [v] (eval o X.env)
      let iv ← holding [v, ov] (eval i X.env)
      standAt pos
      holding [v, ov, iv] (setItem ov iv v)
      release [v, ov, iv] []) := by intro _; rfl) : PG X (.Subscript o i pos) (gSub to ti t) := by
  intro pins s σ H v u Q I r h
  rw [ha]
  refine wpAny_bind (wpAny_holding (thn (ho pins s σ H _ I h) fun ov s1 ⟨x, H1, I1, r1, q1⟩ => ?_))
  refine wpAny_bind (wpAny_holding (thn (hi pins s1 σ H1 _ I1 q1) fun iv s2 ⟨y, H2, I2, r2, q2⟩ => ?_))
  refine wpAny_bind (wpAny_standAt (wpAny_bind (wpAny_holding (thn (hs pins s2 σ H2 x y v ov iv u _ I2 r1 r2 r q2) fun _ s3 ⟨H3, I3, q3⟩ => ?_))))
  exact wpAny_release ⟨σ, H3, I3, q3⟩
/-- target = value -/
def tAsg (te : TE) (g : TG) : TS := fun D σ H => te σ H fun x H1 => g x σ H1 D.nx
theorem ps_asg {tg e : Expr} {te : TE} {g : TG} (he : PE X e te) (hg : PG X tg g) (hs : swapsWithSole [tg] e pos.line X.env = pure false := by rfl) (hw : swappedStores [tg] e X.env = pure none := by rfl)
    (h1 : (assignEach [tg] X.env).map (·.2) = [assign tg X.env] := by rfl) : PS X (.Assign [tg] e pos) (tAsg te g) := by
  intro pins s σ H D I h
  refine wpAny_Assign_stores (thn (he pins s σ H _ I h) fun v s1 ⟨x, H1, I1, r1, q1⟩ => ?_) hs hw
  rw [h1]
  exact thn (hg pins s1 σ H1 x v _ I1 r1 q1) fun _ s2 q => q
/-- name = value -/
theorem ps_set {i : Nat} {x : Str} {e : Expr} {te : TE} {pos' : Pos} (hN : X.N.Nodup) (hi : X.N[i]? = some x) (hx : Loc X.env.scope x) (he : PE X e te) (hs : swapsWith e (some (.Name x pos')) pos.line X.env = pure false := by rfl) (hf : X.fn x = true ∨ X.env.scope.names.lookup x = some .local := by first | exact .inl rfl | exact .inr rfl | assumption) :
    PS X (.Assign [.Name x pos'] e pos) (tAsg te (gName i)) := by
  intro pins s σ H D I h
  refine wpAny_Assign_Name (thn (he pins s σ H _ I h) fun v s1 ⟨y, H1, I1, r1, q1⟩ => ?_) hs
  exact store_ok I1 hN hi hx r1 (fun s2 I2 => ⟨_, H1, I2, q1⟩) hf
/-- a, b = x, y with plain local names: stored from the right; the pair itself is not tracked (the opening rows as in PyProof/Rows/TupAssign.lean:23) -/
def tPar (i j : Nat) (ta : TA) : TS := fun D σ H => ta σ H fun vs H1 => ∃ v w, vs = [v, w] ∧ D.nx ((σ.set i (some v)).set j (some w)) H1
/-- name op= e -/
def tAug (i : Nat) (te : TE) (ti : TIp) : TS := fun D σ H => ∃ x, σ[i]? = some (some x) ∧ te σ H fun y H1 => ti x y H1 fun z H2 => D.nx (σ.set i (some z)) H2
/-- o[i] op= e -/
def tAugS (to ti te : TE) (tget : V → V → Hp → VK → Prop) (tip : TIp) (tset : TSet) : TS := fun D σ H => to σ H fun o H1 => ti σ H1 fun i H2 => tget o i H2 fun x H3 => te σ H3 fun y H4 => tip x y H4 fun z H5 => tset o i z H5 fun H6 => D.nx σ H6
/-- o[i], by values -/
def PGet (X : Cx) (t : V → V → Hp → VK → Prop) : Prop :=
  ∀ (pins : List (Addr × Obj)) (s : Shared) (σ : St) (H : Hp) (o i : V) (ov iv : Value) (Q : VK), Inv X pins σ H s → RelV o ov → RelV i iv → t o i H Q →
    wpAny (model X.prog X.w) X.A (getItem ov iv) (EP X pins σ Q) X.xe s
/-- ints -/
def ipI (f : Int → Int → Int) : TIp := fun x y H Q => ∃ i j, x = .int i ∧ y = .int j ∧ Q (.int (f i j)) H
end

/-! ### while -/
section
variable {X : Cx} {pos : Pos}
/-- the invariant W with its measure -/
def tWhile (c : TT) (tb : TS) : TS := fun D σ H => ∃ W : Nat → St → Hp → Prop, (∃ m, W m σ H) ∧ ∀ m σ H, W m σ H →
  c σ H fun b H1 => if b = true then ∃ N : St → Hp → Prop, (∀ σ' H', N σ' H' → ∃ m', m' < m ∧ W m' σ' H') ∧ tb { D with nx := N, ct := N, bk := D.nx } σ H1 else D.nx σ H1
end

/-! ### what a loop or a comprehension walks -/
/-- at turn i: it yields x (the heap may grow), or it stops -/
structure It where
  go : Nat → Hp → Prop
  yld : Nat → Hp → V → Hp → Prop
  stop : Nat → Hp → Prop
/-- the iterator's own objects may turn: they are not the frame's, not pinned, younger than the entry (or a comprehension's own) -/
def FpOk (X : Cx) (pins : List (Addr × Obj)) (H : Hp) (b : Addr) : Prop :=
  H b = none ∧ b ≠ X.env.locals ∧ b ∉ X.fs ∧ (b ∈ X.ex ∨ X.s₀.heap.objs.size ≤ b) ∧ (∀ x c, X.env.cells.lookup x = some c → c ≠ b) ∧ ∀ p ∈ X.pn ++ pins, p.1 ≠ b
theorem Inv.fpOk {X : Cx} {pins : List (Addr × Obj)} {σ : St} {H H' : Hp} {s : Shared} {b : Addr} (I : Inv X pins σ H s) (hb : s.heap.objs.size ≤ b) (hn : H' b = none) : FpOk X pins H' b := by
  refine ⟨hn, Nat.ne_of_gt (Nat.lt_of_lt_of_le I.lt hb), I.nofs hb, .inr (Nat.le_trans I.sz hb), fun x c e z => ?_, fun p hp z => ?_⟩
  · obtain ⟨v, q⟩ := I.cell x c e
    exact absurd (Nat.lt_of_lt_of_le q.lt (by rw [z]; exact hb)) (Nat.lt_irrefl _)
  · exact absurd (Nat.lt_of_lt_of_le (Heap.lt_size (I.pin p hp).1) (by rw [z]; exact hb)) (Nat.lt_irrefl _)
structure Turn (P : Program) (w : World) (K : PySem.W.Frag) (tg : Expr) (J : It) (fp : List Addr) (it : Addr) (tn : Nat → Heap → Prop) : Prop where
  mem : it ∈ fp
  obj : ∀ i h, tn i h → ∀ b ∈ fp, ∃ o, h.get? b = some o ∧ ∀ v, o.data ≠ .cell v
  keep : ∀ i h h', tn i h → (∀ b ∈ fp, ∀ o, h.get? b = some o → h'.get? b = some o) → tn i h'
  item : ∀ (X : Cx), X.prog = P → X.w = w → X.K = K → X.calm = true → ∀ (i : Nat) (pins : List (Addr × Obj)) (s : Shared) (σ : St) (H : Hp) (E : Value → Shared → Prop), Inv X pins σ H s → (∀ b ∈ fp, FpOk X pins H b) → tn i s.heap → J.go i H →
    wpAny (model P w) X.A (pyNext (.ref it)) (fun r s1 => ∃ u, r = some u ∧
      wpAny (model P w) X.A (letOwnedTupleGo tg (.ref it) u) (fun _ s2 => ∃ x H', Inv X pins σ H' s2 ∧ RelV x u ∧ J.yld i H x H' ∧ tn (i + 1) s2.heap ∧ ∀ b ∈ fp, H' b = none) E s1) E s
  done : ∀ (X : Cx), X.prog = P → X.w = w → X.K = K → X.calm = true → ∀ (i : Nat) (pins : List (Addr × Obj)) (s : Shared) (σ : St) (H : Hp) (E : Value → Shared → Prop), Inv X pins σ H s → (∀ b ∈ fp, FpOk X pins H b) → tn i s.heap → J.stop i H →
    wpAny (model P w) X.A (pyNext (.ref it)) (fun r s1 => r = none ∧ Inv X pins σ H s1) E s
  self : ∀ (A : Around) (i : Nat) (s : Shared) (Q : Value → Shared → Prop) (E : Value → Shared → Prop), tn i s.heap → Q (.ref it) s → wpAny (model P w) A (pyIter (.ref it)) Q E s
abbrev TI := St → Hp → (It → Hp → Prop) → Prop
/-- an iterator has come -/
def PIE (X : Cx) (pins : List (Addr × Obj)) (σ : St) (tg : Expr) (R : It → Hp → Prop) (itv : Value) (s2 : Shared) : Prop :=
  ∃ (it : Addr) (fp : List Addr) (tn : Nat → Heap → Prop) (J : It) (H' : Hp), itv = .ref it ∧ Inv X pins σ H' s2 ∧ Turn X.prog X.w X.K tg J fp it tn ∧ tn 0 s2.heap ∧ (∀ b ∈ fp, FpOk X pins H' b) ∧ R J H'
def PI (X : Cx) (tg iter : Expr) (wi : TI) : Prop :=
  ∀ (pins : List (Addr × Obj)) (s : Shared) (σ : St) (H : Hp) (R : It → Hp → Prop), Inv X pins σ H s → wi σ H R →
    wpAny (model X.prog X.w) X.A (eval iter X.env) (fun v s1 => wpAny (model X.prog X.w) X.A (pyIter v) (PIE X pins σ tg R) X.xe s1) X.xe s

/-- the step ahead of the store is nothing for an iterator that keeps no tuple -/
theorem go_of {M : Model} {A : Around} {E : Value → Shared → Prop} {s : Shared} {tg : Expr} {it : Addr} {u : Value} {o : Obj} {n : String} {vs : Array Value} {Q : Unit → Shared → Prop} (ho : s.heap.get? it = some o) (hc : o.cls = .type n) (hd : o.data = .fields vs)
    (hn : ["enumerate", "zip", "dict_itemiterator", "dict_reverseitemiterator", "odict_iterator", "itertools.zip_longest", "itertools.pairwise"].contains n = false) (hQ : Q () s) : wpAny M A (letOwnedTupleGo tg (.ref it) u) Q E s := by
  unfold letOwnedTupleGo
  cases tg <;> first
    | exact wpAny_pure hQ
    | (cases u <;> first
        | exact wpAny_pure hQ
        | (refine wpAny_bind (wpAny_load ho ?_)
           rw [hc, hd]
           show wpAny M A (if (["enumerate", "zip", "dict_itemiterator", "dict_reverseitemiterator", "odict_iterator", "itertools.zip_longest", "itertools.pairwise"].contains n && vs[0]? == some (rawInt _)) = true then _ else _) Q E s
           rw [if_neg (by intro h; rw [hn, Bool.false_and] at h; cases h)]
           exact wpAny_pure hQ))

/-- the list at a, as it stands at each turn (a loop may append to it) -/
def Itl (K : PySem.W.Frag) (a : Addr) : It :=
  ⟨fun i H => ∃ xs x, SqL K H a xs ∧ xs[i]? = some x, fun i H x H' => H' = H ∧ ∀ xs, SqL K H a xs → xs[i]? = some x, fun i H => ∃ xs, SqL K H a xs ∧ xs.length ≤ i⟩
def Itt (K : PySem.W.Frag) (a : Addr) : It :=
  ⟨fun i H => ∃ xs x, SqT K H a xs ∧ xs[i]? = some x, fun i H x H' => H' = H ∧ ∀ xs, SqT K H a xs → xs[i]? = some x, fun i H => ∃ xs, SqT K H a xs ∧ xs.length ≤ i⟩
/-- lo, lo + 1, .. (n of them) -/
def Itr (lo : Int) (n : Nat) : It := ⟨fun i _ => i < n, fun i H x H' => H' = H ∧ x = .int (lo + i), fun i _ => n ≤ i⟩
theorem turn_list {P : Program} {w : World} {K : PySem.W.Frag} {tg : Expr} (a it : Addr) : Turn P w K tg (Itl K a) [it] it (fun i h => h.IsListIter it a i) where
  mem := by simp
  obj := fun i h st b hb => by
    have e : b = it := by simpa using hb
    subst e
    obtain ⟨o, e, c, d⟩ := st
    exact ⟨o, e, fun v z => by rw [d] at z; cases z⟩
  keep := fun i h h' st k => st.at fun o e => k it (by simp) o e
  item := by
    intro X hP hw hK hc i pins s σ H E I hf st hg
    subst hP hw hK
    obtain ⟨xs, x, hq, hx⟩ := hg
    obtain ⟨its, rv, p, hz⟩ := I.list hq
    obtain ⟨u, hu, ru⟩ := rv.get hx
    obtain ⟨f0, f1, f2, f3, f4, f5⟩ := hf it (by simp)
    refine wpAny_pyNext_list_item st p.isList (x := u) (by simpa using hu) fun h' st' sb => ?_
    have I1 : Inv X pins σ H { s with heap := h' } := I.turned (t' := s.toks) (fun b o hb e => (sb.2 b hb).trans e) f0 f1 f3 f4 f5
    obtain ⟨o, e, c, d⟩ := id st'
    exact ⟨u, rfl, go_of (s := { s with heap := h' }) e c d (by decide) ⟨x, H, I1, ru, ⟨rfl, fun ys hy => by rw [I.list_inj hy hq]; exact hx⟩, st', fun b hb => (hf b hb).1⟩⟩
  done := by
    intro X hP hw hK hc i pins s σ H E I hf st hg
    subst hP hw hK
    obtain ⟨xs, hq, hx⟩ := hg
    obtain ⟨its, rv, p, hz⟩ := I.list hq
    obtain ⟨f0, f1, f2, f3, f4, f5⟩ := hf it (by simp)
    have hl := rv.length
    exact wpAny_pyNext_list_end (I.ok.hd hc) st p.isList (by simp; omega) fun h' eb => ⟨rfl, I.turned (t' := s.toks) (fun b o hb e => eb b o hb e) f0 f1 f3 f4 f5⟩
  self := fun _ _ _ _ _ st h => wpAny_pyIter_listiter st h
theorem turn_range {P : Program} {w : World} {K : PySem.W.Frag} {tg : Expr} (it : Addr) (lo : Int) (n : Nat) : Turn P w K tg (Itr lo n) [it] it (fun i h => IsRangeIter h it (lo + (i : Nat) * 1) ((n : Int) - (i : Nat)) 1) where
  mem := by simp
  obj := fun i h st b hb => by
    have e : b = it := by simpa using hb
    subst e
    exact ⟨_, st, fun v z => by
      have z' : Data.fields _ = Data.cell v := z
      cases z'⟩
  keep := fun i h h' st k => k it (by simp) _ st
  item := by
    intro X hP hw hK hc i pins s σ H E I hf st hg
    subst hP hw hK
    obtain ⟨f0, f1, f2, f3, f4, f5⟩ := hf it (by simp)
    have W := Walks.range (prog := X.prog) (w := X.w) (I.ok.hd hc) it lo 1 n
    refine W.item i s _ _ hg st fun v h' tk hv st' kk => ?_
    obtain ⟨t, rfl⟩ := hv
    have I1 : Inv X pins σ H { s with heap := h', toks := tk } := I.turned (fun b o hb e => kk b o (by simpa using hb) e) f0 f1 f3 f4 f5
    refine ⟨_, rfl, go_of (s := { s with heap := h', toks := tk }) (n := "range_iterator") st' rfl rfl (by decide) ⟨.int (lo + i), H, I1, ⟨t, ?_⟩, ⟨rfl, rfl⟩, st', fun b hb => (hf b hb).1⟩⟩
    rw [Int.mul_one]
  done := by
    intro X hP hw hK hc i pins s σ H E I hf st hg
    subst hP hw hK
    obtain ⟨f0, f1, f2, f3, f4, f5⟩ := hf it (by simp)
    exact wpAny_pyNext_range_end (I.ok.hd hc) st (by have : n ≤ i := hg; omega) fun h' eb => ⟨rfl, I.turned (t' := s.toks) (fun b o hb e => eb b o hb e) f0 f1 f3 f4 f5⟩
  self := fun _ _ _ _ _ st h => wpAny_pyIter_rangeiter st h
end L2

namespace L2
open PySem PySem.Spec PyProof.Rows
section
variable {X : Cx} {tg : Expr}
def iList (K : PySem.W.Frag) (tl : TE) : TI := fun σ H R => tl σ H fun x H1 => ∃ a, x = .ref a ∧ (∃ xs, SqL K H1 a xs) ∧ R (Itl K a) H1
def iTup (K : PySem.W.Frag) (tl : TE) : TI := fun σ H R => tl σ H fun x H1 => ∃ a, x = .ref a ∧ (∃ xs, SqT K H1 a xs) ∧ R (Itt K a) H1
theorem pi_list {l : Expr} {tl : TE} (hl : PE X l tl) : PI X tg l (iList X.K tl) := by
  intro pins s σ H R I h
  refine thn (hl pins s σ H _ I h) fun v s1 ⟨x, H1, I1, r1, q1⟩ => ?_
  obtain ⟨a, e, ⟨xs, hq⟩, q⟩ := q1
  subst e
  cases r1
  obtain ⟨its, rv, p, hz⟩ := I1.list hq
  refine wpAny_pyIter_list p.isList ?_
  refine ⟨s1.heap.objs.size, [s1.heap.objs.size], _, _, H1, rfl, I1.kept (t' := s1.toks) fun b o e => Heap.get?_push_of_some _ e, turn_list a _, ⟨_, Heap.get?_push_size _ rfl, rfl, rfl⟩, fun b hb => ?_, q⟩
  have e : b = s1.heap.objs.size := by simpa using hb
  subst e
  exact I1.fpOk (Nat.le_refl _) (I1.hok.fresh (Nat.le_refl _))
/-- a range object just made, walked -/
theorem range_it {pins : List (Addr × Obj)} {σ : St} {H : Hp} {s : Shared} {R : It → Hp → Prop} {E : Value → Shared → Prop} {lo hi : Int} {t u v : Tok} {tk : Nat} (I : Inv X pins σ H s) (h1 : -(2 ^ 62) ≤ lo) (h2 : lo < 2 ^ 62) (h3 : -(2 ^ 62) ≤ hi) (h4 : hi < 2 ^ 62)
    (q : R (Itr lo (hi - lo).toNat) H) : wpAny (model X.prog X.w) X.A (pyIter (.ref s.heap.objs.size)) (PIE X pins σ tg R) E { s with heap := s.heap.push { cls := .type "range", data := .fields #[.int lo t, .int hi u, .int 1 v] }, toks := tk } := by
  refine wpAny_pyIter_range (IsRange.new ..) (small_one h1 h2 h3 h4) ?_
  have I1 : Inv X pins σ H { s with heap := s.heap.push { cls := .type "range", data := .fields #[.int lo t, .int hi u, .int 1 v] }, toks := tk } := I.kept fun b o e => Heap.get?_push_of_some _ e
  refine ⟨(s.heap.push { cls := .type "range", data := .fields #[.int lo t, .int hi u, .int 1 v] }).objs.size, [(s.heap.push { cls := .type "range", data := .fields #[.int lo t, .int hi u, .int 1 v] }).objs.size], _, _, H, rfl,
    I1.kept (t' := tk) fun b o e => Heap.get?_push_of_some _ e, turn_range _ lo (hi - lo).toNat, ?_, fun b hb => ?_, q⟩
  · have e1 : lo + ((0 : Nat) : Int) * 1 = lo := by simp
    have e2 : (((hi - lo).toNat : Nat) : Int) - ((0 : Nat) : Int) = Builtin.Range.rangeSize lo hi 1 := by rw [rangeSize_one]; split <;> omega
    show IsRangeIter _ _ (lo + ((0 : Nat) : Int) * 1) ((((hi - lo).toNat : Nat) : Int) - ((0 : Nat) : Int)) 1
    rw [e1, e2]
    exact Heap.get?_push_size _ rfl
  · have e : b = (s.heap.push { cls := .type "range", data := .fields #[.int lo t, .int hi u, .int 1 v] }).objs.size := by simpa using hb
    subst e
    exact I1.fpOk (Nat.le_refl _) (I1.hok.fresh (Nat.le_refl _))
def iRng1 (ta : TA) : TI := fun σ H R => ta σ H fun vs H1 => ∃ j : Int, vs = [.int j] ∧ -(2 ^ 62) ≤ j ∧ j < 2 ^ 62 ∧ R (Itr 0 j.toNat) H1
def iRng2 (ta : TA) : TI := fun σ H R => ta σ H fun vs H1 => ∃ i j : Int, vs = [.int i, .int j] ∧ (-(2 ^ 62) ≤ i ∧ i < 2 ^ 62 ∧ -(2 ^ 62) ≤ j ∧ j < 2 ^ 62) ∧ R (Itr i (j - i).toNat) H1
theorem pi_range1 {a : Expr} {ta : TA} {p pos : Pos} (hg : Gl X "range") (hm : X.mg "range" = none) (ha : PA X [a] ta) (hs : starEach [a] X.env = [(false, eval a X.env)] := by rfl) : PI X tg (.Call (.Name "range" p) [a] [] pos) (iRng1 ta) := by
  intro pins s σ H R I h
  refine Call_ (ld_blt I hg hm boot_range (PyProof.Rows.callWith_type1 (thn (ha pos pins s σ H _ I h) fun us s1 ⟨vs, H1, I1, r1, q1⟩ => ?_) hs rfl))
  obtain ⟨j, e, q1, q2, q⟩ := q1
  subst e
  cases r1 with
  | cons r rr =>
    cases rr
    obtain ⟨t, rfl⟩ := r
    exact call_range_1 (range_it I1 (by omega) (by omega) q1 q2 (by simpa using q))
theorem pi_range2 {a b : Expr} {ta : TA} {p pos : Pos} (hg : Gl X "range") (hm : X.mg "range" = none) (ha : PA X [a, b] ta) (hs : starEach [a, b] X.env = [(false, eval a X.env), (false, eval b X.env)] := by rfl) (hs2 : starEach [b] X.env = [(false, eval b X.env)] := by rfl) :
    PI X tg (.Call (.Name "range" p) [a, b] [] pos) (iRng2 ta) := by
  intro pins s σ H R I h
  refine Call_ (ld_blt I hg hm boot_range (PyProof.Rows.callWith_type1 (thn (ha pos pins s σ H _ I h) fun us s1 ⟨vs, H1, I1, r1, q1⟩ => ?_) (by rw [hs, hs2]) (by rw [hs2]; rfl)))
  obtain ⟨i, j, e, ⟨q1, q2, q3, q4⟩, q⟩ := q1
  subst e
  cases r1 with
  | cons r rr =>
    cases rr with
    | cons r' rr =>
      cases rr
      obtain ⟨t, rfl⟩ := r
      obtain ⟨t', rfl⟩ := r'
      exact call_range_2 (range_it I1 q1 q2 q3 q4 q)

/-! ### for -/
/-- W: the invariant by the turn and a measure; N: what the body is to reach -/
def tFor (wi : TI) (g : TG) (tb : TS) : TS := fun D σ H => wi σ H fun J H1 => ∃ W : Nat → Nat → St → Hp → Prop, (∃ m, W 0 m σ H1) ∧ ∀ i m σ H, W i m σ H →
  (J.stop i H ∧ D.nx σ H) ∨ (J.go i H ∧ ∃ N : St → Hp → Prop, (∀ σ' H', N σ' H' → ∃ m', m' < m ∧ W (i + 1) m' σ' H') ∧ ∀ x H', J.yld i H x H' → g x σ H' fun σ2 H2 => tb { D with nx := N, ct := N, bk := D.nx } σ2 H2)
/-- the records at fp as they stand -/
def pinsAt (fp : List Addr) (h : Heap) : List (Addr × Obj) := fp.filterMap fun b => (h.get? b).map fun o => (b, o)
theorem mem_pinsAt {fp : List Addr} {h : Heap} {b : Addr} {o : Obj} (hb : b ∈ fp) (e : h.get? b = some o) : (b, o) ∈ pinsAt fp h := List.mem_filterMap.mpr ⟨b, hb, by rw [e]; rfl⟩
theorem of_pinsAt {fp : List Addr} {h : Heap} {p : Addr × Obj} (hp : p ∈ pinsAt fp h) : p.1 ∈ fp ∧ h.get? p.1 = some p.2 := by
  obtain ⟨b, hb, e⟩ := List.mem_filterMap.mp hp
  cases q : h.get? b with
  | none => rw [q] at e; cases e
  | some o =>
    rw [q] at e
    have e' : (b, o) = p := Option.some.inj e
    subst e'
    exact ⟨hb, q⟩
theorem Inv.pinned {pins : List (Addr × Obj)} {σ : St} {H : Hp} {s : Shared} {fp : List Addr} (I : Inv X pins σ H s) (hf : ∀ b ∈ fp, FpOk X pins H b) (ho : ∀ b ∈ fp, ∃ o, s.heap.get? b = some o ∧ ∀ v, o.data ≠ .cell v) : Inv X (pins ++ pinsAt fp s.heap) σ H s :=
  I.pins_of fun p hp => (List.mem_append.mp hp).elim (fun z => I.pin p (List.mem_append_right _ z)) fun z => by
    obtain ⟨hb, e⟩ := of_pinsAt z
    obtain ⟨f0, f1, f2, _⟩ := hf p.1 hb
    obtain ⟨o, e', d⟩ := ho p.1 hb
    rw [e] at e'; cases e'
    exact ⟨e, f0, f1, f2, d⟩
theorem Inv.unpinned {pins pl : List (Addr × Obj)} {σ : St} {H : Hp} {s : Shared} (I : Inv X (pins ++ pl) σ H s) : Inv X pins σ H s := I.pins_of fun p hp => I.pin p (List.mem_append_right _ (List.mem_append_left _ hp))
theorem ps_for {iter : Expr} {body : List Stmt} {wi : TI} {g : TG} {tb : TS} {pos : Pos} (hp : PassesOwn (model X.prog X.w) X.A X.env X.xe) (hc : X.calm = true) (hi : PI X tg iter wi) (hg : PG X tg g) (hb : PSs X body tb)
    (hs : ∀ x, foldedSetIterable iter X.env x = pure x := by intro _; rfl) : PS X (.For tg iter body [] pos) (tFor wi g tb) := by
  intro pins s σ H D I h
  refine wpAny_For (thn (hi pins s σ H _ I h) fun v s1 h1 => thn h1 fun itv s2 h2 => ?_) hs
  obtain ⟨it, fp, tn, J, H2, e, I2, T, st2, f2, W, ⟨m0, w0⟩, turn⟩ := h2
  subst e
  -- what stays true of the iterator's objects through the loop
  have stat : ∀ {H' : Hp}, (∀ b ∈ fp, H' b = none) → ∀ b ∈ fp, FpOk X pins H' b := fun hn b hb => ⟨hn b hb, (f2 b hb).2⟩
  refine codeAny_forLoop_any (fun n s' => ∃ i σ' H', Inv X pins σ' H' s' ∧ tn i s'.heap ∧ (∀ b ∈ fp, H' b = none) ∧ W i n σ' H') ?_ m0 ⟨0, σ, H2, I2, st2, fun b hb => (f2 b hb).1, w0⟩
  rintro n s3 ⟨i, σ3, H3, I3, st3, fr3, w3⟩
  rcases turn i n σ3 H3 w3 with ⟨stop, qn⟩ | ⟨go, N, hN, step⟩
  · refine wpAny_passesOwn hp (thn (T.done X rfl rfl rfl hc i pins s3 σ3 H3 X.xe I3 (stat fr3) st3 stop) fun r s4 ⟨hr, I4⟩ => ?_)
    subst hr
    exact wpAny_execs_nil ⟨σ3, H3, I4, qn⟩
  · refine wpAny_passesOwn hp (thn (T.item X rfl rfl rfl hc i pins s3 σ3 H3 X.xe I3 (stat fr3) st3 go) fun r s4 ⟨u, hr, h4⟩ => ?_)
    subst hr
    refine wpAny_passesOwn hp (thn h4 fun _ s5 ⟨x, H5, I5, r5, y5, st5, fr5⟩ => ?_)
    have I5' := I5.pinned (stat fr5) (T.obj _ _ st5)
    refine wpAny_passesOwn hp (thn (hg _ s5 σ3 H5 x u _ I5' r5 (step x H5 y5)) fun _ s6 ⟨σ6, H6, I6, q6⟩ => ?_)
    refine wpAny_passesOwn hp (thn (hb _ s6 σ6 H6 _ I6 q6) fun f s7 q7 => ?_)
    have again : ∀ {σ7 : St} {H7 : Hp}, Inv X (pins ++ pinsAt fp s5.heap) σ7 H7 s7 → N σ7 H7 → ∃ m, m < n ∧ ∃ i σ' H', Inv X pins σ' H' s7 ∧ tn i s7.heap ∧ (∀ b ∈ fp, H' b = none) ∧ W i m σ' H' := fun {σ7 H7} I7 n7 => by
      obtain ⟨m', hm, w7⟩ := hN σ7 H7 n7
      refine ⟨m', hm, i + 1, σ7, H7, I7.unpinned, T.keep _ _ _ st5 fun b hb o e => (I7.pin (b, o) (List.mem_append_right _ (List.mem_append_right _ (mem_pinsAt hb e)))).1, fun b hb => ?_, w7⟩
      obtain ⟨o, e, d⟩ := T.obj _ _ st5 b hb
      exact (I7.pin (b, o) (List.mem_append_right _ (List.mem_append_right _ (mem_pinsAt hb e)))).2.1
    cases f with
    | next => obtain ⟨σ7, H7, I7, n7⟩ := q7; exact again I7 n7
    | cont => obtain ⟨σ7, H7, I7, n7⟩ := q7; exact again I7 n7
    | brk => obtain ⟨σ7, H7, I7, q7⟩ := q7; exact ⟨σ7, H7, I7.unpinned, q7⟩
    | ret v => obtain ⟨x7, σ7, H7, I7, r7, q7⟩ := q7; exact ⟨x7, σ7, H7, I7.unpinned, r7, q7⟩
end

/-! ### the forms one uses -/
/-- over a list that the body leaves as it is -/
theorem for_list {K : PySem.W.Frag} {a : Addr} {xs : List V} {g : TG} {tb : TS} {D : Ends} {σ : St} {H : Hp} (Pv : Nat → St → Hp → Prop) (h0 : Pv 0 σ H) (hl : ∀ i σ H, i ≤ xs.length → Pv i σ H → SqL K H a xs)
    (hs : ∀ i x σ H, xs[i]? = some x → Pv i σ H → g x σ H fun σ2 H2 => tb { D with nx := Pv (i + 1), ct := Pv (i + 1), bk := D.nx } σ2 H2) (hd : ∀ σ H, Pv xs.length σ H → D.nx σ H) :
    ∃ W : Nat → Nat → St → Hp → Prop, (∃ m, W 0 m σ H) ∧ ∀ i m σ H, W i m σ H →
      ((Itl K a).stop i H ∧ D.nx σ H) ∨ ((Itl K a).go i H ∧ ∃ N : St → Hp → Prop, (∀ σ' H', N σ' H' → ∃ m', m' < m ∧ W (i + 1) m' σ' H') ∧ ∀ x H', (Itl K a).yld i H x H' → g x σ H' fun σ2 H2 => tb { D with nx := N, ct := N, bk := D.nx } σ2 H2) := by
  refine ⟨fun i m σ H => m = xs.length - i ∧ i ≤ xs.length ∧ Pv i σ H, ⟨xs.length, by simp, Nat.zero_le _, h0⟩, ?_⟩
  rintro i m σ H ⟨rfl, hi, p⟩
  have q := hl i σ H hi p
  by_cases hlt : i < xs.length
  · refine .inr ⟨⟨xs, xs[i], q, by simp [hlt]⟩, Pv (i + 1), fun σ' H' p' => ⟨xs.length - (i + 1), by omega, rfl, hlt, p'⟩, fun x H' y => ?_⟩
    obtain ⟨e, y⟩ := y
    subst e
    exact hs i x σ _ (y xs q) p
  · have e : i = xs.length := by omega
    subst e
    exact .inl ⟨⟨xs, q, Nat.le_refl _⟩, hd σ H p⟩
theorem for_range {lo : Int} {n : Nat} {g : TG} {tb : TS} {D : Ends} {σ : St} {H : Hp} (Pv : Nat → St → Hp → Prop) (h0 : Pv 0 σ H)
    (hs : ∀ i σ H, i < n → Pv i σ H → g (.int (lo + i)) σ H fun σ2 H2 => tb { D with nx := Pv (i + 1), ct := Pv (i + 1), bk := D.nx } σ2 H2) (hd : ∀ σ H, Pv n σ H → D.nx σ H) :
    ∃ W : Nat → Nat → St → Hp → Prop, (∃ m, W 0 m σ H) ∧ ∀ i m σ H, W i m σ H →
      ((Itr lo n).stop i H ∧ D.nx σ H) ∨ ((Itr lo n).go i H ∧ ∃ N : St → Hp → Prop, (∀ σ' H', N σ' H' → ∃ m', m' < m ∧ W (i + 1) m' σ' H') ∧ ∀ x H', (Itr lo n).yld i H x H' → g x σ H' fun σ2 H2 => tb { D with nx := N, ct := N, bk := D.nx } σ2 H2) := by
  refine ⟨fun i m σ H => m = n - i ∧ i ≤ n ∧ Pv i σ H, ⟨n, by simp, Nat.zero_le _, h0⟩, ?_⟩
  rintro i m σ H ⟨rfl, hi, p⟩
  by_cases hlt : i < n
  · refine .inr ⟨hlt, Pv (i + 1), fun σ' H' p' => ⟨n - (i + 1), by omega, rfl, hlt, p'⟩, fun x H' y => ?_⟩
    obtain ⟨e, y⟩ := y
    subst e y
    exact hs i σ _ hlt p
  · have e : i = n := by omega
    subst e
    exact .inl ⟨Nat.le_refl _, hd σ H p⟩
end L2

namespace L2
open PySem PySem.Spec PyProof.Rows

abbrev R2 := V → V → Hp → VK → Prop
/-- a two-place operation on values: f is binaryOp op, inplaceOp op or compareOp op -/
def OpR (X : Cx) (f : Value → Value → Sem Value) (r : R2) : Prop :=
  ∀ (pins : List (Addr × Obj)) (s : Shared) (σ : St) (H : Hp) (x y : V) (v u : Value) (Q : VK), Inv X pins σ H s → RelV x v → RelV y u → r x y H Q →
    wpAny (model X.prog X.w) X.A (f v u) (EP X pins σ Q) X.xe s
/-- a one-place operation -/
def UnR (X : Cx) (f : Value → Sem Value) (r : V → Hp → VK → Prop) : Prop :=
  ∀ (pins : List (Addr × Obj)) (s : Shared) (σ : St) (H : Hp) (x : V) (v : Value) (Q : VK), Inv X pins σ H s → RelV x v → r x H Q →
    wpAny (model X.prog X.w) X.A (f v) (EP X pins σ Q) X.xe s
/-- a call of a value that is known (a builtin, a type) with values -/
def CallR (X : Cx) (f : Value) (r : List V → Hp → VK → Prop) : Prop :=
  ∀ (pins : List (Addr × Obj)) (s : Shared) (σ : St) (H : Hp) (xs : List V) (us : List Value) (Q : VK), Inv X pins σ H s → Vals xs us → r xs H Q →
    wpAny (model X.prog X.w) X.A (call f us) (EP X pins σ Q) X.xe s
/-- a value's truth -/
def TruR (X : Cx) (r : V → Hp → (Bool → Hp → Prop) → Prop) : Prop :=
  ∀ (pins : List (Addr × Obj)) (s : Shared) (σ : St) (H : Hp) (x : V) (v : Value) (Q : Bool → Hp → Prop), Inv X pins σ H s → RelV x v → r x H Q →
    wpAny (model X.prog X.w) X.A (truthy v) (TP X pins σ Q) X.xe s

def tOp (r : R2) (ta tb : TE) : TE := fun σ H Q => ta σ H fun x H1 => tb σ H1 fun y H2 => r x y H2 Q
def tUn (r : V → Hp → VK → Prop) (ta : TE) : TE := fun σ H Q => ta σ H fun x H1 => r x H1 Q
/-- ints in, under C, and a value out -/
def rI (C : Int → Int → Prop) (g : Int → Int → V) : R2 := fun x y H Q => ∃ i j, x = .int i ∧ y = .int j ∧ C i j ∧ Q (g i j) H
def rI0 (g : Int → Int → V) : R2 := fun x y H Q => ∃ i j, x = .int i ∧ y = .int j ∧ Q (g i j) H
def rU (g : Int → V) : V → Hp → VK → Prop := fun x H Q => ∃ i, x = .int i ∧ Q (g i) H

section
variable {X : Cx} {a b c : Expr} {ta tb tc : TE} {pos : Pos}

theorem binT (ha : PE X a ta) (hb : PE X b tb) {pins : List (Addr × Obj)} {s : Shared} {σ : St} {H : Hp} {R : V → V → Hp → Prop} (I : Inv X pins σ H s)
    (h : ta σ H fun x H1 => tb σ H1 fun y H2 => R x y H2) {Q : Value → Shared → Prop} {f : Value → Value → Sem Value}
    (hf : ∀ v u s2 x y H2, Inv X pins σ H2 s2 → RelV x v → RelV y u → R x y H2 → wpAny (model X.prog X.w) X.A (f v u) Q X.xe s2) :
    wpAny (model X.prog X.w) X.A (eval a X.env) (fun v s₁ => wpAny (model X.prog X.w) X.A (eval b X.env) (fun u s₂ => wpAny (model X.prog X.w) X.A (f v u) Q X.xe s₂) X.xe s₁) X.xe s := by
  refine thn (ha pins s σ H _ I h) fun v s1 ⟨x, H1, I1, r1, q1⟩ => ?_
  refine thn (hb pins s1 σ H1 _ I1 q1) fun u s2 ⟨y, H2, I2, r2, q2⟩ => ?_
  exact hf v u s2 x y H2 I2 r1 r2 q2

theorem pe_op {op : Operator} {r : R2} (ho : OpR X (binaryOp op) r) (ha : PE X a ta) (hb : PE X b tb) : PE X (.BinOp a op b pos) (tOp r ta tb) := by
  intro pins s σ H Q I h
  exact wpAny_BinOp (binT ha hb I h fun v u s2 x y H2 I2 rx ry q => ho pins s2 σ H2 x y v u Q I2 rx ry q)
theorem pe_un {op : UnaryOp} {r : V → Hp → VK → Prop} (ho : UnR X (unaryOp op) r) (ha : PE X a ta) : PE X (.UnaryOp op a pos) (tUn r ta) := by
  intro pins s σ H Q I h
  exact UnaryOp_ (thn (ha pins s σ H _ I h) fun v s1 ⟨x, H1, I1, r1, q1⟩ => ho pins s1 σ H1 x v Q I1 r1 q1)
/-! ### ints -/
theorem opI {f : Value → Value → Sem Value} {C : Int → Int → Prop} {g : Int → Int → Int}
    (rule : ∀ (i j : Int) (t u : Tok) (s : Shared) (Q : Value → Shared → Prop) (E : Value → Shared → Prop), C i j → Q (.int (g i j) s.toks) { s with toks := s.toks + 1 } → wpAny (model X.prog X.w) X.A (f (.int i t) (.int j u)) Q E s) :
    OpR X f (rI C fun i j => .int (g i j)) := by
  intro pins s σ H x y v u Q I rx ry h
  obtain ⟨i, j, rfl, rfl, hc, q⟩ := h
  obtain ⟨t, rfl⟩ := rx
  obtain ⟨t', rfl⟩ := ry
  exact rule i j t t' s _ _ hc ⟨.int (g i j), H, I.tok _, ⟨_, rfl⟩, q⟩
theorem opI0 {f : Value → Value → Sem Value} {g : Int → Int → Int}
    (rule : ∀ (i j : Int) (t u : Tok) (s : Shared) (Q : Value → Shared → Prop) (E : Value → Shared → Prop), Q (.int (g i j) s.toks) { s with toks := s.toks + 1 } → wpAny (model X.prog X.w) X.A (f (.int i t) (.int j u)) Q E s) :
    OpR X f (rI0 fun i j => .int (g i j)) := by
  intro pins s σ H x y v u Q I rx ry h
  obtain ⟨i, j, rfl, rfl, q⟩ := h
  obtain ⟨t, rfl⟩ := rx
  obtain ⟨t', rfl⟩ := ry
  exact rule i j t t' s _ _ ⟨.int (g i j), H, I.tok _, ⟨_, rfl⟩, q⟩
theorem opB0 {f : Value → Value → Sem Value} {g : Int → Int → Bool}
    (rule : ∀ (i j : Int) (t u : Tok) (s : Shared) (Q : Value → Shared → Prop) (E : Value → Shared → Prop), Q (.bool (g i j)) s → wpAny (model X.prog X.w) X.A (f (.int i t) (.int j u)) Q E s) :
    OpR X f (rI0 fun i j => .bl (g i j)) := by
  intro pins s σ H x y v u Q I rx ry h
  obtain ⟨i, j, rfl, rfl, q⟩ := h
  obtain ⟨t, rfl⟩ := rx
  obtain ⟨t', rfl⟩ := ry
  exact rule i j t t' s _ _ ⟨.bl (g i j), H, I, rfl, q⟩

def CDiv (i j : Int) : Prop := 0 < j ∧ j < 1073741824
def CDivN (i j : Int) : Prop := j ≠ 0 ∧ j.natAbs < 1073741824
def CPow (i j : Int) : Prop := 0 ≤ j ∧ j ≤ 1000000 ∧ i.natAbs < 2 ^ 64
def CMul (i j : Int) : Prop := (-(2 ^ 64) < i ∧ i < 2 ^ 64) ∨ (-(2 ^ 64) < j ∧ j < 2 ^ 64)
theorem CMul.ok {i j : Int} (h : CMul i j) : IntMulOk i j := by
  rcases h with ⟨h1, h2⟩ | ⟨h1, h2⟩
  · exact .of_left (intBits_le_64 h1 h2)
  · exact .of_right (intBits_le_64 h1 h2)
theorem op_add : OpR X (binaryOp .Add) (rI0 fun i j => .int (i + j)) := opI0 fun _ _ _ _ _ _ _ q => add_int q
theorem op_sub : OpR X (binaryOp .Sub) (rI0 fun i j => .int (i - j)) := opI0 fun _ _ _ _ _ _ _ q => sub_int q
theorem op_mul : OpR X (binaryOp .Mult) (rI CMul fun i j => .int (i * j)) := opI fun _ _ _ _ _ _ _ hc q => mul_int q hc.ok
/-- // by a positive divisor -/
theorem op_fdiv : OpR X (binaryOp .FloorDiv) (rI CDiv fun i j => .int (i / j)) := opI fun i j _ _ _ _ _ hc q => by
  have h1 : (0 : Int) < j := hc.1
  have h2 : j < 1073741824 := hc.2
  exact floordiv_int (by omega) (by rw [Int.fdiv_eq_ediv_of_nonneg i (by omega)]; exact q) (.inl (PyProof.noPylong_small (by omega)))
/-- % by a positive divisor of any size -/
theorem op_mod : OpR X (binaryOp .Mod) (rI (fun _ j => 0 < j) fun i j => .int (i % j)) := opI fun i j _ _ _ _ _ hc q => by
  have h1 : (0 : Int) < j := hc
  exact mod_int' (by omega) (by rw [Int.fmod_eq_emod_of_nonneg i (by omega)]; exact q)
theorem op_pow : OpR X (binaryOp .Pow) (rI CPow fun i j => .int (i ^ j.toNat)) := opI fun _ _ _ _ _ _ _ hc q => pow_int_small hc.1 hc.2.1 hc.2.2 q
theorem unI {f : Value → Sem Value} {g : Int → Int}
    (rule : ∀ (i : Int) (t : Tok) (s : Shared) (Q : Value → Shared → Prop) (E : Value → Shared → Prop), Q (.int (g i) s.toks) { s with toks := s.toks + 1 } → wpAny (model X.prog X.w) X.A (f (.int i t)) Q E s) :
    UnR X f (rU fun i => .int (g i)) := by
  intro pins s σ H x v Q I rx h
  obtain ⟨i, rfl, q⟩ := h
  obtain ⟨t, rfl⟩ := rx
  exact rule i t s _ _ ⟨.int (g i), H, I.tok _, ⟨_, rfl⟩, q⟩
theorem un_neg : UnR X (unaryOp .USub) (rU fun i => .int (-i)) := unI fun _ _ _ _ _ q => neg_int q
/-! ### bools among ints: n += (a < b) -/
end

/-! ### comparisons -/
/-- the scalars that == tells apart as data does -/
def scal : V → V → Bool
  | .non, .non => true | .non, .int _ => true | .int _, .non => true | .non, .bl _ => true | .bl _, .non => true | .non, .str _ => true | .str _, .non => true
  | .int _, .int _ => true | .bl _, .bl _ => true | .str _, .str _ => true | .byt _, .byt _ => true
  | .int _, .str _ => true | .str _, .int _ => true | .bl _, .str _ => true | .str _, .bl _ => true
  | _, _ => false
def rEq : R2 := fun x y H Q => scal x y = true ∧ Q (.bl (decide (x = y))) H
def rNe : R2 := fun x y H Q => scal x y = true ∧ Q (.bl (!decide (x = y))) H

theorem dec_int {i j : Int} : decide (V.int i = V.int j) = (i == j) := by
  rw [Bool.eq_iff_iff]
  simp
theorem dec_bl {i j : Bool} : decide (V.bl i = V.bl j) = (i == j) := by
  rw [Bool.eq_iff_iff]
  simp
theorem dec_str {i j : Str} : decide (V.str i = V.str j) = (i == j) := by
  rw [Bool.eq_iff_iff]
  simp
theorem dec_byt {i j : Array UInt8} : decide (V.byt i = V.byt j) = (i.toList == j.toList) := by
  rw [Bool.eq_iff_iff]
  cases i
  cases j
  simp

section
variable {X : Cx} {a b c : Expr} {ta tb tc : TE} {pos : Pos}
theorem fin_bl {pins : List (Addr × Obj)} {σ : St} {H : Hp} {s : Shared} {Q : VK} {k k' : Bool} (I : Inv X pins σ H s) (q : Q (.bl k) H) (e : k = k') : EP X pins σ Q (.bool k') s := by
  subst e
  exact ⟨.bl k, H, I, rfl, q⟩
theorem op_eq : OpR X (compareOp .Eq) rEq := by
  intro pins s σ H x y v u Q I rx ry h
  obtain ⟨hs, q⟩ := h
  cases x with
  | non =>
    cases rx
    cases y with
    | non => cases ry; exact PySem.EqNone.eq_none_none (fin_bl I q (by simp))
    | bl j => cases ry; exact PySem.EqNone.eq_none_bool (fin_bl I q (by simp))
    | int j => obtain ⟨t', rfl⟩ := ry; exact PySem.EqNone.eq_none_int (fin_bl I q (by simp))
    | str j => obtain ⟨t', rfl⟩ := ry; exact PySem.EqNone.eq_none_str (fin_bl I q (by simp))
    | _ => exact absurd (show false = true from hs) Bool.false_ne_true
  | bl i =>
    cases rx
    cases y with
    | non => cases ry; exact PySem.EqNone.eq_bool_none (fin_bl I q (by simp))
    | bl j => cases ry; exact eq_bool (fin_bl I q dec_bl)
    | str j => obtain ⟨t', rfl⟩ := ry; exact PySem.EqMixed.eq_bool_str (fin_bl I q (by simp))
    | _ => exact absurd (show false = true from hs) Bool.false_ne_true
  | int i =>
    obtain ⟨t, rfl⟩ := rx
    cases y with
    | non => cases ry; exact PySem.EqNone.eq_int_none (fin_bl I q (by simp))
    | int j => obtain ⟨t', rfl⟩ := ry; exact eq_int (fin_bl I q dec_int)
    | str j => obtain ⟨t', rfl⟩ := ry; exact PySem.EqMixed.eq_int_str (fin_bl I q (by simp))
    | _ => exact absurd (show false = true from hs) Bool.false_ne_true
  | str i =>
    obtain ⟨t, rfl⟩ := rx
    cases y with
    | non => cases ry; exact PySem.EqNone.eq_str_none (fin_bl I q (by simp))
    | bl j => cases ry; exact PySem.EqMixed.eq_str_bool (fin_bl I q (by simp))
    | int j => obtain ⟨t', rfl⟩ := ry; exact PySem.EqMixed.eq_str_int (fin_bl I q (by simp))
    | str j => obtain ⟨t', rfl⟩ := ry; exact eq_str (fin_bl I q dec_str)
    | _ => exact absurd (show false = true from hs) Bool.false_ne_true
  | byt i =>
    obtain ⟨t, rfl⟩ := rx
    cases y with
    | byt j => obtain ⟨t', rfl⟩ := ry; exact PySem.W.eq_bytes (fin_bl I q dec_byt)
    | _ => exact absurd (show false = true from hs) Bool.false_ne_true
  | _ => cases y <;> exact absurd (show false = true from hs) Bool.false_ne_true
theorem op_ne : OpR X (compareOp .NotEq) rNe := by
  intro pins s σ H x y v u Q I rx ry h
  obtain ⟨hs, q⟩ := h
  cases x with
  | non =>
    cases rx
    cases y with
    | non => cases ry; exact PySem.EqNone.ne_none_none (fin_bl I q (by simp))
    | bl j => cases ry; exact PySem.EqNone.ne_none_bool (fin_bl I q (by simp))
    | int j => obtain ⟨t', rfl⟩ := ry; exact PySem.EqNone.ne_none_int (fin_bl I q (by simp))
    | str j => obtain ⟨t', rfl⟩ := ry; exact PySem.EqNone.ne_none_str (fin_bl I q (by simp))
    | _ => exact absurd (show false = true from hs) Bool.false_ne_true
  | bl i =>
    cases rx
    cases y with
    | non => cases ry; exact PySem.EqNone.ne_bool_none (fin_bl I q (by simp))
    | bl j => cases ry; exact ne_bool (fin_bl I q (congrArg not dec_bl))
    | str j => obtain ⟨t', rfl⟩ := ry; exact PySem.EqMixed.ne_bool_str (fin_bl I q (by simp))
    | _ => exact absurd (show false = true from hs) Bool.false_ne_true
  | int i =>
    obtain ⟨t, rfl⟩ := rx
    cases y with
    | non => cases ry; exact PySem.EqNone.ne_int_none (fin_bl I q (by simp))
    | int j => obtain ⟨t', rfl⟩ := ry; exact ne_int (fin_bl I q (congrArg not dec_int))
    | str j => obtain ⟨t', rfl⟩ := ry; exact PySem.EqMixed.ne_int_str (fin_bl I q (by simp))
    | _ => exact absurd (show false = true from hs) Bool.false_ne_true
  | str i =>
    obtain ⟨t, rfl⟩ := rx
    cases y with
    | non => cases ry; exact PySem.EqNone.ne_str_none (fin_bl I q (by simp))
    | bl j => cases ry; exact PySem.EqMixed.ne_str_bool (fin_bl I q (by simp))
    | int j => obtain ⟨t', rfl⟩ := ry; exact PySem.EqMixed.ne_str_int (fin_bl I q (by simp))
    | str j => obtain ⟨t', rfl⟩ := ry; exact ne_str (fin_bl I q (congrArg not dec_str))
    | _ => exact absurd (show false = true from hs) Bool.false_ne_true
  | byt i =>
    obtain ⟨t, rfl⟩ := rx
    cases y with
    | byt j => obtain ⟨t', rfl⟩ := ry; exact PySem.W.ne_bytes (fin_bl I q (congrArg not dec_byt))
    | _ => exact absurd (show false = true from hs) Bool.false_ne_true
  | _ => cases y <;> exact absurd (show false = true from hs) Bool.false_ne_true

theorem op_lt : OpR X (compareOp .Lt) (rI0 fun i j => .bl (decide (i < j))) := opB0 fun _ _ _ _ _ _ _ q => lt_int q
theorem op_gt : OpR X (compareOp .Gt) (rI0 fun i j => .bl (decide (j < i))) := opB0 fun _ _ _ _ _ _ _ q => gt_int q
/-- is, is not of two objects that are tracked lists or instances -/
def isObj : HO → Bool
  | .lst _ => true
  | .ins _ _ _ => true
  | _ => false
theorem nomark (b : Expr) {op : CmpOp} (h : op ≠ .In := by decide) (h2 : op ≠ .NotIn := by decide) : behindInMarks op b = false := by
  have e1 : (op == CmpOp.In) = false := by cases op <;> first | rfl | exact absurd rfl h
  have e2 : (op == CmpOp.NotIn) = false := by cases op <;> first | rfl | exact absurd rfl h2
  cases b <;> simp [behindInMarks, e1, e2]
/-- a comparison as a value; hm: nomark b, or (for in, not in) by with_unfolding_all rfl -/
theorem pe_cmpR {op : CmpOp} {r : R2} (ho : OpR X (compareOp op) r) (ha : PE X a ta) (hb : PE X b tb) (hm : behindInMarks op b = false) : PE X (.Compare a [op] [b] pos) (tOp r ta tb) := by
  intro pins s σ H Q I h
  exact wpAny_Compare1 (binT ha hb I h fun v u s2 x y H2 I2 rx ry q => ho pins s2 σ H2 x y v u Q I2 rx ry q) hm
/-- a reading of a value as a test -/
def tTest (t : TE) : TT := fun σ H Q => t σ H fun x H' => ∃ k, x = .bl k ∧ Q k H'
theorem pt_cmpR {op : CmpOp} {r : R2} (ho : OpR X (compareOp op) r) (ha : PE X a ta) (hb : PE X b tb) (hm : behindInMarks op b = false) : PT X (.Compare a [op] [b] pos) (tTest (tOp r ta tb)) := by
  intro pins s σ H Q I h
  refine wpAny_isTrue_Compare1 (thn (ha pins s σ H _ I h) fun v s1 ⟨x, H1, I1, r1, q1⟩ => thn (hb pins s1 σ H1 _ I1 q1) fun u s2 ⟨y, H2, I2, r2, q2⟩ =>
    thn (ho pins s2 σ H2 x y v u _ I2 r1 r2 q2) fun c s3 ⟨z, H3, I3, r3, k, e, q3⟩ => ?_) hm
  subst e
  cases r3
  exact wpAny_truthy_bool ⟨H3, I3, q3⟩
/-- a op1 b op2 c -/
def tChain (r r' : R2) (ta tb tc : TE) : TE := fun σ H Q => ta σ H fun x H1 => tb σ H1 fun y H2 => r x y H2 fun z H3 => ∃ k, z = .bl k ∧
  (if k = true then tc σ H3 fun w' H4 => r' y w' H4 Q else Q (.bl false) H3)
/-! ### truth -/
/-- a value's truth by the abstract heap -/
def TruV (K : PySem.W.Frag) (x : V) (H : Hp) (k : Bool) : Prop :=
  match x with
  | .non => k = false
  | .bl b => k = b
  | .int i => k = (i != 0)
  | .str y => y.length ≤ sizeLine ∧ k = ((y.length : Int) != 0)
  | .byt y => y.size ≤ sizeLine ∧ k = ((y.size : Int) != 0)
  | .ref p => (∃ xs, SqL K H p xs ∧ k = !xs.isEmpty) ∨ (∃ xs, SqT K H p xs ∧ k = !xs.isEmpty) ∨ ∃ kvs, H p = some (.dK kvs) ∧ k = !kvs.isEmpty
  | _ => False
theorem isEmpty_kv {κ : Type} {kvs : List (κ × V)} {vs : List (κ × Value)} (r : KV kvs vs) : (!vs.isEmpty) = !kvs.isEmpty := by
  cases r <;> rfl
theorem isEmpty_of {xs : List V} {its : List Value} (r : Vals xs its) : (!its.toArray.isEmpty) = !xs.isEmpty := by
  cases r <;> simp
theorem line63 : (sizeLine : Nat) < 2 ^ 63 := by rw [sizeLine_eq]; decide
theorem tru_ok : TruR X (fun x H Q => ∃ k, TruV X.K x H k ∧ Q k H) := by
  intro pins s σ H x v Q I rx h
  obtain ⟨k, e, q⟩ := h
  have hl := line63
  have hs : sizeLine = 16777216 := sizeLine_eq
  cases x with
  | non =>
    cases rx
    have e' : k = false := e
    subst e'
    exact truthy_none ⟨H, I, q⟩
  | bl b =>
    cases rx
    have e' : k = b := e
    subst e'
    exact wpAny_truthy_bool ⟨H, I, q⟩
  | int i =>
    obtain ⟨t, rfl⟩ := rx
    have e' : k = (i != 0) := e
    subst e'
    exact PySem.P.truthy_int ⟨H, I, q⟩
  | str y =>
    obtain ⟨t, rfl⟩ := rx
    obtain ⟨hy, e'⟩ : y.length ≤ sizeLine ∧ k = ((y.length : Int) != 0) := e
    subst e'
    exact PySem.P.truthy_str (by omega) ⟨H, I.tok _, q⟩
  | byt y =>
    obtain ⟨t, rfl⟩ := rx
    obtain ⟨hy, e'⟩ : y.size ≤ sizeLine ∧ k = ((y.size : Int) != 0) := e
    subst e'
    exact PySem.W.truthy_bytes (by omega) ⟨H, I.tok _, q⟩
  | ref p =>
    cases rx
    have e' : (∃ xs, SqL X.K H p xs ∧ k = !xs.isEmpty) ∨ (∃ xs, SqT X.K H p xs ∧ k = !xs.isEmpty) ∨ ∃ kvs, H p = some (.dK kvs) ∧ k = !kvs.isEmpty := e
    rcases e' with ⟨xs, hx, e'⟩ | ⟨xs, hx, e'⟩ | ⟨kvs, hx, e'⟩
    · subst e'
      obtain ⟨its, r, pl, hz⟩ := I.list hx
      have hlen := r.length
      exact wpAny_truthy_list pl.isList (by simp only [List.size_toArray]; omega) ⟨H, I.tok _, by rw [isEmpty_of r]; exact q⟩
    · subst e'
      obtain ⟨its, r, pl, hz⟩ := I.tuple hx
      have hlen := r.length
      exact truthy_tuple pl (by simp only [List.size_toArray]; omega) ⟨H, I.tok _, by rw [isEmpty_of r]; exact q⟩
    · subst e'
      obtain ⟨hz, hS, vs, r, m⟩ : kvs.length ≤ sizeLine ∧ (p == sysModules) = false ∧ ∃ vs, KV kvs vs ∧ s.heap.DictOf (mixKind X.prog X.w) p vs := I.hok p _ hx
      have hlen : kvs.length = vs.length := Paired.length r
      exact wpAny_truthy_dict hS m (by omega) ⟨H, I.tok _, by rw [isEmpty_kv r]; exact q⟩
  | _ => exact (show False from e).elim
/-- any expression whose test is its value's truth (a name, a call, a subscript, a field ..: he by fun _ => rfl) -/
theorem pt_truth (ha : PE X a ta) (he : ∀ whole, isTrue a X.env whole = (do let v ← whole; standAt a.pos; holding [v] (truthy v))) :
    PT X a (fun σ H Q => ta σ H fun x H' => ∃ k, TruV X.K x H' k ∧ Q k H') := by
  intro pins s σ H Q I h
  exact isTrue_plain (thn (ha pins s σ H _ I h) fun v s1 ⟨x, H1, I1, r1, q1⟩ => tru_ok pins s1 σ H1 x v Q I1 r1 q1) (he _)

/-! ### strs and bytes -/
def PlainIxT (b : Expr) : Prop := ∀ o i, subscripted b false o i = operate [o, i] (getItem o i)
/-! ### scalar builtins, by CallR -/
theorem vals1 {x : V} {us : List Value} (r : Vals [x] us) : ∃ u, us = [u] ∧ RelV x u := by
  cases r with
  | cons r1 r2 => cases r2; exact ⟨_, rfl, r1⟩
theorem vals2 {x y : V} {us : List Value} (r : Vals [x, y] us) : ∃ u w', us = [u, w'] ∧ RelV x u ∧ RelV y w' := by
  cases r with
  | cons r1 r2 =>
    cases r2 with
    | cons r3 r4 => cases r4; exact ⟨_, _, rfl, r1, r3⟩
theorem call_abs : CallR X (.builtin "abs") (fun xs H Q => ∃ i, xs = [.int i] ∧ Q (.int (if i < 0 then -i else i)) H) := by
  intro pins s σ H xs us Q I r h
  obtain ⟨i, rfl, q⟩ := h
  obtain ⟨u, rfl, t, rfl⟩ := vals1 r
  exact call_abs_int fun u tk => ⟨.int (if i < 0 then -i else i), H, I.tok _, ⟨_, rfl⟩, q⟩
theorem call_int1 : CallR X (.type "int") (fun xs H Q => (∃ i, xs = [.int i] ∧ Q (.int i) H) ∨ ∃ k, xs = [.bl k] ∧ Q (.int (if k then 1 else 0)) H) := by
  intro pins s σ H xs us Q I r h
  rcases h with ⟨i, rfl, q⟩ | ⟨k, rfl, q⟩
  · obtain ⟨u, rfl, t, rfl⟩ := vals1 r
    exact call_int_int ⟨.int i, H, I, ⟨_, rfl⟩, q⟩
  · obtain ⟨u, rfl, r1⟩ := vals1 r
    cases r1
    exact call_int_bool ⟨.int (if k then 1 else 0), H, I.tok _, ⟨_, rfl⟩, q⟩
/-- len of a str, a bytes, a list, a tuple -/
def LenV (K : PySem.W.Frag) (x : V) (H : Hp) (n : Nat) : Prop :=
  match x with
  | .str y => y.length ≤ sizeLine ∧ n = y.length
  | .byt y => y.size ≤ sizeLine ∧ n = y.size
  | .ref p => (∃ xs, SqL K H p xs ∧ n = xs.length) ∨ ∃ xs, SqT K H p xs ∧ n = xs.length
  | _ => False
end
end L2

namespace L2
open PySem PySem.Spec PyProof.Rows

/-! ### an instance, its attributes a map -/
structure ObjM (h : Heap) (x dx C : Addr) (mA : Str → Option Value) : Prop where
  obj : h.get? x = some (PySem.W.instObj C dx)
  ns : h.Ns1 dx mA
  ne : dx ≠ x

theorem lookIn_ns {h : Heap} {dx : Addr} {mA : Str → Option Value} (n : h.Ns1 dx mA) : ∃ od, h.get? dx = some od ∧ ∀ name, PySem.W.lookIn name od = some (mA name) := by
  obtain ⟨o, es, ep, ho, hd, hk, _, hm⟩ := n
  refine ⟨o, ho, fun name => ?_⟩
  have e := hm name
  unfold nsFind findBy at e
  rw [← Array.find?_toList] at e
  unfold PySem.W.lookIn
  rw [hd]
  dsimp only
  split
  · rename_i y q
    rw [q] at e
    exact congrArg some e
  · rename_i q
    rw [q] at e
    have a : es.toList.any (·.refKey) = false := by
      rw [List.any_eq_false]
      intro y hy
      obtain ⟨z, t, hkey⟩ := hk y (Array.mem_toList_iff.mp hy)
      simp [DictEntry.refKey, hkey]
    have a' : ¬ es.toList.any (·.refKey) = true := by rw [a]; exact Bool.false_ne_true
    rw [if_neg a']
    exact congrArg some e

theorem ObjM.look {h : Heap} {x dx C : Addr} {mA : Str → Option Value} (I : ObjM h x dx C mA) : ∃ od, PySem.W.InstAt h x (PySem.W.instObj C dx) C (some od) ∧ ∀ name, PySem.W.lookIn name od = some (mA name) :=
  let ⟨od, ho, hl⟩ := lookIn_ns I.ns
  ⟨od, ⟨I.obj, rfl, rfl, ho⟩, hl⟩

section
variable {prog : Program} {w : World} {A : Around} {E : Value → Shared → Prop} {s : Shared} {K : PySem.W.Frag} {x dx C f : Addr} {mA : Str → Option Value} {name : Str} {v : Value}

theorem get_map {expr : Bool} {Q : Value → Shared → Prop} (X : K.In s.heap) (I : ObjM s.heap x dx C mA) (hg : PySem.W.plainGet K C name = true) (hh : PySem.W.hasDictIn K C = true)
    (ha : PySem.W.findIn K (.ref C) name = some none) (hv : mA name = some v) (hv' : PySem.W.handedIn v = true) (h : Q v { s with toks := s.toks + 1 }) :
    wpAny (model prog w) A (getAttr (.ref x) name expr) Q E s := by
  obtain ⟨od, J, hl⟩ := I.look
  exact PySem.W.get_value X J (PySem.W.plainGet_of hg).1 (PySem.W.findObj_own hh ha rfl (by rw [hl, hv])) hv' h

theorem get_meth {pl : Sem Bool} {Q : Value × List Value → Shared → Prop} (X : K.In s.heap) (I : ObjM s.heap x dx C mA) (hg : PySem.W.plainGet K C name = true)
    (hf : PySem.W.findIn K (.ref C) name = some (some (.ref f))) (ht : PySem.W.isFn K (.ref f) = true) (hv : mA name = none) (h : Q (.ref f, [.ref x]) s) :
    wpAny (model prog w) A (getMethod (.ref x) name pl) Q E s := by
  obtain ⟨od, J, hl⟩ := I.look
  exact PySem.W.method_fn X J (PySem.W.plainGet_of hg).1 (PySem.W.plainGet_of hg).2 hf (beq_iff_eq.mp ht) (by show (PySem.W.lookIn name od).map (·.isSome) = some false; rw [hl, hv]; rfl) h

theorem set_map {ns : List Str} {Q : Unit → Shared → Prop} (X : K.In s.heap) (I : ObjM s.heap x dx C mA)
    (hs : PySem.W.findIn K (.ref C) "__setattr__" = some (some (.builtin "object.__setattr__"))) (hp : PySem.W.plainOver K C = true) (ht : PySem.W.takerIn K C name = some none) (hh : PySem.W.hasDictIn K C = true)
    (hw : PySem.Within mA ns) (hsz : ns.length ≤ sizeLine)
    (h : ∀ h', ObjM h' x dx C (fun y => if y = name then some v else mA y) → Heap.SameBut dx s.heap h' → Q () { s with heap := h', toks := s.toks + 2 }) :
    wpAny (model prog w) A (setAttr (.ref x) name v) Q E s := by
  obtain ⟨od, J, hl⟩ := I.look
  refine PySem.W.set_plain X J hs (PySem.W.osa_open (s := { s with toks := s.toks + 1 }) (r := none) X J hp ht fun b => ?_)
  obtain ⟨cd, hc, hd'⟩ := PySem.W.any_some hh
  have hx : s.heap.get? x = some ⟨.ref C, some dx, .plain, #[]⟩ := I.obj
  refine wpAny_bind (wpAny_pure (wpAny_bind (wpAny_bind (wpAny_loadPart hx (wpAny_bind (PySem.W.Looks.here (s := { s with toks := s.toks + 1 }) (PySem.W.looks_clsIn X hc) ?_))))))
  rw [hd']
  refine wpAny_pure (a := some dx) (wpAny_bind (wpAny_pure (wpAny_bind ?_)))
  refine wpAny_nsSet1 (s := { s with toks := s.toks + 1 }) I.ns fun h' hn2 hs2 => ?_
  obtain ⟨oD, esD, epD, hoD, hdD, hcD⟩ := hn2.count (PySem.Within.cons name v hw)
  refine wpAny_bind (wpAny_lookBehind hoD (by rw [hdD]; exact pastItsLine_dict (Nat.le_trans hcD (by rw [List.length_cons]; omega))) ?_)
  exact wpAny_pure (h _ ⟨(hs2.2 _ (Ne.symm I.ne)).trans I.obj, hn2, I.ne⟩ hs2)

/-- C(..): the dict at the heap's end, the instance behind it; then its __init__ -/
theorem make_map {R : Result → Shared → Prop} {vs : List Value} {kw : List (Str × Value)} (X : K.In s.heap) (hm : PySem.W.makesIn K C = true)
    (hi : PySem.W.findIn K (.ref C) "__init__" = some (some (.ref f))) (hf : PySem.W.typeIn K (.ref f) = some (.type "function"))
    (h : codeAny (model prog w) (A.under (.builtin "type.__call__" ⟨.ref C :: vs, kw⟩)) (.call (.ref f) ⟨.ref (s.heap.objs.size + 1) :: vs, kw⟩) (PySem.W.InitBack (s.heap.objs.size + 1) R)
      { s with heap := (s.heap.push PySem.W.emptyDict).push (PySem.W.instObj C s.heap.objs.size) }) :
    codeAny (model prog w) A (.call (.ref C) ⟨vs, kw⟩) R s := by
  obtain ⟨hh, g, d, t, os⟩ := s
  exact PySem.W.make_core (PySem.W.makes_of X hm) (PySem.W.looks_findIn X hi) (fun self => PySem.W.bind_fn X self hf) (.inl rfl) h
end

/-! ### the attributes as a list of pairs -/
def putF (f : Str) (v : V) : List (Str × V) → List (Str × V)
  | [] => [(f, v)]
  | (g, x) :: r => if g = f then (g, v) :: r else (g, x) :: putF f v r
theorem lookup_putF (f g : Str) (v : V) : ∀ fs : List (Str × V), (putF f v fs).lookup g = if g = f then some v else fs.lookup g
  | [] => by
    show List.lookup g [(f, v)] = _
    by_cases h : g = f
    · have hb : (g == f) = true := beq_iff_eq.mpr h
      simp only [List.lookup, hb, if_pos h]
    · have hb : (g == f) = false := beq_eq_false_iff_ne.mpr h
      simp only [List.lookup, hb, if_neg h]
  | (k, x) :: r => by
    have ih := lookup_putF f g v r
    rw [show putF f v ((k, x) :: r) = (if k = f then (k, v) :: r else (k, x) :: putF f v r) from rfl]
    by_cases hk : k = f
    · rw [if_pos hk]
      by_cases h : g = k
      · have hb : (g == k) = true := beq_iff_eq.mpr h
        simp only [List.lookup, hb, if_pos (h.trans hk)]
      · have hb : (g == k) = false := beq_eq_false_iff_ne.mpr h
        simp only [List.lookup, hb, if_neg (fun e : g = f => h (e.trans hk.symm))]
    · rw [if_neg hk]
      by_cases h : g = k
      · have hb : (g == k) = true := beq_iff_eq.mpr h
        simp only [List.lookup, hb, if_neg (fun e : g = f => hk (h.symm.trans e))]
      · have hb : (g == k) = false := beq_eq_false_iff_ne.mpr h
        simp only [List.lookup, hb]
        exact ih
theorem keys_putF (f : Str) (v : V) : ∀ fs : List (Str × V), f ∈ (putF f v fs).map (·.1) ∧ ∀ g, g ∈ fs.map (·.1) → g ∈ (putF f v fs).map (·.1)
  | [] => ⟨by simp [putF], fun g h => by simp at h⟩
  | (k, x) :: r => by
    obtain ⟨i1, i2⟩ := keys_putF f v r
    rw [show putF f v ((k, x) :: r) = (if k = f then (k, v) :: r else (k, x) :: putF f v r) from rfl]
    by_cases hk : k = f
    · rw [if_pos hk]
      subst hk
      exact ⟨by simp, fun g h => by simpa using h⟩
    · rw [if_neg hk]
      refine ⟨?_, fun g h => ?_⟩
      · rw [List.map_cons]
        exact List.mem_cons_of_mem _ i1
      · rw [List.map_cons] at h ⊢
        rcases List.mem_cons.mp h with e | e
        · exact List.mem_cons.mpr (.inl e)
        · exact List.mem_cons_of_mem _ (i2 g e)
theorem length_putF (f : Str) (v : V) : ∀ fs : List (Str × V), (putF f v fs).length ≤ fs.length + 1
  | [] => by simp [putF]
  | (k, x) :: r => by
    have ih := length_putF f v r
    rw [show putF f v ((k, x) :: r) = (if k = f then (k, v) :: r else (k, x) :: putF f v r) from rfl]
    by_cases hk : k = f
    · rw [if_pos hk, List.length_cons, List.length_cons]; omega
    · rw [if_neg hk, List.length_cons, List.length_cons]; omega

theorem RelO.some_of {v : V} {o : Option Value} (r : RelO (some v) o) : ∃ u, o = some u ∧ RelV v u := by
  cases o with
  | none => exact (show False from r).elim
  | some u => exact ⟨u, rfl, r⟩
theorem RelO.none_of {o : Option Value} (r : RelO none o) : o = none := by
  cases o with
  | none => rfl
  | some u => exact (show False from r).elim
theorem handed_of {v : V} {u : Value} (r : RelV v u) : PySem.W.handedIn u = true := by
  cases v with
  | non => cases (show u = Value.none from r); rfl
  | bl b => cases (show u = Value.bool b from r); rfl
  | int i => obtain ⟨t, e⟩ := (show ∃ t, u = Value.int i t from r); cases e; rfl
  | str x => obtain ⟨t, e⟩ := (show ∃ t, u = Value.str x t from r); cases e; rfl
  | byt b => obtain ⟨t, e⟩ := (show ∃ t, u = Value.bytes b t from r); cases e; rfl
  | flt b => obtain ⟨t, e⟩ := (show ∃ t, u = Value.float b t from r); cases e; rfl
  | ref a => cases (show u = Value.ref a from r); rfl
  | ty n => cases (show u = Value.type n from r); rfl

section
variable {P : Program} {w : World} {H H' : Hp} {h h' : Heap} {a C dx : Addr} {fs fs' : List (Str × V)}
theorem ins_get (hok : HOk P w H h) (e : H a = some (.ins C dx fs)) : ∃ mA, ObjM h a dx C mA ∧ (∀ f, RelO (fs.lookup f) (mA f)) ∧ PySem.Within mA (fs.map (·.1)) ∧ fs.length ≤ 1000 ∧ H dx = some (.own a) := by
  obtain ⟨d, z, ne, ob, mA, n, r, q⟩ := (show ObjOk P w H h a (.ins C dx fs) from hok a _ e)
  exact ⟨mA, ⟨ob, n, ne⟩, r, q, z, d⟩
end

/-! ### what of the text a class must have -/
structure Cls (K : PySem.W.Frag) (C : Addr) : Prop where
  pg : PySem.W.plainGet K C Str.empty = true
  hd : PySem.W.hasDictIn K C = true
  po : PySem.W.plainOver K C = true
  sa : PySem.W.findIn K (.ref C) "__setattr__" = some (some (.builtin "object.__setattr__"))
theorem Cls.get {K : PySem.W.Frag} {C : Addr} (c : Cls K C) (f : Str) : PySem.W.plainGet K C f = true := c.pg
/-- no class of it has the name -/
def NoAttr (K : PySem.W.Frag) (C : Addr) (f : Str) : Prop := PySem.W.findIn K (.ref C) f = some none
theorem NoAttr.taker {K : PySem.W.Frag} {C : Addr} {f : Str} (n : NoAttr K C f) : PySem.W.takerIn K C f = some none := by
  unfold PySem.W.takerIn
  rw [show PySem.W.findIn K (.ref C) f = some none from n]
  rfl
/-- a constant of the class -/
structure Con (K : PySem.W.Frag) (C : Addr) (f : Str) (v : V) (u : Value) : Prop where
  at_ : PySem.W.findIn K (.ref C) f = some (some u)
  rel : RelV v u
  get : PySem.W.specialIn K u "__get__" = some none
  cp : PySem.W.copiedNames.contains f = false
/-- a method: a plain def of the class or of one above it -/
structure Meth (K : PySem.W.Frag) (C : Addr) (m : Str) (f : Addr) : Prop where
  at_ : PySem.W.findIn K (.ref C) m = some (some (.ref f))
  fn : PySem.W.isFn K (.ref f) = true
  kp : PySem.W.keepIn K (.ref f) = true

section
variable {X : Cx} {pins : List (Addr × Obj)} {σ : St} {H : Hp} {s : Shared} {a C dx : Addr} {fs : List (Str × V)} {f : Str} {v : V} {A : Around} {E : Value → Shared → Prop}

theorem getattr_ok {b : Bool} {Q : Value → Shared → Prop} (I : Inv X pins σ H s) (e : H a = some (.ins C dx fs)) (c : Cls X.K C) (n : NoAttr X.K C f) (l : fs.lookup f = some v)
    (h : ∀ u s', Inv X pins σ H s' → RelV v u → Q u s') : wpAny (model X.prog X.w) A (getAttr (.ref a) f b) Q E s := by
  obtain ⟨mA, O, r, _, _, _⟩ := ins_get I.hok e
  obtain ⟨u, hu, ru⟩ := RelO.some_of (v := v) (o := mA f) (by rw [← l]; exact r f)
  exact get_map I.kIn O (c.get f) c.hd n hu (handed_of ru) (h u _ (I.tok _) ru)

theorem getmeth_ok {m : Str} {g : Addr} {pl : Sem Bool} {Q : Value × List Value → Shared → Prop} (I : Inv X pins σ H s) (e : H a = some (.ins C dx fs)) (c : Cls X.K C) (k : Meth X.K C m g) (l : fs.lookup m = none)
    (h : Q (.ref g, [.ref a]) s) : wpAny (model X.prog X.w) A (getMethod (.ref a) m pl) Q E s := by
  obtain ⟨mA, O, r, _, _, _⟩ := ins_get I.hok e
  have hn : mA m = none := RelO.none_of (by rw [← l]; exact r m)
  exact get_meth I.kIn O (c.get m) k.at_ k.fn hn h

theorem setattr_ok {y : V} {u : Value} {Q : Unit → Shared → Prop} (I : Inv X pins σ H s) (e : H a = some (.ins C dx fs)) (c : Cls X.K C) (n : NoAttr X.K C f) (hl : fs.length < 1000) (ry : RelV y u)
    (h : ∀ s', Inv X pins σ (upd H a (.ins C dx (putF f y fs))) s' → Q () s') : wpAny (model X.prog X.w) A (setAttr (.ref a) f u) Q E s := by
  obtain ⟨mA, O, r, wi, _, ho⟩ := ins_get I.hok e
  have hz : (fs.map (·.1)).length ≤ sizeLine := by rw [List.length_map, sizeLine_eq]; omega
  refine set_map I.kIn O c.sa c.po n.taker c.hd wi hz fun h' O' sb => h _ ?_
  have hd : ∃ o, h'.get? dx = some o := let ⟨o, _, _, e', _⟩ := O'.ns; ⟨o, e'⟩
  refine I.write (x := a) (e := dx) (by rw [e]; exact True.intro) (.inr ho) (fun b q hb z => (sb.2 b hb).trans z) hd ?_
  refine ⟨by rw [upd_ne O.ne]; exact ho, ?_, O.ne, O'.obj, _, O'.ns, fun g => ?_, fun g hg => ?_⟩
  · have := length_putF f y fs; omega
  · show RelO ((putF f y fs).lookup g) (if g = f then some u else mA g)
    rw [lookup_putF]
    by_cases q : g = f
    · rw [if_pos q, if_pos q]; exact ry
    · rw [if_neg q, if_neg q]; exact r g
  · by_cases q : g = f
    · rw [q]; exact (keys_putF f y fs).1
    · refine (keys_putF f y fs).2 g (wi g fun z => hg ?_)
      show (if g = f then some u else mA g) = none
      rw [if_neg q]; exact z

/-- a new instance, tracked, without attributes -/
theorem Inv.made (I : Inv X pins σ H s) : Inv X pins σ (upd (upd H s.heap.objs.size (.own (s.heap.objs.size + 1))) (s.heap.objs.size + 1) (.ins C s.heap.objs.size []))
    { s with heap := (s.heap.push PySem.W.emptyDict).push (PySem.W.instObj C s.heap.objs.size) } := by
  have e1 : (s.heap.push PySem.W.emptyDict).get? s.heap.objs.size = some PySem.W.emptyDict := Heap.get?_push_size s.heap rfl
  have e2 : ((s.heap.push PySem.W.emptyDict).push (PySem.W.instObj C s.heap.objs.size)).get? (s.heap.objs.size + 1) = some (PySem.W.instObj C s.heap.objs.size) := by
    have := Heap.get?_push_size (s.heap.push PySem.W.emptyDict) (o := PySem.W.instObj C s.heap.objs.size) rfl
    rwa [Heap.size_push] at this
  have e3 : (s.heap.push PySem.W.emptyDict).Ns s.heap.objs.size (fun _ => none) := ⟨PySem.W.emptyDict, #[], _, e1, rfl, (fun e he => absurd he (by simp)), fun _ => rfl⟩
  have I1 := I.laid (a := s.heap.objs.size) (o := .own (s.heap.objs.size + 1)) (h' := s.heap.push PySem.W.emptyDict) (t' := s.toks) (fun b u q => Heap.get?_push_of_some _ q) (Nat.le_refl _) ⟨_, e1⟩
  refine I1.laid (a := s.heap.objs.size + 1) (o := .ins C s.heap.objs.size []) (t' := s.toks) (fun b u q => Heap.get?_push_of_some _ q) (Nat.le_of_eq (Heap.size_push _ _)) ?_
  have ne : s.heap.objs.size ≠ s.heap.objs.size + 1 := Nat.ne_of_lt (Nat.lt_succ_self _)
  refine ⟨by rw [upd_ne ne, upd_same], Nat.zero_le _, ne, e2, fun _ => none, (Heap.Ns1.of_empty e3).at fun o q => Heap.get?_push_of_some _ q, fun _ => True.intro, fun y hy => absurd rfl hy⟩

/-- e.f where nothing but the object is asked: through attributeBase (super) and the last hold -/
theorem attr_of {prog : Program} {w : World} {env : Env} {e : Expr} {f : Str} {pos : Pos} {s : Shared} {Q : Value → Shared → Prop} (hb : attributeBase e f env (eval e env) = eval e env)
    (h : wpAny (model prog w) A (eval e env) (fun o s₁ => wpAny (model prog w) A (getAttr o f true) Q E s₁) E s) : wpAny (model prog w) A (eval (.Attribute e f pos) env) Q E s :=
  Attribute_any_ h (by rw [arm_eval_Attribute, hb])
end

/-! ### readings and rules -/
/-- e.f, an attribute of the instance -/
def tFld (K : PySem.W.Frag) (ta : TE) (f : Str) : TE := fun σ H Q => ta σ H fun x H1 => ∃ a C dx fs v, x = .ref a ∧ H1 a = some (.ins C dx fs) ∧ Cls K C ∧ NoAttr K C f ∧ fs.lookup f = some v ∧ Q v H1
/-- e.f, a constant of the class -/
def tCon (K : PySem.W.Frag) (ta : TE) (f : Str) : TE := fun σ H Q => ta σ H fun x H1 => ∃ a C dx fs v u, x = .ref a ∧ H1 a = some (.ins C dx fs) ∧ Cls K C ∧ Con K C f v u ∧ fs.lookup f = none ∧ Q v H1
/-- e.f = value -/
def sFld (K : PySem.W.Frag) (ta tv : TE) (f : Str) : TS := fun D σ H => tv σ H fun y H1 => ta σ H1 fun x H2 => ∃ a C dx fs, x = .ref a ∧ H2 a = some (.ins C dx fs) ∧ Cls K C ∧ NoAttr K C f ∧ fs.length < 1000 ∧
  D.nx σ (upd H2 a (.ins C dx (putF f y fs)))
/-- an augmented operator on two values -/
def InOp (X : Cx) (op : Operator) (rd : V → V → Hp → VK → Prop) : Prop :=
  ∀ (pins : List (Addr × Obj)) (s : Shared) (σ : St) (H : Hp) (x y : V) (u v : Value) (Q : VK), Inv X pins σ H s → RelV x u → RelV y v → rd x y H Q → wpAny (model X.prog X.w) X.A (inplaceOp op u v) (EP X pins σ Q) X.xe s
/-- e.f op= value -/
def sFldAug (K : PySem.W.Frag) (ta tv : TE) (rd : V → V → Hp → VK → Prop) (f : Str) : TS := fun D σ H => ta σ H fun x H1 => ∃ a C dx fs v, x = .ref a ∧ H1 a = some (.ins C dx fs) ∧ Cls K C ∧ NoAttr K C f ∧ fs.lookup f = some v ∧
  tv σ H1 fun y H2 => rd v y H2 fun z H3 => ∃ dx' fs', H3 a = some (.ins C dx' fs') ∧ fs'.length < 1000 ∧ D.nx σ (upd H3 a (.ins C dx' (putF f z fs')))

section
variable {X : Cx} {o e value : Expr} {f : Str} {pos pos' tpos : Pos} {ta tv : TE}
theorem pe_fld (he : PE X e ta) (hb : attributeBase e f X.env (eval e X.env) = eval e X.env) : PE X (.Attribute e f pos) (tFld X.K ta f) := by
  intro pins s σ H Q I h
  refine attr_of hb (thn (he pins s σ H _ I h) fun u s1 ⟨x, H1, I1, rx, a, C, dx, fs, v, ex, ea, c, n, l, q⟩ => ?_)
  subst ex
  obtain rfl : u = Value.ref a := rx
  exact getattr_ok I1 ea c n l fun u' s2 I2 ru => ⟨v, H1, I2, ru, q⟩
theorem ps_fld (ha : PE X o ta) (hv : PE X value tv) (hs : swapsWith value (some (.Attribute o f pos')) pos.line X.env = pure false) : PS X (.Assign [.Attribute o f pos'] value pos) (sFld X.K ta tv f) := by
  intro pins s σ H D I h
  refine plainObj_wpAny_Assign_Attribute (thn (hv pins s σ H _ I h) fun u s1 ⟨y, H1, I1, ry, q⟩ => thn (ha pins s1 σ H1 _ I1 q) fun ov s2 ⟨x, H2, I2, rx, a, C, dx, fs, ex, ea, c, n, l, q2⟩ => ?_) hs
  subst ex
  obtain rfl : ov = Value.ref a := rx
  exact setattr_ok I2 ea c n l ry fun s3 I3 => ⟨σ, _, I3, q2⟩
def rAdd : V → V → Hp → VK → Prop := fun x y H Q => ∃ i j, x = .int i ∧ y = .int j ∧ Q (.int (i + j)) H
def rSub : V → V → Hp → VK → Prop := fun x y H Q => ∃ i j, x = .int i ∧ y = .int j ∧ Q (.int (i - j)) H
end

/-! ### isinstance -/
section
variable {X : Cx} {pins : List (Addr × Obj)} {σ : St} {H : Hp} {s : Shared} {A : Around} {E : Value → Shared → Prop} {Q : Value → Shared → Prop} {c : Value} {b : Bool}
/-- the type of a value, as the fragment's deciders take it; for an instance its class -/
inductive TyOf (K : PySem.W.Frag) (H : Hp) : V → Value → Prop where
  | non : TyOf K H .non (.type "NoneType")
  | bl (x : Bool) : TyOf K H (.bl x) (.type "bool")
  | int (i : Int) : TyOf K H (.int i) (.type "int")
  | str (x : Str) : TyOf K H (.str x) (.type "str")
  | flt (x : UInt64) : TyOf K H (.flt x) (.type "float")
  | lst {a : Addr} {xs : List V} (e : H a = some (.lst xs)) : TyOf K H (.ref a) (.type "list")
  | frz {a : Addr} {o : Obj} {xs : List V} (e : H a = some (.frz o (.lst xs))) : TyOf K H (.ref a) (.type "list")
  | tup {a : Addr} {xs : List V} (e : H a = some (.tup xs)) : TyOf K H (.ref a) (.type "tuple")
  | dK {a : Addr} {kvs : List (Key × V)} (e : H a = some (.dK kvs)) : TyOf K H (.ref a) (.type "dict")
  | dT {a : Addr} {kvs : List (List Key × V)} (e : H a = some (.dT kvs)) : TyOf K H (.ref a) (.type "dict")
  | ins {a C dx : Addr} {fs : List (Str × V)} (e : H a = some (.ins C dx fs)) (cl : Cls K C) (ha : PySem.W.findIn K (.ref C) "__class__" = some (some (.builtin "object.__class__")))
      (hn : PySem.W.specialIn K (.builtin "object.__class__") "__get__" = some (some (.builtin "getset_descriptor.__get__"))) (htk : PySem.W.takesIn K (.builtin "object.__class__") = some true)
      (hm : PySem.W.mroIn K C (.type "object") = some true) : TyOf K H (.ref a) (.ref C)
/-- isinstance(x, c) for one class c, a built-in or an own one: kitOne's answer -/
theorem isinst_ok {x : V} {u t : Value} (I : Inv X pins σ H s) (rx : RelV x u) (ty : TyOf X.K H x t) (e : PySem.W.kitOne X.K t c = some b) (h : ∀ tk, Q (.bool b) { s with toks := tk }) :
    wpAny (model X.prog X.w) A (call (.builtin "isinstance") [u, c]) Q E s := by
  cases ty with
  | non => cases (show u = Value.none from rx); exact PySem.W.kia_one PySem.W.kitx_none I.kIn True.intro e (fun z => nomatch z) h
  | bl y => cases (show u = Value.bool y from rx); exact PySem.W.kia_one PySem.W.kitx_bool I.kIn True.intro e (fun z => nomatch z) h
  | int i => obtain ⟨t, q⟩ := (show ∃ t, u = Value.int i t from rx); cases q; exact PySem.W.kia_one PySem.W.kitx_int I.kIn True.intro e (fun z => nomatch z) h
  | str y => obtain ⟨t, q⟩ := (show ∃ t, u = Value.str y t from rx); cases q; exact PySem.W.kia_one PySem.W.kitx_str I.kIn True.intro e (fun z => nomatch z) h
  | flt y => obtain ⟨t, q⟩ := (show ∃ t, u = Value.float y t from rx); cases q; exact PySem.W.kia_one PySem.W.kitx_float I.kIn True.intro e (fun z => nomatch z) h
  | @lst a xs ea =>
    cases (show u = Value.ref a from rx)
    obtain ⟨_, _, n, _, h1⟩ := (show ObjOk X.prog X.w H s.heap a (.lst xs) from I.hok a _ ea)
    exact PySem.W.kia_one PySem.W.kitx_list I.kIn ⟨_, h1, rfl⟩ e (fun z => nomatch z) h
  | @frz a ob xs ea =>
    cases (show u = Value.ref a from rx)
    obtain ⟨_, _, _, n, _, h1⟩ := (show ObjOk X.prog X.w H s.heap a (.frz ob (.lst xs)) from I.hok a _ ea)
    exact PySem.W.kia_one PySem.W.kitx_list I.kIn ⟨_, h1, rfl⟩ e (fun z => nomatch z) h
  | @tup a xs ea =>
    cases (show u = Value.ref a from rx)
    obtain ⟨_, _, _, p⟩ := (show ObjOk X.prog X.w H s.heap a (.tup xs) from I.hok a _ ea)
    obtain ⟨o, h1, h2, _⟩ := p
    exact PySem.W.kia_one PySem.W.kitx_tuple I.kIn ⟨o, h1, h2⟩ e (fun z => nomatch z) h
  | @dK a kvs ea =>
    cases (show u = Value.ref a from rx)
    obtain ⟨_, _, vs, _, p⟩ := (show ObjOk X.prog X.w H s.heap a (.dK kvs) from I.hok a _ ea)
    obtain ⟨o, es, ep, h1, h2, _⟩ := p
    exact PySem.W.kia_one PySem.W.kitx_dict I.kIn ⟨o, h1, h2.1⟩ e (fun z => nomatch z) h
  | @dT a kvs ea =>
    cases (show u = Value.ref a from rx)
    obtain ⟨_, _, xs, _, o, es, ep, h1, h2, _⟩ := (show ObjOk X.prog X.w H s.heap a (.dT kvs) from I.hok a _ ea)
    exact PySem.W.kia_one PySem.W.kitx_dict I.kIn ⟨o, h1, h2.1⟩ e (fun z => nomatch z) h
  | @ins a C dx fs ea cl ha hn htk hm =>
    cases (show u = Value.ref a from rx)
    obtain ⟨mA, O, _⟩ := ins_get I.hok ea
    obtain ⟨od, J, _⟩ := O.look
    exact PySem.W.kia_one (PySem.W.kitx_own (cl.get _) cl.hd ha hn htk hm) I.kIn J e (fun z => nomatch z) h
end
end L2

namespace L2
open PySem PySem.Spec PyProof.Rows

/-! ### room -/
structure Room (k : Nat) (A : Around) : Prop where
  hd : A.handled = none
  dp : A.depth + 3 * k + 5 < recursionLimit
  un : A.units + 16 * k + 200 < cLine
theorem Room.mono {j k : Nat} {A : Around} (r : Room k A) (h : j ≤ k) : Room j A := ⟨r.hd, by have := r.dp; omega, by have := r.un; omega⟩
theorem Room.deeper {k : Nat} {A : Around} (r : Room (k + 1) A) (env : Env) : Room k (A.deeper env) :=
  ⟨r.hd, by have := r.dp; show A.depth + 1 + 3 * k + 5 < _; omega, by have := r.un; show A.units + 3 + 16 * k + 200 < _; omega⟩
theorem make_depth {A : Around} {C : Addr} {us : List Value} {kw : List (Str × Value)} : (A.under (.builtin "type.__call__" ⟨.ref C :: us, kw⟩)).depth = A.depth + 1 := by
  first | rfl | simp [Around.under, Code.weight, Code.isCreation, Code.isGuard, Code.isCaller, Code.frames, Code.isFrame, guardIds]
theorem make_units {A : Around} {C : Addr} {us : List Value} {kw : List (Str × Value)} : (A.under (.builtin "type.__call__" ⟨.ref C :: us, kw⟩)).units = A.units + 1 := by
  first | rfl | simp [Around.under, Code.cUnits, Code.frames, Code.isFrame]
theorem Room.make {k : Nat} {A : Around} (r : Room (k + 1) A) (C : Addr) (us : List Value) (kw : List (Str × Value)) : Room k (A.under (.builtin "type.__call__" ⟨.ref C :: us, kw⟩)) :=
  ⟨r.hd, by have := r.dp; rw [make_depth]; omega, by have := r.un; rw [make_units]; omega⟩
theorem Room.depth {k : Nat} {A : Around} (r : Room k A) : A.depth < recursionLimit := by have := r.dp; omega
theorem Room.units {k : Nat} {A : Around} (r : Room k A) : A.units + 64 < cLine := by have := r.un; omega
/-! ### argument lists and displays -/
def tNil : TA := fun _ H Q => Q [] H
def tCons (ta : TE) (tr : TA) : TA := fun σ H Q => ta σ H fun x H1 => tr σ H1 fun xs H2 => Q (x :: xs) H2
section
variable {X : Cx} {e : Expr} {es : List Expr} {te : TE} {t : TA} {pos : Pos}
theorem pa_nil : PA X [] tNil := fun _ _ _ _ H Q I h => Calls.spliced_nil ⟨[], H, I, .nil, h⟩
theorem pa_cons (ha : PE X e te) (hr : PA X es t) (hs : starEach (e :: es) X.env = (false, eval e X.env) :: starEach es X.env := by rfl) : PA X (e :: es) (tCons te t) := by
  intro pos pins s σ H Q I h
  rw [hs]
  show wpAny _ _ (spliced ((false, eval e X.env) :: backTo pos (starEach es X.env))) _ _ s
  refine Calls.spliced_cons (thn (ha pins s σ H _ I h) fun u s1 ⟨x, H1, I1, r1, q1⟩ => ?_)
  exact thn (hr pos pins s1 σ H1 _ I1 q1) fun us s2 ⟨xs, H2, I2, r2, q2⟩ => ⟨x :: xs, H2, I2, .cons r1 r2, q2⟩

/-- a tuple, a list of written items -/
def tTup (t : TA) : TE := fun σ H Q => t σ H fun xs H1 => xs.length ≤ sizeLine ∧ ∀ p, H1 p = none → Q (.ref p) (upd H1 p (.tup xs))
def tLst (t : TA) : TE := fun σ H Q => t σ H fun xs H1 => xs.length ≤ sizeLine ∧ ∀ p, H1 p = none → Q (.ref p) (upd H1 p (.lst xs))
theorem pe_lst (h : PA X es t) : PE X (.List es pos) (tLst t) := by
  intro pins s σ H Q I hq
  refine wpAny_List_spliced (thn (h pos pins s σ H _ I hq) fun us s1 ⟨xs, H1, I1, r, z, q⟩ => ⟨by rw [← r.length]; exact z, ?_⟩)
  have hf : H1 s1.heap.objs.size = none := I1.hok.fresh (Nat.le_refl _)
  refine ⟨.ref s1.heap.objs.size, upd H1 s1.heap.objs.size (.lst xs), I1.laid (t' := s1.toks) (fun b u e => Heap.get?_push_of_some _ e) (Nat.le_refl _) ?_, rfl, q _ hf⟩
  exact ⟨z, us, 0, r, Heap.get?_push_size _ rfl⟩
end

/-! ### what a def promises -/
/-- a def's promise: the bound arguments in the parameters' order, the heap, the wanted end, the wanted exception -/
abbrev Sp := List V → Hp → VK → XK → Prop
/-- how an exception lies behind a call (file 08 gives it): the callers' frames, abstract heap and state ahead of the call, the wish, the exception, the state -/
abbrev CXT := List Env → Hp → Shared → XK → Value → Shared → Prop

/-- the state at a call -/
structure Env0 (P : Program) (w : World) (K : PySem.W.Frag) (mg : Str → Option Value) (base : Heap) (A : Around) (outer : List Env) (s : Shared) (H : Hp) : Prop where
  frames : A.frames = some outer
  mod : Mod K mg base
  bs : ∀ b o, base.get? b = some o → s.heap.get? b = some o ∧ H b = none
  bsz : base.objs.size ≤ s.heap.objs.size
  funs : s.heap.FunFrames base outer
  frf : ∀ b ∈ frs outer, H b = none
  hok : HOk P w H s.heap
  bare : AllBare s.gens
/-- a call's end -/
def CE (outer : List Env) (P : Program) (w : World) (H : Hp) (s : Shared) (Q : VK) (u : Value) (s' : Shared) : Prop :=
  ∃ v H', s'.os = s.os ∧ AllBare s'.gens ∧ Un (frs outer) [] H H' s.heap s'.heap ∧ HOk P w H' s'.heap ∧ RelV v u ∧ Q v H'
def CR (CX : CXT) (outer : List Env) (P : Program) (w : World) (H : Hp) (s : Shared) (Q : VK) (E : XK) (r : Result) (s' : Shared) : Prop :=
  match r with
  | .ok (.ret u) => CE outer P w H s Q u s'
  | .ok _ => False
  | .error e => CX outer H s E e s'
structure FnOk (P : Program) (w : World) (K : PySem.W.Frag) (mg : Str → Option Value) (base : Heap) (CX : CXT) (k : Nat) (f : Addr) (fd : FuncData) (ps : List Str) (sp : Sp) : Prop where
  len : ∀ vs H Q E, sp vs H Q E → vs.length = ps.length
  run : ∀ (A : Around) (outer : List Env) (s : Shared) (H : Hp) (args : Args) (us : List Value) (vs : List V) (Q : VK) (E : XK), Room k A → Env0 P w K mg base A outer s H → BindsTo s fd args (ps.zip us) → Vals vs us → sp vs H Q E →
    codeAny (model P w) A (.call (.ref f) args) (CR CX outer P w H s Q E) s
theorem Env0.make {P : Program} {w : World} {K : PySem.W.Frag} {mg : Str → Option Value} {base : Heap} {A : Around} {outer : List Env} {s : Shared} {H : Hp} (e : Env0 P w K mg base A outer s H) (C : Addr) (us : List Value) (kw : List (Str × Value)) :
    Env0 P w K mg base (A.under (.builtin "type.__call__" ⟨.ref C :: us, kw⟩)) outer s H := ⟨by first | exact e.frames | (simpa [Around.under, Code.envs, Code.isFrame, pushEnvs] using e.frames), e.mod, e.bs, e.bsz, e.funs, e.frf, e.hok, e.bare⟩
section
variable {X : Cx} {pins : List (Addr × Obj)} {σ : St} {H : Hp} {s s' : Shared}
/-- from a body: what a callee wants -/
theorem Inv.env0 (I : Inv X pins σ H s) : Env0 X.prog X.w X.K X.mg X.base X.A X.stack s H :=
  ⟨I.ok.frames, I.ok.mod, I.bs, Nat.le_trans I.ok.bsz I.sz, I.stack, I.stkFree, I.hok, I.bare⟩
/-- behind a call -/
theorem Inv.after {Q : VK} {u : Value} (I : Inv X pins σ H s) (h : CE X.stack X.prog X.w H s Q u s') : EP X pins σ Q u s' := by
  obtain ⟨v, H', os, bare, un, hok, r, q⟩ := h
  obtain ⟨hh, g, d, t, os'⟩ := s'
  obtain rfl : os' = s.os := os
  exact ⟨v, H', I.call (h' := hh) (g' := g) (d' := d) (t' := t) (ch := []) un hok bare (fun b z => absurd z (by simp)), r, q⟩
end

/-! ### calls -/
/-- f(..): the written arguments, then the defaults dvs; E: what is wanted of an exception -/
def tCall (sp : Sp) (dvs : List V) (E : XK) (t : TA) : TE := fun σ H Q => t σ H fun vs H1 => sp (vs ++ dvs) H1 Q E
/-- o.m(..) of an instance of the class at C -/
def tMeth (C : Addr) (m : Str) (sp : Sp) (dvs : List V) (E : XK) (ta : TE) (t : TA) : TE := fun σ H Q => ta σ H fun x H1 => ∃ a dx fs, x = .ref a ∧ H1 a = some (.ins C dx fs) ∧ fs.lookup m = none ∧
  t σ H1 fun vs H2 => sp (x :: (vs ++ dvs)) H2 Q E
/-- C(..): a new instance and its dict, then __init__ -/
def tMake (C : Addr) (sp : Sp) (dvs : List V) (E : XK) (t : TA) : TE := fun σ H Q => t σ H fun vs H1 => ∀ x dx, H1 x = none → H1 dx = none → dx ≠ x →
  sp (.ref x :: (vs ++ dvs)) (upd (upd H1 dx (.own x)) x (.ins C dx [])) (fun v H2 => v = .non ∧ Q (.ref x) H2) E

/-- how the parameters are bound: us the positional arguments, kw the keywords' values by name, ds the defaults that fill up -/
def Binds (K : PySem.W.Frag) (fd : FuncData) (ps : List Str) (ds : List Value) : Prop :=
  ∀ (s : Shared) (us : List Value), K.In s.heap → (us ++ ds).length = ps.length → BindsTo s fd ⟨us, []⟩ (ps.zip (us ++ ds))
/-- every parameter is given -/
theorem Binds.all {K : PySem.W.Frag} {fd : FuncData} {ps : List Str} (h : ∀ us : List Value, us.length = ps.length → bindArgs fd ⟨us, []⟩ = pure (ps.zip us)) : Binds K fd ps [] := fun s us _ hl => by
  rw [List.append_nil] at hl ⊢
  exact .of_eq (h us hl)

/-- an exception of a callee reaches what this body wants of exceptions -/
def Passes (CX : CXT) (X : Cx) (E : XK) : Prop := ∀ (pins : List (Addr × Obj)) (σ : St) (H : Hp) (s : Shared) (e : Value) (s' : Shared), Inv X pins σ H s → CX X.stack H s E e s' → X.xe e s'

section
variable {X : Cx} {CX : CXT} {k : Nat} {f C : Addr} {fd : FuncData} {ps : List Str} {sp : Sp} {dvs : List V} {ds : List Value} {E : XK} {x m : Str} {p pos apos : Pos} {e o : Expr} {es : List Expr} {ta : TE} {t : TA}

/-- the callee runs -/
theorem run_fn {pins : List (Addr × Obj)} {σ : St} {H : Hp} {s : Shared} {Q : VK} {us : List Value} {vs : List V} (F : FnOk X.prog X.w X.K X.mg X.base CX k f fd ps sp) (hr : Room k X.A) (hb : Binds X.K fd ps ds) (hd : Vals dvs ds) (hx : Passes CX X E)
    (I : Inv X pins σ H s) (r : Vals vs us) (h : sp (vs ++ dvs) H Q E) : wpAny (model X.prog X.w) X.A (call (.ref f) us) (EP X pins σ Q) X.xe s := by
  have r2 : Vals (vs ++ dvs) (us ++ ds) := r.append hd
  have hl : (us ++ ds).length = ps.length := by rw [← r2.length]; exact F.len _ _ _ _ h
  refine wpAny_call (codeAny_mono (F.run X.A X.stack s H ⟨us, []⟩ (us ++ ds) (vs ++ dvs) Q E hr I.env0 (hb s us I.kIn hl) r2 h) fun r s' hq => ?_)
  cases r with
  | error e => exact hx pins σ H s e s' I hq
  | ok fl =>
    cases fl with
    | ret u => exact I.after hq
    | next => exact False.elim hq
    | brk => exact False.elim hq
    | cont => exact False.elim hq

theorem pe_call (F : FnOk X.prog X.w X.K X.mg X.base CX k f fd ps sp) (hr : Room k X.A) (hg : Gl X x) (hm : X.mg x = some (.ref f)) (hk : PySem.W.keepIn X.K (.ref f) = true) (hb : Binds X.K fd ps ds) (hd : Vals dvs ds) (hx : Passes CX X E)
    (ha : PA X (e :: es) t) (hdb : (x == ("__debug__" : Str)) = false := by decide) (he : starEach (e :: es) X.env = (false, eval e X.env) :: starEach es X.env := by rfl) (hpl : (backTo pos (starEach es X.env)).any (·.1) = false := by rfl) :
    PE X (.Call (.Name x p) (e :: es) [] pos) (tCall sp dvs E t) := by
  intro pins s σ H Q I h
  refine wpAny_Call_Name_kw (ld_glob I hg hm ?_ hdb)
  refine PySem.W.callWith_K (h₀ := X.base) I.ok.mod.kin hk (thn (ha pos pins s σ H _ I h) fun us s1 ⟨vs, H1, I1, r, q⟩ => ⟨I1.kIn, ?_⟩) he hpl
  exact run_fn F hr hb hd hx I1 r q
/-- o.m() -/
theorem pe_meth0 {pl : Sem Bool} (he : PE X o ta) (c : Cls X.K C) (hm : Meth X.K C m f) (F : FnOk X.prog X.w X.K X.mg X.base CX k f fd ps sp) (hr : Room k X.A) (hb : Binds X.K fd ps ds) (hd : Vals dvs ds) (hx : Passes CX X E)
    (ht : eval (.Call (.Attribute o m apos) [] [] pos) X.env = (do
      let ov ← eval o X.env
      standAt apos.atName
      let (f, first) ← holding [ov] (getMethod ov m pl)
      callWith pos f first (backTo pos (starEach [] X.env)) (backToKw pos (keywordEach [] X.env))) := by rfl) :
    PE X (.Call (.Attribute o m apos) [] [] pos) (tMeth C m sp dvs E ta tNil) := by
  intro pins s σ H Q I h
  refine PySem.W.methodCall_KW (pl := pl) (thn (he pins s σ H _ I h) fun u s1 ⟨x, H1, I1, rx, a, dx, fs, ex, ea, l, q⟩ => ?_) ht
  subst ex
  obtain rfl : u = Value.ref a := rx
  refine getmeth_ok I1 ea c hm l ?_
  exact PySem.W.callWith_K0 (first := [.ref a]) I1.kIn hm.kp (run_fn (us := [.ref a]) (vs := [.ref a]) F hr hb hd hx I1 (.cons rfl .nil) q)

/-- what a class must have to be made -/
structure Mk (K : PySem.W.Frag) (C f : Addr) : Prop where
  makes : PySem.W.makesIn K C = true
  init : PySem.W.findIn K (.ref C) "__init__" = some (some (.ref f))
  fn : PySem.W.isFn K (.ref f) = true
  kp : PySem.W.keepIn K (.ref C) = true

end

/-! ### keywords -/
/-- the values of the keywords, from the left -/
def PK (X : Cx) (kws : List Keyword) (t : TA) : Prop :=
  ∀ (pos : Pos) (pins : List (Addr × Obj)) (s : Shared) (σ : St) (H : Hp) (Q : List V → Hp → Prop), Inv X pins σ H s → t σ H Q → wpAny (model X.prog X.w) X.A (evalAll ((backToKw pos (keywordEach kws X.env)).map (·.2))) (AP X pins σ Q) X.xe s
section
variable {X : Cx} {CX : CXT} {k : Nat} {f C : Addr} {fd : FuncData} {ps ks : List Str} {sp : Sp} {E : XK} {x m : Str} {p pos apos kpos : Pos} {e o : Expr} {es : List Expr} {kws : List Keyword} {te ta : TE} {t tk : TA} {nm : Option Str}
theorem pk_nil : PK X [] tNil := fun _ _ _ _ H Q I h => wpAny_evalAll_nil ⟨[], H, I, .nil, h⟩
theorem pk_cons (ha : PE X e te) (hr : PK X kws t) : PK X (⟨nm, e, kpos⟩ :: kws) (tCons te t) := by
  intro pos pins s σ H Q I h
  show wpAny _ _ (evalAll ((do let v ← eval e X.env; standAt pos; pure v) :: (backToKw pos (keywordEach kws X.env)).map (·.2))) _ _ s
  refine wpAny_evalAll_cons (wpAny_bind (thn (ha pins s σ H _ I h) fun u s1 ⟨x, H1, I1, r1, q1⟩ => wpAny_bind (wpAny_standAt (wpAny_pure ?_))))
  exact thn (hr pos pins s1 σ H1 _ I1 q1) fun us s2 ⟨xs, H2, I2, r2, q2⟩ => ⟨x :: xs, H2, I2, .cons r1 r2, q2⟩

/-- how a call with keywords binds: g puts the positional values us and the keywords' values ws (names ks) in the parameters' order, defaults among them -/
structure KBinds (K : PySem.W.Frag) (fd : FuncData) (ps ks : List Str) (g : List Value → List Value → List Value) (gV : List V → List V → List V) : Prop where
  to : ∀ (s : Shared) (us ws : List Value), K.In s.heap → (g us ws).length = ps.length → BindsTo s fd ⟨us, ks.zip ws⟩ (ps.zip (g us ws))
  rel : ∀ {vs : List V} {us : List Value} {zs : List V} {ws : List Value}, Vals vs us → Vals zs ws → Vals (gV vs zs) (g us ws)
def tCallK (sp : Sp) (gV : List V → List V → List V) (E : XK) (t tk : TA) : TE := fun σ H Q => t σ H fun vs H1 => tk σ H1 fun zs H2 => sp (gV vs zs) H2 Q E
variable {g : List Value → List Value → List Value} {gV : List V → List V → List V}
theorem run_fnk {pins : List (Addr × Obj)} {σ : St} {H : Hp} {s : Shared} {Q : VK} {us ws : List Value} {vs zs : List V} (F : FnOk X.prog X.w X.K X.mg X.base CX k f fd ps sp) (hr : Room k X.A) (hb : KBinds X.K fd ps ks g gV) (hx : Passes CX X E)
    (I : Inv X pins σ H s) (r : Vals vs us) (rz : Vals zs ws) (h : sp (gV vs zs) H Q E) : wpAny (model X.prog X.w) X.A (call (.ref f) us (ks.zip ws)) (EP X pins σ Q) X.xe s := by
  have r2 := hb.rel r rz
  have hl : (g us ws).length = ps.length := by rw [← r2.length]; exact F.len _ _ _ _ h
  refine wpAny_call (codeAny_mono (F.run X.A X.stack s H ⟨us, ks.zip ws⟩ (g us ws) (gV vs zs) Q E hr I.env0 (hb.to s us ws I.kIn hl) r2 h) fun r s' hq => ?_)
  cases r with
  | error e => exact hx pins σ H s e s' I hq
  | ok fl =>
    cases fl with
    | ret u => exact I.after hq
    | next => exact False.elim hq
    | brk => exact False.elim hq
    | cont => exact False.elim hq
/-- f(e, .., k = v, ..) -/
theorem pe_callK (F : FnOk X.prog X.w X.K X.mg X.base CX k f fd ps sp) (hr : Room k X.A) (hg : Gl X x) (hm : X.mg x = some (.ref f)) (hk : PySem.W.keepIn X.K (.ref f) = true) (hb : KBinds X.K fd ps ks g gV) (hx : Passes CX X E)
    (ha : PA X (e :: es) t) (hkw : PK X kws tk) (hall : (backToKw pos (keywordEach kws X.env)).all (·.1.isSome) = true := by rfl) (hks : (backToKw pos (keywordEach kws X.env)).filterMap (·.1) = ks := by rfl)
    (hdb : (x == ("__debug__" : Str)) = false := by decide) (he : starEach (e :: es) X.env = (false, eval e X.env) :: starEach es X.env := by rfl)
    (hpl : ((backTo pos (starEach (e :: es) X.env)).any (·.1) || (backToKw pos (keywordEach kws X.env)).any (·.1.isNone)) = false := by rfl) :
    PE X (.Call (.Name x p) (e :: es) kws pos) (tCallK sp gV E t tk) := by
  intro pins s σ H Q I h
  refine wpAny_Call_Name_kw (ld_glob I hg hm ?_ hdb)
  refine PySem.W.callWith_KW (h₀ := X.base) I.ok.mod.kin hk hall (thn (ha pos pins s σ H _ I h) fun us s1 ⟨vs, H1, I1, r, q⟩ => ?_) hpl he
  refine thn (hkw pos pins s1 σ H1 _ I1 q) fun ws s2 ⟨zs, H2, I2, rz, q2⟩ => ⟨I2.kIn, ?_⟩
  rw [hks]
  exact run_fnk F hr hb hx I2 r rz q2
end

/-! ### a def's body keeps its promise -/
/-- names: the parameters first -/
structure FnScope (N P : List Str) (sc : Scope) : Prop where
  kind : sc.kind = .function
  co : sc.isCoroutine = false
  gen : sc.isGenerator = false
  nd : N.Nodup
  pre : N.take P.length = P
  par : ∀ x ∈ P, sc.names.lookup x = some .local ∨ sc.names.lookup x = some .cell
  nofree : ∀ y ∈ sc.names, y.2 ≠ .free

theorem bindL_out {kindOf : Str → Option NameKind} {x : Str} : ∀ {binds : List (Str × Value)} {m : Str → Option Value}, (∀ v, (x, v) ∉ binds) → bindL kindOf binds m x = m x
  | [], _, _ => rfl
  | (n, v) :: r, m, h => by
    unfold bindL
    rw [bindL_out fun w hw => h w (List.mem_cons_of_mem _ hw)]
    split
    · have : x ≠ n := by rintro rfl; exact h v List.mem_cons_self
      simp [this]
    · rfl
theorem bindC_out {kindOf : Str → Option NameKind} {x : Str} : ∀ {binds : List (Str × Value)} {m : Str → Option Value}, (∀ v, (x, v) ∉ binds) → bindC kindOf binds m x = m x
  | [], _, _ => rfl
  | (n, v) :: r, m, h => by
    unfold bindC
    rw [bindC_out fun w hw => h w (List.mem_cons_of_mem _ hw)]
    split
    · rfl
    · have : x ≠ n := by rintro rfl; exact h v List.mem_cons_self
      simp [this]
theorem bindL_get {kindOf : Str → Option NameKind} {x : Str} {v : Value} : ∀ {P : List Str} {vs : List Value} {i : Nat} {m : Str → Option Value}, P.Nodup → P[i]? = some x → vs[i]? = some v → kindOf x = some .local →
    bindL kindOf (P.zip vs) m x = some v
  | [], _, _, _, _, h, _, _ => by simp at h
  | _ :: _, [], _, _, _, _, h, _ => by simp at h
  | p :: P, w :: vs, 0, m, nd, h1, h2, hk => by
    simp at h1 h2; subst h1; subst h2
    show bindL kindOf ((p, w) :: P.zip vs) m p = _
    unfold bindL
    rw [bindL_out fun v hv => (List.nodup_cons.mp nd).1 (List.of_mem_zip hv).1, if_pos hk]
    simp
  | p :: P, w :: vs, i + 1, m, nd, h1, h2, hk => by
    show bindL kindOf ((p, w) :: P.zip vs) m x = _
    unfold bindL
    exact bindL_get (i := i) (List.nodup_cons.mp nd).2 (by simpa using h1) (by simpa using h2) hk
theorem bindC_get {kindOf : Str → Option NameKind} {x : Str} {v : Value} : ∀ {P : List Str} {vs : List Value} {i : Nat} {m : Str → Option Value}, P.Nodup → P[i]? = some x → vs[i]? = some v → kindOf x ≠ some .local →
    bindC kindOf (P.zip vs) m x = some v
  | [], _, _, _, _, h, _, _ => by simp at h
  | _ :: _, [], _, _, _, _, h, _ => by simp at h
  | p :: P, w :: vs, 0, m, nd, h1, h2, hk => by
    simp at h1 h2; subst h1; subst h2
    show bindC kindOf ((p, w) :: P.zip vs) m p = _
    unfold bindC
    rw [bindC_out fun v hv => (List.nodup_cons.mp nd).1 (List.of_mem_zip hv).1, if_neg hk]
    simp
  | p :: P, w :: vs, i + 1, m, nd, h1, h2, hk => by
    show bindC kindOf ((p, w) :: P.zip vs) m x = _
    unfold bindC
    exact bindC_get (i := i) (List.nodup_cons.mp nd).2 (by simpa using h1) (by simpa using h2) hk

/-- the names' values at the entry -/
def start (N : List Str) (vs : List V) : St := vs.map some ++ List.replicate (N.length - vs.length) none

/-- the context of a def's body, at its entry; an exception leaves the frame, then lies as CX says -/
def cxOf (CX : CXT) (P : Program) (w : World) (K : PySem.W.Frag) (mg : Str → Option Value) (base : Heap) (N : List Str) (qual : Str) (scope : Scope) (f : Addr) (cd : Value) (A : Around) (outer : List Env) (s : Shared) (H : Hp) (E : XK) : Cx where
  prog := P
  w := w
  K := K
  mg := mg
  base := base
  A := A.deeper (envOfC qual scope s.heap.objs.size f cd)
  N := N
  s₀ := s
  H₀ := H
  env := envOfC qual scope s.heap.objs.size f cd
  outer := outer
  stack := envOfC qual scope s.heap.objs.size f cd :: outer
  ex := []
  calm := true
  fn := fun _ => true
  pn := []
  xe := fun e s' => wpAny (model P w) (A.deeper (envOfC qual scope s.heap.objs.size f cd)) (leaving (envOfC qual scope s.heap.objs.size f cd) e) (fun _ s'' => CX outer H s E e s'') (fun e' s'' => CX outer H s E e' s'') s'

theorem cell_has {sc : Scope} {n : Nat} {x : Str} (h : sc.names.lookup x = some .cell) : ∃ c, (cellsFrom n sc.names []).lookup x = some c := by
  have q := PySem.W.cellsFrom_some sc.names n [] (.inl h)
  exact Option.isSome_iff_exists.mp q

theorem inv_start {CX : CXT} {P : Program} {w : World} {K : PySem.W.Frag} {mg : Str → Option Value} {base : Heap} {N ps : List Str} {qual : Str} {scope : Scope} {f : Addr} {cd : Value} {A : Around} {outer : List Env} {s s1 : Shared} {H : Hp} {E : XK} {us : List Value} {vs : List V}
    (S : FnScope N ps scope) (hd : A.handled = none) (e0 : Env0 P w K mg base A outer s H) (hl : vs.length = ps.length) (r : Vals vs us)
    (x : InCallC s s.heap.objs.size (bindL (envOfC qual scope s.heap.objs.size f cd).kindOf (ps.zip us) fun _ => none) (cellsFrom (s.heap.objs.size + 1) scope.names []) (bindC (envOfC qual scope s.heap.objs.size f cd).kindOf (ps.zip us) fun _ => none) s1) :
    Inv (cxOf CX P w K mg base N qual scope f cd A outer s H E) [] (start N vs) H s1 := by
  have hpl : ps.length ≤ N.length := by have := congrArg List.length S.pre; rw [List.length_take] at this; omega
  obtain ⟨h1, tk, rfl, hk⟩ := x.done
  have noA : ∀ b : Addr, b ∉ (cxOf CX P w K mg base N qual scope f cd A outer s H E).ex := fun b z => absurd (show b ∈ ([] : List Addr) from z) (by simp)
  refine ⟨⟨e0.mod, S.kind, rfl, rfl, Nat.le_refl _, fun y z c h1 h2 => ?_, fun y hy => ?_, fun y c _ h => ?_, fun _ => hd, Around.frames_deeper e0.frames, .inr ⟨rfl, rfl⟩, fun b z => absurd z (noA b), e0.bs, e0.bsz, fun b _ _ => noA b, fun b z => absurd z (noA b), e0.funs, e0.frf⟩,
    rfl, e0.bare, Un.kept hk, ⟨_, x.toInCall.ns, fun i y v h1 h2 h3 => ?_⟩, fun y c h => ⟨_, x.cell y c h⟩, e0.hok.fresh (Nat.le_refl _), fun y c h => ?_, fun p hp => absurd (show p ∈ ([] : List (Addr × Obj)) from hp) (by simp), e0.hok.kept hk, ?_⟩
  · exact name_of_addr x.apart (PySem.mem_of_lookup h1) (PySem.mem_of_lookup h2)
  · have hy : scope.names.lookup y = some .cell ∨ scope.names.lookup y = some .free := hy
    rcases hy with hy | hy
    · exact cell_has hy
    · exact absurd rfl (S.nofree _ (PySem.mem_of_lookup hy))
  · exact Nat.le_of_lt (x.above y c (PySem.mem_of_lookup h))
  · have hi : i < vs.length := by
      unfold start at h2
      by_cases hi : i < vs.length
      · exact hi
      · rw [List.getElem?_append_right (by simpa using hi)] at h2
        rw [List.getElem?_replicate] at h2
        split at h2 <;> cases h2
    have ha : vs[i]? = some v := by
      unfold start at h2
      rw [List.getElem?_append_left (by simpa using hi), List.getElem?_map] at h2
      cases e : vs[i]? with
      | none => rw [e] at h2; cases h2
      | some a => rw [e] at h2; cases h2; rfl
    obtain ⟨u, hu, rv⟩ := r.get ha
    have hp : ps[i]? = some y := by
      rw [← S.pre, List.getElem?_take_of_lt (by omega)]; exact h1
    have ndP : ps.Nodup := by rw [← S.pre]; exact S.nd.sublist (List.take_sublist _ _)
    refine ⟨u, rv, ?_⟩
    rcases S.par y (List.mem_of_getElem? hp) with k | k
    · exact .inl ⟨k, bindL_get ndP hp hu k⟩
    · obtain ⟨c, e⟩ := cell_has (n := s.heap.objs.size + 1) k
      refine .inr ⟨.inl k, c, e, ?_⟩
      have q := x.cell y c e
      rw [bindC_get ndP hp hu (by show scope.names.lookup y ≠ _; rw [k]; decide)] at q
      exact q
  · exact e0.hok.fresh (Nat.le_of_lt (x.above y c (PySem.mem_of_lookup h)))
  · unfold start
    show _ = N.length
    rw [List.length_append, List.length_map, List.length_replicate]
    omega

/-- THE RULE: a def (or a method) of the text, by its body. The body's reading t is chosen for each entry; it is run at the parameters' values -/
theorem fn_of {CX : CXT} {P : Program} {w : World} {K : PySem.W.Frag} {mg : Str → Option Value} {base : Heap} {k : Nat} {f : Addr} {name qual : Str} {params : Arguments} {body : List Stmt} {scope : Scope} {dV kV doc pm cdv ct oc : Value} {an od : Option Addr}
    {osl : Array (Option Value)} {N ps : List Str} {sp : Sp} (lk : K.lookup f = some ⟨oc, od, .func (PySem.W.fnOf name qual params body scope dV kV doc pm an cdv ct), osl⟩) (hcd : PySem.W.codeIn K cdv qual = true) (S : FnScope N ps scope)
    (len : ∀ vs H Q E, sp vs H Q E → vs.length = ps.length)
    (hbody : ∀ (A : Around) (outer : List Env) (s : Shared) (H : Hp) (vs : List V) (Q : VK) (E : XK), Room k (A.deeper (envOfC qual scope s.heap.objs.size f cdv)) → sp vs H Q E →
      ∃ t, PSs (cxOf CX P w K mg base N qual scope f cdv A outer s H E) body t ∧ t { nx := fun _ H' => Q .non H', rt := Q } (start N vs) H) :
    FnOk P w K mg base CX (k + 1) f (PySem.W.fnOf name qual params body scope dV kV doc pm an cdv ct) ps sp := by
  refine ⟨len, fun A outer s H args us vs Q E hr e0 hb r hsp => ?_⟩
  have hl := len _ _ _ _ hsp
  have KX : K.In s.heap := e0.mod.kin.keeps fun b o e => (e0.bs b o e).1
  have lim : s.heap.NoLimit := e0.mod.nolimit.keeps fun b o e => (e0.bs b o e).1
  have hkind : ∀ y ∈ ps.zip us, scope.names.lookup y.1 = some .local ∨ (scope.names.lookup y.1 = some .cell ∧ ((cellsFrom (s.heap.objs.size + 1) scope.names []).lookup y.1).isSome = true) := fun ⟨n, v⟩ hy => by
    rcases S.par n (List.of_mem_zip hy).1 with q | q
    · exact .inl q
    · exact .inr ⟨q, PySem.W.cellsFrom_some _ _ _ (.inl q)⟩
  refine codeAny_call_function hr.depth (KX _ _ lk) rfl S.co S.gen rfl (PySem.W.codeRec_of KX hcd) (hb _ _ _ _ ?_)
  refine wpAny_newFunctionEnv_cells S.kind hkind fun env he s1 x => ?_
  subst he
  refine ⟨lim.keeps x.toInCall.keep, codeAny_func ?_⟩
  obtain ⟨t, ht, hq⟩ := hbody A outer s H vs Q E (hr.deeper _) hsp
  have I : Inv (cxOf CX P w K mg base N qual scope f cdv A outer s H E) [] (start N vs) H s1 := inv_start S hr.hd e0 hl r x
  refine wpAny_mono (ht [] s1 (start N vs) H _ I hq) (fun fl s' hs => ?_) fun e s' hs => hs
  have fin : ∀ {σ' : St} {H' : Hp} {v : V} {u : Value}, Inv (cxOf CX P w K mg base N qual scope f cdv A outer s H E) [] σ' H' s' → RelV v u → Q v H' → CE outer P w H s Q u s' :=
    fun {σ' H' v u} J rv q => ⟨v, H', J.os, J.bare, J.base, J.hok, rv, q⟩
  cases fl with
  | ret u =>
    obtain ⟨v, σ', H', J, rv, q⟩ := hs
    exact fin J rv q
  | next =>
    obtain ⟨σ', H', J, q⟩ := hs
    exact fin (v := V.non) (u := Value.none) J rfl q
  | brk =>
    obtain ⟨_, _, _, q⟩ := hs
    exact False.elim q
  | cont =>
    obtain ⟨_, _, _, q⟩ := hs
    exact False.elim q
end L2

namespace L2
open PySem PySem.Spec PyProof.Rows
section
variable {X : Cx} {x : Str} {p pos : Pos} {e : Expr} {es : List Expr} {t : TA} {id T : String} {r : List V → Hp → VK → Prop}

def tCB (r : List V → Hp → VK → Prop) (t : TA) : TE := fun σ H Q => t σ H fun vs H1 => r vs H1 Q
/-- f(e, ..), f a built-in function -/
theorem pe_callB (hc : CallR X (.builtin id) r) (hg : Gl X x) (hm : X.mg x = none) (hv : bootBuiltins x = some (.builtin id)) (ha : PA X (e :: es) t) (hn : x ≠ "__name__" := by decide) (hdb : (x == ("__debug__" : Str)) = false := by decide)
    (he : starEach (e :: es) X.env = (false, eval e X.env) :: starEach es X.env := by rfl) (hpl : (backTo pos (starEach es X.env)).any (·.1) = false := by rfl) : PE X (.Call (.Name x p) (e :: es) [] pos) (tCB r t) := by
  intro pins s σ H Q I h
  refine wpAny_Call_Name_kw (ld_blt I hg hm hv ?_ hn hdb)
  exact PyProof.Rows.callWith_builtin1 (thn (ha pos pins s σ H _ I h) fun us s1 ⟨vs, H1, I1, r1, q1⟩ => hc pins s1 σ H1 vs us Q I1 r1 q1) he hpl
/-- T(e, ..), T a built-in type -/
theorem pe_callTy (hc : CallR X (.type T) r) (hg : Gl X x) (hm : X.mg x = none) (hv : bootBuiltins x = some (.type T)) (ha : PA X (e :: es) t) (hn : x ≠ "__name__" := by decide) (hdb : (x == ("__debug__" : Str)) = false := by decide)
    (he : starEach (e :: es) X.env = (false, eval e X.env) :: starEach es X.env := by rfl) (hpl : (backTo pos (starEach es X.env)).any (·.1) = false := by rfl) : PE X (.Call (.Name x p) (e :: es) [] pos) (tCB r t) := by
  intro pins s σ H Q I h
  refine wpAny_Call_Name_kw (ld_blt I hg hm hv ?_ hn hdb)
  exact PyProof.Rows.callWith_type1 (thn (ha pos pins s σ H _ I h) fun us s1 ⟨vs, H1, I1, r1, q1⟩ => hc pins s1 σ H1 vs us Q I1 r1 q1) he hpl
end
end L2

namespace HT
open PySem PyProof.Rows

/-- t < u of tuples of ints -/
def lexLt : List Int → List Int → Bool
  | [], [] => false
  | [], _ :: _ => true
  | _ :: _, [] => false
  | x :: xs, y :: ys => if x = y then lexLt xs ys else decide (x < y)
section
open PySem.SeqAt
open PySem.AutoSeq1 (wpAny_loadPart')
open PySem.MeetsSeq PySem.MeetsSeq2 PySem.MeetsSeq3

end

section
variable {prog : Program} {w : World} {A : Around} {E : Value → Shared → Prop} {s : Shared}

/-! ### t[a:b], not the whole -/
/-- a slice's bound as a place among n (d where it is left out) -/
def sIx (n d : Nat) : Option Int → Nat
  | none => d
  | some v => if v < 0 then (v + (n : Int)).toNat else min v.toNat n
theorem sIx_none (n d : Nat) : sIx n d none = d := rfl
theorem sIx_nat (n d k : Nat) : sIx n d (some (k : Int)) = min k n := by
  show (if (k : Int) < 0 then ((k : Int) + (n : Int)).toNat else min (k : Int).toNat n) = min k n
  rw [if_neg (by omega), Int.toNat_natCast]
end
end HT

namespace L2
open PySem PySem.Spec PyProof.Rows

/-! ### the parts of a slice -/
abbrev TO := St → Hp → (Option Int → Hp → Prop) → Prop
/-- a slice's part (left out, or an int) -/
def PO (X : Cx) (e : Option Expr) (t : TO) : Prop :=
  ∀ (pins : List (Addr × Obj)) (s : Shared) (σ : St) (H : Hp) (Q : Option Int → Hp → Prop), Inv X pins σ H s → t σ H Q →
    wpAny (model X.prog X.w) X.A (evalPart e X.env) (fun u s' => ∃ o H', Inv X pins σ H' s' ∧ IsPart u o ∧ Q o H') X.xe s
def tNoPart : TO := fun _ H Q => Q none H
def tPart (t : TE) : TO := fun σ H Q => t σ H fun x H1 => ∃ i, x = .int i ∧ Q (some i) H1

theorem intsAre_of {ns : List Int} : ∀ {us : List Value}, Vals (ns.map V.int) us → IntsAre us ns := by
  induction ns with
  | nil => intro us r; rw [List.map_nil] at r; cases r; exact .nil
  | cons n ns ih =>
    intro us r
    rw [List.map_cons] at r
    cases r with
    | cons r1 r2 =>
      obtain ⟨t, e⟩ := r1
      subst e
      exact .cons n t (ih r2)

section
variable {X : Cx} {e : Expr} {te : TE} {lo hi : Option Expr} {tl th : TO} {pos p2 : Pos}

theorem po_none : PO X none tNoPart := by
  intro pins s σ H Q I h
  rw [evalPart_none]
  exact wpAny_pure ⟨none, H, I, .none, h⟩
theorem po_some (h : PE X e te) : PO X (some e) (tPart te) := by
  intro pins s σ H Q I hw
  rw [evalPart_some]
  refine thn (h pins s σ H _ I hw) fun u s1 ⟨x, H1, I1, r1, q1⟩ => ?_
  obtain ⟨i, rfl, q⟩ := q1
  obtain ⟨t, rfl⟩ := r1
  exact ⟨some i, H1, I1, .int i t, q⟩

/-- what a slice of a value is, by values: the slice object stands at sl -/
def SlR (X : Cx) (r : V → Option Int → Option Int → Hp → VK → Prop) : Prop :=
  ∀ (pins : List (Addr × Obj)) (s : Shared) (σ : St) (H : Hp) (x : V) (v vl vu : Value) (lo hi : Option Int) (sl : Addr) (Q : VK), Inv X pins σ H s → RelV x v → s.heap.IsSliceOf sl vl vu .none → IsPart vl lo → IsPart vu hi → r x lo hi H Q →
    ∃ T id, typeLookup (.type T) "__getitem__" = pure (some (.builtin id)) ∧ s.TypeIs v T ∧ wpAny (model X.prog X.w) X.A (getItem v (.ref sl)) (EP X pins σ Q) X.xe s
def tSl (r : V → Option Int → Option Int → Hp → VK → Prop) (te : TE) (tl th : TO) : TE := fun σ H Q => te σ H fun x H1 => tl σ H1 fun l H2 => th σ H2 fun u H3 => r x l u H3 Q
/-- a[lo:hi], any a -/
theorem pe_slice {r : V → Option Int → Option Int → Hp → VK → Prop} (hr : SlR X r) (he : PE X e te) (hl : PO X lo tl) (hu : PO X hi th) : PE X (.Subscript e (.Slice lo hi none p2) pos) (tSl r te tl th) := by
  intro pins s σ H Q I h
  refine Subscript_ (thn (he pins s σ H _ I h) fun v s1 ⟨x, H1, I1, r1, q1⟩ => ?_)
  refine wpAny_Slice (thn (hl pins s1 σ H1 _ I1 q1) fun vl s2 ⟨l, H2, I2, pl, q2⟩ => thn (hu pins s2 σ H2 _ I2 q2) fun vu s3 ⟨u, H3, I3, pu, q3⟩ => ?_)
  rw [evalPart_none]
  refine wpAny_pure ?_
  have I4 : Inv X pins σ H3 { s3 with heap := s3.heap.push { cls := .type "slice", data := .fields #[vl, vu, .none] } } := I3.kept (t' := s3.toks) fun b ob q => Heap.get?_push_of_some _ q
  obtain ⟨T, id, hT, ht, hg⟩ := hr pins { s3 with heap := s3.heap.push { cls := .type "slice", data := .fields #[vl, vu, .none] } } σ H3 x v vl vu l u s3.heap.objs.size Q I4 r1 (Heap.IsSliceOf.new ..) pl pu q3
  show wpAny (model X.prog X.w) X.A (subscriptTail e (.Slice lo hi none p2) v (.ref s3.heap.objs.size)) (EP X pins σ Q) X.xe { s3 with heap := s3.heap.push { cls := .type "slice", data := .fields #[vl, vu, .none] } }
  exact tail_any (ops := [.ref s3.heap.objs.size, v]) ht hT hg (by with_unfolding_all rfl)

/-- the items of xs[lo:hi] -/
def cutV (xs : List V) (lo hi : Option Int) : List V := (xs.drop (HT.sIx xs.length 0 lo)).take (HT.sIx xs.length xs.length hi - HT.sIx xs.length 0 lo)
theorem cutV_length (xs : List V) (lo hi : Option Int) : (cutV xs lo hi).length ≤ xs.length := by
  unfold cutV
  rw [List.length_take, List.length_drop]
  omega
/-- t[lo:hi], not the whole of it (the whole would be t itself) -/
def rSlT (K : PySem.W.Frag) : V → Option Int → Option Int → Hp → VK → Prop := fun x lo hi H Q => ∃ a xs, x = .ref a ∧ SqT K H a xs ∧
  ¬ (HT.sIx xs.length 0 lo = 0 ∧ HT.sIx xs.length xs.length hi = xs.length) ∧ ∀ p, H p = none → Q (.ref p) (upd H p (.tup (cutV xs lo hi)))
/-! ### t < u, t + u -/
def rLtT (K : PySem.W.Frag) : R2 := fun x y H Q => ∃ a b ns ms, x = .ref a ∧ y = .ref b ∧ SqT K H a (ns.map V.int) ∧ SqT K H b (ms.map V.int) ∧ Q (.bl (HT.lexLt ns ms)) H
/-- t + u, t not empty: u empty gives t itself -/
def rCatT (K : PySem.W.Frag) : R2 := fun x y H Q => ∃ a b xs ys, x = .ref a ∧ y = .ref b ∧ SqT K H a xs ∧ SqT K H b ys ∧ xs ≠ [] ∧ xs.length + ys.length ≤ sizeLine ∧
  (ys = [] → Q (.ref a) H) ∧ (ys ≠ [] → ∀ p, H p = none → Q (.ref p) (upd H p (.tup (xs ++ ys))))
end
end L2

namespace L2
open PySem PySem.Spec PyProof.Rows

/-! ### places -/
/-- the place that an index of any sign means -/
def ixN (n : Nat) (i : Int) : Option Nat := if 0 ≤ i then (if i < n then some i.toNat else none) else if -(n : Int) ≤ i then some (i + n).toNat else none
def atI {α : Type} (xs : List α) (i : Int) : Option α := (ixN xs.length i).bind fun j => xs[j]?
theorem ixN_seq {n : Nat} {i : Int} {j : Nat} (h : ixN n i = some j) : seqIndex? i n = some j ∧ j < n ∧ -(n : Int) ≤ i ∧ i < n := by
  unfold ixN at h
  by_cases h0 : 0 ≤ i
  · rw [if_pos h0] at h
    by_cases h1 : i < n
    · rw [if_pos h1] at h
      have e : i.toNat = j := Option.some.inj h
      exact ⟨by rw [seqIndex_of h0 h1, e], by omega, by omega, h1⟩
    · rw [if_neg h1] at h; cases h
  · rw [if_neg h0] at h
    by_cases h1 : -(n : Int) ≤ i
    · rw [if_pos h1] at h
      have e : (i + n).toNat = j := Option.some.inj h
      exact ⟨by rw [seqIndex_neg (by omega) h1, e], by omega, h1, by omega⟩
    · rw [if_neg h1] at h; cases h
theorem atI_get {α : Type} {xs : List α} {i : Int} {v : α} (h : atI xs i = some v) : ∃ j, seqIndex? i xs.length = some j ∧ xs[j]? = some v ∧ j < xs.length ∧ -(xs.length : Int) ≤ i ∧ i < xs.length := by
  unfold atI at h
  cases e : ixN xs.length i with
  | none => rw [e] at h; cases h
  | some j =>
    rw [e] at h
    obtain ⟨h1, h2, h3, h4⟩ := ixN_seq e
    exact ⟨j, h1, h, h2, h3, h4⟩
theorem atI_nat {α : Type} {xs : List α} {j : Nat} {v : α} (h : xs[j]? = some v) : atI xs (j : Int) = some v := by
  have hj : j < xs.length := (List.getElem?_eq_some_iff.mp h).1
  have e : ixN xs.length (j : Int) = some j := by
    unfold ixN
    rw [if_pos (by omega), if_pos (by omega)]; simp
  unfold atI; rw [e]; exact h
/-! ### what may be subscripted -/
/-- what stands as an index of a plain subscript -/
def PlainIx (b : Expr) : Prop := ∀ o i, subscripted b false o i = operate [o, i] (getItem o i)
/-- a subscript by values -/
def IxR (X : Cx) (r : R2) : Prop :=
  ∀ (value slice : Expr) (pins : List (Addr × Obj)) (s : Shared) (σ : St) (H : Hp) (x y : V) (v u : Value) (Q : VK), Inv X pins σ H s → RelV x v → RelV y u → r x y H Q →
    subscripted slice false v u = operate [v, u] (getItem v u) → wpAny (model X.prog X.w) X.A (subscriptTail value slice v u) (EP X pins σ Q) X.xe s
/-- a call of a builtin's method by values: the receiver, the arguments -/
def MtR (X : Cx) (id : String) (r : V → List V → Hp → VK → Prop) : Prop :=
  ∀ (pins : List (Addr × Obj)) (s : Shared) (σ : St) (H : Hp) (x : V) (xs : List V) (v : Value) (us : List Value) (Q : VK), Inv X pins σ H s → RelV x v → Vals xs us → r x xs H Q →
    wpAny (model X.prog X.w) X.A (call (.builtin id) (v :: us)) (EP X pins σ Q) X.xe s
section
variable {X : Cx} {a b : Expr} {ta tb : TE} {pos : Pos}
/-- a[b] -/
theorem pe_ix {r : R2} (hr : IxR X r) (ha : PE X a ta) (hb : PE X b tb) (hs : PlainIx b) : PE X (.Subscript a b pos) (tOp r ta tb) := by
  intro pins s σ H Q I h
  exact Subscript_ (binT ha hb I h fun v u s2 x y H2 I2 rx ry q => hr a b pins s2 σ H2 x y v u Q I2 rx ry q (hs _ _))

def rIxL (K : PySem.W.Frag) : R2 := fun x y H Q => ∃ p xs i v, x = .ref p ∧ y = .int i ∧ SqL K H p xs ∧ atI xs i = some v ∧ Q v H
def rIxT (K : PySem.W.Frag) : R2 := fun x y H Q => ∃ p xs i v, x = .ref p ∧ y = .int i ∧ SqT K H p xs ∧ atI xs i = some v ∧ Q v H
def rIxS : R2 := fun x y H Q => ∃ z i c, x = .str z ∧ y = .int i ∧ z.length ≤ sizeLine ∧ atI z.cps.toList i = some c ∧ Q (.str ⟨#[c]⟩) H
theorem ix_list : IxR X (rIxL X.K) := by
  intro value slice pins s σ H x y v u Q I rx ry h hs
  obtain ⟨p, xs, i, z, rfl, rfl, hq, he, q⟩ := h
  cases rx
  obtain ⟨t, rfl⟩ := ry
  obtain ⟨its, r, pl, hz⟩ := I.list hq
  obtain ⟨j, h1, h2, h3, h4, h5⟩ := atI_get he
  obtain ⟨w, ew, rw'⟩ := r.get h2
  have hl := r.length
  have hn := line63
  have fin : EP X pins σ Q w s := ⟨z, H, I, rw', q⟩
  by_cases h0 : 0 ≤ i
  · have hj : i.toNat = j := by
      rw [seqIndex_of h0 h5] at h1
      exact Option.some.inj h1
    exact item_listR pl.isList h0 (by omega) (by rw [hj]; simpa using ew) fin hs
  · have hj : (i + (its.toArray.size : Int)).toNat = j := by
      rw [seqIndex_neg (by omega) h4] at h1
      rw [List.size_toArray, ← hl]
      exact Option.some.inj h1
    exact subscriptTail_builtinR (x := w) pl.isList.typeIs slot_list_getitem.lookup
      (wpAny_getItem_list_neg (Q := fun r s' => r = w ∧ EP X pins σ Q r s') pl.isList (by omega) (by rw [List.size_toArray] <;> omega) (by omega) (by rw [hj]; simpa using ew) ⟨rfl, fin⟩) hs
/-- list, tuple or str -/
def rIx (K : PySem.W.Frag) : R2 := fun x y H Q => rIxL K x y H Q ∨ rIxT K x y H Q ∨ rIxS x y H Q
/-! ### xs[i] = v, any sign -/
/-- the list's object behind a store -/
theorem mapSeq_set (its : List Value) (n j : Nat) (u : Value) : Obj.mapSeq (·.setIfInBounds j u) { cls := .type "list", data := .seq its.toArray n } = { cls := .type "list", data := .seq (its.set j u).toArray n } := by
  simp [Obj.mapSeq]
theorem Inv.lst {pins : List (Addr × Obj)} {σ : St} {H : Hp} {s : Shared} {p : Addr} {xs : List V} (I : Inv X pins σ H s) (h : H p = some (.lst xs)) :
    ∃ (its : List Value) (n : Nat), Vals xs its ∧ s.heap.get? p = some { cls := .type "list", data := .seq its.toArray n } ∧ xs.length ≤ sizeLine := by
  obtain ⟨z, its, n, r, e⟩ := I.hok p _ h
  exact ⟨its, n, r, e, z⟩
/-- the list at p is written by an update of its object -/
theorem Inv.lstUpd {pins : List (Addr × Obj)} {σ : St} {H : Hp} {s : Shared} {p : Addr} {xs ys : List V} {its its' : List Value} {n n' : Nat} {f : Obj → Obj} (I : Inv X pins σ H s) (h : H p = some (.lst xs))
    (ho : s.heap.get? p = some { cls := .type "list", data := .seq its.toArray n }) (hf : f { cls := .type "list", data := .seq its.toArray n } = { cls := .type "list", data := .seq its'.toArray n' }) (r : Vals ys its') (hz : ys.length ≤ sizeLine) (t : Nat) :
    Inv X pins σ (upd H p (.lst ys)) { s with heap := s.heap.update p f, toks := t } := by
  have e : (s.heap.update p f).get? p = some { cls := .type "list", data := .seq its'.toArray n' } := by
    rw [Heap.get?_update_self f ho (by rw [hf] <;> rfl), hf]
  refine I.write (x := p) (e := p) (by rw [h]; trivial) (.inl rfl) (fun b u hb q => (Heap.get?_update_other _ _ (Ne.symm hb)).trans q) ⟨_, e⟩ ?_
  exact ⟨hz, its', n', r, e⟩
def rSetL : V → V → V → Hp → (Hp → Prop) → Prop := fun o i v H Q => ∃ p xs k j, o = .ref p ∧ i = .int k ∧ H p = some (.lst xs) ∧ ixN xs.length k = some j ∧ Q (upd H p (.lst (xs.set j v)))
theorem set_list : PSet X rSetL := by
  intro pins s σ H o i v ov iv u Q I ro ri rv h
  obtain ⟨p, xs, k, j, rfl, rfl, hp, hj, q⟩ := h
  cases ro
  obtain ⟨t, rfl⟩ := ri
  obtain ⟨its, n, r, ho, hz⟩ := I.lst hp
  obtain ⟨h1, h2, h3, h4⟩ := ixN_seq hj
  have hl := r.length
  have hn := line63
  have I' : Inv X pins σ (upd H p (.lst (xs.set j v))) { s with heap := s.heap.update p (Obj.mapSeq (·.setIfInBounds j u)) } :=
    I.lstUpd hp ho (mapSeq_set its n j u) (r.set rv j) (by rw [List.length_set]; exact hz) s.toks
  by_cases h0 : 0 ≤ k
  · have hk : k.toNat = j := by
      rw [seqIndex_of h0 h4] at h1
      exact Option.some.inj h1
    exact PySem.W.ki_setAt ho h0 (by omega) (by rw [List.size_toArray, ← hl]; exact h4) (by rw [hk]; exact ⟨_, I', q⟩)
  · have hk : (k + (its.toArray.size : Int)).toNat = j := by
      rw [seqIndex_neg (by omega) h3] at h1
      rw [List.size_toArray, ← hl]
      exact Option.some.inj h1
    exact PySem.W.ki_setBack ho (by omega) (by rw [List.size_toArray, ← hl]; exact h3) (by omega) (by rw [hk]; exact ⟨_, I', q⟩)

/-! ### slices -/
theorem slice_bounds (lo hi : Option Int) (n : Nat) : (sliceBounds lo hi none n).1 = ((HT.sIx n 0 lo : Nat) : Int) ∧ (sliceBounds lo hi none n).2.1 = ((HT.sIx n n hi : Nat) : Int) ∧ (sliceBounds lo hi none n).2.2 = 1 := by
  refine ⟨?_, ?_, rfl⟩
  · cases lo with
    | none => simp [sliceBounds, HT.sIx]
    | some i =>
      simp only [sliceBounds, HT.sIx, Option.getD_none, show (1 : Int) > 0 by decide, if_true]
      by_cases h : i < 0
      · simp only [h, if_true] <;> omega
      · simp only [h, if_false] <;> omega
  · cases hi with
    | none => simp [sliceBounds, HT.sIx]
    | some i =>
      simp only [sliceBounds, HT.sIx, Option.getD_none, show (1 : Int) > 0 by decide, if_true]
      by_cases h : i < 0
      · simp only [h, if_true] <;> omega
      · simp only [h, if_false] <;> omega
theorem slicePick_cut (its : List Value) (lo hi : Option Int) : slicePick its.toArray lo hi none = ((its.drop (HT.sIx its.length 0 lo)).take (HT.sIx its.length its.length hi - HT.sIx its.length 0 lo)).toArray := by
  obtain ⟨h1, h2, h3⟩ := slice_bounds lo hi its.toArray.size
  unfold slicePick
  rw [h1, h2, h3]
  simp only [sliceRange_one, pick_run, List.size_toArray] <;> rfl
/-- xs[lo:hi] of a list: a new list -/
def rSlL (K : PySem.W.Frag) : V → Option Int → Option Int → Hp → VK → Prop := fun x lo hi H Q => ∃ a xs, x = .ref a ∧ SqL K H a xs ∧ ∀ p, H p = none → Q (.ref p) (upd H p (.lst (cutV xs lo hi)))
theorem sl_list : SlR X (rSlL X.K) := by
  intro pins s σ H x v vl vu lo hi sl Q I rx hs pl pu h
  obtain ⟨a, xs, rfl, hx, q⟩ := h
  cases rx
  obtain ⟨its, r, ht, hz⟩ := I.list hx
  have hlen := r.length
  refine ⟨"list", _, slot_list_getitem.lookup, ht.isList.typeIs, ?_⟩
  refine wpAny_getItem_list_slice ht.isList hs pl pu .none (by simp) ?_ (by rw [List.size_toArray] <;> omega)
  rw [slicePick_cut, ← hlen]
  refine ⟨.ref s.heap.objs.size, _, I.laid (t' := s.toks) (o := .lst (cutV xs lo hi)) (fun b ob q => Heap.get?_push_of_some _ q) (Nat.le_refl _) ?_, rfl, q _ (I.hok.fresh (Nat.le_refl _))⟩
  exact ⟨Nat.le_trans (cutV_length xs lo hi) hz, _, 0, (r.drop (HT.sIx xs.length 0 lo)).take (HT.sIx xs.length xs.length hi - HT.sIx xs.length 0 lo), Heap.get?_push_size _ rfl⟩

/-! ### in, not in: flat items -/
def flatV : V → Bool
  | .non => true
  | .bl _ => true
  | .int _ => true
  | .str _ => true
  | _ => false
/-- == of flat values -/
def eqV : V → V → Bool
  | .non, .non => true
  | .bl a, .bl b => a == b
  | .bl a, .int b => (if a then 1 else 0) == b
  | .int a, .bl b => a == (if b then 1 else 0)
  | .int a, .int b => a == b
  | .str a, .str b => a == b
  | _, _ => false
/-- the items' answers, read off the values (a value's own answer does not lean on its token) -/
def eqU (x : V) (u : Value) : Bool := match u with
  | .none => eqV .non x
  | .bool b => eqV (.bl b) x
  | .int i _ => eqV (.int i) x
  | .str z _ => eqV (.str z) x
  | _ => false
def inV (x : V) (xs : List V) : Bool := xs.any fun y => eqV y x
/-- x in a list or tuple of flat items -/
def rIn (K : PySem.W.Frag) (neg : Bool) : R2 := fun x y H Q => ∃ p xs, y = .ref p ∧ (SqL K H p xs ∨ SqT K H p xs) ∧ flatV x = true ∧ xs.all flatV = true ∧ Q (.bl (if neg then !inV x xs else inV x xs)) H
/-! ### len, list(x), tuple(x) of any list or tuple that is read -/
theorem call_len_seq : CallR X (.builtin "len") (fun xs H Q => ∃ p ys, xs = [.ref p] ∧ (SqL X.K H p ys ∨ SqT X.K H p ys) ∧ Q (.int ys.length) H) := by
  intro pins s σ H xs us Q I r h
  obtain ⟨p, ys, rfl, hq, q⟩ := h
  obtain ⟨u, rfl, rx⟩ := vals1 r
  cases rx
  have hn := line63
  rcases hq with hq | hq
  · obtain ⟨its, r', pl, hz⟩ := I.list hq
    have hlen := r'.length
    exact Calls.call_len_list pl.isList (by simp only [List.size_toArray] <;> omega) ⟨.int ys.length, H, I.tok _, ⟨s.toks + 1, by rw [List.size_toArray, hlen]⟩, q⟩
  · obtain ⟨its, r', pl, hz⟩ := I.tuple hq
    have hlen := r'.length
    exact len_tuple pl (by simp only [List.size_toArray] <;> omega) ⟨.int ys.length, H, I.tok _, ⟨s.toks + 1, by rw [List.size_toArray, hlen]⟩, q⟩
theorem call_list_of : CallR X (.type "list") (fun xs H Q => ∃ p ys, xs = [.ref p] ∧ (SqL X.K H p ys ∨ SqT X.K H p ys) ∧ ∀ l, H l = none → Q (.ref l) (upd H l (.lst ys))) := by
  intro pins s σ H xs us Q I r h
  obtain ⟨p, ys, rfl, hq, q⟩ := h
  obtain ⟨u, rfl, rx⟩ := vals1 r
  cases rx
  have fin : ∀ (its : List Value), Vals ys its → ys.length ≤ sizeLine → ∀ (h' : Heap) (c' : Nat), (∀ b o', s.heap.get? b = some o' → h'.get? b = some o') →
      h'.get? s.heap.objs.size = some { cls := .type "list", dict := none, data := .seq its.toArray c', slots := #[] } → EP X pins σ Q (.ref s.heap.objs.size) { s with heap := h' } := fun its r' hz h' c' kp e =>
    ⟨.ref s.heap.objs.size, _, I.laid (t' := s.toks) kp (Nat.le_refl _) (show ObjOk X.prog X.w _ h' _ (.lst ys) from ⟨hz, its, c', r', e⟩), rfl, q _ (I.hok.fresh (Nat.le_refl _))⟩
  rcases hq with hq | hq
  · obtain ⟨its, r', pl, hz⟩ := I.list hq
    have hlen := r'.length
    obtain ⟨o, ho, hc, n, hd⟩ := pl.isList
    exact call_list_seq p (.inl rfl) ho hc hd (fun h' c' kp e => fin its r' hz h' c' kp e) (by simp only [List.size_toArray] <;> omega)
  · obtain ⟨its, r', pl, hz⟩ := I.tuple hq
    have hlen := r'.length
    obtain ⟨o, ho, hc, n, hd⟩ := pl
    exact call_list_seq p (.inr rfl) ho hc hd (fun h' c' kp e => fin its r' hz h' c' kp e) (by simp only [List.size_toArray] <;> omega)
/-! ### the call of a builtin's method: o.m(..) -/
/-- the value is of that builtin type -/
def tyV (K : PySem.W.Frag) (T : String) (x : V) (H : Hp) : Prop := match x with
  | .str _ => T = "str"
  | .int _ => T = "int"
  | .ref p => (T = "list" ∧ ∃ xs, SqL K H p xs) ∨ (T = "tuple" ∧ ∃ o, K.lookup p = some o ∧ o.cls = .type "tuple" ∧ o.dict = none) ∨
      (T = "dict" ∧ ((∃ kvs, H p = some (.dK kvs)) ∨ ∃ kvs, H p = some (.dT kvs))) ∨ (T = "set" ∧ ∃ S n, H p = some (.set S n))
  | _ => False
theorem tyV_is {pins : List (Addr × Obj)} {σ : St} {H : Hp} {s : Shared} {T : String} {x : V} {v : Value} (I : Inv X pins σ H s) (r : RelV x v) (ty : tyV X.K T x H) :
    s.TypeIs v T ∧ ∀ a, v = .ref a → ∃ ob, s.heap.get? a = some ob ∧ ob.dict = none := by
  cases x with
  | str z =>
    obtain ⟨t, rfl⟩ := r
    cases (show T = "str" from ty)
    exact ⟨typeIs_str s z t, fun _ e => nomatch e⟩
  | int i =>
    obtain ⟨t, rfl⟩ := r
    cases (show T = "int" from ty)
    exact ⟨typeIs_int s i t, fun _ e => nomatch e⟩
  | ref p =>
    cases r
    rcases ty with ⟨rfl, xs, hq⟩ | ⟨rfl, o, hk, hc, hd⟩ | ⟨rfl, hk⟩ | ⟨rfl, S, n, hk⟩
    · obtain ⟨its, _, pl, _⟩ := I.list hq
      refine ⟨pl.isList.typeIs, fun a e => ?_⟩
      cases e
      obtain ⟨o, n, e, c, hd, _⟩ := pl
      exact ⟨o, e, hd⟩
    · refine ⟨⟨o, I.kIn p o hk, hc⟩, fun a e => ?_⟩
      cases e
      exact ⟨o, I.kIn _ o hk, hd⟩
    · have z : ∃ o, s.heap.get? p = some o ∧ o.ExactDict := by
        rcases hk with ⟨kvs, hk⟩ | ⟨kvs, hk⟩
        · obtain ⟨_, _, _, _, o, _, _, e, ex, _⟩ := I.hok p _ hk
          exact ⟨o, e, ex⟩
        · obtain ⟨_, _, _, _, o, _, _, e, ex, _⟩ := I.hok p _ hk
          exact ⟨o, e, ex⟩
      obtain ⟨o, e, ex⟩ := z
      refine ⟨⟨o, e, ex.1⟩, fun a e2 => ?_⟩
      cases e2
      exact ⟨o, e, ex.2.1⟩
    · obtain ⟨o, _, _, _, e, ex, _⟩ := I.hok p _ hk
      refine ⟨⟨o, e, ex.1⟩, fun a e2 => ?_⟩
      cases e2
      exact ⟨o, e, ex.2.1⟩
  | _ => exact False.elim ty
def tBM0 (K : PySem.W.Frag) (T : String) (r : V → List V → Hp → VK → Prop) (to : TE) : TE := fun σ H Q => to σ H fun x H1 => tyV K T x H1 ∧ r x [] H1 Q
def tBM (K : PySem.W.Frag) (T : String) (r : V → List V → Hp → VK → Prop) (to : TE) (t : TA) : TE := fun σ H Q => to σ H fun x H1 => tyV K T x H1 ∧ t σ H1 fun xs H2 => r x xs H2 Q
variable {o e : Expr} {es : List Expr} {to : TE} {t : TA} {name : Str} {apos cpos : Pos} {T id : String} {r : V → List V → Hp → VK → Prop}
theorem pe_bm0 (pa : PlainAttrs T) (slot : Slot T name id) (hty : typeOf (.builtin id) = pure (.type "method_descriptor")) (hm : MtR X id r) (ho : PE X o to)
    (hbase : attributeBase o name X.env (eval o X.env) = eval o X.env := by rfl) (hline : (apos.endLine == cpos.line) = true := by rfl) : PE X (.Call (.Attribute o name apos) [] [] cpos) (tBM0 X.K T r to) := by
  intro pins s σ H Q I h
  refine wpAny_Call_method0_late hbase hline (thn (ho pins s σ H _ I h) fun v s1 ⟨x, H1, I1, r1, ty, q1⟩ => ?_)
  obtain ⟨h1, h2⟩ := tyV_is I1 r1 ty
  exact ⟨T, id, pa, slot, hty, h1, h2, Calls.callWith_builtin rfl (PySem.evalArgs_none (hm pins s1 σ H1 x [] v [] Q I1 r1 .nil q1))⟩
theorem pe_bm (pa : PlainAttrs T) (slot : Slot T name id) (hty : typeOf (.builtin id) = pure (.type "method_descriptor")) (hm : MtR X id r) (ho : PE X o to) (ha : PA X (e :: es) t)
    (hbase : attributeBase o name X.env (eval o X.env) = eval o X.env := by rfl)
    (hfew : ((backTo cpos (starEach (e :: es) X.env)).all (fun x => !x.1) && (backToKw cpos (keywordEach [] X.env)).all (fun x => x.1.isSome)
      && decide ((e :: es).length + ([] : List Keyword).length + (if ([] : List Keyword).isEmpty then 0 else 1) < 30)) = true := by rfl)
    (hline : (apos.endLine == cpos.line) = true := by rfl) (hs : starEach (e :: es) X.env = (false, eval e X.env) :: starEach es X.env := by rfl) (hplain : (backTo cpos (starEach es X.env)).any (·.1) = false := by rfl) :
    PE X (.Call (.Attribute o name apos) (e :: es) [] cpos) (tBM X.K T r to t) := by
  intro pins s σ H Q I h
  refine wpAny_Call_method_late hbase hfew hline rfl (thn (ho pins s σ H _ I h) fun v s1 ⟨x, H1, I1, r1, ty, q1⟩ => ?_)
  obtain ⟨h1, h2⟩ := tyV_is I1 r1 ty
  refine ⟨T, id, pa, slot, hty, h1, h2, ?_⟩
  have hA := ha cpos pins s1 σ H1 _ I1 q1
  rw [hs] at hA ⊢
  refine Calls.callWith_builtin (by show (false || (backTo cpos (starEach es X.env)).any (·.1)) = false; rw [hplain] <;> rfl) (Calls.evalArgs_plain ?_)
  exact thn hA fun us s2 ⟨vs, H2, I2, r2, q2⟩ => hm pins s2 σ H2 x vs v us Q I2 r1 r2 q2
/- xs.append(e), list.index on a module's tuple .. are MtR facts of 06m -/
end
end L2

namespace L2
open PySem PySem.Spec PyProof.Rows

def MtM (X : Cx) (id : String) (r : V → List V → Hp → VK → Prop) : Prop :=
  ∀ (pins : List (Addr × Obj)) (s : Shared) (σ : St) (H : Hp) (x : V) (xs : List V) (v : Value) (us : List Value) (Q : VK), Inv X pins σ H s → RelV x v → Vals xs us → r x xs H Q →
    wpAny (model X.prog X.w) X.A (call (.builtin id) (v :: us)) (EP X pins σ Q) X.xe s

/-! ### lists of values -/
theorem Vals.one : ∀ {x : V} {us : List Value}, Vals [x] us → ∃ u, us = [u] ∧ RelV x u
  | _, _, .cons r .nil => ⟨_, rfl, r⟩
theorem Vals.zero : ∀ {us : List Value}, Vals [] us → us = []
  | _, .nil => rfl
theorem Vals.dropLast {xs : List V} {us : List Value} (h : Vals xs us) : Vals xs.dropLast us.dropLast := by
  induction h with
  | nil => exact .nil
  | cons r t ih =>
    cases t with
    | nil => exact .nil
    | cons q t' => exact .cons r ih
theorem Vals.eraseIdx : ∀ {xs : List V} {us : List Value} (i : Nat), Vals xs us → Vals (xs.eraseIdx i) (us.eraseIdx i)
  | _, _, _, .nil => .nil
  | _, _, 0, .cons _ t => t
  | _, _, i + 1, .cons r t => .cons r (Vals.eraseIdx i t)
theorem Vals.reverse {xs : List V} {us : List Value} (h : Vals xs us) : Vals xs.reverse us.reverse := by
  induction h with
  | nil => exact .nil
  | cons r t ih => rw [List.reverse_cons, List.reverse_cons]; exact Vals.append ih (.cons r .nil)
theorem erase_last {α : Type} (l : List α) : l.eraseIdx (l.length - 1) = l.dropLast := by
  induction l with
  | nil => rfl
  | cons a r ih =>
    cases r with
    | nil => rfl
    | cons b r =>
      have e : (a :: b :: r).length - 1 = ((b :: r).length - 1) + 1 := by
        have h1 : (a :: b :: r).length = r.length + 2 := rfl
        have h2 : (b :: r).length = r.length + 1 := rfl
        omega
      rw [e, List.eraseIdx_cons_succ, ih]
      all_goals rfl
theorem len_erase {α : Type} : ∀ (l : List α) (i : Nat), (l.eraseIdx i).length ≤ l.length
  | [], _ => Nat.le_refl _
  | _ :: _, 0 => Nat.le_succ _
  | _ :: r, i + 1 => Nat.succ_le_succ (len_erase r i)
section
variable {X : Cx} {pins : List (Addr × Obj)} {σ : St} {H : Hp} {s : Shared} {l b : Addr} {xs ys zs : List V}

/-! ### the two steps: a tracked list is rewritten, a new list is laid -/
theorem Inv.lset {its its' : List Value} {n : Nat} {f : Array Value → Array Value} {t' : Nat} (I : Inv X pins σ H s) (hH : H l = some (.lst xs))
    (e : s.heap.get? l = some { cls := .type "list", data := .seq its.toArray n }) (hf : f its.toArray = its'.toArray) (hv : Vals ys its') (hz : ys.length ≤ sizeLine) :
    Inv X pins σ (upd H l (.lst ys)) { s with heap := s.heap.update l (Obj.mapSeq f), toks := t' } := by
  have q := PySem.IsL.update e f
  rw [hf] at q
  refine I.write (x := l) (e := l) (by rw [hH]; exact trivial) (.inl rfl) (fun b' u hb hu => (Heap.get?_update_other s.heap (Obj.mapSeq f) (Ne.symm hb)).trans hu) ⟨_, q⟩ ?_
  exact ⟨hz, its', _, hv, q⟩
theorem Inv.lnew {its : List Value} {t' : Nat} (I : Inv X pins σ H s) (hv : Vals ys its) (hz : ys.length ≤ sizeLine) :
    Inv X pins σ (upd H s.heap.objs.size (.lst ys)) { s with heap := s.heap.push { cls := .type "list", data := .seq its.toArray }, toks := t' } :=
  I.laid (fun _ _ q => Heap.get?_push_of_some _ q) (Nat.le_refl _) ⟨hz, its, 0, hv, Heap.get?_push_size _ rfl⟩
theorem Inv.fresh (I : Inv X pins σ H s) : H s.heap.objs.size = none := I.hok.fresh (Nat.le_refl _)
theorem Inv.lstM (I : Inv X pins σ H s) (hH : H l = some (.lst xs)) : xs.length ≤ sizeLine ∧ ∃ (its : List Value) (n : Nat), Vals xs its ∧ xs.length = its.length ∧ s.heap.get? l = some { cls := .type "list", data := .seq its.toArray n } := by
  obtain ⟨z, its, n, r, e⟩ := I.hok l _ hH
  exact ⟨z, its, n, r, r.length, e⟩

theorem notLongL {n : Nat} (h : n ≤ sizeLine) : Builtin.List.listTooLong n = false := by
  unfold Builtin.List.listTooLong
  exact decide_eq_false (by omega)
end

section
variable {X : Cx}

/-! ### methods -/
def rAppend : V → List V → Hp → VK → Prop := fun x vs H Q => ∃ l xs y, x = .ref l ∧ vs = [y] ∧ H l = some (.lst xs) ∧ xs.length < sizeLine ∧ Q .non (upd H l (.lst (xs ++ [y])))
theorem mt_append : MtM X "list.append" rAppend := by
  intro pins s σ H x vs v us Q I rx rv h
  obtain ⟨l, xs, y, rfl, rfl, hH, hz, q⟩ := h
  cases rx
  obtain ⟨u, rfl, ru⟩ := rv.one
  obtain ⟨z, its, n, r, hl, e⟩ := I.lstM hH
  refine call_meets F.slot_list_append ⟨_, e, rfl⟩ F.entry_list_append (F.args_list_append_2 _ _) (PySem.list_append l its.toArray n u (by rw [List.size_toArray]; omega)) ⟨e, ?_⟩
  refine ⟨.non, _, I.lset (its' := its ++ [u]) hH e (by simp) (r.append (.cons ru .nil)) ?_, rfl, q⟩
  rw [List.length_append, List.length_singleton]
  omega

def rExtend : V → List V → Hp → VK → Prop := fun x vs H Q => ∃ l b xs zs, x = .ref l ∧ vs = [.ref b] ∧ H l = some (.lst xs) ∧ H b = some (.lst zs) ∧ xs.length + zs.length ≤ sizeLine ∧ Q .non (upd H l (.lst (xs ++ zs)))
theorem mt_extend : MtM X "list.extend" rExtend := by
  intro pins s σ H x vs v us Q I rx rv h
  obtain ⟨l, b, xs, zs, rfl, rfl, hH, hB, hz, q⟩ := h
  cases rx
  obtain ⟨u, rfl, ru⟩ := rv.one
  cases ru
  obtain ⟨z, its, n, r, hl, e⟩ := I.lstM hH
  obtain ⟨z2, its2, n2, r2, hl2, e2⟩ := I.lstM hB
  have hsz : its.toArray.size + its2.toArray.size ≤ sizeLine := by rw [List.size_toArray, List.size_toArray]; omega
  have hlong : ¬ (!its.toArray.isEmpty && Builtin.List.listTooLong (its.toArray.size + its2.toArray.size)) = true := by
    rw [notLongL hsz, Bool.and_false]
    exact Bool.false_ne_true
  refine call_meets F.slot_list_extend ⟨_, e, rfl⟩ F.entry_list_extend (F.args_list_extend_2 _ _)
    (AutoSeq1.list_extend_list_list_0 l its.toArray n b its2.toArray n2 hlong (by rw [List.size_toArray]; omega) (by omega)) ⟨e, e2, ?_⟩
  refine ⟨.non, _, I.lset (its' := its ++ its2) hH e (by simp) (r.append r2) ?_, rfl, q⟩
  rw [List.length_append]
  omega

def rPop : V → List V → Hp → VK → Prop := fun x vs H Q => ∃ l xs y, x = .ref l ∧ vs = [] ∧ H l = some (.lst xs) ∧ xs[xs.length - 1]? = some y ∧ Q y (upd H l (.lst xs.dropLast))
theorem mt_pop : MtM X "list.pop" rPop := by
  intro pins s σ H x vs v us Q I rx rv h
  obtain ⟨l, xs, y, rfl, rfl, hH, hy, q⟩ := h
  cases rx
  have hus := rv.zero
  subst hus
  obtain ⟨z, its, n, r, hl, e⟩ := I.lstM hH
  obtain ⟨u, hu, ru⟩ := r.get hy
  have hy' : its.toArray[its.toArray.size - 1]? = some u := by
    show its.toArray[its.length - 1]? = some u
    rw [← Array.getElem?_toList, ← hl]
    exact hu
  refine call_meets F.slot_list_pop ⟨_, e, rfl⟩ F.entry_list_pop (F.args_list_pop_1 _) (MeetsSeq.list_pop_last l its.toArray n u hy' (by rw [List.size_toArray]; omega)) ⟨e, ?_⟩
  refine ⟨y, _, I.lset (its' := its.dropLast) hH e ?_ r.dropLast ?_, ru, q⟩
  · show its.toArray.eraseIdxIfInBounds (its.toArray.size - 1) = its.dropLast.toArray
    rw [List.size_toArray, List.eraseIdxIfInBounds_toArray, erase_last]
  · rw [List.length_dropLast]
    omega

def rPopAt : V → List V → Hp → VK → Prop := fun x vs H Q => ∃ l xs i k y, x = .ref l ∧ vs = [.int i] ∧ H l = some (.lst xs) ∧ -(2 ^ 63) ≤ i ∧ i < 2 ^ 63 ∧ seqIndex? i xs.length = some k ∧ xs[k]? = some y ∧ Q y (upd H l (.lst (xs.eraseIdx k)))
theorem mt_popAt : MtM X "list.pop" rPopAt := by
  intro pins s σ H x vs v us Q I rx rv h
  obtain ⟨l, xs, i, k, y, rfl, rfl, hH, h1, h2, hk, hy, q⟩ := h
  cases rx
  obtain ⟨u, rfl, ru⟩ := rv.one
  obtain ⟨t, rfl⟩ := ru
  obtain ⟨z, its, n, r, hl, e⟩ := I.lstM hH
  obtain ⟨w, hw, rw'⟩ := r.get hy
  refine call_meets F.slot_list_pop ⟨_, e, rfl⟩ F.entry_list_pop (F.args_list_pop_2 _ _)
    (MeetsSeq.list_pop_at l its.toArray n i t k w (fitsIndex_both h1 h2) (by rw [List.size_toArray, ← hl]; exact hk) (by rw [← Array.getElem?_toList]; exact hw) (by rw [List.size_toArray]; omega)) ⟨e, ?_⟩
  refine ⟨y, _, I.lset (its' := its.eraseIdx k) hH e ?_ (r.eraseIdx k) ?_, rw', q⟩
  · show its.toArray.eraseIdxIfInBounds k = (its.eraseIdx k).toArray
    rw [List.eraseIdxIfInBounds_toArray]
  · have := len_erase xs k
    omega

def rReverse : V → List V → Hp → VK → Prop := fun x vs H Q => ∃ l xs, x = .ref l ∧ vs = [] ∧ H l = some (.lst xs) ∧ Q .non (upd H l (.lst xs.reverse))
theorem mt_reverse : MtM X "list.reverse" rReverse := by
  intro pins s σ H x vs v us Q I rx rv h
  obtain ⟨l, xs, rfl, rfl, hH, q⟩ := h
  cases rx
  have hus := rv.zero
  subst hus
  obtain ⟨z, its, n, r, hl, e⟩ := I.lstM hH
  refine call_meets F.slot_list_reverse ⟨_, e, rfl⟩ F.entry_list_reverse (F.args_list_reverse_1 _) (AutoSeq1.list_reverse_list_0 l its.toArray n (by rw [List.size_toArray]; omega)) ⟨e, ?_⟩
  refine ⟨.non, _, I.lset (its' := its.reverse) hH e (by simp) r.reverse ?_, rfl, q⟩
  rw [List.length_reverse]
  omega

def rClear : V → List V → Hp → VK → Prop := fun x vs H Q => ∃ l xs, x = .ref l ∧ vs = [] ∧ H l = some (.lst xs) ∧ Q .non (upd H l (.lst []))
/-! ### list + list, list += list, list * int -/
def rCat : R2 := fun x y H Q => ∃ l b xs zs, x = .ref l ∧ y = .ref b ∧ H l = some (.lst xs) ∧ H b = some (.lst zs) ∧ xs.length + zs.length ≤ sizeLine ∧ ∀ p, H p = none → Q (.ref p) (upd H p (.lst (xs ++ zs)))
theorem op_cat : OpR X (binaryOp .Add) rCat := by
  intro pins s σ H x y v u Q I rx ry h
  obtain ⟨l, b, xs, zs, rfl, rfl, hH, hB, hz, q⟩ := h
  cases rx
  cases ry
  obtain ⟨z, its, n, r, hl, e⟩ := I.lstM hH
  obtain ⟨z2, its2, n2, r2, hl2, e2⟩ := I.lstM hB
  refine PySem.P.add_list e e2 ?_ (by rw [List.size_toArray, List.size_toArray]; omega)
  have ea : its.toArray ++ its2.toArray = (its ++ its2).toArray := by simp
  rw [ea]
  exact ⟨.ref _, _, I.lnew (t' := s.toks) (r.append r2) (by rw [List.length_append]; omega), rfl, q _ I.fresh⟩
/-- a list times an int (a negative one is nothing) -/
def rRep : R2 := fun x y H Q => ∃ l k xs, x = .ref l ∧ y = .int k ∧ H l = some (.lst xs) ∧ -(2 ^ 63) ≤ k ∧ k < 2 ^ 63 ∧ xs.length * k.toNat ≤ sizeLine ∧
  ∀ p, H p = none → Q (.ref p) (upd H p (.lst (List.replicate k.toNat xs).flatten))
/-! ### del xs[i] -/
end

/-! ### xs[a:b] = ys -/
section
variable {prog : Program} {w : World} {A : Around} {E : Value → Shared → Prop} {s : Shared}
end

section
variable {X : Cx}
end
end L2

namespace Att
open PySem PySem.W PySem.Calls PyProof.Rows

/-! ### the script -/
theorem ints_of_wellAll {P : Params} {h : Heap} : ∀ (ns : List Int) (vs : List Value), WellAll P h vs (ns.map WData.int) → IntsAre vs ns := by
  intro ns
  induction ns with
  | nil =>
    intro vs w
    rw [List.map_nil] at w
    cases w
    exact .nil
  | cons n ns ih =>
    intro vs w
    rw [List.map_cons] at w
    cases w with
    | cons a b =>
      cases a
      exact .cons _ _ (ih _ b)

theorem script_of {l : OpenLaw} {n : Nat} (hn : l.most = some n) {P : Params} {h : Heap} {args : List WData} {vals : List Value}
    (hpre : l.row.toRowW.claim.pre args = true) (hwl : WellAll P h vals args) :
    ∃ a vs ns, vals = [Value.ref a] ∧ args = [WData.list (ns.map WData.int)] ∧ h.get? a = some { cls := .type "list", data := .seq vs.toArray } ∧ IntsAre vs ns ∧ ns.length ≤ n := by
  have hsh : WShape.hasAll [] args [.list .int] = true := (pre_splitW hpre).1
  have hc : l.pre.holds [] { args := args } = true := (pre_splitW hpre).2
  obtain ⟨d, r, rfl, h1, h2⟩ := hasAllW_cons hsh
  obtain rfl := hasAllW_nil h2
  obtain ⟨xs, rfl, h3⟩ := hasW_list h1
  obtain ⟨ns, rfl⟩ := items_int h3
  have hlen : ns.length ≤ n := by
    unfold OpenLaw.pre at hc
    have h4 : (WTm.not (.lt (.lit (.int (n : Int))) (.len (.arg 0)))).holds [] { args := [.list (ns.map .int)] } = true := by
      have h4 := (holds_andW hc).1
      rw [hn] at h4
      exact h4
    have h5 := condW_of h4 (w_not (w_lt w_lit (w_len_list (w_arg rfl))))
    rw [List.length_map] at h5
    refine Nat.le_of_not_lt fun q => ?_
    have q' : (n : Int) < ((ns.length : Nat) : Int) := by omega
    first
      | (rw [decide_eq_true q'] at h5; exact absurd h5 (by decide))
      | (simp at h5; omega)
  cases hwl with
  | cons w1 w2 =>
    cases w2
    cases w1 with
    | list ho hall => exact ⟨_, _, ns, rfl, rfl, ho, ints_of_wellAll ns _ hall, hlen⟩

theorem post_true (l : OpenLaw) (args : List WData) : l.row.toRowW.claim.post args (.bool true) args = true :=
  postW_of (r := l.row.toRowW) (X := (true == true))
    (show WShape.has [] (.bool true) .bool = true by first | rfl | decide | simp [WShape.has, WShape.arms, WShape.armsAll])
    (show (WTm.eq .res (.lit (.bool true))).value [] { args := args, res := some (.bool true), after := args } = some (.bool (true == true)) from w_eq_bool (w_res rfl) w_lit) rfl

/-! ### the attachment: holds_open's last premise (the goal 'hc' behind k_head) from a wpAny of the law's body -/
/-- the same from a codeAny of the CALL (for a layer whose function contracts speak of calls) -/
theorem attach_call {l : OpenLaw} {n : Nat} {q : Program} {loose : List Str} {XP : (Str → Option Value) → Heap → Prop} {YP : World → Heap → Prop} {d : DefRec}
    (hn : l.most = some n) (hdf : d.params.defaults = [])
    (call : ∀ (w : World) (s₀ s₁ : Shared) (mg mb : Str → Option Value) (fa : Addr) (o : Obj) (pm cd doc : Value) (a : Addr) (vs : List Value) (ns : List Int),
      Ground q loose [] XP w s₀ mg mb s₁.heap → YP w s₁.heap →
      s₁.heap.get? fa = some o → o.data = .func (docDef d.name d.params d.body d.scope pm cd doc) → s₁.heap.CodeRec cd d.name → mg d.name = some (.ref fa) →
      s₁.heap.get? a = some { cls := .type "list", data := .seq vs.toArray } → IntsAre vs ns → ns.length ≤ n → s₁.gens = #[] →
      codeAny (model l.prog w) callerA (.call (.ref fa) ⟨[.ref a], []⟩) (fun r s' => r = .ok (.ret (.bool true)) ∧ OldK s₁.heap s'.heap ∧ s'.os = s₁.os ∧ AllBare s'.gens) s₁) :
    WalkO q loose XP YP l.row.toRowW d [] (fun f vs => PySem.call f vs) := by
  intro w s₀ s₁ mg mb G Y fa o pm cd doc dV kV ho hd hcd hD hmg hg args vals as hpre hlay hrd hwl hlo
  obtain rfl : dV = .none := Dflts.none hD hdf
  obtain rfl : kV = .none := Dflts.noKw hD
  obtain ⟨a, vs, ns, rfl, rfl, hobj, hints, hlen⟩ := script_of hn hpre hwl
  refine enter_call (codeAny_mono (call w s₀ s₁ mg mb fa o pm cd doc a vs ns G Y ho (fd_plain hd) hcd hmg hobj hints hlen hg) fun r s' hq => ?_)
  obtain ⟨rfl, h2, h3, h4⟩ := hq
  exact ⟨.inl ⟨.bool true, .bool true, [], rfl, fun _ => rfl, .bool true, post_true l _, fun _ => ⟨List.Pairwise.nil, fun _ hm => (nomatch hm)⟩⟩, h2, h3, h4⟩

/-! ### rules over ANY heap (no ledger) from facts about the written part K: the library's own take a ledger (News) for what they write -/
section
variable {prog : Program} {w : World} {A : Around} {E : Value → Shared → Prop} {s : Shared} {K : Frag}

/-! the whole heap as the ledger: makes every rule that writes through a ledger a rule over any heap -/
def noObjs (h : Heap) : Heap := { h with objs := #[] }
def ledger (h : Heap) (L d : Addr) : List (Addr × Obj) := (List.range h.objs.size).filterMap fun a => if a = L ∨ a = d then none else (h.get? a).map fun o => (a, o)
end
end Att

namespace L2
open PySem PySem.Spec PyProof.Rows

theorem vals_ints : ∀ {vs : List Value} {ns : List Int}, IntsAre vs ns → Vals (ns.map V.int) vs
  | _, _, .nil => .nil
  | _, _, .cons n t h => .cons ⟨t, rfl⟩ (vals_ints h)

/-- nothing is tracked but the script, known to the object (or it is an object of the module) -/
def Only (H : Hp) : Prop := ∀ b, H b = none ∨ ∃ o xs, H b = some (.frz o (.lst xs))

/-- THE HEAD: the law's promise, at the heap behind the top. F, the promise of the law's def, may use that base is part of the heap (so K.In base, base.Ns mainGlobals mg stand in Mod) -/
theorem law_call {P : Program} {w : World} {K : PySem.W.Frag} {mg mb : Str → Option Value} {CX : CXT} {k : Nat} {fa a : Addr} {fd : FuncData} {x : Str} {sp : Sp} {s₁ : Shared} {vs : List Value} {ns : List Int}
    (KX : K.In s₁.heap) (hns : s₁.heap.Ns mainGlobals mg) (hb : s₁.heap.Ns builtinsNs mb) (hbb : ∀ x : Str, x ≠ "__name__" → mb x = bootBuiltins x) (hlim : s₁.heap.NoLimit) (hg : s₁.gens = #[])
    (ha : s₁.heap.get? a = some { cls := .type "list", data := .seq vs.toArray }) (hi : IntsAre vs ns) (hl : ns.length ≤ sizeLine) (hr : Room k callerA)
    (F : ∀ base : Heap, K.In base → base.Ns mainGlobals mg → FnOk P w K mg base CX k fa fd [x] sp) (hbind : ∀ (s : Shared) (u : Value), BindsTo s fd ⟨[u], []⟩ [(x, u)])
    (hsp : ∀ H : Hp, Only H → SqL K H a (ns.map V.int) → sp [.ref a] H (fun v _ => v = .bl true) fun _ _ _ => False)
    (hCX : ∀ H e s', CX [] H s₁ (fun _ _ _ => False) e s' → False) :
    codeAny (model P w) callerA (.call (.ref fa) ⟨[.ref a], []⟩) (fun r s' => r = .ok (.ret (.bool true)) ∧ OldK s₁.heap s'.heap ∧ s'.os = s₁.os ∧ AllBare s'.gens) s₁ := by
  have rv := vals_ints hi
  have lenV := hi.length
  -- from an abstract heap in which nothing but the script may be tracked
  have core : ∀ H : Hp, Only H → SqL K H a (ns.map V.int) → HOk P w H s₁.heap → (∀ b, H b ≠ none → b = a) → (H a ≠ none → K.lookup a = none) →
      codeAny (model P w) callerA (.call (.ref fa) ⟨[.ref a], []⟩) (fun r s' => r = .ok (.ret (.bool true)) ∧ OldK s₁.heap s'.heap ∧ s'.os = s₁.os ∧ AllBare s'.gens) s₁ := by
    intro H hO hS hok hA hK
    have base_of : ∀ {b : Addr} {o : Obj}, s₁.heap.get? b = some o → H b = none → (hidT s₁.heap H).get? b = some o := fun e n => hidT_get e n
    have noA : ∀ {b : Addr} {o : Obj} {es : Array DictEntry} {ep : Nat}, s₁.heap.get? b = some o → o.data = .dict es ep → H b = none := fun {b o es ep} e d => by
      cases q : H b with
      | none => rfl
      | some u =>
        have e' : b = a := hA b (by rw [q]; simp)
        subst e'
        rw [ha] at e; cases e
        have d' : Data.seq vs.toArray _ = Data.dict es ep := d
        cases d'
    have nsK : ∀ {b : Addr} {m : Str → Option Value}, s₁.heap.Ns b m → (hidT s₁.heap H).Ns b m := fun {b m} ⟨o, es, ep, e, d, r⟩ => ⟨o, es, ep, base_of e (noA e d), d, r⟩
    have hKb : K.In (hidT s₁.heap H) := fun b o e => base_of (KX b o e) (by
      cases q : H b with
      | none => rfl
      | some u =>
        have e' : b = a := hA b (by rw [q]; simp)
        subst e'
        rw [hK (by rw [q]; simp)] at e; cases e)
    have hM : Mod K mg (hidT s₁.heap H) := ⟨hKb, nsK hns, ⟨mb, nsK hb, hbb⟩, let ⟨mc, h1, h2⟩ := hlim; ⟨mc, nsK h1, h2⟩⟩
    have e0 : Env0 P w K mg (hidT s₁.heap H) callerA [] s₁ H := ⟨rfl, hM, fun b o e => of_hidT e, Nat.le_of_eq (hidT_size _ _), trivial, fun b hb => absurd (show b ∈ ([] : List Addr) from hb) (by simp), hok, .of_eq hg⟩
    refine codeAny_mono ((F _ hKb (nsK hns)).run callerA [] s₁ H ⟨[.ref a], []⟩ [.ref a] [.ref a] _ _ hr e0 (hbind s₁ (.ref a)) (.cons rfl .nil) (hsp H hO hS)) fun r s' h => ?_
    cases r with
    | error e => exact (hCX H e s' h).elim
    | ok fl =>
      cases fl with
      | next => exact False.elim h
      | brk => exact False.elim h
      | cont => exact False.elim h
      | ret u =>
        obtain ⟨v, H', os, bare, un, hok', r', q⟩ := h
        have q' : v = .bl true := q
        subst q'
        obtain rfl : u = Value.bool true := r'
        refine ⟨rfl, OldK.of_keep fun b o e => ?_, os, bare⟩
        cases q : H b with
        | none => exact un.keep b o e q (by intro z; exact absurd (show b ∈ ([] : List Addr) from z) (by simp)) (by simp)
        | some u =>
          rcases hO b with z | ⟨ob, xs, z⟩
          · rw [q] at z; cases z
          · have z2 := un.frzs b ob _ z
            obtain ⟨e1, _⟩ := hok b _ z
            obtain ⟨e2, _⟩ := hok' b _ z2
            rw [e] at e1; cases e1
            exact e2
  cases hk : K.lookup a with
  | some o =>
    -- the script is one of the module's own objects
    have e := KX a o hk
    rw [ha] at e
    cases e
    refine core (fun _ => none) (fun _ => .inl rfl) (.inr ⟨_, vs.toArray, _, hk, rfl, rfl, rfl, by rw [List.size_toArray, lenV]; exact hl, by simpa using rv⟩) (fun b u z => by have z' : (none : Option HO) = some u := z; cases z') (fun b z => absurd rfl z) fun z => absurd rfl z
  | none =>
    refine core (fun b => if b = a then some (.frz { cls := .type "list", data := .seq vs.toArray } (.lst (ns.map V.int))) else none) (fun b => ?_) (.inl (.inr ⟨{ cls := .type "list", data := .seq vs.toArray }, if_pos rfl⟩)) (fun b u z => ?_) (fun b z => ?_) fun _ => hk
    · by_cases hb : b = a
      · exact .inr ⟨_, _, if_pos hb⟩
      · exact .inl (if_neg hb)
    · by_cases hb : b = a
      · have z' := (if_pos hb).symm.trans z
        cases z'
        subst hb
        exact ⟨ha, by rw [List.length_map]; exact hl, vs, _, rv, ha⟩
      · have z' := (if_neg hb).symm.trans z
        cases z'
    · by_cases hb : b = a
      · exact hb
      · exact absurd (if_neg hb) z
end L2

namespace L2
open PySem PySem.Spec PyProof.Rows

abbrev KOf {K : PySem.W.Frag} {h : Heap} (_ : K.In h) : PySem.W.Frag := K

/-- the goal that k_head leaves (case hc), from the law's promise. F gives the function object fd (K's own) once, then the promise over every base -/
theorem walk_of {l : PySem.W.OpenLaw} {n k : Nat} {q : Program} {loose : List Str} {XP : (Str → Option Value) → Heap → Prop} {YP : World → Heap → Prop} {d : DefRec} {K : Params → PySem.W.Frag} {CX : World → CXT} {sp : World → Sp} {x : Str}
    (hn : l.most = some n) (hn2 : n ≤ sizeLine) (hdf : d.params.defaults = []) (hr : Room k callerA)
    (hY : ∀ (w : World) (h : Heap), YP w h → (K w.params).In h)
    (F : ∀ (w : World) (mg : Str → Option Value) (fa : Addr) (h : Heap), (K w.params).In h → h.Ns mainGlobals mg → mg d.name = some (.ref fa) →
      ∃ fd : FuncData, (∀ (s : Shared) (u : Value), BindsTo s fd ⟨[u], []⟩ [(x, u)]) ∧
        ∀ base : Heap, (K w.params).In base → base.Ns mainGlobals mg → FnOk l.prog w (K w.params) mg base (CX w) k fa fd [x] (sp w))
    (hsp : ∀ (w : World) (H : Hp) (a : Addr) (ns : List Int), ns.length ≤ n → Only H → SqL (K w.params) H a (ns.map V.int) → sp w [.ref a] H (fun v _ => v = .bl true) fun _ _ _ => False)
    (hCX : ∀ (w : World) (H : Hp) (s : Shared) (e : Value) (s' : Shared), CX w [] H s (fun _ _ _ => False) e s' → False) :
    PySem.W.WalkO q loose XP YP l.row.toRowW d [] (fun f vs => PySem.call f vs) := by
  refine Att.attach_call hn hdf fun w s₀ s₁ mg mb fa o pm cd doc a vs ns G Y ho hd hcd hmg hobj hints hlen hg => ?_
  have KX := hY w _ Y
  obtain ⟨fd, hb, hF⟩ := F w mg fa _ KX G.T.g hmg
  exact law_call KX G.T.g G.T.b G.T.builtins G.T.nolimit hg hobj hints (Nat.le_trans hlen hn2) hr hF hb (fun H hO hS => hsp w H a ns hlen hO hS) fun H e s' => hCX w H s₁ e s'
end L2

/- THE LAST THEOREM (shape; LID, My.* are yours):
   My.Adr: a structure of the addresses that your layer names (classes, functions); My.Txt K t: a structure (Prop) of the equations over K;
   My.txt_mk : {K} {implicit addresses ..} (e1 : nsIn K mainGlobals "law" = some (some (.ref f))) (e2 : K.lookup f = some ⟨oc, od, .func (fnOf "law" "law" params body scope dV kV doc pm an cdv ct), sl⟩) (e3 : codeIn K cdv "law" = true) .. : ∃ t, My.Txt K t

set_option maxRecDepth 100000 in
set_option maxHeartbeats 0 in
theorem PySem.Challenge.cw_LID_holds : PySem.Challenge.rw_LID.Holds := by
  w_on; o_law; k_head; (case hw => w_witness2)
  k_fill
  refine L2.walk_of (l := PySem.Challenge.rw_LID) (n := 63) (k := 40) (x := "script") (CX := fun w => ..) (sp := fun _ => My.sp_law) rfl (by decide) rfl ⟨rfl, by decide, by decide⟩ (fun w h Y => PySem.W.kIn_of Y) ?F ?S ?C
  case F =>
    intro w mg fa h KX G hmg
    have T : ∃ t, My.Txt (L2.KOf KX) t := by
      dsimp only [L2.KOf]                          -- K must stand as «<heap const> w.params» for k_is
      refine' My.txt_mk ?e1 ?e2 ?e3 ..
      (case e1 => PySem.W.k_is)                    -- in the order: a name -> its address -> its object -> its parts
      (case e2 => PySem.W.k_is)
      ..
    obtain ⟨t, T⟩ := T
    have e0 := hmg.symm.trans (PySem.W.mg_of KX G T.law)
    cases e0                                       -- fa is the law's own address
    exact ⟨_, fun s u => .of_eq rfl, fun base kb nb => My.law_fn T kb nb⟩     -- if «.of_eq rfl» comes too early: refine' ⟨_, ?b, fun base kb nb => My.law_fn T kb nb⟩; exact fun s u => .of_eq rfl
  case S => exact fun w H a ns hl hO hS => ..
  case C => exact ..
(the tactic k_is has no namespace: write k_is) -/

/-! SHORT WORDS over the layer: a def of the text, its body, what a loop and a test want. -/
namespace L2
open PySem PySem.Spec PyProof.Rows

/-! ### the text by places -/
/-- the j-th statement of a class's body -/
def inClass (s : Stmt) (j : Nat) : Stmt := match s with
  | .ClassDef _ _ _ body _ _ _ _ _ _ _ => body.getD j (.Pass ⟨0, 0, 0, 0⟩)
  | _ => .Pass ⟨0, 0, 0, 0⟩
def defArgs (s : Stmt) : Arguments := match s with
  | .FunctionDef _ a _ _ _ _ _ _ _ _ => a
  | _ => { posonlyargs := [], args := [], vararg := none, kwonlyargs := [], kw_defaults := [], kwarg := none, defaults := [] }
def defBody (s : Stmt) : List Stmt := match s with
  | .FunctionDef _ _ b _ _ _ _ _ _ _ => b
  | _ => []
def defScope (s : Stmt) : Scope := match s with
  | .FunctionDef _ _ _ _ _ _ sc _ _ _ => sc
  | _ => { kind := .function, names := [], isGenerator := false, isCoroutine := false }

/-! ### no exception leaves a def -/
abbrev CX0 : CXT := fun _ _ _ _ _ _ => False
abbrev E0 : XK := fun _ _ _ => False
theorem pass0 {X : Cx} : Passes CX0 X E0 := fun _ _ _ _ _ _ _ h => h.elim

/-! ### a def (or method) of the text as it stands behind the top -/
structure Fun (K : PySem.W.Frag) (x qual : Str) (st : Stmt) (f : Addr) (fd : FuncData) : Prop where
  ex : ∃ (oc : Value) (od : Option Addr) (kV doc pm : Value) (an : Option Addr) (cdv ct : Value) (osl : Array (Option Value)),
    fd = PySem.W.fnOf x qual (defArgs st) (defBody st) (defScope st) .none kV doc pm an cdv ct ∧ K.lookup f = some ⟨oc, od, .func fd, osl⟩ ∧ PySem.W.codeIn K cdv qual = true
  kp : PySem.W.keepIn K (.ref f) = true
section
variable {P : Program} {w : World} {K : PySem.W.Frag} {mg : Str → Option Value} {base : Heap}
/-- THE RULE for a def: its body as a term of rules, and the reading of that term -/
theorem Fun.ok {x qual : Str} {st : Stmt} {f : Addr} {fd : FuncData} {N ps : List Str} {k : Nat} {sp : Sp} (F : Fun K x qual st f fd) (S : FnScope N ps (defScope st)) (len : ∀ vs H Q E, sp vs H Q E → vs.length = ps.length)
    (hbody : ∀ (cdv : Value) (A : Around) (outer : List Env) (s : Shared) (H : Hp) (vs : List V) (Q : VK) (E : XK), Room k (A.deeper (envOfC qual (defScope st) s.heap.objs.size f cdv)) → sp vs H Q E →
      ∃ t, PSs (cxOf CX0 P w K mg base N qual (defScope st) f cdv A outer s H E).nox (defBody st) t ∧ t { nx := fun _ H' => Q .non H', rt := Q } (start N vs) H) : FnOk P w K mg base CX0 (k + 1) f fd ps sp := by
  obtain ⟨oc, od, kV, doc, pm, an, cdv, ct, osl, rfl, lk, hcd⟩ := F.ex
  refine fn_of lk hcd S len fun A outer s H vs Q E hr hsp => ?_
  obtain ⟨t, h, q⟩ := hbody cdv A outer s H vs Q E hr hsp
  exact ⟨t, h.nox, q⟩
/-- how its arguments bind (no defaults): h is «fun _ _ _ _ _ _ us hl => match us, hl with | [_, _], _ => rfl», one _ a parameter -/
theorem Fun.binds {x qual : Str} {st : Stmt} {f : Addr} {fd : FuncData} {ps : List Str} (F : Fun K x qual st f fd)
    (h : ∀ (kV doc pm : Value) (an : Option Addr) (cdv ct : Value) (us : List Value), us.length = ps.length → bindArgs (PySem.W.fnOf x qual (defArgs st) (defBody st) (defScope st) .none kV doc pm an cdv ct) ⟨us, []⟩ = pure (ps.zip us)) : Binds K fd ps [] := by
  obtain ⟨oc, od, kV, doc, pm, an, cdv, ct, osl, rfl, lk, hcd⟩ := F.ex
  exact .all (h kV doc pm an cdv ct)
theorem fun_mk {x qual : Str} {st : Stmt} {f : Addr} {oc : Value} {od an : Option Addr} {osl : Array (Option Value)} {kV doc pm cdv ct : Value} (l : K.lookup f = some ⟨oc, od, .func (PySem.W.fnOf x qual (defArgs st) (defBody st) (defScope st) .none kV doc pm an cdv ct), osl⟩)
    (c : PySem.W.codeIn K cdv qual = true) (k : PySem.W.keepIn K (.ref f) = true) : Fun K x qual st f (PySem.W.fnOf x qual (defArgs st) (defBody st) (defScope st) .none kV doc pm an cdv ct) := ⟨⟨oc, od, kV, doc, pm, an, cdv, ct, osl, rfl, l, c⟩, k⟩
end
theorem small1000 {n : Nat} (h : n ≤ 1000) : n < sizeLine := Nat.lt_of_le_of_lt h (by decide)

/-! ### expressions in short: the name that stands in the i-th slot -/
section
variable {X : Cx}
theorem pv (i : Nat) {x : Str} {pos : Pos} (hN : X.N[i]? = some x := by rfl) (hv : Vis X.env.scope x := by first | exact Or.inl rfl | exact Or.inr (Or.inl rfl) | exact Or.inr (Or.inr rfl)) (hd : (x == ("__debug__" : Str)) = false := by decide)
    (hcd : (x == ("__classdict__" : Str)) = false := by decide) : PE X (.Name x pos) (tVar i) := pe_var hN hv hd hcd
end

/-! ### tests -/
theorem iteF {A B : Prop} (h : B) : if false = true then A else B := by
  rw [if_neg Bool.false_ne_true]
  exact h
theorem iteT {A B : Prop} (h : A) : if true = true then A else B := by
  rw [if_pos rfl]
  exact h
theorem iteNS {c A B : Prop} [Decidable c] (hc : c) (h : B) : if (!decide c) = true then A else B := by
  rw [decide_eq_true hc]
  exact iteF h

/-! ### heaps -/
/-- all that was tracked is as it was -/
def Same (H H' : Hp) : Prop := ∀ b o, H b = some o → H' b = some o
theorem Same.refl (H : Hp) : Same H H := fun _ _ h => h
theorem Same.trans {H H1 H2 : Hp} (a : Same H H1) (b : Same H1 H2) : Same H H2 := fun c o h => b c o (a c o h)
theorem Same.free {H H' : Hp} (e : Same H H') {l : Addr} (h : H' l = Option.none) : H l = Option.none := by
  cases q : H l with
  | none => rfl
  | some o =>
    rw [e l o q] at h
    cases h
theorem Same.seq {K : PySem.W.Frag} {H H' : Hp} {a : Addr} {xs : List V} (e : Same H H') (h : SqL K H a xs) : SqL K H' a xs := by
  rcases h with (h | ⟨o, h⟩) | h
  · exact .inl (.inl (e _ _ h))
  · exact .inl (.inr ⟨o, e _ _ h⟩)
  · exact .inr h

end L2

set_option linter.all false
set_option maxRecDepth 100000
set_option maxHeartbeats 4000000

namespace Fs
/-- the ints from lo up to below hi -/
def upTo (lo hi : Int) : List Int := (List.range (hi - lo).toNat).map fun k => lo + (k : Nat)
theorem length_upTo (lo hi : Int) : (upTo lo hi).length = (hi - lo).toNat := by simp [upTo]
theorem get_upTo {lo hi : Int} {k : Nat} (h : k < (hi - lo).toNat) : (upTo lo hi)[k]? = some (lo + (k : Nat)) := by
  simp [upTo, h]
theorem mem_upTo {lo hi x : Int} : x ∈ upTo lo hi ↔ lo ≤ x ∧ x < hi := by
  simp only [upTo, List.mem_map, List.mem_range]
  constructor
  · rintro ⟨k, hk, rfl⟩
    omega
  · rintro ⟨h1, h2⟩
    exact ⟨(x - lo).toNat, by omega, by omega⟩
theorem sorted_upTo (lo hi : Int) : (upTo lo hi).Pairwise (· < ·) := by
  unfold upTo
  rw [List.pairwise_map]
  refine List.Pairwise.imp (fun {a b} h => ?_) (List.pairwise_lt_range (n := (hi - lo).toNat))
  omega
theorem sorted_eq : ∀ {l1 l2 : List Int}, l1.Perm l2 → l1.Pairwise (· ≤ ·) → l2.Pairwise (· ≤ ·) → l1 = l2
  | [], l2, p, _, _ => by simpa using p.symm.eq_nil
  | a :: l1, [], p, _, _ => by simpa using p.eq_nil
  | a :: l1, b :: l2, p, h1, h2 => by
    have ha : a ∈ b :: l2 := p.mem_iff.mp (by simp)
    have hb : b ∈ a :: l1 := p.mem_iff.mpr (by simp)
    rw [List.pairwise_cons] at h1 h2
    have e : a = b := by
      rcases List.mem_cons.mp ha with e | ha
      · exact e
      · rcases List.mem_cons.mp hb with e | hb
        · exact e.symm
        · exact Int.le_antisymm (h1.1 b hb) (h2.1 a ha)
    subst e
    rw [sorted_eq (List.Perm.cons_inv p) h1.2 h2.2]
theorem erase_perm : ∀ (l : List Int) (j : Nat), j < l.length → ([l.getD j 0] ++ l.eraseIdx j).Perm l
  | [], _, h => absurd h (Nat.not_lt_zero _)
  | x :: l, 0, _ => List.Perm.refl _
  | x :: l, j + 1, h => by
    have ih := erase_perm l j (by simpa using h)
    show (l.getD j 0 :: x :: l.eraseIdx j).Perm (x :: l)
    exact (List.Perm.swap _ _ _).trans (ih.cons x)
/-- a plain pile -/
structure Plain (xs : List Int) : Prop where
  pos : 1 ≤ xs.length
  perm : xs.Perm (upTo 1 (xs.length + 1))
def absI (i : Int) : Int := if i < 0 then -i else i
/-- a burnt pile -/
structure Burnt (xs : List Int) : Prop where
  pl : Plain (xs.map absI)
theorem Plain.mem {xs : List Int} (p : Plain xs) {x : Int} (h : x ∈ xs) : 1 ≤ x ∧ x ≤ xs.length := by
  have := mem_upTo.mp (p.perm.mem_iff.mp h)
  omega
theorem Plain.abs {xs : List Int} (p : Plain xs) : xs.map absI = xs := by
  have : ∀ x ∈ xs, absI x = x := fun x h => by
    have := p.mem h
    unfold absI
    rw [if_neg (by omega)]
  exact (List.map_congr_left this).trans (List.map_id _)
theorem Plain.burnt {xs : List Int} (p : Plain xs) : Burnt xs := ⟨by rw [p.abs]; exact p⟩
theorem Burnt.mem {xs : List Int} (p : Burnt xs) {x : Int} (h : x ∈ xs) : -(xs.length : Int) ≤ x ∧ x ≤ xs.length ∧ x ≠ 0 := by
  have h1 := p.pl.mem (x := absI x) (List.mem_map.mpr ⟨x, h, rfl⟩)
  rw [List.length_map] at h1
  unfold absI at h1
  split at h1 <;> omega
/-- turn t of xs -/
def sgn (b : Bool) (i : Int) : Int := if b then -i else i
def turnM (b : Bool) (t : Nat) (xs : List Int) : List Int := (xs.take t).reverse.map (sgn b) ++ xs.drop t
theorem length_turnM (b : Bool) (t : Nat) (xs : List Int) : (turnM b t xs).length = xs.length := by
  simp [turnM]
  omega
theorem abs_sgn (b : Bool) (i : Int) : absI (sgn b i) = absI i := by
  unfold absI sgn
  cases b
  · rfl
  · simp only [if_true]
    split <;> split <;> omega
theorem abs_turnM (b : Bool) (t : Nat) (xs : List Int) : (turnM b t xs).map absI = turnM false t (xs.map absI) := by
  simp only [turnM, List.map_append, List.map_map, List.map_reverse, List.map_take, List.map_drop]
  congr 2
  congr 1
  refine List.map_congr_left fun a _ => ?_
  exact abs_sgn b a
theorem perm_turnM (t : Nat) (xs : List Int) : (turnM false t xs).Perm xs := by
  have e : (xs.take t).reverse.map (sgn false) = (xs.take t).reverse := by
    have : (sgn false) = id := by funext i; rfl
    rw [this, List.map_id]
  unfold turnM
  rw [e]
  refine (List.Perm.append_right _ (List.reverse_perm _)).trans ?_
  rw [List.take_append_drop]
theorem Plain.turn {xs : List Int} (p : Plain xs) (t : Nat) : Plain (turnM false t xs) := by
  refine ⟨by rw [length_turnM]; exact p.pos, ?_⟩
  rw [length_turnM]
  exact (perm_turnM t xs).trans p.perm
theorem Burnt.turn {xs : List Int} (p : Burnt xs) (b : Bool) (t : Nat) : Burnt (turnM b t xs) := ⟨by rw [abs_turnM]; exact p.pl.turn t⟩
def behindM (b : Bool) (xs ts : List Int) : List Int := ts.foldl (fun x t => turnM b t.toNat x) xs
theorem length_behindM (b : Bool) : ∀ (ts xs : List Int), (behindM b xs ts).length = xs.length
  | [], _ => rfl
  | t :: ts, xs => by
    show (behindM b (turnM b t.toNat xs) ts).length = _
    rw [length_behindM b ts, length_turnM]
theorem Burnt.behind (b : Bool) : ∀ (ts : List Int) {xs : List Int}, Burnt xs → Burnt (behindM b xs ts)
  | [], _, p => p
  | t :: ts, _, p => Burnt.behind b ts (p.turn b t.toNat)
theorem behindM_snoc (b : Bool) (xs ts : List Int) (t : Int) : behindM b xs (ts ++ [t]) = turnM b t.toNat (behindM b xs ts) := by
  simp [behindM]
/-- what sorted(xs) != list(range(1, n + 1)) asks -/
theorem Plain.sorted {xs ms : List Int} (p : Plain xs) (h : ms.Perm xs) (hs : ms.Pairwise (· ≤ ·)) : ms = upTo 1 (xs.length + 1) :=
  sorted_eq (h.trans p.perm) hs ((sorted_upTo _ _).imp fun h => Int.le_of_lt h)
end Fs


namespace Fs
/-- how many neighbours are as p says -/
def cnt (p : Int → Int → Bool) : List Int → Nat
  | [] => 0
  | [_] => 0
  | x :: y :: r => (if p x y then 1 else 0) + cnt p (y :: r)
theorem cnt_app (p : Int → Int → Bool) (a b : Int) (r : List Int) : ∀ l : List Int, cnt p (l ++ a :: b :: r) = cnt p (l ++ [a]) + (if p a b then 1 else 0) + cnt p (b :: r)
  | [] => by simp [cnt]
  | [x] => by simp [cnt]; omega
  | x :: y :: l => by
    have ih := cnt_app p a b r (y :: l)
    simp only [List.cons_append, cnt] at ih ⊢
    omega
theorem cnt_rev (p : Int → Int → Bool) (f : Int → Int) (hf : ∀ x y, p (f y) (f x) = p x y) : ∀ l : List Int, cnt p (l.reverse.map f) = cnt p l
  | [] => rfl
  | [x] => rfl
  | x :: y :: l => by
    have ih := cnt_rev p f hf (y :: l)
    have e : ((x :: y :: l).reverse.map f) = (l.reverse.map f) ++ f y :: f x :: [] := by simp
    have e2 : ((y :: l).reverse.map f) = (l.reverse.map f) ++ [f y] := by simp
    rw [e, cnt_app, hf, ← e2, ih]
    simp only [cnt]
    omega
/-- a gap: plain, burnt -/
def bad (b : Bool) (x y : Int) : Bool := if b then decide (y - x ≠ 1) else decide (y - x ≠ 1 ∧ x - y ≠ 1)
theorem bad_iff (b : Bool) (x y : Int) : bad b x y = true ↔ y - x ≠ 1 ∧ (b = false → x - y ≠ 1) := by
  cases b <;> simp [bad]
theorem bad_false (b : Bool) (x y : Int) : bad b x y = false ↔ y - x = 1 ∨ (b = false ∧ x - y = 1) := by
  cases b
  · simp [bad]
    omega
  · simp [bad]
theorem bad_turn (b : Bool) (x y : Int) : bad b (sgn b y) (sgn b x) = bad b x y := by
  rw [Bool.eq_iff_iff, bad_iff, bad_iff]
  cases b
  · simp only [sgn, Bool.false_eq_true, if_false, forall_const]
    omega
  · simp only [sgn, if_true, Bool.true_eq_false, false_implies, and_true]
    omega
def gapsM (b : Bool) (xs : List Int) : Nat := cnt (bad b) (xs ++ [(xs.length : Int) + 1])
/-- a turn makes or takes away one gap at most -/
theorem gaps_turn (b : Bool) (t : Nat) (xs : List Int) (h1 : 1 ≤ t) (h2 : t ≤ xs.length) :
    gapsM b (turnM b t xs) ≤ gapsM b xs + 1 ∧ gapsM b xs ≤ gapsM b (turnM b t xs) + 1 := by
  have hl := length_turnM b t xs
  unfold gapsM
  rw [hl]
  generalize hn : (xs.length : Int) + 1 = n
  -- the upper part ends in a, begins with c; behind it lies d :: r
  obtain ⟨u, a, hu⟩ : ∃ u a, xs.take t = u ++ [a] := by
    have hne : xs.take t ≠ [] := by
      intro e
      have := congrArg List.length e
      rw [List.length_take] at this
      simp only [List.length_nil] at this
      omega
    exact ⟨(xs.take t).dropLast, (xs.take t).getLast hne, (List.dropLast_concat_getLast hne).symm⟩
  obtain ⟨c, v, hc⟩ : ∃ c v, xs.take t = c :: v := by
    cases e : xs.take t with
    | nil => rw [hu] at e; simp at e
    | cons c v => exact ⟨c, v, rfl⟩
  obtain ⟨d, r, hd⟩ : ∃ d r, xs.drop t ++ [n] = d :: r := by
    cases e : xs.drop t with
    | nil => exact ⟨n, [], rfl⟩
    | cons d r => exact ⟨d, r ++ [n], rfl⟩
  have e1 : xs ++ [n] = u ++ a :: d :: r := by
    have q : xs ++ [n] = xs.take t ++ (xs.drop t ++ [n]) := by rw [← List.append_assoc, List.take_append_drop]
    rw [q, hd, hu]
    simp
  have e2 : turnM b t xs ++ [n] = (v.reverse.map (sgn b)) ++ sgn b c :: d :: r := by
    have q : turnM b t xs ++ [n] = (xs.take t).reverse.map (sgn b) ++ (xs.drop t ++ [n]) := by simp [turnM]
    rw [q, hd, hc]
    simp
  have e3 : cnt (bad b) (v.reverse.map (sgn b) ++ [sgn b c]) = cnt (bad b) (u ++ [a]) := by
    have q : v.reverse.map (sgn b) ++ [sgn b c] = (xs.take t).reverse.map (sgn b) := by rw [hc]; simp
    rw [q, cnt_rev _ _ (bad_turn b), hu]
  rw [e1, e2, cnt_app, cnt_app, e3]
  constructor <;> (split <;> split <;> omega)
/-- the pile in order has no gaps -/
theorem cnt_upTo (b : Bool) : ∀ (k : Nat) (lo : Int), cnt (bad b) ((List.range k).map (fun j => lo + (j : Nat)) ++ [lo + (k : Nat)]) = 0
  | 0, lo => rfl
  | k + 1, lo => by
    have ih := cnt_upTo b k (lo + 1)
    have e : (List.range (k + 1)).map (fun j => lo + ((j : Nat) : Int)) ++ [lo + ((k + 1 : Nat) : Int)] = lo :: ((List.range k).map (fun j => (lo + 1) + ((j : Nat) : Int)) ++ [(lo + 1) + ((k : Nat) : Int)]) := by
      rw [List.range_succ_eq_map]
      simp only [List.map_cons, List.map_map, List.cons_append]
      congr 1
      · simp
      congr 1
      · refine List.map_congr_left fun j _ => ?_
        simp only [Function.comp_apply]
        omega
      · congr 1
        omega
    rw [e]
    cases hk : (List.range k).map (fun j => (lo + 1) + ((j : Nat) : Int)) ++ [(lo + 1) + ((k : Nat) : Int)] with
    | nil => simp at hk
    | cons y r =>
      rw [hk] at ih
      have hy : y = lo + 1 := by
        cases k with
        | zero => simp at hk; omega
        | succ k =>
          rw [List.range_succ_eq_map] at hk
          simp at hk
          omega
      subst hy
      have hb : bad b lo (lo + 1) = false := (bad_false b lo (lo + 1)).mpr (.inl (by omega))
      simp only [cnt, ih, hb]
      simp
theorem gaps_sorted (b : Bool) (n : Nat) : gapsM b (upTo 1 ((n : Int) + 1)) = 0 := by
  have h := cnt_upTo b n 1
  unfold gapsM
  rw [length_upTo]
  have e : upTo 1 ((n : Int) + 1) = (List.range n).map fun j => 1 + ((j : Nat) : Int) := by
    unfold upTo
    have : ((n : Int) + 1 - 1).toNat = n := by omega
    rw [this]
  have e2 : ((((n : Int) + 1 - 1).toNat : Nat) : Int) + 1 = 1 + ((n : Nat) : Int) := by omega
  rw [e2, e]
  exact h
end Fs


namespace Fs
/-- the first k neighbours -/
def cntK (p : Int → Int → Bool) (l : List Int) (k : Nat) : Nat := ((List.range k).filter fun i => p (l.getD i 0) (l.getD (i + 1) 0)).length
/-- as the program counts: over the pairs -/
theorem cnt_zip (p : Int → Int → Bool) (m : Int) : ∀ xs : List Int, ((xs.zip (xs.drop 1 ++ [m])).filter fun q => p q.1 q.2).length = cnt p (xs ++ [m])
  | [] => rfl
  | [x] => by
    simp only [List.drop_succ_cons, List.drop_zero, List.nil_append, List.zip_cons_cons, List.zip_nil_left, List.filter_cons, List.filter_nil, List.cons_append, cnt]
    split <;> simp_all
  | x :: y :: r => by
    have ih := cnt_zip p m (y :: r)
    simp only [List.drop_succ_cons, List.drop_zero] at ih ⊢
    simp only [List.cons_append, List.zip_cons_cons, List.filter_cons, cnt] at ih ⊢
    split
    · simp_all
      omega
    · simp_all
end Fs


namespace Fs
/-- turns that a pile of n cakes has -/
def Turns (n : Nat) (ts : List Int) : Prop := ∀ t ∈ ts, 1 ≤ t ∧ t ≤ (n : Int)
theorem behindM_app (b : Bool) (xs ts us : List Int) : behindM b xs (ts ++ us) = behindM b (behindM b xs ts) us := by
  simp [behindM]
theorem gaps_behind (b : Bool) : ∀ (ts xs : List Int), Turns xs.length ts → gapsM b xs ≤ ts.length + gapsM b (behindM b xs ts)
  | [], xs, _ => by simp [behindM]
  | t :: ts, xs, h => by
    have h1 := h t (by simp)
    have h2 := (gaps_turn b t.toNat xs (by omega) (by omega)).2
    have h3 := gaps_behind b ts (turnM b t.toNat xs) (fun u hu => by rw [length_turnM]; exact h u (List.mem_cons_of_mem _ hu))
    have e : behindM b xs (t :: ts) = behindM b (turnM b t.toNat xs) ts := rfl
    rw [e, List.length_cons]
    omega
/-- what a turn does to a place -/
theorem turn_at_hi (b : Bool) (t : Nat) (xs : List Int) (j : Nat) (h : t ≤ j) (ht : t ≤ xs.length) : (turnM b t xs)[j]? = xs[j]? := by
  unfold turnM
  rw [List.getElem?_append_right (by simp; omega)]
  simp only [List.length_map, List.length_reverse, List.length_take]
  rw [List.getElem?_drop]
  congr 1
  omega
theorem turn_at_lo (b : Bool) (t : Nat) (xs : List Int) (j : Nat) (h : j < t) (ht : t ≤ xs.length) : (turnM b t xs)[j]? = (xs[t - 1 - j]?).map (sgn b) := by
  unfold turnM
  rw [List.getElem?_append_left (by simp; omega), List.getElem?_map, List.getElem?_reverse (by simp; omega)]
  simp only [List.length_take]
  rw [List.getElem?_take_of_lt (by omega)]
  congr 2
  omega
/-- the turns that bring cake c to its place -/
def placeM (xs : List Int) (c : Int) : Nat := (xs.map absI).idxOf c + 1
def upM (xs : List Int) (c : Int) : List Int := if placeM xs c ≠ 1 then [(placeM xs c : Int)] else []
def burnM (b : Bool) (xs : List Int) (c : Int) : List Int := if b = true ∧ (behindM b xs (upM xs c)).getD 0 0 > 0 then [1] else []
def movesM (b : Bool) (xs : List Int) (c : Nat) : List Int :=
  if xs.getD (c - 1) 0 = (c : Int) then [] else upM xs c ++ burnM b xs c ++ [(c : Int)]
/-- the cakes above c lie as they do in order -/
def Fixed (c : Nat) (xs : List Int) : Prop := ∀ j : Nat, c ≤ j → j < xs.length → xs[j]? = some ((j : Int) + 1)
structure Ok (b : Bool) (c : Nat) (xs : List Int) : Prop where
  bt : Burnt xs
  pl : b = false → Plain xs
  fx : Fixed c xs
theorem Ok.turn {b : Bool} {c : Nat} {xs : List Int} (h : Ok b c xs) {t : Nat} (ht : t ≤ c) (hc : c ≤ xs.length) : Ok b c (turnM b t xs) := by
  refine ⟨h.bt.turn b t, fun e => ?_, fun j h1 h2 => ?_⟩
  · subst e; exact (h.pl rfl).turn t
  · rw [length_turnM] at h2
    rw [turn_at_hi b t xs j (by omega) (by omega)]
    exact h.fx j h1 h2
theorem absI_eq {x c : Int} (h : absI x = c) : x = c ∨ x = -c := by
  unfold absI at h
  split at h <;> omega
/-- where cake c lies -/
theorem Ok.place {b : Bool} {c : Nat} {xs : List Int} (h : Ok b c xs) (h1 : 1 ≤ c) (h2 : c ≤ xs.length) :
    1 ≤ placeM xs c ∧ placeM xs c ≤ c ∧ ∃ x, xs[placeM xs c - 1]? = some x ∧ absI x = c ∧ (b = false → x = c) := by
  have hm : (c : Int) ∈ xs.map absI := by
    rw [h.bt.pl.perm.mem_iff, mem_upTo, List.length_map]
    omega
  have hi : (xs.map absI).idxOf (c : Int) < (xs.map absI).length := List.idxOf_lt_length_iff.mpr hm
  have hg : (xs.map absI)[(xs.map absI).idxOf (c : Int)]? = some (c : Int) := by
    rw [List.getElem?_eq_getElem hi]
    congr 1
    exact List.getElem_idxOf hi
  rw [List.length_map] at hi
  rw [List.getElem?_map] at hg
  obtain ⟨x, hx, ha⟩ : ∃ x, xs[(xs.map absI).idxOf (c : Int)]? = some x ∧ absI x = c := by
    cases e : xs[(xs.map absI).idxOf (c : Int)]? with
    | none => rw [e] at hg; cases hg
    | some x => rw [e] at hg; exact ⟨x, rfl, Option.some.inj hg⟩
  have hlt : (xs.map absI).idxOf (c : Int) < c := by
    by_cases hj : c ≤ (xs.map absI).idxOf (c : Int)
    · have := h.fx _ hj hi
      rw [hx] at this
      cases this
      have h0 : absI (((xs.map absI).idxOf (c : Int) : Int) + 1) = ((xs.map absI).idxOf (c : Int) : Int) + 1 := if_neg (by omega)
      rw [h0] at ha
      omega
    · omega
  refine ⟨by unfold placeM; omega, by unfold placeM; omega, x, by unfold placeM; simpa using hx, ha, fun e => ?_⟩
  have := (h.pl e).mem (List.mem_of_getElem? hx)
  rcases absI_eq ha with q | q <;> omega
theorem getD_some {xs : List Int} {j : Nat} {x : Int} (h : xs[j]? = some x) : xs.getD j 0 = x := by
  rw [List.getD_eq_getElem?_getD, h]
  rfl
theorem upM_turns {b : Bool} {c : Nat} {xs : List Int} (h : Ok b c xs) (h1 : 1 ≤ c) (h2 : c ≤ xs.length) : Turns c (upM xs c) ∧ (upM xs c).length ≤ 1 := by
  obtain ⟨q1, q2, _⟩ := h.place h1 h2
  unfold upM
  split
  · refine ⟨fun t ht => ?_, by simp⟩
    simp at ht
    subst ht
    omega
  · exact ⟨fun t ht => by simp at ht, by simp⟩
theorem Ok.up {b : Bool} {c : Nat} {xs : List Int} (h : Ok b c xs) (h1 : 1 ≤ c) (h2 : c ≤ xs.length) :
    Ok b c (behindM b xs (upM xs c)) ∧ ∃ x, (behindM b xs (upM xs c))[0]? = some x ∧ absI x = c ∧ (b = false → x = c) := by
  obtain ⟨q1, q2, x, q3, q4, q5⟩ := h.place h1 h2
  unfold upM
  split
  · rename_i hne
    show Ok b c (turnM b (placeM xs c : Int).toNat xs) ∧ _
    have e : ((placeM xs c : Nat) : Int).toNat = placeM xs c := by omega
    refine ⟨by rw [e]; exact h.turn q2 h2, sgn b x, ?_, ?_, fun e => ?_⟩
    · show (turnM b (placeM xs c : Int).toNat xs)[0]? = _
      rw [e, turn_at_lo b _ xs 0 (by omega) (by omega)]
      rw [Nat.sub_zero, q3]
      rfl
    · rw [abs_sgn]; exact q4
    · subst e; exact q5 rfl
  · rename_i he
    have he : placeM xs c = 1 := by omega
    rw [he] at q3
    exact ⟨h, x, q3, q4, q5⟩
theorem Ok.burn {b : Bool} {c : Nat} {xs : List Int} (h : Ok b c xs) (h1 : 1 ≤ c) (h2 : c ≤ xs.length) :
    Ok b c (behindM b xs (upM xs c ++ burnM b xs c)) ∧ (behindM b xs (upM xs c ++ burnM b xs c))[0]? = some (sgn b c) := by
  obtain ⟨k, x, e1, e2, e3⟩ := h.up h1 h2
  rw [behindM_app]
  have hl : (behindM b xs (upM xs c)).length = xs.length := length_behindM b _ _
  unfold burnM
  split
  · rename_i hc
    obtain ⟨hb, hx⟩ := hc
    rw [getD_some e1] at hx
    have hxc : x = c := by rcases absI_eq e2 with q | q <;> omega
    subst hb
    show Ok true c (turnM true 1 _) ∧ (turnM true 1 _)[0]? = _
    refine ⟨k.turn (t := 1) (by omega) (by omega), ?_⟩
    rw [turn_at_lo true 1 _ 0 (by omega) (by rw [hl]; omega), Nat.sub_self, e1, hxc]
    rfl
  · rename_i hc
    refine ⟨k, ?_⟩
    show (behindM b xs (upM xs c))[0]? = _
    rw [e1]
    cases b with
    | false => rw [e3 rfl]; rfl
    | true =>
      rw [getD_some e1] at hc
      have hx : ¬ x > 0 := fun z => hc ⟨rfl, z⟩
      congr 1
      show x = -(c : Int)
      rcases absI_eq e2 with q | q <;> omega
theorem sgn_sgn (b : Bool) (i : Int) : sgn b (sgn b i) = i := by
  cases b
  · rfl
  · simp [sgn]
theorem Ok.moves {b : Bool} {c : Nat} {xs : List Int} (h : Ok b (c + 1) xs) (h2 : c + 1 ≤ xs.length) :
    Ok b c (behindM b xs (movesM b xs (c + 1))) := by
  unfold movesM
  have more : ∀ {ys : List Int}, Ok b (c + 1) ys → ys.length = xs.length → ys[c]? = some ((c : Int) + 1) → Ok b c ys := fun {ys} k hl e => by
    refine ⟨k.bt, k.pl, fun j h1 h2 => ?_⟩
    by_cases hj : j = c
    · subst hj; exact e
    · exact k.fx j (by omega) h2
  split
  · rename_i e
    have hc : c + 1 - 1 < xs.length := by omega
    have e' : xs[c]? = some ((c : Int) + 1) := by
      rw [List.getD_eq_getElem?_getD, List.getElem?_eq_getElem hc] at e
      rw [List.getElem?_eq_getElem (by omega)]
      simpa using e
    exact more h rfl e'
  · rw [behindM_app]
    obtain ⟨k, e⟩ := h.burn (by omega) h2
    generalize hy : behindM b xs (upM xs ((c + 1 : Nat) : Int) ++ burnM b xs ((c + 1 : Nat) : Int)) = ys at k e
    have hl : ys.length = xs.length := by rw [← hy]; exact length_behindM b _ _
    show Ok b c (turnM b ((c + 1 : Nat) : Int).toNat ys)
    have et : ((c + 1 : Nat) : Int).toNat = c + 1 := by omega
    rw [et]
    refine more (k.turn (Nat.le_refl _) (by omega)) (by rw [length_turnM, hl]) ?_
    rw [turn_at_lo b (c + 1) ys c (by omega) (by omega)]
    have : c + 1 - 1 - c = 0 := by omega
    rw [this, e]
    show some (sgn b (sgn b _)) = _
    rw [sgn_sgn]
    rfl
theorem burnM_turns (b : Bool) (xs : List Int) (c : Nat) (h1 : 1 ≤ c) : Turns c (burnM b xs c) ∧ (burnM b xs c).length ≤ (if b then 1 else 0) := by
  unfold burnM
  split
  · rename_i h
    refine ⟨fun t ht => ?_, by rw [h.1]; simp⟩
    simp at ht
    subst ht
    omega
  · exact ⟨fun t ht => by simp at ht, by simp⟩
theorem movesM_turns {b : Bool} {c : Nat} {xs : List Int} (h : Ok b c xs) (h1 : 1 ≤ c) (h2 : c ≤ xs.length) : Turns c (movesM b xs c) ∧ (movesM b xs c).length ≤ (if b then 3 else 2) := by
  obtain ⟨u1, u2⟩ := upM_turns h h1 h2
  obtain ⟨v1, v2⟩ := burnM_turns b xs c h1
  unfold movesM
  split
  · exact ⟨fun t ht => by simp at ht, by simp⟩
  · refine ⟨fun t ht => ?_, ?_⟩
    · rcases List.mem_append.mp ht with ht | ht
      · rcases List.mem_append.mp ht with ht | ht
        · exact u1 t ht
        · exact v1 t ht
      · simp at ht
        subst ht
        omega
    · simp only [List.length_append, List.length_cons, List.length_nil]
      cases b <;> simp_all <;> omega
end Fs
namespace Fs
/-- the rule's plan for the cakes from c down -/
def ruleM (b : Bool) : Nat → List Int → List Int
  | 0, _ => []
  | c + 1, xs => movesM b xs (c + 1) ++ ruleM b c (behindM b xs (movesM b xs (c + 1)))
theorem ruleM_succ (b : Bool) (c : Nat) (xs : List Int) : ruleM b (c + 1) xs = movesM b xs (c + 1) ++ ruleM b c (behindM b xs (movesM b xs (c + 1))) := rfl
theorem Turns.mono {m n : Nat} {ts : List Int} (h : Turns m ts) (hn : m ≤ n) : Turns n ts := fun t ht => by
  have := h t ht
  omega
theorem Turns.app {n : Nat} {ts us : List Int} (h : Turns n ts) (k : Turns n us) : Turns n (ts ++ us) := fun t ht => (List.mem_append.mp ht).elim (h t) (k t)
theorem Ok.rule (b : Bool) : ∀ (c : Nat) {xs : List Int}, Ok b c xs → c ≤ xs.length → Ok b 0 (behindM b xs (ruleM b c xs)) ∧ Turns xs.length (ruleM b c xs)
  | 0, xs, h, _ => ⟨h, fun t ht => by simp [ruleM] at ht⟩
  | c + 1, xs, h, h2 => by
    have k := h.moves h2
    have hl : (behindM b xs (movesM b xs (c + 1))).length = xs.length := length_behindM b _ _
    obtain ⟨r1, r2⟩ := Ok.rule b c k (by omega)
    rw [hl] at r2
    rw [ruleM_succ, behindM_app]
    exact ⟨r1, ((movesM_turns h (by omega) h2).1.mono h2).app r2⟩
theorem Ok.sorted {b : Bool} {xs : List Int} (h : Ok b 0 xs) : xs = upTo 1 ((xs.length : Int) + 1) := by
  refine List.ext_getElem? fun j => ?_
  by_cases hj : j < xs.length
  · rw [h.fx j (Nat.zero_le _) hj, get_upTo (by omega)]
    congr 1
    omega
  · rw [List.getElem?_eq_none (by omega), List.getElem?_eq_none (by rw [length_upTo]; omega)]
/-- at most one turn for the last but one cake of a plain pile, and for the last one of a burnt pile; none for the last one of a plain pile -/
theorem moves_one {b : Bool} {xs : List Int} (h : Ok b 1 xs) (h2 : 1 ≤ xs.length) : (movesM b xs 1).length ≤ (if b then 1 else 0) := by
  obtain ⟨q1, q2, x, q3, q4, q5⟩ := h.place (c := 1) (Nat.le_refl _) h2
  have hp : placeM xs ((1 : Nat) : Int) = 1 := by omega
  rw [hp] at q3
  have hx : xs[0]? = some x := q3
  unfold movesM
  split
  · simp
  · rename_i hne
    rw [getD_some (show xs[1 - 1]? = some x from hx)] at hne
    cases b with
    | false => exact absurd (q5 rfl) hne
    | true =>
      have hu : upM xs ((1 : Nat) : Int) = [] := by unfold upM; rw [if_neg (by omega)]
      have hx1 : x = -1 := by rcases absI_eq q4 with z | z <;> omega
      have hv : burnM true xs ((1 : Nat) : Int) = [] := by
        unfold burnM
        rw [if_neg]
        rintro ⟨_, z⟩
        rw [hu] at z
        have : (behindM true xs []).getD 0 0 = x := getD_some hx
        omega
      rw [hu, hv]
      simp
theorem moves_two {xs : List Int} (h : Ok false 2 xs) (h2 : 2 ≤ xs.length) : (movesM false xs 2).length ≤ 1 := by
  obtain ⟨q1, q2, x, q3, q4, q5⟩ := h.place (c := 2) (by omega) h2
  have hx := q5 rfl
  unfold movesM
  split
  · simp
  · rename_i hne
    have hp : placeM xs ((2 : Nat) : Int) = 1 := by
      by_cases hp : placeM xs ((2 : Nat) : Int) = 1
      · exact hp
      · exfalso
        have hp : placeM xs ((2 : Nat) : Int) = 2 := by omega
        rw [hp] at q3
        exact hne (by rw [getD_some q3]; exact hx)
    have hu : upM xs ((2 : Nat) : Int) = [] := by unfold upM; rw [if_neg (by omega)]
    have hv : burnM false xs ((2 : Nat) : Int) = [] := by
      unfold burnM
      rw [if_neg]
      rintro ⟨z, _⟩
      cases z
    rw [hu, hv]
    simp
theorem rule_len_plain : ∀ (c : Nat) {xs : List Int}, Ok false c xs → c ≤ xs.length → (ruleM false c xs).length ≤ 2 * c - 3
  | 0, _, _, _ => by simp [ruleM]
  | 1, xs, h, h2 => by
    have := moves_one h h2
    simpa [ruleM] using this
  | 2, xs, h, h2 => by
    have k := h.moves (c := 1) h2
    have h3 : (movesM false (behindM false xs (movesM false xs (1 + 1))) (0 + 1)).length ≤ _ := moves_one k (by rw [length_behindM]; omega)
    have h4 : (movesM false xs (1 + 1)).length ≤ 1 := moves_two h h2
    rw [ruleM_succ, List.length_append, ruleM_succ, List.length_append]
    simp only [ruleM, List.length_nil]
    simp only [Bool.false_eq_true, if_false] at h3
    omega
  | c + 3, xs, h, h2 => by
    have ih := rule_len_plain (c + 2) (h.moves h2) (by rw [length_behindM]; omega)
    have this : (movesM false xs (c + 2 + 1)).length ≤ _ := (movesM_turns h (by omega) h2).2
    rw [ruleM_succ, List.length_append]
    simp only [Bool.false_eq_true, if_false] at this
    omega
theorem ok_start {b : Bool} {xs : List Int} (h : Burnt xs) (hp : b = false → Plain xs) : Ok b xs.length xs := ⟨h, hp, fun j h1 h2 => by omega⟩
theorem rule_sorts {b : Bool} {xs : List Int} (h : Burnt xs) (hp : b = false → Plain xs) : behindM b xs (ruleM b xs.length xs) = upTo 1 ((xs.length : Int) + 1) := by
  have := ((ok_start h hp).rule b xs.length (Nat.le_refl _)).1.sorted
  rwa [length_behindM] at this
end Fs


namespace Fs
theorem upTo_nil {lo hi : Int} (h : hi ≤ lo) : upTo lo hi = [] := by
  unfold upTo
  have : (hi - lo).toNat = 0 := by omega
  rw [this]
  rfl
theorem upTo_cons {lo hi : Int} (h : lo < hi) : upTo lo hi = lo :: upTo (lo + 1) hi := by
  unfold upTo
  obtain ⟨k, hk⟩ : ∃ k, (hi - lo).toNat = k + 1 := ⟨(hi - lo).toNat - 1, by omega⟩
  have hk' : (hi - (lo + 1)).toNat = k := by omega
  rw [hk, hk', List.range_succ_eq_map, List.map_cons, List.map_map]
  congr 1
  · simp
  · refine List.map_congr_left fun j _ => ?_
    simp only [Function.comp_apply]
    omega
/-- the first of these turns behind which f finds something -/
def tryT (f : List Int → Option (List Int)) (b : Bool) (xs : List Int) : List Int → Option (List Int)
  | [] => none
  | t :: ts => match f (turnM b t.toNat xs) with
    | some r => some (t :: r)
    | none => tryT f b xs ts
/-- a plan of at most m turns, as the search finds it -/
def planW (b : Bool) : Nat → List Int → Option (List Int)
  | 0, xs => if 0 < gapsM b xs then none else some []
  | m + 1, xs => if m + 1 < gapsM b xs then none else if gapsM b xs = 0 then some [] else tryT (planW b m) b xs (upTo 1 ((xs.length : Int) + 1))
/-- the first bound at which the search finds something -/
def scanM (f : Nat → Option (List Int)) (z : List Int) : Nat → Nat → List Int
  | _, 0 => z
  | m, k + 1 => match f m with
    | some r => r
    | none => scanM f z (m + 1) k
def fewM (b : Bool) (xs : List Int) : List Int :=
  scanM (fun m => planW b m xs) (ruleM b xs.length xs) (gapsM b xs) ((ruleM b xs.length xs).length + 1 - gapsM b xs)
/-- a plan -/
structure IsPlan (b : Bool) (xs ts : List Int) : Prop where
  tn : Turns xs.length ts
  no : gapsM b (behindM b xs ts) = 0
theorem IsPlan.cons {b : Bool} {xs ts : List Int} {t : Int} (h1 : 1 ≤ t) (h2 : t ≤ xs.length) (h : IsPlan b (turnM b t.toNat xs) ts) : IsPlan b xs (t :: ts) := by
  refine ⟨fun u hu => ?_, h.no⟩
  rcases List.mem_cons.mp hu with e | hu
  · subst e; exact ⟨h1, h2⟩
  · have := h.tn u hu
    rwa [length_turnM] at this
theorem IsPlan.tail {b : Bool} {xs ts : List Int} {t : Int} (h : IsPlan b xs (t :: ts)) : IsPlan b (turnM b t.toNat xs) ts :=
  ⟨fun u hu => by rw [length_turnM]; exact h.tn u (List.mem_cons_of_mem _ hu), h.no⟩
theorem IsPlan.gaps {b : Bool} {xs ts : List Int} (h : IsPlan b xs ts) : gapsM b xs ≤ ts.length := by
  have := gaps_behind b ts xs h.tn
  rw [h.no] at this
  omega
theorem tryT_skip {f : List Int → Option (List Int)} {b : Bool} {xs : List Int} {t : Int} {ts : List Int} (h : f (turnM b t.toNat xs) = none) : tryT f b xs (t :: ts) = tryT f b xs ts := by
  conv => lhs; unfold tryT
  rw [h]
theorem tryT_take {f : List Int → Option (List Int)} {b : Bool} {xs : List Int} {t : Int} {ts r : List Int} (h : f (turnM b t.toNat xs) = some r) : tryT f b xs (t :: ts) = some (t :: r) := by
  conv => lhs; unfold tryT
  rw [h]
theorem tryT_some {f : List Int → Option (List Int)} {b : Bool} {xs : List Int} : ∀ {us r : List Int}, tryT f b xs us = some r → ∃ t r', r = t :: r' ∧ t ∈ us ∧ f (turnM b t.toNat xs) = some r'
  | [], _, h => nomatch h
  | u :: us, r, h => by
    unfold tryT at h
    cases e : f (turnM b u.toNat xs) with
    | some r' =>
      rw [e] at h
      cases h
      exact ⟨u, r', rfl, List.mem_cons_self, e⟩
    | none =>
      rw [e] at h
      obtain ⟨t, r', e1, e2, e3⟩ := tryT_some h
      exact ⟨t, r', e1, List.mem_cons_of_mem _ e2, e3⟩
theorem tryT_none {f : List Int → Option (List Int)} {b : Bool} {xs : List Int} : ∀ {us : List Int}, tryT f b xs us = none → ∀ t ∈ us, f (turnM b t.toNat xs) = none
  | [], _, _, h => nomatch h
  | u :: us, h, t, ht => by
    unfold tryT at h
    cases e : f (turnM b u.toNat xs) with
    | some r' => rw [e] at h; cases h
    | none =>
      rw [e] at h
      rcases List.mem_cons.mp ht with z | ht
      · rw [z]; exact e
      · exact tryT_none h t ht
theorem planW_zero {b : Bool} {xs : List Int} (h : gapsM b xs = 0) (m : Nat) : planW b m xs = some [] := by
  cases m with
  | zero => unfold planW; rw [if_neg (by omega)]
  | succ m => unfold planW; rw [if_neg (by omega), if_pos h]
theorem planW_few {b : Bool} {xs : List Int} {m : Nat} (h : m < gapsM b xs) : planW b m xs = none := by
  cases m with
  | zero => unfold planW; rw [if_pos h]
  | succ m => unfold planW; rw [if_pos h]
theorem planW_step {b : Bool} {xs : List Int} {m : Nat} (h : gapsM b xs ≤ m + 1) (h0 : gapsM b xs ≠ 0) : planW b (m + 1) xs = tryT (planW b m) b xs (upTo 1 ((xs.length : Int) + 1)) := by
  unfold planW
  rw [if_neg (by omega), if_neg h0]
theorem planW_some {b : Bool} : ∀ {m : Nat} {xs ts : List Int}, planW b m xs = some ts → IsPlan b xs ts ∧ ts.length ≤ m
  | 0, xs, ts, h => by
    unfold planW at h
    split at h
    · cases h
    · cases h
      exact ⟨⟨fun t ht => by simp at ht, by show gapsM b xs = 0; omega⟩, Nat.le_refl _⟩
  | m + 1, xs, ts, h => by
    unfold planW at h
    split at h
    · cases h
    · split at h
      · rename_i h0
        cases h
        exact ⟨⟨fun t ht => by simp at ht, h0⟩, Nat.zero_le _⟩
      · obtain ⟨t, r, rfl, ht, e⟩ := tryT_some h
        obtain ⟨p, l⟩ := planW_some e
        rw [mem_upTo] at ht
        exact ⟨p.cons ht.1 (by omega), by rw [List.length_cons]; omega⟩
theorem planW_none {b : Bool} : ∀ {m : Nat} {xs ts : List Int}, planW b m xs = none → IsPlan b xs ts → m < ts.length
  | 0, xs, ts, h, p => by
    unfold planW at h
    split at h
    · have := p.gaps
      omega
    · cases h
  | m + 1, xs, ts, h, p => by
    have hg := p.gaps
    unfold planW at h
    split at h
    · omega
    · split at h
      · cases h
      · cases ts with
        | nil => simp at hg; omega
        | cons t ts =>
          have ht := p.tn t List.mem_cons_self
          have := planW_none (tryT_none h t (by rw [mem_upTo]; omega)) p.tail
          rw [List.length_cons]
          omega
theorem scanM_spec (f : Nat → Option (List Int)) (z : List Int) : ∀ (k m : Nat), (∃ j, m ≤ j ∧ j < m + k ∧ f j ≠ none) → ∃ d, m ≤ d ∧ d < m + k ∧ f d = some (scanM f z m k) ∧ ∀ j, m ≤ j → j < d → f j = none
  | 0, m, ⟨j, h1, h2, _⟩ => by omega
  | k + 1, m, ⟨j, h1, h2, h3⟩ => by
    cases e : f m with
    | some r =>
      refine ⟨m, Nat.le_refl _, by omega, ?_, fun i h1 h2 => by omega⟩
      unfold scanM
      rw [e]
    | none =>
      have hj : m + 1 ≤ j := by
        by_cases q : j = m
        · subst q; exact absurd e h3
        · omega
      obtain ⟨d, d1, d2, d3, d4⟩ := scanM_spec f z k (m + 1) ⟨j, hj, by omega, h3⟩
      refine ⟨d, by omega, by omega, ?_, fun i h1 h2 => ?_⟩
      · rw [d3]
        conv => rhs; unfold scanM
        rw [e]
      · by_cases q : i = m
        · subst q; exact e
        · exact d4 i (by omega) h2
/-- piles as the calls take them -/
structure Pile (b : Bool) (xs : List Int) : Prop where
  bt : Burnt xs
  pl : b = false → Plain xs
theorem Plain.pile {xs : List Int} (p : Plain xs) : Pile false xs := ⟨p.burnt, fun _ => p⟩
theorem Pile.rule {b : Bool} {xs : List Int} (h : Pile b xs) : IsPlan b xs (ruleM b xs.length xs) := by
  refine ⟨((ok_start h.bt h.pl).rule b xs.length (Nat.le_refl _)).2, ?_⟩
  rw [rule_sorts h.bt h.pl]
  exact gaps_sorted b xs.length
theorem few_spec {b : Bool} {xs : List Int} (h : Pile b xs) : planW b (fewM b xs).length xs = some (fewM b xs) ∧ IsPlan b xs (fewM b xs) ∧ (∀ ts, IsPlan b xs ts → (fewM b xs).length ≤ ts.length) := by
  have hg := h.rule.gaps
  obtain ⟨d, d1, d2, d3, d4⟩ := scanM_spec (fun m => planW b m xs) (ruleM b xs.length xs) ((ruleM b xs.length xs).length + 1 - gapsM b xs) (gapsM b xs)
    ⟨(ruleM b xs.length xs).length, hg, by omega, fun e => by have := planW_none e h.rule; omega⟩
  have d3 : planW b d xs = some (fewM b xs) := d3
  obtain ⟨p, l⟩ := planW_some d3
  have low : ∀ ts, IsPlan b xs ts → d ≤ ts.length := fun ts q => by
    by_cases hl : d ≤ ts.length
    · exact hl
    · exfalso
      have q2 := d4 ts.length q.gaps (by omega)
      have := planW_none q2 q
      omega
  have e : (fewM b xs).length = d := Nat.le_antisymm l (low _ p)
  refine ⟨by rw [e]; exact d3, p, fun ts q => by rw [e]; exact low ts q⟩
theorem Pile.few_le {b : Bool} {xs ts : List Int} (h : Pile b xs) (p : IsPlan b xs ts) : (fewM b xs).length ≤ ts.length := (few_spec h).2.2 ts p
/-- the first of the turns ts behind which one turn fewer is told, with what is told there -/
def dueM (b : Bool) (xs : List Int) (d : Nat) : List Int → List Int
  | [] => []
  | t :: ts => if (fewM b (turnM b t.toNat xs)).length + 1 = d then t :: fewM b (turnM b t.toNat xs) else dueM b xs d ts
end Fs
namespace Fs
theorem few_short_plain {xs : List Int} (h : Plain xs) (hl : xs.length ≤ 7) : (fewM false xs).length ≤ 11 := by
  have h1 := h.pile.few_le h.pile.rule
  have h2 := rule_len_plain xs.length (ok_start h.burnt fun _ => h) (Nat.le_refl _)
  omega
end Fs


namespace Fs
/-! ways between two plain piles -/
/-- a cake's place in ys -/
def placeI (ys : List Int) (c : Int) : Int := (ys.idxOf c : Nat) + 1
def namedM (xs ys : List Int) : List Int := xs.map (placeI ys)
/-! distances -/
end Fs


/-! LIST COMPREHENSIONS over the layer: the block as a context of its own. -/
namespace L2
open PySem PySem.Spec PyProof.Rows

theorem closure_ex {sc : Scope} {env : Env} (h : ∀ x ∈ sc.names, x.2 = NameKind.free → ∃ c, env.cells.lookup x.1 = some c) :
    ∃ cl : List (Str × Addr), closureFor sc env = pure cl ∧ (∀ x c, cl.lookup x = some c → env.cells.lookup x = some c) ∧ ∀ x, (x, NameKind.free) ∈ sc.names → (cl.lookup x).isSome = true := by
  have key : ∀ (f : Str × NameKind → List (Str × Addr) → Sem (ForInStep (List (Str × Addr)))) (hf : ∀ n k cs, f (n, k) cs = if (k == NameKind.free) = true then (cellOf env n >>= fun a => pure (ForInStep.yield ((n, a) :: cs))) else pure (ForInStep.yield cs))
      (names : List (Str × NameKind)) (cs : List (Str × Addr)), (∀ x ∈ names, x.2 = NameKind.free → ∃ c, env.cells.lookup x.1 = some c) → (∀ x c, cs.lookup x = some c → env.cells.lookup x = some c) →
      ∃ cl, (forIn names cs f : Sem _) = pure cl ∧ (∀ x c, cl.lookup x = some c → env.cells.lookup x = some c) ∧ (∀ x, (cs.lookup x).isSome = true → (cl.lookup x).isSome = true) ∧ ∀ x, (x, NameKind.free) ∈ names → (cl.lookup x).isSome = true := by
    intro f hf names
    induction names with
    | nil => intro cs _ h2; exact ⟨cs, rfl, h2, fun _ q => q, fun x q => nomatch q⟩
    | cons a r ih =>
      intro cs h1 h2
      obtain ⟨n, k⟩ := a
      rw [List.forIn_cons, hf]
      by_cases hk : k = .free
      · subst hk
        obtain ⟨c, hc⟩ := h1 (n, .free) List.mem_cons_self rfl
        have hc' : env.cells.lookup n = some c := hc
        have e : cellOf env n = pure c := by unfold cellOf; rw [hc']
        rw [if_pos (show (NameKind.free == NameKind.free) = true from rfl), e]
        simp only [pure_bind]
        obtain ⟨cl, e1, e2, e3, e4⟩ := ih ((n, c) :: cs) (fun x hx => h1 x (List.mem_cons_of_mem _ hx)) (fun x c' q => by
          rw [List.lookup_cons] at q
          cases hx : x == n with
          | true => rw [hx] at q; cases q; rw [eq_of_beq hx]; exact hc'
          | false => rw [hx] at q; exact h2 x c' q)
        refine ⟨cl, e1, e2, fun x q => e3 x ?_, fun x q => ?_⟩
        · rw [List.lookup_cons]
          cases hx : x == n with
          | true => rfl
          | false => exact q
        · rcases List.mem_cons.mp q with z | z
          · cases z; exact e3 n (by rw [List.lookup_cons, beq_self_eq_true]; rfl)
          · exact e4 x z
      · have hb : (k == NameKind.free) = false := by simpa using hk
        rw [if_neg (by rw [hb]; exact Bool.false_ne_true)]
        simp only [pure_bind]
        obtain ⟨cl, e1, e2, e3, e4⟩ := ih cs (fun x hx => h1 x (List.mem_cons_of_mem _ hx)) h2
        refine ⟨cl, e1, e2, e3, fun x q => ?_⟩
        rcases List.mem_cons.mp q with z | z
        · cases z; exact absurd rfl hk
        · exact e4 x z
  obtain ⟨cl, e1, e2, _, e4⟩ := key (fun x r => match x with | (name, kind) => if (kind == NameKind.free) = true then (cellOf env name >>= fun a => pure (ForInStep.yield ((name, a) :: r))) else pure (ForInStep.yield r)) (fun _ _ _ => rfl) sc.names [] h (fun x c q => nomatch q)
  refine ⟨cl, ?_, e2, e4⟩
  unfold closureFor
  show (forIn sc.names [] _ >>= fun cs => pure cs) = pure cl
  first
  | (rw [e1]; rfl)
  | (refine Eq.trans (congrArg (· >>= fun cs => pure cs) (Eq.trans (congrArg (forIn sc.names []) (funext fun x => funext fun r => ?_)) e1)) rfl; obtain ⟨n, k⟩ := x; rfl)

/-- a name of the block as it is called behind relabel -/
theorem relabel_lookup {env : Env} : ∀ (names : List (Str × NameKind)) (x : Str) (k : NameKind),
    (names.map fun (n, k) => if (k == NameKind.free && env.scope.kind == .function && env.kindOf n == some .cell) then (n, NameKind.cell) else (n, k)).lookup x = some k →
    ∃ k', names.lookup x = some k' ∧ (k = k' ∨ (k' = .free ∧ k = .cell))
  | [], _, _, h => nomatch h
  | (n, k0) :: r, x, k, h => by
    have ih := relabel_lookup (env := env) r x k
    rw [List.map_cons, List.lookup_cons] at h
    rw [List.lookup_cons]
    by_cases hc : (k0 == NameKind.free && env.scope.kind == .function && env.kindOf n == some .cell) = true
    · simp only [hc, if_true] at h
      cases hx : x == n with
      | true =>
        rw [hx] at h
        cases h
        refine ⟨k0, rfl, .inr ⟨?_, rfl⟩⟩
        simp only [Bool.and_eq_true] at hc
        exact eq_of_beq hc.1.1
      | false => rw [hx] at h; exact ih h
    · simp only [if_neg hc] at h
      cases hx : x == n with
      | true =>
        rw [hx] at h
        cases h
        exact ⟨k0, rfl, .inl rfl⟩
      | false => rw [hx] at h; exact ih h

/-- the block's context -/
def Cx.block (X : Cx) (sc : Scope) (cl : List (Str × Addr)) (Nc : List Str) (s : Shared) (H : Hp) (fp : List Addr) : Cx :=
  { X with N := Nc, s₀ := s, H₀ := H, env := compEnvC sc cl s.heap.objs.size X.env, outer := X.stack, ex := fp, fn := fun _ => false, pn := [], xe := fun _ _ => False }

/-- which of the block's names are the def's own (its slot there), which the block's -/
structure CapOk (X : Cx) (sc : Scope) (Nc : List Str) (cap : List (Option Nat)) : Prop where
  len : cap.length = Nc.length
  ok : ∀ (j i : Nat), cap[j]? = some (some i) → ∃ x, Nc[j]? = some x ∧ X.N[i]? = some x ∧ X.env.scope.names.lookup x = some .cell ∧ sc.names.lookup x = some .free
theorem cap_nil {X : Cx} {sc : Scope} : CapOk X sc [] [] := ⟨rfl, fun _ _ e => by simp at e⟩
theorem cap_own {X : Cx} {sc : Scope} {Nc : List Str} {cap : List (Option Nat)} {x : Str} (h : CapOk X sc Nc cap) : CapOk X sc (x :: Nc) (none :: cap) := by
  refine ⟨by simp [h.len], fun j i e => ?_⟩
  cases j with
  | zero => simp at e
  | succ j => obtain ⟨y, e1, e2⟩ := h.ok j i (by simpa using e); exact ⟨y, by simpa using e1, e2⟩
theorem cap_free {X : Cx} {sc : Scope} {Nc : List Str} {cap : List (Option Nat)} {x : Str} {i : Nat} (h : CapOk X sc Nc cap) (h1 : X.N[i]? = some x := by rfl) (h2 : X.env.scope.names.lookup x = some .cell := by rfl)
    (h3 : sc.names.lookup x = some .free := by rfl) : CapOk X sc (x :: Nc) (some i :: cap) := by
  refine ⟨by simp [h.len], fun j k e => ?_⟩
  cases j with
  | zero => simp at e; subst e; exact ⟨x, rfl, h1, h2, h3⟩
  | succ j => obtain ⟨y, e1, e2⟩ := h.ok j k (by simpa using e); exact ⟨y, by simpa using e1, e2⟩
theorem CapOk.frees {X : Cx} {sc : Scope} {Nc : List Str} {cap : List (Option Nat)} (h : CapOk X sc Nc cap) (hfr : (sc.names.all fun x => !(x.2 == NameKind.free) || (Nc.zip cap).any fun p => p.1 == x.1 && p.2.isSome) = true) :
    ∀ x ∈ sc.names, x.2 = NameKind.free → X.env.scope.names.lookup x.1 = some .cell := fun x hx hf => by
  have h1 := List.all_eq_true.mp hfr x hx
  rw [hf] at h1
  have h2 : ((Nc.zip cap).any fun p => p.1 == x.1 && p.2.isSome) = true := by simpa using h1
  obtain ⟨p, hp, hq⟩ := List.any_eq_true.mp h2
  rw [Bool.and_eq_true] at hq
  obtain ⟨j, hj⟩ := List.mem_iff_getElem?.mp hp
  rw [List.getElem?_zip_eq_some] at hj
  obtain ⟨i, hi⟩ := Option.isSome_iff_exists.mp hq.2
  obtain ⟨y, e1, _, e3, _⟩ := h.ok j i (by rw [hj.2, hi])
  rw [hj.1] at e1
  cases e1
  rw [← eq_of_beq hq.1]
  exact e3
/-- the block's slots at the start of a turn -/
def capSt (cap : List (Option Nat)) (σ : St) : St := cap.map fun o => o.bind fun i => (σ[i]?).join

/-- the target leaves the def's own names as they are -/
def GKeep (cap : List (Option Nat)) (g : TG) : Prop := ∀ (x : V) (σ0 : St) (H : Hp) (Q : St → Hp → Prop), g x σ0 H Q → g x σ0 H fun σ' H' => Q σ' H' ∧ ∀ (j k : Nat), cap[j]? = some (some k) → σ'[j]? = σ0[j]?
theorem keep_name {cap : List (Option Nat)} {i : Nat} (h : cap[i]? = some none := by rfl) : GKeep cap (gName i) := fun x σ0 H Q q => ⟨q, fun j k e => by
  refine List.getElem?_set_ne fun z => ?_
  subst z
  rw [h] at e
  cases e⟩
theorem keep_two {cap : List (Option Nat)} {K : PySem.W.Frag} {i j : Nat} (h1 : cap[i]? = some none := by rfl) (h2 : cap[j]? = some none := by rfl) : GKeep cap (gTup K 2 (gCons (gName i) (gCons (gName j) gNil))) := by
  rintro x σ0 H Q ⟨a, xs, e1, e2, e3, v, r, e4, v', r', e5, e6, q⟩
  refine ⟨a, xs, e1, e2, e3, v, r, e4, v', r', e5, e6, q, fun l k e => ?_⟩
  refine (List.getElem?_set_ne fun z => ?_).trans (List.getElem?_set_ne fun z => ?_)
  · subst z
    rw [h2] at e
    cases e
  · subst z
    rw [h1] at e
    cases e

/-- the tests of a clause -/
def PIf (X : Cx) (ifs : List Expr) (tt : TT) : Prop :=
  ∀ (pins : List (Addr × Obj)) (s : Shared) (σ : St) (H : Hp) (Q : Bool → Hp → Prop), Inv X pins σ H s → tt σ H Q →
    wpAny (model X.prog X.w) X.A (forIn ifs true fun c r => if r = true then do let ok ← isTrue c X.env (eval c X.env); pure (ForInStep.yield ok) else pure (ForInStep.yield r)) (TP X pins σ Q) X.xe s
def tTrue : TT := fun _ H Q => Q true H
theorem pif_nil {X : Cx} : PIf X [] tTrue := fun _ _ _ H _ I h => wpAny_tests_nil ⟨H, I, h⟩
theorem pif_one {X : Cx} {c : Expr} {tt : TT} (h : PT X c tt) : PIf X [c] tt := fun pins s σ H Q I q => wpAny_tests_one (h pins s σ H Q I q)

section
variable {prog : Program} {w : World} {A : Around} {R : Result → Shared → Prop} {s : Shared}
theorem comp_loop {elt target iter : Expr} {ifs : List Expr} {scope : Scope} {pos : Pos} {it acc : Value} {env : Env} (I : Nat → Shared → Prop)
    (turn : ∀ n s, I n s → wpAny (model prog w) A (pyNext it) (fun r s₁ => match r with
      | none => R (.ok .next) s₁
      | some v => wpAny (model prog w) A (letOwnedTupleGo target it v) (fun _ s₁ => wpAny (model prog w) A (assign target env v) (fun _ s₂ =>
          wpAny (model prog w) A (forIn ifs true fun c r => if r = true then do let ok ← isTrue c env (eval c env); pure (ForInStep.yield ok) else pure (ForInStep.yield r)) (fun ok s₃ =>
            if ok = true then wpAny (model prog w) A (eval elt env) (fun x s₄ =>
              wpAny (model prog w) A (call (.builtin "list.append") [acc, x]) (fun _ s₅ => ∃ m, m < n ∧ I m s₅) (fun _ _ => False) s₄) (fun _ _ => False) s₃
            else ∃ m, m < n ∧ I m s₃) (fun _ _ => False) s₂) (fun _ _ => False) s₁) (fun _ _ => False) s₁) (fun _ _ => False) s)
    (n : Nat) (h : I n s) :
    codeAny (model prog w) A (.compLoop (.ListComp elt [⟨target, iter, ifs, 0⟩] scope pos) 0 it acc env) R s := by
  refine codeAny_loop rfl I (fun n s hI => ?_) n h
  show wpAny _ A ((compTurn (.ListComp elt [⟨target, iter, ifs, 0⟩] scope pos) 0 it acc env).onRaise (fun x => do noteFrame x env; theTreesLotGoes x)) _ _ s
  refine wpAny_noted ?_
  rw [compTurn_list]
  refine wpAny_bind (wpAny_standAt (wpAny_bind (wpAny_mono (turn n s hI) (fun r s₁ h₁ => ?_) fun _ _ h' => h'.elim)))
  cases r with
  | none => exact wpAny_pure h₁
  | some v =>
    refine wpAny_bind (wpAny_mono h₁ (fun _ s₁ h₁ => ?_) fun _ _ h' => h'.elim)
    refine wpAny_bind (wpAny_mono h₁ (fun _ s₂ h₂ => wpAny_bind (wpAny_mono h₂ (fun ok s₃ h₃ => ?_) fun _ _ h' => h'.elim)) fun _ _ h' => h'.elim)
    cases ok with
    | false => exact wpAny_pure ⟨rfl, h₃⟩
    | true =>
      exact wpAny_bind (wpAny_bind (wpAny_mono h₃ (fun x s₄ h₄ => wpAny_bind (wpAny_mono h₄ (fun _ s₅ h₅ => wpAny_pure (wpAny_pure ⟨rfl, h₅⟩)) fun _ _ h' => h'.elim)) fun _ _ h' => h'.elim))
end

section
variable {X : Cx} {tg iter elt : Expr} {ifs : List Expr} {sc : Scope} {pos : Pos} {wi : TI} {g : TG} {tt : TT} {te : TE} {Nc : List Str} {cap : List (Option Nat)}

/-- what the walk of a comprehension wants (tComp's inner part) -/
def CompW (cap : List (Option Nat)) (σ : St) (J : It) (H1 : Hp) (g : TG) (tt : TT) (te : TE) (Q : VK) : Prop := ∀ acc, H1 acc = none →
  ∃ W : Nat → Nat → List V → Hp → Prop, (∃ m, W 0 m [] (upd H1 acc (.lst []))) ∧ ∀ i m ys H2, W i m ys H2 → H2 acc = some (.lst ys) ∧
    ((J.stop i H2 ∧ Q (.ref acc) H2) ∨ (J.go i H2 ∧ ys.length < sizeLine ∧ ∀ x H3, J.yld i H2 x H3 → g x (capSt cap σ) H3 fun σ2 H4 => tt σ2 H4 fun b H5 =>
      if b = true then te σ2 H5 fun y H6 => H6 acc = some (.lst ys) ∧ ∃ m', m' < m ∧ W (i + 1) m' (ys ++ [y]) (upd H6 acc (.lst (ys ++ [y]))) else ∃ m', m' < m ∧ W (i + 1) m' ys H5))
/-- [elt for tg in iter if ..]: acc is the new list; W the word by the turn, a measure, the items so far -/
def tComp (cap : List (Option Nat)) (wi : TI) (g : TG) (tt : TT) (te : TE) : TE := fun σ H Q => wi σ H fun J H1 => CompW cap σ J H1 g tt te Q

/-- the block's run, for whatever is wanted behind it -/
theorem comp_block {pins : List (Addr × Obj)} {σ : St} {s2 : Shared} {H2 : Hp} {cl : List (Str × Addr)} {it : Addr} {fp : List Addr} {tn : Nat → Heap → Prop} {J : It} {Q : VK} {RR : Value → Addr → Result → Shared → Prop} {E : Value → Shared → Prop}
    (hc : X.calm = true) (cp : CapOk X sc Nc cap) (hk : GKeep cap g)
    (hg : ∀ cl s H fp, PG (X.block sc cl Nc s H fp) tg g) (ht : ∀ cl s H fp, PIf (X.block sc cl Nc s H fp) ifs tt) (he : ∀ cl s H fp, PE (X.block sc cl Nc s H fp) elt te)
    (hcell : ∀ x ∈ sc.names, x.2 ≠ NameKind.cell) (hkind : sc.kind = .function)
    (hcl1 : ∀ x c, cl.lookup x = some c → X.env.cells.lookup x = some c) (hcl2 : ∀ x, (x, NameKind.free) ∈ sc.names → (cl.lookup x).isSome = true)
    (I2 : Inv X pins σ H2 s2) (T : Turn X.prog X.w X.K tg J fp it tn) (st2 : tn 0 s2.heap) (f2 : ∀ b ∈ fp, FpOk X pins H2 b)
    (h : CompW cap σ J H2 g tt te Q)
    (hRR : ∀ (acc C : Addr) (s' : Shared) (H' : Hp) (oC : Obj) (m : Str → Option Value), Inv X pins σ H' s' → s'.heap.get? C = some oC → s'.heap.Ns C m → H' C = none → X.s₀.heap.objs.size ≤ C → C ≠ X.env.locals → C ∉ X.fs →
      (∀ x c, X.env.cells.lookup x = some c → c ≠ C) → (∀ p ∈ X.pn ++ pins, p.1 ≠ C) → Q (.ref acc) H' → RR (.ref acc) C (.ok .next) s') :
    wpAny (model X.prog X.w) X.A (newList []) (fun acc s₃ => wpAny (model X.prog X.w) X.A (newFunctionEnv sc X.env.globals cl [] X.env.qual none .none (some X.env)) (fun cenv s₄ =>
      codeAny (model X.prog X.w) X.A (.compStart (.ListComp elt [⟨tg, iter, ifs, 0⟩] sc pos) 0 (.ref it) acc { cenv with scope := relabel sc X.env }) (RR acc cenv.locals) s₄) E s₃) E s2 := by
  refine wpAny_newObj_type (wpAny_newFunctionEnv hcell (by intro y hy; simp at hy) (fun h₁ hns₁ hsb₁ => ?_) hkind)
  dsimp only at hns₁ hsb₁ ⊢
  -- the new list
  have I3 : Inv X pins σ (upd H2 s2.heap.objs.size (.lst [])) { s2 with heap := s2.heap.push { cls := .type "list", dict := none, data := .seq ([] : List Value).toArray } } :=
    I2.lnew (ys := []) (its := []) (t' := s2.toks) .nil (Nat.zero_le _)
  have facc : H2 s2.heap.objs.size = none := I2.fresh
  obtain ⟨W, ⟨m0, w0⟩, turn⟩ := h s2.heap.objs.size facc
  have fpold : ∀ b ∈ fp, b < s2.heap.objs.size := fun b hb => by
    obtain ⟨o, e, _⟩ := T.obj _ _ st2 b hb
    exact Heap.lt_size e
  generalize hs3 : ({ s2 with heap := s2.heap.push { cls := .type "list", dict := none, data := .seq ([] : List Value).toArray } } : Shared) = s3 at I3
  have hh3 : s3.heap = s2.heap.push { cls := .type "list", dict := none, data := .seq ([] : List Value).toArray } := by rw [← hs3]
  rw [← hh3] at hns₁ hsb₁ ⊢
  have h3sz : s3.heap.objs.size = s2.heap.objs.size + 1 := by rw [hh3, Heap.size_push]
  generalize hacc : s2.heap.objs.size = acc at *
  generalize hH3 : upd H2 acc (.lst []) = H3 at *
  have f3 : ∀ b ∈ fp, FpOk X pins H3 b := fun b hb => by
    obtain ⟨f0, fr⟩ := f2 b hb
    refine ⟨?_, fr⟩
    rw [← hH3, upd_ne (Nat.ne_of_lt (fpold b hb))]
    exact f0
  have old : ∀ b o, s3.heap.get? b = some o → h₁.get? b = some o := fun b o e => hsb₁.extBut b o (Nat.ne_of_lt (Heap.lt_size e)) (Heap.get?_push_of_some _ e)
  -- the block's context
  have okB : (X.block sc cl Nc s3 H3 fp).Ok := by
    refine ⟨I3.ok.mod, hkind, I3.ok.glob, I3.ok.blt, Nat.le_refl _, fun x y c e1 e2 => I3.ok.inj x y c (hcl1 x c e1) (hcl1 y c e2), fun x hx => ?_, fun x c hf => ?_, I3.ok.hd, I3.ok.frames, .inl rfl, fun b hb => ?_, I3.bs, Nat.le_trans I3.ok.bsz I3.sz, fun b o e hb => ?_, fun b hb hm => ?_, I3.stack, I3.stkFree⟩
    · have key : ∀ k, (relabel sc X.env).names.lookup x = some k → (k = .cell ∨ k = .free) → ∃ c, cl.lookup x = some c := fun k e hk => by
        obtain ⟨k', e', z⟩ := relabel_lookup (env := X.env) sc.names x k e
        have mem := PySem.mem_of_lookup e'
        have hf : k' = .free := by
          rcases z with z | z
          · subst z
            rcases hk with hk | hk
            · exact absurd hk (hcell _ mem)
            · exact hk
          · exact z.1
        subst hf
        exact Option.isSome_iff_exists.mp (hcl2 x mem)
      rcases hx with hx | hx
      · exact key _ hx (.inl rfl)
      · exact key _ hx (.inr rfl)
    · exact absurd (show false = true from hf) Bool.false_ne_true
    · obtain ⟨_, _, _, _, fc, _⟩ := f3 b hb
      refine ⟨Nat.ne_of_lt (show b < s3.heap.objs.size by rw [h3sz]; exact Nat.lt_succ_of_lt (fpold b hb)), fun x c e => fc x c (hcl1 x c e)⟩
    · obtain ⟨_, _, _, fx, _, _⟩ := f3 b hb
      rcases fx with z | z
      · exact I3.ok.noex b o e z
      · exact absurd (Nat.lt_of_lt_of_le (Heap.lt_size e) (Nat.le_trans I3.ok.bsz z)) (Nat.lt_irrefl _)
    · obtain ⟨_, fl, ff, _, _, _⟩ := f3 b hb
      rcases List.mem_cons.mp (I3.stkSub b hm) with z | z
      · exact fl z
      · exact ff z
  have h1eq' : ({ s2 with heap := h₁, toks := s2.toks + ([] : List (Str × Value)).length } : Shared) = { s3 with heap := h₁ } := by rw [← hs3]; rfl
  have IB : Inv (X.block sc cl Nc s3 H3 fp) [] (capSt cap σ) H3 { s3 with heap := h₁ } := by
    refine ⟨okB, rfl, I3.bare, Un.kept old, ⟨_, hns₁, fun j x v e1 e2 e3 => ?_⟩, fun x c e => ?_, I3.fresh, fun x c e => I3.freeC x c (hcl1 x c e), fun p hp => absurd hp (by simp [Cx.block]), I3.hok.kept old, ?_⟩
    · have e1 : Nc[j]? = some x := e1
      have ej : ∃ o : Option Nat, cap[j]? = some o ∧ (o.bind fun i => (σ[i]?).join) = some v := by
        unfold capSt at e2
        rw [List.getElem?_map] at e2
        cases q : cap[j]? with
        | none => rw [q] at e2; cases e2
        | some o => rw [q] at e2; exact ⟨o, rfl, Option.some.inj e2⟩
      obtain ⟨o, ej, ev⟩ := ej
      cases o with
      | none => cases ev
      | some i =>
        obtain ⟨y, c1, c2, c3, c4⟩ := cp.ok j i ej
        rw [e1] at c1; cases c1
        have eσ : σ[i]? = some (some v) := by
          have ev : (σ[i]?).join = some v := ev
          cases q : σ[i]? with
          | none => rw [q] at ev; cases ev
          | some z => rw [q] at ev; have ev : z = some v := ev; rw [ev]
        obtain ⟨m, hn, hl⟩ := I3.loc
        obtain ⟨u, r, l⟩ := hl i x v c2 eσ (.inr (.inl c3))
        refine ⟨u, r, .inr ?_⟩
        rcases l with ⟨k, _⟩ | ⟨_, c, e, z⟩
        · exact absurd (show some NameKind.cell = some NameKind.local from c3.symm.trans k) (by decide)
        · obtain ⟨c', ec'⟩ := Option.isSome_iff_exists.mp (hcl2 x (PySem.mem_of_lookup c4))
          have : c' = c := Option.some.inj ((hcl1 x c' ec').symm.trans e)
          subst this
          refine ⟨?_, c', ec', ?_⟩
          · rcases e3 with q | q | q
            · obtain ⟨k', ek', z'⟩ := relabel_lookup (env := X.env) sc.names x .local q
              rw [c4] at ek'
              cases ek'
              rcases z' with z' | z'
              · cases z'
              · cases z'.2
            · exact .inl q
            · exact .inr q
          · obtain ⟨o, ho, hd⟩ := z
            exact ⟨o, old _ _ ho, hd⟩
    · obtain ⟨v, o, ho, hd⟩ := I3.cell x c (hcl1 x c e)
      exact ⟨v, o, old _ _ ho, hd⟩
    · show (capSt cap σ).length = Nc.length
      unfold capSt
      rw [List.length_map, cp.len]
  have stat : ∀ {H' : Hp}, (∀ b ∈ fp, H' b = none) → ∀ b ∈ fp, FpOk (X.block sc cl Nc s3 H3 fp) [] H' b := fun hn b hb => by
    obtain ⟨_, _, _, _, fc, _⟩ := f3 b hb
    refine ⟨hn b hb, (okB.exf b hb).1, okB.exfs b hb, .inl hb, fun x c e => fc x c (hcl1 x c e), fun p hp => absurd hp (by simp [Cx.block])⟩
  have loop : codeAny (model X.prog X.w) X.A (.compLoop (.ListComp elt [⟨tg, iter, ifs, 0⟩] sc pos) 0 (.ref it) (.ref acc) (compEnvC sc cl s3.heap.objs.size X.env)) (RR (.ref acc) s3.heap.objs.size) { s3 with heap := h₁ } := by
    refine comp_loop (fun n s' => ∃ i ys H', Inv (X.block sc cl Nc s3 H3 fp) [] (capSt cap σ) H' s' ∧ tn i s'.heap ∧ (∀ b ∈ fp, H' b = none) ∧ W i n ys H') ?_ m0
      ⟨0, [], H3, IB, T.keep _ _ _ st2 (fun b hb o e => old b o (by rw [hh3]; exact Heap.get?_push_of_some _ e)), fun b hb => (f3 b hb).1, w0⟩
    rintro n s' ⟨i, ys, H', I', st', fr', w'⟩
    obtain ⟨ea, tr⟩ := turn i n ys H' w'
    rcases tr with ⟨stop, q⟩ | ⟨go, hlen, step⟩
    · refine thn (T.done (X.block sc cl Nc s3 H3 fp) rfl rfl rfl hc i [] s' _ H' _ I' (stat fr') st' stop) fun r s4 ⟨hr, I4⟩ => ?_
      subst hr
      obtain ⟨m, ns, _⟩ := I4.loc
      obtain ⟨oC, _, _, hoC, _⟩ := id ns
      have IX : Inv X pins σ H' s4 := I3.call' (ch := fp) I4.os I4.base I4.hok I4.bare fun b hb => by
        obtain ⟨_, fl, _, fx, fc, fpn⟩ := f3 b hb
        exact ⟨fx, fl, fc, fpn⟩
      refine hRR acc _ s4 H' oC m IX hoC ns I4.free I3.sz (Nat.ne_of_gt I3.lt) (I3.nofs (Nat.le_refl _)) (fun x c e z => ?_) (fun p hp z => ?_) q
      · obtain ⟨v, k⟩ := I3.cell x c e
        exact absurd k.lt (by rw [z]; exact Nat.lt_irrefl _)
      · exact absurd (Heap.lt_size (I3.pin p hp).1) (by rw [z]; exact Nat.lt_irrefl _)
    · refine thn (T.item (X.block sc cl Nc s3 H3 fp) rfl rfl rfl hc i [] s' _ H' _ I' (stat fr') st' go) fun r s4 ⟨u, hr, h4⟩ => ?_
      subst hr
      refine thn h4 fun _ s5 ⟨x, H5, I5, r5, y5, st5, fr5⟩ => ?_
      have I5' := I5.pinned (stat fr5) (T.obj _ _ st5)
      refine thn (hg cl s3 H3 fp _ s5 _ H5 x u _ I5' r5 (hk x _ H5 _ (step x H5 y5))) fun _ s6 ⟨σ6, H6, I6, q6, k6⟩ => ?_
      have again : ∀ {m' : Nat} {ys' : List V} {H7 : Hp} {s7 : Shared}, Inv (X.block sc cl Nc s3 H3 fp) ([] ++ pinsAt fp s5.heap) σ6 H7 s7 → W (i + 1) m' ys' H7 →
          ∃ i ys H', Inv (X.block sc cl Nc s3 H3 fp) [] (capSt cap σ) H' s7 ∧ tn i s7.heap ∧ (∀ b ∈ fp, H' b = none) ∧ W i m' ys H' := fun {m' ys' H7 s7} I7 w7 => by
        refine ⟨i + 1, ys', H7, I7.unpinned.weak (I'.len.trans I7.len.symm) (fun j v e => ?_), T.keep _ _ _ st5 fun b hb o e => (I7.pin (b, o) (List.mem_append_right _ (List.mem_append_right _ (mem_pinsAt hb e)))).1, fun b hb => ?_, w7⟩
        · have e' := e
          unfold capSt at e'
          rw [List.getElem?_map] at e'
          cases q : cap[j]? with
          | none => rw [q] at e'; cases e'
          | some o =>
            rw [q] at e'
            cases o with
            | none => cases (Option.some.inj e')
            | some k => rw [k6 j k q]; exact e
        · obtain ⟨o, e, d⟩ := T.obj _ _ st5 b hb
          exact (I7.pin (b, o) (List.mem_append_right _ (List.mem_append_right _ (mem_pinsAt hb e)))).2.1
      refine thn (ht cl s3 H3 fp _ s6 σ6 H6 _ I6 q6) fun b s7 ⟨H7, I7, q7⟩ => ?_
      cases b with
      | false =>
        have q7 : ∃ m', m' < n ∧ W (i + 1) m' ys H7 := q7
        obtain ⟨m', hm, w7⟩ := q7
        exact ⟨m', hm, again I7 w7⟩
      | true =>
        refine thn (he cl s3 H3 fp _ s7 σ6 H7 _ I7 q7) fun y s8 ⟨yv, H8, I8, r8, ea8, m', hm, w8⟩ => ?_
        refine thn (mt_append (X := X.block sc cl Nc s3 H3 fp) _ s8 σ6 H8 (.ref acc) [yv] (.ref acc) [y] (fun v Hq => Hq = upd H8 acc (.lst (ys ++ [yv]))) I8 rfl (.cons r8 .nil) ⟨acc, ys, yv, rfl, rfl, ea8, hlen, rfl⟩) fun _ s9 ⟨v9, H9, I9, r9, e9⟩ => ?_
        subst e9
        exact ⟨m', hm, again I9 w8⟩
  show codeAny _ _ (.compStart (.ListComp elt [⟨tg, iter, ifs, 0⟩] sc pos) 0 (.ref it) (.ref acc) (compEnvC sc cl s3.heap.objs.size X.env)) (RR (.ref acc) s3.heap.objs.size) _
  rw [h1eq']
  exact codeAny_compStart_list loop (T.self X.A 0 _ _ _ (T.keep _ _ _ st2 (fun b hb o e => old b o (by rw [hh3]; exact Heap.get?_push_of_some _ e))) loop)

/-- [elt for tg in iter if ..] as an expression -/
theorem pe_comp (hc : X.calm = true) (hi : PI X tg iter wi) (cp : CapOk X sc Nc cap) (hk : GKeep cap g)
    (hg : ∀ cl s H fp, PG (X.block sc cl Nc s H fp) tg g) (ht : ∀ cl s H fp, PIf (X.block sc cl Nc s H fp) ifs tt) (he : ∀ cl s H fp, PE (X.block sc cl Nc s H fp) elt te)
    (hfr : (sc.names.all fun x => !(x.2 == NameKind.free) || (Nc.zip cap).any fun p => p.1 == x.1 && p.2.isSome) = true := by decide +kernel) (hcell : ∀ x ∈ sc.names, x.2 ≠ NameKind.cell := by decide +kernel) (hkind : sc.kind = .function := by rfl)
    (hnames : ∀ x ∈ sc.names, x.2 = NameKind.local → sc.names.lookup x.1 = some .local := by decide +kernel)
    (hs : ∀ x, foldedSetIterable iter X.env x = pure x := by intro _; rfl) : PE X (.ListComp elt [⟨tg, iter, ifs, 0⟩] sc pos) (tComp cap wi g tt te) := by
  intro pins s σ H Q I h
  obtain ⟨cl, hclos, hcl1, hcl2⟩ := closure_ex (sc := sc) (env := X.env) fun x hx hf => I.ok.has x.1 (.inl (cp.frees hfr x hx hf))
  rw [eval_ListComp]
  refine wpAny_comprehension_free (use := none) rfl hs hclos hkind hnames (thn (hi pins s σ H _ I h) fun v s1 h1 => thn h1 fun itv s2 h2 => ?_)
  obtain ⟨it, fp, tn, J, H2, e, I2, T, st2, f2, h2⟩ := h2
  subst e
  refine comp_block (Q := Q) (RR := fun acc C => compPost (model X.prog X.w) X.A X.xe none (EP X pins σ Q) acc C) hc cp hk hg ht he hcell hkind hcl1 hcl2 I2 T st2 f2 h2 ?_
  intro acc C s' H' oC m IX hoC ns hn hz hl hf hcc hpp q
  refine ⟨m, ns, fun h' sb => ⟨.ref acc, H', ?_, rfl, q⟩⟩
  exact IX.turned (t' := s'.toks) (fun b o hb e => sb.extBut b o hb e) hn hl (.inr hz) hcc hpp

/-- x = [elt for tg in iter if ..], the store within the comprehension -/
theorem ps_setc {y : Str} {py spos : Pos} {i : Nat} (hN : X.N.Nodup) (hi' : X.N[i]? = some y) (hy : Loc X.env.scope y) (hc : X.calm = true) (hi : PI X tg iter wi) (cp : CapOk X sc Nc cap) (hk : GKeep cap g)
    (hg : ∀ cl s H fp, PG (X.block sc cl Nc s H fp) tg g) (ht : ∀ cl s H fp, PIf (X.block sc cl Nc s H fp) ifs tt) (he : ∀ cl s H fp, PE (X.block sc cl Nc s H fp) elt te)
    (hsw : swapsWith (.ListComp elt [⟨tg, iter, ifs, 0⟩] sc pos) (some (.Name y py)) spos.line X.env = pure true)
    (hfr : (sc.names.all fun x => !(x.2 == NameKind.free) || (Nc.zip cap).any fun p => p.1 == x.1 && p.2.isSome) = true := by decide +kernel) (hcell : ∀ x ∈ sc.names, x.2 ≠ NameKind.cell := by decide +kernel) (hkind : sc.kind = .function := by rfl)
    (hnames : ∀ x ∈ sc.names, x.2 = NameKind.local → sc.names.lookup x.1 = some .local := by decide +kernel)
    (hs : ∀ x, foldedSetIterable iter X.env x = pure x := by intro _; rfl) (hf : X.fn y = true ∨ X.env.scope.names.lookup y = some .local := by first | exact .inl rfl | exact .inr rfl | assumption) :
    PS X (.Assign [.Name y py] (.ListComp elt [⟨tg, iter, ifs, 0⟩] sc pos) spos) (tAsg (tComp cap wi g tt te) (gName i)) := by
  intro pins s σ H D I h
  obtain ⟨cl, hclos, hcl1, hcl2⟩ := closure_ex (sc := sc) (env := X.env) fun x hx hf => I.ok.has x.1 (.inl (cp.frees hfr x hx hf))
  rw [exec_Assign_Name_used _ _ _ _ hsw]
  refine wpAny_bind (wpAny_standAt (wpAny_bind ?_))
  show wpAny _ X.A (do let _ ← comprehension (.ListComp elt [⟨tg, iter, ifs, 0⟩] sc pos) sc X.env _ (newList []) false (eval iter X.env) (some (assign (.Name y py) X.env))) _ _ s
  refine wpAny_bind (wpAny_mono (wpAny_comprehension_free (use := some (assign (.Name y py) X.env)) (Q := fun _ s' => SP X pins D .next s') rfl hs hclos hkind hnames
    (thn (hi pins s σ H _ I h) fun v s1 h1 => thn h1 fun itv s2 h2 => ?_)) (fun _ s' hq => wpAny_pure (wpAny_pure hq)) fun _ _ e => e)
  obtain ⟨it, fp, tn, J, H2, e, I2, T, st2, f2, h2⟩ := h2
  subst e
  refine comp_block (Q := fun x H1 => gName i x σ H1 D.nx) (RR := fun acc C => compPost (model X.prog X.w) X.A X.xe (some (assign (.Name y py) X.env)) (fun _ s' => SP X pins D .next s') acc C) hc cp hk hg ht he hcell hkind hcl1 hcl2 I2 T st2 f2 h2 ?_
  intro acc C s' H' oC m IX hoC ns hn hz hl hfs hcc hpp q
  show wpAny _ X.A (assign (.Name y py) X.env (.ref acc)) _ _ _
  have IP : Inv X (pins ++ [(C, oC)]) σ H' s' := IX.pins_of fun p hp => (List.mem_append.mp hp).elim (fun z => IX.pin p (List.mem_append_right _ z)) fun z => by
    have e : p = (C, oC) := by simpa using z
    subst e
    refine ⟨hoC, hn, hl, hfs, fun v z => ?_⟩
    obtain ⟨o, es, ep, e1, e2, _⟩ := ns
    rw [hoC] at e1
    cases e1
    rw [e2] at z
    cases z
  refine wpAny_assign_Name (store_ok IP hN hi' hy (v := .ref acc) rfl (fun s'' I'' => ?_) hf)
  have hC : s''.heap.get? C = some oC := (I''.pin (C, oC) (List.mem_append_right _ (List.mem_append_right _ (by simp)))).1
  have ns' : s''.heap.Ns C m := by
    obtain ⟨o, es, ep, e1, r⟩ := ns
    rw [hoC] at e1
    cases e1
    exact ⟨oC, es, ep, hC, r⟩
  refine ⟨m, ns', fun h' sb => ⟨_, H', ?_, q⟩⟩
  exact I''.unpinned.turned (t' := s''.toks) (fun b o hb e => sb.extBut b o hb e) hn hl (.inr hz) hcc hpp
end
end L2


/-! CALLS over the layer: sorted, list(range(a, b)), list(reversed(xs)), == and != of lists, index, isinstance. -/
namespace L2
open PySem PySem.Spec PyProof.Rows

/-- an untracked record has turned, and a new thing is laid and tracked -/
theorem Inv.laidT {X : Cx} {pins : List (Addr × Obj)} {σ : St} {H : Hp} {s : Shared} {it a : Addr} {o : HO} {h' : Heap} {t' : Nat} (I : Inv X pins σ H s) (k : ∀ b u, b ≠ it → s.heap.get? b = some u → h'.get? b = some u)
    (fp : FpOk X pins H it) (hp : s.heap.objs.size ≤ a) (new : ObjOk X.prog X.w (upd H a o) h' a o) : Inv X pins σ (upd H a o) { s with heap := h', toks := t' } := by
  obtain ⟨hn, hL, _, h1, h2, h3⟩ := fp
  have hna : H a = none := I.hok.fresh hp
  have nit : ∀ b u, H b = some u → b ≠ it := fun b u e z => by rw [z, hn] at e; cases e
  refine I.step (g' := s.gens) (d' := s.drawn) (ch := [it]) (fun b hb => ?_) (fun b ob _ _ hc e _ => k b ob (fun z => hc (by simp [z])) e) (fun b ob _ _ hc e _ => ⟨ob.slots, k b ob (fun z => hc (by simp [z])) e⟩)
    (fun b ob _ e n => by rw [upd_ne (Nat.ne_of_lt (Nat.lt_of_lt_of_le (Heap.lt_size e) hp))]; exact n)
    (fun b ob hc e => ⟨ob, k b ob (fun z => hc (by simp [z])) e⟩) (fun b xs e => by rw [upd_ne (ne_of_none e hna)]; exact e) (fun b ob u e => by rw [upd_ne (ne_of_none e hna)]; exact e)
    (fun b ps e => ⟨#[], by rw [upd_ne (ne_of_none e hna), e]; simp⟩) (fun m hm => ?_) (fun b u e => ?_) I.bare
  · have e : b = it := by simpa using hb
    subst e
    exact ⟨h1, hL, h2, h3⟩
  · obtain ⟨ob, es, ep, ho, r⟩ := hm
    exact ⟨ob, es, ep, k _ ob (Ne.symm hL) ho, r⟩
  · by_cases hb : b = a
    · subst hb
      rw [upd_same] at e
      cases e
      exact new
    · rw [upd_ne hb] at e
      refine (I.hok b u e).stay (fun c v hc q => k c v ?_ q) (fun c q => by rw [upd_ne (ne_of_none q hna)]; exact q) fun c xs q => by rw [upd_ne (ne_of_none q hna)]; exact q
      rcases hc with z | z
      · rw [z]; exact nit b u e
      · exact nit c _ z

theorem vals_of_get : ∀ {xs : List V} {us : List Value}, xs.length = us.length → (∀ (j : Nat) x u, xs[j]? = some x → us[j]? = some u → RelV x u) → Vals xs us
  | [], [], _, _ => .nil
  | [], _ :: _, h, _ => by simp at h
  | _ :: _, [], h, _ => by simp at h
  | x :: xs, u :: us, h, k => .cons (k 0 x u rfl rfl) (vals_of_get (by simpa using h) fun j y v e1 e2 => k (j + 1) y v (by simpa using e1) (by simpa using e2))

theorem bt_list : bootBuiltins "list" = some (.type "list") := by decide +kernel
theorem bt_range : bootBuiltins "range" = some (.type "range") := by decide +kernel
theorem bt_reversed : bootBuiltins "reversed" = some (.type "reversed") := by decide +kernel
theorem bt_int : bootBuiltins "int" = some (.type "int") := by decide +kernel
theorem bt_bool : bootBuiltins "bool" = some (.type "bool") := by decide +kernel
theorem bt_zip : bootBuiltins "zip" = some (.type "zip") := by decide +kernel
theorem bt_len : bootBuiltins "len" = some (.builtin "len") := by decide +kernel
theorem bt_abs : bootBuiltins "abs" = some (.builtin "abs") := by decide +kernel
theorem bt_sorted : bootBuiltins "sorted" = some (.builtin "sorted") := by decide +kernel
theorem bt_isinstance : bootBuiltins "isinstance" = some (.builtin "isinstance") := by decide +kernel

section
variable {X : Cx}
/-- sorted(xs) of fewer than 64 ints -/
theorem call_sorted : CallR X (.builtin "sorted") (fun xs H Q => ∃ (p : Addr) (ns : List Int), xs = [.ref p] ∧ SqL X.K H p (ns.map V.int) ∧ ns.length < 64 ∧ ∀ (l : Addr) (ms : List Int), H l = none → ms.Perm ns → ms.Pairwise (· ≤ ·) → Q (.ref l) (upd H l (.lst (ms.map V.int)))) := by
  intro pins s σ H xs us Q I r h
  obtain ⟨p, ns, rfl, hq, hl, q⟩ := h
  obtain ⟨u, rfl, rx⟩ := vals1 r
  cases rx
  obtain ⟨its, r', pl, hz⟩ := I.list hq
  have hlen : ns.length = its.length := by have := r'.length; simpa using this
  refine sorted_ints pl.isList (intsAre_of r') (by omega) fun out ms a1 a2 a3 => ?_
  obtain ⟨e, he⟩ := sortedAll_at s.heap its out
  refine ⟨.ref (s.heap.objs.size + 1), _, I.laid (t' := s.toks) (fun b o => sortedAll_old) (Nat.le_succ _) (show ObjOk X.prog X.w _ _ _ (.lst (ms.map V.int)) from ⟨?_, out.toList, e, vals_ints a1, ?_⟩), rfl, q _ ms (I.hok.fresh (Nat.le_succ _)) a2 a3⟩
  · have := a2.length_eq
    rw [List.length_map] at hz ⊢
    omega
  · exact he

/-- range(a, b), kept as an object -/
theorem call_rng2 : CallR X (.type "range") (fun xs H Q => ∃ i j, xs = [.int i, .int j] ∧ ∀ r, H r = none → Q (.ref r) (upd H r (.rng i j))) := by
  intro pins s σ H xs us Q I r h
  obtain ⟨i, j, rfl, q⟩ := h
  obtain ⟨u, u', rfl, ⟨t, rfl⟩, ⟨t', rfl⟩⟩ := vals2 r
  refine call_range_2 ⟨.ref s.heap.objs.size, _, I.laid (o := .rng i j) (fun b o e => Heap.get?_push_of_some _ e) (Nat.le_refl _) ?_, rfl, q _ I.fresh⟩
  exact ⟨t, t', s.toks, Heap.get?_push_size _ rfl⟩

/-- list(r) of a range object -/
theorem call_list_rng (hc : X.calm = true) : CallR X (.type "list") (fun xs H Q => ∃ p lo hi, xs = [.ref p] ∧ H p = some (.rng lo hi) ∧ -(2 ^ 20) ≤ lo ∧ hi ≤ 2 ^ 20 ∧ lo ≤ 2 ^ 20 ∧ -(2 ^ 20) ≤ hi ∧ ∀ l, H l = none → Q (.ref l) (upd H l (.lst ((Fs.upTo lo hi).map V.int)))) := by
  intro pins s σ H xs us Q I r h
  obtain ⟨p, lo, hi, rfl, hp, h1, h2, h3, h4, q⟩ := h
  obtain ⟨u, rfl, rx⟩ := vals1 r
  cases rx
  obtain ⟨t, u, v, e⟩ := I.hok p _ hp
  have hsl : (hi - lo).toNat ≤ sizeLine := by rw [sizeLine_eq]; omega
  refine call_list_range (n := (hi - lo).toNat) (I.ok.hd hc) e (small_one (by omega) (by omega) (by omega) (by omega)) (by rw [rangeSize_one]; split <;> omega) (by omega) fun h' tk acc' c' kp e' it => ?_
  refine ⟨.ref s.heap.objs.size, _, I.laid (t' := tk) kp (Nat.le_refl _) (show ObjOk X.prog X.w _ _ _ (.lst ((Fs.upTo lo hi).map V.int)) from ⟨?_, acc'.toList, c', vals_of_get ?_ fun j x u e1 e2 => ?_, by simpa using e'⟩), rfl, q _ I.fresh⟩
  · rw [List.length_map, Fs.length_upTo]; exact hsl
  · rw [List.length_map, Fs.length_upTo]; simp [it.1]
  · have hj : j < (hi - lo).toNat := by
      have := (List.getElem?_eq_some_iff.mp e1).1
      rwa [List.length_map, Fs.length_upTo] at this
    rw [List.getElem?_map, Fs.get_upTo hj] at e1
    cases e1
    obtain ⟨t, rfl⟩ := it.2 j u (by simpa using e2)
    exact ⟨t, by rw [Int.mul_one]⟩

end

section
variable {prog : Program} {w : World} {A : Around} {E : Value → Shared → Prop} {s : Shared}
theorem lri_nolen : typeLookup (.type "list_reverseiterator") "__len__" = pure none := by rw [typeLookup_type, builtinLookup_eq_fast]; kernel_rfl
theorem lri_hint : typeLookup (.type "list_reverseiterator") "__length_hint__" = pure (some (.builtin "list_reverseiterator.__length_hint__")) := by rw [typeLookup_type, builtinLookup_eq_fast]; kernel_rfl
theorem hint_rev {it l : Addr} {i : Int} {Q : Bool → Shared → Prop} (hit : s.heap.IsRevIter it l i) (h : Q false s) : wpAny (model prog w) A (Builtin.List.listLengthHint (.ref it)) Q E s := by
  unfold Builtin.List.listLengthHint
  refine wpAny_bind (wpAny_specialOf hit.typeIs lri_nolen ?_)
  show wpAny _ A (specialOf (Value.ref it) (Str.ofString "__length_hint__") >>= _) _ _ _
  refine wpAny_bind (wpAny_specialOf hit.typeIs lri_hint ?_)
  generalize hid : ("list_reverseiterator.__length_hint__" : String) = id0
  wp_delta
  rw [show splitId id0 = some ("list_reverseiterator", "__length_hint__") from by subst hid; decide +kernel]
  subst hid
  refine wpAny_bind (wpAny_isInstance (b := true) hit.typeIs (by rw [isSubtype_type]; kernel_rfl) ?_)
  exact wpAny_pure h

/-- list(it) of a reverse iterator that has not begun -/
theorem call_list_rev {l it : Addr} {items : Array Value} {Q : Value → Shared → Prop} (hh : A.handled = none) (hit : s.heap.IsRevIter it l ((items.size : Int) - 1)) (hl : s.heap.IsList l items) (hne : l ≠ it) (hsz : items.size ≤ sizeLine)
    (hQ : ∀ h' tk acc' c', (∀ b o, b ≠ it → s.heap.get? b = some o → h'.get? b = some o) → h'.get? s.heap.objs.size = some { cls := .type "list", dict := none, data := .seq acc' c', slots := #[] } →
      ItemsOf (fun i v => items[items.size - 1 - i]? = some v) acc' items.size → Q (.ref s.heap.objs.size) { s with heap := h', toks := tk }) : wpAny (model prog w) A (call (.type "list") [.ref it]) Q E s := by
  have hlt1 : it < s.heap.objs.size := by obtain ⟨o, ho, _⟩ := hit; exact Heap.lt_size ho
  have hlt2 : l < s.heap.objs.size := by obtain ⟨o, ho, _⟩ := hl; exact Heap.lt_size ho
  refine callType_codes (Q₁ := fun obj s₁ => obj = .ref s.heap.objs.size ∧ s₁ = { s with heap := s.heap.push { cls := .type "list", data := .seq #[] } }) F.called_list (F.typeCall_list_1 _) F.entry_list_init
    (code_list_new _ ⟨rfl, rfl⟩) fun obj s₁ h₁ => ?_
  obtain ⟨rfl, rfl⟩ := h₁
  generalize hS : s.heap.objs.size = S at *
  have hP : (s.heap.push { cls := .type "list", data := .seq #[] }).get? S = some { cls := .type "list", data := .seq #[] } := by rw [← hS]; exact Heap.get?_push_size _ rfl
  refine ⟨⟨_, hP, rfl⟩, F.args_list_init_2 _ _, ?_⟩
  show wpAny _ A.in1.in1 (do let old ← Builtin.List.listItems (.ref S); Builtin.List.listUpdate (.ref S) (fun _ => #[]); letGo old.toList.reverse; Builtin.List.listExtendWith (.ref S) (.ref it) .none) _ _ _
  refine wpAny_bind ?_
  unfold Builtin.List.listItems
  refine wpAny_bind (wpAny_seqItems hP rfl (wpAny_pure ?_))
  show wpAny _ A.in1.in1 (updateSeq S (fun _ => #[]) >>= fun _ => letGo (#[] : Array Value).toList.reverse >>= fun _ => Builtin.List.listExtendWith (.ref S) (.ref it) .none) _ _ _
  refine wpAny_bind (wpAny_updateSeq hP rfl ?_)
  have hS2 := Heap.get?_update_self (Obj.mapSeq (fun _ => (#[] : Array Value))) hP rfl
  have oth : ∀ b o, b ≠ S → s.heap.get? b = some o → ((s.heap.push { cls := .type "list", data := .seq #[] }).update S (Obj.mapSeq (fun _ => (#[] : Array Value)))).get? b = some o :=
    fun b o hb e => (Heap.get?_update_other _ _ (Ne.symm hb)).trans (Heap.get?_push_of_some _ e)
  refine wpAny_bind (wpAny_letGo ?_)
  generalize ((s.heap.push { cls := .type "list", data := .seq #[] }).update S (Obj.mapSeq (fun _ => (#[] : Array Value)))) = h2 at *
  have hit2 : h2.IsRevIter it l ((items.size : Int) - 1) := hit.at fun o e => oth it o (Nat.ne_of_lt hlt1) e
  have hl2 : h2.IsList l items := hl.at fun o e => oth l o (Nat.ne_of_lt hlt2) e
  have hSI : S ≠ it := Ne.symm (Nat.ne_of_lt hlt1)
  unfold Builtin.List.listExtendWith
  refine wpAny_bind (wpAny_typeOf (T := "list_reverseiterator") (Heap.IsRevIter.typeIs (s := { s with heap := h2 }) hit2) ?_)
  have q1 : Builtin.List.listSameRef (.ref S) (.ref it) = false := by simp [Builtin.List.listSameRef, hSI]
  have q2 : (Value.type "list_reverseiterator" == Value.type "list") = false := by decide
  have q3 : (Value.type "list_reverseiterator" == Value.type "tuple") = false := by decide
  simp only [q1, q2, q3, Bool.or_false, Bool.false_eq_true, if_false]
  refine wpAny_bind (wpAny_pyIter_revIter hit2 ?_)
  refine wpAny_bind (wpAny_holding (hint_rev hit2 ?_))
  rw [if_neg (by decide)]
  have W := (Walks.listRev (prog := prog) (w := w) (A := A.in1.in1) hh it l hne items).toS
  have hSf : S ∉ [it, l] := fun hm => by
    rcases List.mem_cons.mp hm with z | z
    · exact hSI z
    · rw [List.mem_singleton.mp z] at hlt2; exact absurd hlt2 (Nat.lt_irrefl _)
  refine wpAny_pure ⟨plainId_quiet F.plain_extend_loop _, codeAny_extend_loopS W hsz S hSf .none items.size 0 _ #[] _ rfl (Nat.zero_le _) ⟨Nat.zero_le _, by simpa using hit2, hl2⟩ hS2 (ItemsOf.nil _) fun s' acc' c' hm hS' hacc => ?_⟩
  rw [Moved.eq_with hm]
  refine ⟨rfl, hQ s'.heap s'.toks acc' c' (fun b o hb e => hm.heap b o (fun hmem => ?_) (oth b o (fun z => ?_) e)) hS' hacc⟩
  · rcases List.mem_cons.mp hmem with z | z
    · rw [z, ← hS] at e; exact absurd (Heap.lt_size e) (Nat.lt_irrefl _)
    · exact hb (List.mem_singleton.mp z)
  · rw [z, ← hS] at e; exact absurd (Heap.lt_size e) (Nat.lt_irrefl _)
end

section
variable {X : Cx} {e : Expr} {te : TE} {p p2 pos pos2 : Pos}
/-- list(reversed(xs)) -/
def tListRev (K : PySem.W.Frag) (te : TE) : TE := fun σ H Q => te σ H fun x H1 => ∃ a xs, x = .ref a ∧ SqL K H1 a xs ∧ ∀ l, H1 l = none → Q (.ref l) (upd H1 l (.lst xs.reverse))
theorem pe_list_rev (hc : X.calm = true) (he : PE X e te) (hg : Gl X "list") (hm : X.mg "list" = none) (hg2 : Gl X "reversed") (hm2 : X.mg "reversed" = none)
    (hs1 : starEach [Expr.Call (.Name "reversed" p2) [e] [] pos2] X.env = [(false, eval (.Call (.Name "reversed" p2) [e] [] pos2) X.env)] := by rfl) (hs2 : starEach [e] X.env = [(false, eval e X.env)] := by rfl) :
    PE X (.Call (.Name "list" p) [.Call (.Name "reversed" p2) [e] [] pos2] [] pos) (tListRev X.K te) := by
  intro pins s σ H Q I h
  refine wpAny_Call_Name_kw (ld_blt I hg hm bt_list ?_)
  refine PyProof.Rows.callWith_type1 ?_ (by rw [hs1]; rfl) rfl
  rw [hs1]
  refine Calls.spliced_cons ?_
  refine wpAny_Call_Name_kw (ld_blt I hg2 hm2 bt_reversed ?_)
  refine PyProof.Rows.callWith_type1 ?_ (by rw [hs2]; rfl) rfl
  rw [hs2]
  refine Calls.spliced_cons (thn (he pins s σ H _ I h) fun v s1 ⟨x, H1, I1, r1, a, xs, e1, hq, q⟩ => ?_)
  subst e1
  cases r1
  refine Calls.spliced_nil ?_
  obtain ⟨its, rv, pl, hz⟩ := I1.list hq
  have hla : a < s1.heap.objs.size := by obtain ⟨o, ho, _⟩ := pl.isList; exact Heap.lt_size ho
  refine call_reversed_list pl.isList ?_
  refine Calls.spliced_nil ?_
  have I2 : Inv X pins σ H1 { s1 with heap := s1.heap.push (revObj a ((its.toArray.size : Int) - 1)) } := I1.kept (t' := s1.toks) fun b o e => Heap.get?_push_of_some _ e
  have hlen := rv.length
  refine call_list_rev (s := { s1 with heap := s1.heap.push (revObj a ((its.toArray.size : Int) - 1)) }) (I2.ok.hd hc) ⟨_, Heap.get?_push_size _ rfl, rfl, rfl⟩ (pl.isList.at fun o e => Heap.get?_push_of_some _ e) (Nat.ne_of_lt hla) (by simp only [List.size_toArray]; omega) fun h' tk acc' c' kp e' it => ?_
  refine ⟨.ref _, _, I2.laidT (t' := tk) kp (I1.fpOk (Nat.le_refl _) I1.fresh) (Nat.le_refl _) (show ObjOk X.prog X.w _ _ _ (.lst xs.reverse) from ⟨by rw [List.length_reverse]; exact hz, acc'.toList, c', vals_of_get ?_ fun j x u e1 e2 => ?_, by simpa using e'⟩), rfl, q _ I2.fresh⟩
  · rw [List.length_reverse, hlen]; simp [it.1]
  · have hj : j < xs.length := by
      have := (List.getElem?_eq_some_iff.mp e1).1
      rwa [List.length_reverse] at this
    rw [List.getElem?_reverse hj] at e1
    have z := it.2 j u (by simpa using e2)
    obtain ⟨u', e3, r3⟩ := rv.get e1
    have e4 : its[its.length - 1 - j]? = some u := by simpa using z
    rw [hlen] at e3
    rw [e3] at e4
    cases e4
    exact r3

/-! ### == and != of lists of ints -/
def rEqL (K : PySem.W.Frag) : R2 := fun x y H Q => ∃ (a b : Addr) (ns ms : List Int), x = .ref a ∧ y = .ref b ∧ SqL K H a (ns.map V.int) ∧ SqL K H b (ms.map V.int) ∧ Q (.bl (decide (ns = ms))) H
def rNeL (K : PySem.W.Frag) : R2 := fun x y H Q => ∃ (a b : Addr) (ns ms : List Int), x = .ref a ∧ y = .ref b ∧ SqL K H a (ns.map V.int) ∧ SqL K H b (ms.map V.int) ∧ Q (.bl (!decide (ns = ms))) H
theorem op_eqL (hu : X.A.units + 64 < cLine) : OpR X (compareOp .Eq) (rEqL X.K) := by
  intro pins s σ H x y v u Q I rx ry h
  obtain ⟨a, b, ns, ms, rfl, rfl, h1, h2, q⟩ := h
  cases rx
  cases ry
  obtain ⟨its, r1, p1, _⟩ := I.list h1
  obtain ⟨its2, r2, p2, _⟩ := I.list h2
  exact PySem.W.ke_eq_ints p1.isList p2.isList (intsAre_of r1) (intsAre_of r2) hu ⟨.bl _, H, I, rfl, q⟩
theorem op_neL (hu : X.A.units + 64 < cLine) : OpR X (compareOp .NotEq) (rNeL X.K) := by
  intro pins s σ H x y v u Q I rx ry h
  obtain ⟨a, b, ns, ms, rfl, rfl, h1, h2, q⟩ := h
  cases rx
  cases ry
  obtain ⟨its, r1, p1, _⟩ := I.list h1
  obtain ⟨its2, r2, p2, _⟩ := I.list h2
  exact PySem.W.ke_ne_ints p1.isList p2.isList (intsAre_of r1) (intsAre_of r2) hu ⟨.bl _, H, I, rfl, q⟩

/-! ### == and != of lists of lists of ints -/
def rows (nss : List (List Int)) : PyData := .list (nss.map fun ns => .list (ns.map PyData.int))
theorem rows_lay : ∀ nss : List (List Int), PyData.canLayAll0 (nss.map fun ns => PyData.list (ns.map PyData.int)) = true ∧ PyData.depthAll (nss.map fun ns => PyData.list (ns.map PyData.int)) ≤ 1
  | [] => ⟨rfl, by decide⟩
  | ns :: r => by
    obtain ⟨h1, h2⟩ := rows_lay r
    constructor
    · simp [PyData.canLayAll0, PyData.canLay0, PySem.W.ke_canLayAll0, h1]
    · simp only [List.map_cons, PyData.depthAll, PyData.depth, PySem.W.ke_depthAll]
      omega
theorem rows_shaped (nss : List (List Int)) : SeqAt.shaped (rows nss) = true := by
  obtain ⟨h1, h2⟩ := rows_lay nss
  simp only [SeqAt.shaped, rows, PyData.canLay0, PyData.depth, h1, Bool.true_and, decide_eq_true_eq]
  omega
theorem rows_eqvAll : ∀ nss mss : List (List Int), PyData.eqvAll (nss.map fun ns => PyData.list (ns.map PyData.int)) (mss.map fun ns => PyData.list (ns.map PyData.int)) = decide (nss = mss)
  | [], [] => by simp [PyData.eqvAll]
  | [], _ :: _ => by simp [PyData.eqvAll]
  | _ :: _, [] => by simp [PyData.eqvAll]
  | a :: r, b :: t => by
    simp only [List.map_cons, PyData.eqvAll, PyData.eqv, PySem.W.ked_eqvAll, rows_eqvAll r t]
    by_cases h : a = b <;> by_cases h' : r = t <;> simp [h, h']
theorem rows_eqv (nss mss : List (List Int)) : PyData.eqv (rows nss) (rows mss) = decide (nss = mss) := by
  simp only [rows, PyData.eqv]
  exact rows_eqvAll nss mss
/-- the lists at ps hold the ints nss -/
abbrev Rows (K : PySem.W.Frag) (H : Hp) : List V → List (List Int) → Prop := Paired fun v ns => ∃ p, v = .ref p ∧ SqL K H p (ns.map V.int)
theorem readsRows {pins : List (Addr × Obj)} {σ : St} {H : Hp} {s : Shared} (I : Inv X pins σ H s) : ∀ {xs : List V} {nss : List (List Int)} {its : List Value}, Rows X.K H xs nss → Vals xs its →
    ∃ as, ReadsAll s.heap its (nss.map fun ns => PyData.list (ns.map PyData.int)) as
  | _, _, _, .nil, .nil => ⟨_, .nil⟩
  | _, _, _, .cons ⟨p, e, h⟩ t, .cons r q => by
    subst e
    cases r
    obtain ⟨as, z⟩ := readsRows I t q
    obtain ⟨its, r1, p1, _⟩ := I.list h
    exact ⟨_, .cons (reads_newData p1.isList (PySem.W.ke_carried (intsAre_of r1))) z⟩
theorem reads_of_rows {pins : List (Addr × Obj)} {σ : St} {H : Hp} {s : Shared} {a : Addr} {xs : List V} {nss : List (List Int)} (I : Inv X pins σ H s) (h : SqL X.K H a xs) (r : Rows X.K H xs nss) : ∃ as, Reads s.heap (.ref a) (rows nss) as := by
  obtain ⟨its, r1, p1, _⟩ := I.list h
  obtain ⟨as, z⟩ := readsRows I r r1
  obtain ⟨o, ho, hc, n, hd⟩ := p1.isList
  exact ⟨_, .list ho hc hd (by simpa using z)⟩
def rEqR (K : PySem.W.Frag) : R2 := fun x y H Q => ∃ a b xs ys nss mss, x = .ref a ∧ y = .ref b ∧ SqL K H a xs ∧ SqL K H b ys ∧ Rows K H xs nss ∧ Rows K H ys mss ∧ Q (.bl (decide (nss = mss))) H
def rNeR (K : PySem.W.Frag) : R2 := fun x y H Q => ∃ a b xs ys nss mss, x = .ref a ∧ y = .ref b ∧ SqL K H a xs ∧ SqL K H b ys ∧ Rows K H xs nss ∧ Rows K H ys mss ∧ Q (.bl (!decide (nss = mss))) H
theorem op_neR (hu : X.A.units + 64 < cLine) : OpR X (compareOp .NotEq) (rNeR X.K) := by
  intro pins s σ H x y v u Q I rx ry h
  obtain ⟨a, b, xs, ys, nss, mss, rfl, rfl, h1, h2, r1, r2, q⟩ := h
  cases rx
  cases ry
  obtain ⟨as, z1⟩ := reads_of_rows I h1 r1
  obtain ⟨bs, z2⟩ := reads_of_rows I h2 r2
  exact ne_dataH z1 z2 (rows_shaped _) (rows_shaped _) hu (by rw [rows_eqv]; exact ⟨.bl _, H, I, rfl, q⟩)

/-! ### isinstance -/
theorem call_isinst : CallR X (.builtin "isinstance") (fun xs H Q => ∃ x t c b, xs = [x, .ty c] ∧ TyOf X.K H x t ∧ PySem.W.kitOne X.K t (.type c) = some b ∧ Q (.bl b) H) := by
  intro pins s σ H xs us Q I r h
  obtain ⟨x, t, c, b, rfl, ty, e, q⟩ := h
  obtain ⟨u, u', rfl, rx, rc⟩ := vals2 r
  have rc : u' = Value.type c := rc
  subst rc
  exact isinst_ok I rx ty e fun tk => ⟨.bl b, H, I.tok tk, rfl, q⟩

end
end L2


/-! SMALL THINGS that the readings want. -/
namespace L2
open PySem PySem.Spec PyProof.Rows
theorem iteD {c A B : Prop} [Decidable c] (h : ¬ c) (k : B) : if decide c = true then A else B := by
  rw [decide_eq_false h]
  exact iteF k
theorem iteDT {c A B : Prop} [Decidable c] (h : c) (k : A) : if decide c = true then A else B := by
  rw [decide_eq_true h]
  exact iteT k
theorem ite2D {c A B : Prop} [Decidable c] (h1 : c → A) (h2 : ¬ c → B) : if decide c = true then A else B := by
  by_cases h : c
  · exact iteDT h (h1 h)
  · exact iteD h (h2 h)
theorem iteN {c A B : Prop} [Decidable c] (h1 : ¬ c → A) (h2 : c → B) : if (!decide c) = true then A else B := by
  by_cases h : c
  · rw [decide_eq_true h]
    exact iteF (h2 h)
  · rw [decide_eq_false h]
    exact iteT (h1 h)
theorem Same.up {H H' : Hp} (s : Same H H') {l : Addr} {o : HO} (hl : H l = Option.none) : Same H (upd H' l o) := fun b u e => by
  rw [upd_ne (ne_of_none e hl)]
  exact s b u e
theorem Same.new {H : Hp} {l : Addr} {o : HO} (hl : H l = Option.none) : Same H (upd H l o) := (Same.refl H).up hl
theorem atI_int {xs : List V} {k : Int} {v : V} (h0 : 0 ≤ k) (h : xs[k.toNat]? = some v) : atI xs k = some v := by
  have := atI_nat h
  rwa [Int.toNat_of_nonneg h0] at this
theorem seq_at {n : Nat} {i : Int} (h0 : 0 ≤ i) (h1 : i < n) : seqIndex? i n = some i.toNat := (ixN_seq (by unfold ixN; rw [if_pos h0, if_pos h1])).1
theorem get_ints {xs : List Int} {j : Nat} (h : j < xs.length) : (xs.map V.int)[j]? = some (.int (xs.getD j 0)) := by
  rw [List.getElem?_map, List.getElem?_eq_getElem h, List.getD_eq_getElem?_getD, List.getElem?_eq_getElem h]
  rfl
theorem map_get {xs : List Int} {j : Nat} {y : V} (h : (xs.map V.int)[j]? = some y) : ∃ x, y = .int x ∧ xs[j]? = some x := by
  rw [List.getElem?_map] at h
  cases e : xs[j]? with
  | none => rw [e] at h; cases h
  | some x => rw [e] at h; exact ⟨x, (Option.some.inj h).symm, rfl⟩
theorem len_map (xs : List Int) : (xs.map V.int).length = xs.length := List.length_map _
theorem erase_map : ∀ (xs : List Int) (j : Nat), (xs.map V.int).eraseIdx j = (xs.eraseIdx j).map V.int
  | [], _ => rfl
  | _ :: _, 0 => rfl
  | x :: xs, j + 1 => by
    show V.int x :: (xs.map V.int).eraseIdx j = V.int x :: (xs.eraseIdx j).map V.int
    rw [erase_map xs j]
theorem small12 {n : Nat} (h : n ≤ 1000) : n ≤ sizeLine := Nat.le_of_lt (small1000 h)
/-- the part of a slice -/
theorem cut_lo (xs : List V) {t : Int} (h0 : 0 ≤ t) : cutV xs none (some t) = xs.take t.toNat := by
  unfold cutV
  have e : HT.sIx xs.length xs.length (some t) = min t.toNat xs.length := by
    have := HT.sIx_nat xs.length xs.length t.toNat
    rwa [Int.toNat_of_nonneg h0] at this
  rw [HT.sIx_none, e]
  simp
theorem cut_hi (xs : List V) {t : Int} (h0 : 0 ≤ t) : cutV xs (some t) none = xs.drop t.toNat := by
  unfold cutV
  have e : HT.sIx xs.length 0 (some t) = min t.toNat xs.length := by
    have := HT.sIx_nat xs.length 0 t.toNat
    rwa [Int.toNat_of_nonneg h0] at this
  rw [HT.sIx_none, e]
  rw [List.take_of_length_le (by simp)]
  by_cases h : t.toNat ≤ xs.length
  · rw [Nat.min_eq_left h]
  · rw [Nat.min_eq_right (by omega), List.drop_of_length_le (Nat.le_refl _), List.drop_of_length_le (by omega)]
def rLen (K : PySem.W.Frag) : List V → Hp → VK → Prop := fun xs H Q => ∃ p ys, xs = [.ref p] ∧ (SqL K H p ys ∨ SqT K H p ys) ∧ Q (.int ys.length) H
theorem len_K {X : Cx} {K : PySem.W.Frag} (e : X.K = K := by rfl) : CallR X (.builtin "len") (rLen K) := by subst e; exact call_len_seq
theorem ix_K {X : Cx} {K : PySem.W.Frag} (e : X.K = K := by rfl) : IxR X (rIxL K) := by subst e; exact ix_list
theorem sl_K {X : Cx} {K : PySem.W.Frag} (e : X.K = K := by rfl) : SlR X (rSlL K) := by subst e; exact sl_list
theorem kit_same (K : PySem.W.Frag) (T : String) : PySem.W.kitOne K (.type T) (.type T) = some true := by
  unfold PySem.W.kitOne
  rw [if_pos (by simp)]
theorem kit_int_bool (K : PySem.W.Frag) : PySem.W.kitOne K (.type "int") (.type "bool") = some false := by
  unfold PySem.W.kitOne PySem.W.kitCls
  rw [if_neg (by decide)]
  show (if PySem.W.kitMeta "bool" = true then PySem.W.subIn K (.type "int") (.type "bool") else none) = some false
  rw [if_pos (by decide +kernel)]
  first | rfl | (unfold PySem.W.subIn; decide +kernel)
theorem pe_globI {X : Cx} {x : Str} {i : Int} {pos : Pos} (hg : Gl X x) (hm : ∃ t, X.mg x = some (.int i t)) (hd : (x == ("__debug__" : Str)) = false := by decide) : PE X (.Name x pos) (tC (.int i)) := by
  obtain ⟨t, h⟩ := hm
  exact pe_glob hg h ⟨_, rfl⟩ hd
theorem pg_tupK {X : Cx} {K : PySem.W.Frag} {es : List Expr} {k : Nat} {t : TGs} {n : Nat} {pos : Pos} (hc : X.calm = true) (h : PGs X es t) (e : X.K = K := by rfl)
    (hn : (assignEach es X.env).length = n := by rfl) (hst : (assignEach es X.env).findIdx? (·.1) = none := by rfl) : PG X (.Tuple es k pos) (gTup K n t) := by
  subst e
  exact pg_tup hc h hn hst
theorem seq_gen {t u : TS} {D : Ends} {σ : St} {H : Hp} (h : ∀ R : St → Hp → Prop, R = u D → t { D with nx := R } σ H) : tSeq t u D σ H := h _ rfl
section
variable {K : PySem.W.Frag} {cap : List (Option Nat)} {σ : St} {H1 : Hp} {g : TG} {te : TE} {Q : VK}
/-- over a list that stays: each item by a relation -/
theorem comp_listR {a : Addr} {xs : List V} (φ : V → V → Prop) (h : SqL K H1 a xs) (hl : xs.length ≤ 1000)
    (step : ∀ (x : V) (i : Nat) (H2 : Hp) (R : VK), xs[i]? = some x → Same H1 H2 → (∀ y H5, φ x y → Same H2 H5 → R y H5) → g x (capSt cap σ) H2 fun σ2 H3 => te σ2 H3 R)
    (fin : ∀ (p : Addr) (H' : Hp) (ys : List V), H1 p = none → Same H1 H' → H' p = some (.lst ys) → Paired φ xs ys → Q (.ref p) H') : CompW cap σ (Itl K a) H1 g tTrue te Q := by
  intro acc hacc
  refine ⟨fun i m ys H2 => m = xs.length - i ∧ i ≤ xs.length ∧ Paired φ (xs.take i) ys ∧ Same H1 H2 ∧ H2 acc = some (.lst ys), ⟨xs.length, by simp, Nat.zero_le _, .nil, Same.new hacc, upd_same⟩, ?_⟩
  rintro i m ys H2 ⟨rfl, hi, pr, s2, e2⟩
  refine ⟨e2, ?_⟩
  have hly := pr.length
  rw [List.length_take] at hly
  by_cases hlt : i < xs.length
  · refine .inr ⟨⟨xs, xs[i], s2.seq h, by simp [hlt]⟩, small1000 (by omega), fun x H3 y => ?_⟩
    obtain ⟨e, y⟩ := y
    subst e
    have hx := y xs (s2.seq h)
    simp only [tTrue, if_true]
    refine step x i _ _ hx s2 fun z H5 hz s5 => ⟨s5 _ _ e2, xs.length - (i + 1), by omega, rfl, hlt, ?_, (s2.trans s5).up hacc, upd_same⟩
    rw [List.take_add_one, hx]
    exact Paired.snoc pr hz
  · refine .inl ⟨⟨xs, s2.seq h, by omega⟩, fin acc H2 ys hacc s2 e2 ?_⟩
    rwa [List.take_of_length_le (by omega)] at pr
theorem paired_map {α β : Type} {f : α → β} : ∀ {xs : List α} {ys : List β}, Paired (fun x y => y = f x) xs ys → ys = xs.map f
  | _, _, .nil => rfl
  | _, _, .cons e t => by rw [List.map_cons, ← paired_map t, e]
theorem comp_list {a : Addr} {xs : List V} (f : V → V) (h : SqL K H1 a xs) (hl : xs.length ≤ 1000)
    (step : ∀ (x : V) (i : Nat) (H2 : Hp) (R : VK), xs[i]? = some x → Same H1 H2 → (∀ H5, Same H2 H5 → R (f x) H5) → g x (capSt cap σ) H2 fun σ2 H3 => te σ2 H3 R)
    (fin : ∀ (p : Addr) (H' : Hp), H1 p = none → Same H1 H' → H' p = some (.lst (xs.map f)) → Q (.ref p) H') : CompW cap σ (Itl K a) H1 g tTrue te Q :=
  comp_listR (fun x y => y = f x) h hl (fun x i H2 R e s k => step x i H2 R e s fun H5 s5 => k _ H5 rfl s5) fun p H' ys h1 h2 h3 h4 => by
    rw [paired_map h4] at h3
    exact fin p H' h1 h2 h3
/-- over a range -/
theorem comp_rangeR {lo : Int} {n : Nat} (φ : Nat → V → Prop) (hn : n ≤ 1000)
    (step : ∀ (i : Nat) (H2 : Hp) (R : VK), i < n → Same H1 H2 → (∀ y H5, φ i y → Same H2 H5 → R y H5) → g (.int (lo + i)) (capSt cap σ) H2 fun σ2 H3 => te σ2 H3 R)
    (fin : ∀ (p : Addr) (H' : Hp) (ys : List V), H1 p = none → Same H1 H' → H' p = some (.lst ys) → ys.length = n → (∀ (i : Nat) y, ys[i]? = some y → φ i y) → Q (.ref p) H') : CompW cap σ (Itr lo n) H1 g tTrue te Q := by
  intro acc hacc
  refine ⟨fun i m ys H2 => m = n - i ∧ i ≤ n ∧ ys.length = i ∧ (∀ (i : Nat) y, ys[i]? = some y → φ i y) ∧ Same H1 H2 ∧ H2 acc = some (.lst ys), ⟨n, by simp, Nat.zero_le _, rfl, fun i y e => by simp at e, Same.new hacc, upd_same⟩, ?_⟩
  rintro i m ys H2 ⟨rfl, hi, hly, pr, s2, e2⟩
  refine ⟨e2, ?_⟩
  by_cases hlt : i < n
  · refine .inr ⟨hlt, small1000 (by omega), fun x H3 y => ?_⟩
    obtain ⟨e, rfl⟩ := y
    subst e
    simp only [tTrue, if_true]
    refine step i _ _ hlt s2 fun z H5 hz s5 => ⟨s5 _ _ e2, n - (i + 1), by omega, rfl, hlt, by simp [hly], fun j y e => ?_, (s2.trans s5).up hacc, upd_same⟩
    by_cases hj : j < ys.length
    · rw [List.getElem?_append_left hj] at e
      exact pr j y e
    · rw [List.getElem?_append_right (by omega)] at e
      have hj' : j = i := by
        have := (List.getElem?_eq_some_iff.mp e).1
        simp at this
        omega
      subst hj'
      rw [hly, Nat.sub_self] at e
      cases e
      exact hz
  · exact .inl ⟨by show n ≤ i; omega, fin acc H2 ys hacc s2 e2 (by omega) pr⟩
end
end L2


/-! ITERATORS over the layer: zip of two lists. -/
namespace L2
open PySem PySem.Spec PyProof.Rows

/-- untracked records have turned -/
theorem Inv.turnedS {X : Cx} {pins : List (Addr × Obj)} {σ : St} {H : Hp} {s : Shared} {its : List Addr} {h' : Heap} {t' : Nat} (I : Inv X pins σ H s) (k : ∀ b u, b ∉ its → s.heap.get? b = some u → h'.get? b = some u)
    (fp : ∀ b ∈ its, FpOk X pins H b) : Inv X pins σ H { s with heap := h', toks := t' } := by
  have nit : ∀ b u, H b = some u → b ∉ its := fun b u e z => by have := (fp b z).1; rw [this] at e; cases e
  refine I.step (g' := s.gens) (d' := s.drawn) (ch := its) (fun b hb => ?_) (fun b ob _ _ hc e _ => k b ob hc e) (fun b ob _ _ hc e _ => ⟨ob.slots, k b ob hc e⟩)
    (fun _ _ _ _ n => n) (fun b ob hc e => ⟨ob, k b ob hc e⟩) (fun _ _ e => e) (fun _ _ _ e => e) (fun b ps e => ⟨#[], by rw [e]; simp⟩) (fun m hm => ?_) (fun b u e => ?_) I.bare
  · obtain ⟨_, hL, _, h1, h2, h3⟩ := fp b hb
    exact ⟨h1, hL, h2, h3⟩
  · obtain ⟨ob, es, ep, ho, r⟩ := hm
    exact ⟨ob, es, ep, k _ ob (fun z => (fp _ z).2.1 rfl) ho, r⟩
  · refine (I.hok b u e).stay (fun c v hc q => k c v ?_ q) (fun _ q => q) fun _ _ q => q
    rcases hc with z | z
    · rw [z]; exact nit b u e
    · exact nit c _ z
/-- .. and a new thing is laid and tracked -/
theorem Inv.laidTS {X : Cx} {pins : List (Addr × Obj)} {σ : St} {H : Hp} {s : Shared} {its : List Addr} {a : Addr} {o : HO} {h' : Heap} {t' : Nat} (I : Inv X pins σ H s) (k : ∀ b u, b ∉ its → s.heap.get? b = some u → h'.get? b = some u)
    (fp : ∀ b ∈ its, FpOk X pins H b) (hp : s.heap.objs.size ≤ a) (new : ObjOk X.prog X.w (upd H a o) h' a o) : Inv X pins σ (upd H a o) { s with heap := h', toks := t' } := by
  have hna : H a = none := I.hok.fresh hp
  have nit : ∀ b u, H b = some u → b ∉ its := fun b u e z => by have := (fp b z).1; rw [this] at e; cases e
  refine I.step (g' := s.gens) (d' := s.drawn) (ch := its) (fun b hb => ?_) (fun b ob _ _ hc e _ => k b ob hc e) (fun b ob _ _ hc e _ => ⟨ob.slots, k b ob hc e⟩)
    (fun b ob _ e n => by rw [upd_ne (Nat.ne_of_lt (Nat.lt_of_lt_of_le (Heap.lt_size e) hp))]; exact n)
    (fun b ob hc e => ⟨ob, k b ob hc e⟩) (fun b xs e => by rw [upd_ne (ne_of_none e hna)]; exact e) (fun b ob u e => by rw [upd_ne (ne_of_none e hna)]; exact e)
    (fun b ps e => ⟨#[], by rw [upd_ne (ne_of_none e hna), e]; simp⟩) (fun m hm => ?_) (fun b u e => ?_) I.bare
  · obtain ⟨_, hL, _, h1, h2, h3⟩ := fp b hb
    exact ⟨h1, hL, h2, h3⟩
  · obtain ⟨ob, es, ep, ho, r⟩ := hm
    exact ⟨ob, es, ep, k _ ob (fun z => (fp _ z).2.1 rfl) ho, r⟩
  · by_cases hb : b = a
    · subst hb
      rw [upd_same] at e
      cases e
      exact new
    · rw [upd_ne hb] at e
      refine (I.hok b u e).stay (fun c v hc q => k c v ?_ q) (fun c q => by rw [upd_ne (ne_of_none q hna)]; exact q) fun c xs q => by rw [upd_ne (ne_of_none q hna)]; exact q
      rcases hc with z | z
      · rw [z]; exact nit b u e
      · exact nit c _ z

/-- pairs of the items of two lists: each turn a new tuple -/
def Itz (K : PySem.W.Frag) (a b : Addr) : It :=
  ⟨fun i H => ∃ xs ys x y, SqL K H a xs ∧ SqL K H b ys ∧ xs[i]? = some x ∧ ys[i]? = some y,
   fun i H v H' => ∃ p x y, H p = none ∧ v = .ref p ∧ (∀ xs, SqL K H a xs → xs[i]? = some x) ∧ (∀ ys, SqL K H b ys → ys[i]? = some y) ∧ H' = upd H p (.tup [x, y]),
   fun i H => ∃ xs ys, SqL K H a xs ∧ SqL K H b ys ∧ (xs.length ≤ i ∨ ys.length ≤ i)⟩
def ZipSt (z TI TO i1 i2 a b : Addr) (i : Nat) (h : Heap) : Prop :=
  IsZip h z TI TO .none ∧ IsPair h TI (.ref i1) (.ref i2) ∧ (∃ u v, IsPair h TO u v) ∧ h.IsListIter i1 a i ∧ h.IsListIter i2 b i
theorem turn_zip {P : Program} {w : World} {K : PySem.W.Frag} {es : List Expr} {kk : Nat} {tp : Pos} {z TI TO i1 i2 a b : Addr} (D : ZipApart z TI TO i1 i2 a b) :
    Turn P w K (.Tuple es kk tp) (Itz K a b) [z, TI, TO, i1, i2] z (ZipSt z TI TO i1 i2 a b) where
  mem := by simp
  obj := fun i h st b' hb => by
    obtain ⟨h1, h2, ⟨u, v, h3⟩, h4, h5⟩ := st
    simp only [List.mem_cons, List.not_mem_nil, or_false] at hb
    rcases hb with rfl | rfl | rfl | rfl | rfl
    · exact ⟨_, h1, fun v z => by cases z⟩
    · exact ⟨_, h2, fun v z => by cases z⟩
    · exact ⟨_, h3, fun v z => by cases z⟩
    · obtain ⟨o, e, c, d⟩ := h4
      exact ⟨o, e, fun v z => by rw [d] at z; cases z⟩
    · obtain ⟨o, e, c, d⟩ := h5
      exact ⟨o, e, fun v z => by rw [d] at z; cases z⟩
  keep := fun i h h' st k => by
    obtain ⟨h1, h2, ⟨u, v, h3⟩, h4, h5⟩ := st
    exact ⟨k z (by simp) _ h1, k TI (by simp) _ h2, ⟨u, v, k TO (by simp) _ h3⟩, h4.at fun o e => k i1 (by simp) o e, h5.at fun o e => k i2 (by simp) o e⟩
  item := by
    intro X hP hw hK hc i pins s σ H E I hf st hg
    subst hP hw hK
    obtain ⟨xs, ys, x, y, q1, q2, e1, e2⟩ := hg
    obtain ⟨its1, r1, p1, z1⟩ := I.list q1
    obtain ⟨its2, r2, p2, z2⟩ := I.list q2
    obtain ⟨u1, hu1, ru1⟩ := r1.get e1
    obtain ⟨u2, hu2, ru2⟩ := r2.get e2
    obtain ⟨h1, h2, ⟨u, v, h3⟩, h4, h5⟩ := st
    refine wpAny_pyNext_zip_item D h1 h2 h3 h4 h5 p1.isList p2.isList (x := u1) (y := u2) (by simpa using hu1) (by simpa using hu2) fun h' b1 b2 b3 b4 b5 b6 b7 => ?_
    refine ⟨_, rfl, wpAny_letOwnedTupleGo_zip (s := { s with heap := h' }) b1 fun h'' c1 c2 => ?_⟩
    have up : ∀ b o, b ≠ z → h'.get? b = some o → h''.get? b = some o := fun b o hb e => c2.extBut b o hb e
    have hzlt : z < s.heap.objs.size := Heap.lt_size h1
    have k2 : ∀ c o, c ∉ [z, TI, TO, i1, i2] → s.heap.get? c = some o → h''.get? c = some o := fun c o hm e => by
      simp only [List.mem_cons, List.not_mem_nil, or_false, not_or] at hm
      exact up c o hm.1 (b7 c o hm.1 hm.2.2.1 hm.2.2.2.1 hm.2.2.2.2 e)
    refine ⟨.ref s.heap.objs.size, _, I.laidTS (a := s.heap.objs.size) (o := .tup [x, y]) (t' := s.toks) k2 hf (Nat.le_refl _) ?_, rfl, ⟨_, x, y, I.fresh, rfl, ?_, ?_, rfl⟩, ?_, ?_⟩
    · refine ⟨small1000 (by decide : 2 ≤ 1000) |> Nat.le_of_lt, [u1, u2], .cons ru1 (.cons ru2 .nil), ?_⟩
      exact ⟨_, up _ _ (Nat.ne_of_gt hzlt) b5, rfl, _, rfl⟩
    · intro xs' hq
      rw [I.list_inj hq q1]
      exact e1
    · intro ys' hq
      rw [I.list_inj hq q2]
      exact e2
    · refine ⟨c1, up _ _ D.TIz (b7 _ _ D.TIz D.TITO D.TIi1 D.TIi2 h2), ⟨_, _, up _ _ D.TOz b2⟩, b3.at fun o e => up _ o D.i1z e, b4.at fun o e => up _ o D.i2z e⟩
    · intro b' hb
      have hlt : b' < s.heap.objs.size := by
        obtain ⟨m1, m2⟩ := hf b' hb
        simp only [List.mem_cons, List.not_mem_nil, or_false] at hb
        rcases hb with rfl | rfl | rfl | rfl | rfl
        · exact Heap.lt_size h1
        · exact Heap.lt_size h2
        · exact Heap.lt_size h3
        · obtain ⟨o, e, _⟩ := h4; exact Heap.lt_size e
        · obtain ⟨o, e, _⟩ := h5; exact Heap.lt_size e
      rw [upd_ne (Nat.ne_of_lt hlt)]
      exact (hf b' hb).1
  done := by
    intro X hP hw hK hc i pins s σ H E I hf st hg
    subst hP hw hK
    obtain ⟨xs, ys, q1, q2, e⟩ := hg
    obtain ⟨its1, r1, p1, z1⟩ := I.list q1
    obtain ⟨its2, r2, p2, z2⟩ := I.list q2
    obtain ⟨h1, h2, ⟨u, v, h3⟩, h4, h5⟩ := st
    have l1 := r1.length
    have l2 := r2.length
    refine wpAny_pyNext_zip_end (I.ok.hd hc) D h1 h2 h3 h4 h5 p1.isList p2.isList ?_ fun h' k => ⟨rfl, I.turnedS (t' := s.toks) (its := [z, TI, TO, i1, i2]) (fun c o hm e => ?_) hf⟩
    · rcases e with e | e
      · left; simp; omega
      · right; simp; omega
    · simp only [List.mem_cons, List.not_mem_nil, or_false, not_or] at hm
      exact k c o hm.1 hm.2.2.1 hm.2.2.2.1 hm.2.2.2.2 e
  self := fun _ _ _ _ _ st h => wpAny_pyIter_zip st.1 h

section
variable {X : Cx} {es2 : List Expr} {kk : Nat} {tp : Pos}
def iZip (K : PySem.W.Frag) (ta : TA) : TI := fun σ H R => ta σ H fun vs H1 => ∃ a b, vs = [.ref a, .ref b] ∧ (∃ xs, SqL K H1 a xs) ∧ (∃ ys, SqL K H1 b ys) ∧ R (Itz K a b) H1
theorem pi_zip {K : PySem.W.Frag} {e1 e2 : Expr} {ta : TA} {p pos : Pos} (hg : Gl X "zip") (hm : X.mg "zip" = none) (ha : PA X [e1, e2] ta) (hK : X.K = K := by rfl) (hs : starEach [e1, e2] X.env = [(false, eval e1 X.env), (false, eval e2 X.env)] := by rfl) (hs2 : starEach [e2] X.env = [(false, eval e2 X.env)] := by rfl) :
    PI X (.Tuple es2 kk tp) (.Call (.Name "zip" p) [e1, e2] [] pos) (iZip K ta) := by
  intro pins s σ H R I h
  subst hK
  refine Call_ (ld_blt I hg hm bt_zip (PyProof.Rows.callWith_type1 (thn (ha pos pins s σ H _ I h) fun us s1 ⟨vs, H1, I1, r1, q1⟩ => ?_) (by rw [hs, hs2]) (by rw [hs2]; rfl)))
  obtain ⟨a, b, e, ⟨xs, h1⟩, ⟨ys, h2⟩, q⟩ := q1
  subst e
  cases r1 with
  | cons r rr =>
    cases rr with
    | cons r' rr =>
      cases rr
      cases r
      cases r'
      obtain ⟨its1, r1, p1, z1⟩ := I1.list h1
      obtain ⟨its2, r2, p2, z2⟩ := I1.list h2
      have a1 : a < s1.heap.objs.size := by obtain ⟨_, e, _⟩ := p1.isList; exact Heap.lt_size e
      have a2 : b < s1.heap.objs.size := by obtain ⟨_, e, _⟩ := p2.isList; exact Heap.lt_size e
      refine call_zip_2 p1.isList p2.isList fun h' c1 c2 c3 c4 c5 c6 c7 => ?_
      refine wpAny_pyIter_zip (s := { s1 with heap := h' }) c1 ?_
      refine ⟨_, _, _, _, H1, rfl, I1.kept (t' := s1.toks) c7, turn_zip (zipApart_new a1 a2), ⟨c1, c2, ⟨_, _, c3⟩, c4, c5⟩, fun b' hb => ?_, q⟩
      have hle : s1.heap.objs.size ≤ b' := by
        simp only [List.mem_cons, List.not_mem_nil, or_false] at hb
        rcases hb with rfl | rfl | rfl | rfl | rfl <;> omega
      exact I1.fpOk hle (I1.hok.fresh hle)
end
section
variable {K : PySem.W.Frag} {cap : List (Option Nat)} {σ : St} {H1 : Hp} {tt : TT} {te : TE} {Q : VK}
/-- what is left of the pairs: how many -/
theorem comp_zipF {a b : Addr} {xs ys : List V} (keep : V → V → Bool) (hx : SqL K H1 a xs) (hy : SqL K H1 b ys) (hl : xs.length = ys.length) (hn : xs.length ≤ 1000)
    (step : ∀ (i : Nat) (x y : V) (H2 : Hp) (R1 : VK) (R2 : Hp → Prop), xs[i]? = some x → ys[i]? = some y → Same H1 H2 → (keep x y = true → ∀ z H5, Same H2 H5 → R1 z H5) → (keep x y = false → ∀ H5, Same H2 H5 → R2 H5) →
      tt (((capSt cap σ).set 0 (some x)).set 1 (some y)) H2 fun bb H5 => if bb = true then te (((capSt cap σ).set 0 (some x)).set 1 (some y)) H5 R1 else R2 H5)
    (fin : ∀ (p : Addr) (H' : Hp) (zs : List V), H1 p = none → Same H1 H' → H' p = some (.lst zs) → zs.length = ((xs.zip ys).filter fun q => keep q.1 q.2).length → Q (.ref p) H') :
    CompW cap σ (Itz K a b) H1 (gTup K 2 (gCons (gName 0) (gCons (gName 1) gNil))) tt te Q := by
  intro acc hacc
  have hzl : (xs.zip ys).length = xs.length := by rw [List.length_zip]; omega
  refine ⟨fun i m zs H2 => m = xs.length - i ∧ i ≤ xs.length ∧ zs.length = (((xs.zip ys).take i).filter fun q => keep q.1 q.2).length ∧ Same H1 H2 ∧ H2 acc = some (.lst zs), ⟨xs.length, by simp, Nat.zero_le _, rfl, Same.new hacc, upd_same⟩, ?_⟩
  rintro i m zs H2 ⟨rfl, hi, hz, s2, e2⟩
  refine ⟨e2, ?_⟩
  have hzn : zs.length ≤ i := by
    rw [hz]
    refine Nat.le_trans (List.length_filter_le _ _) ?_
    rw [List.length_take]
    omega
  by_cases hlt : i < xs.length
  · have g1 : xs[i]? = some xs[i] := List.getElem?_eq_getElem hlt
    have g2 : ys[i]? = some ys[i] := List.getElem?_eq_getElem (by omega)
    refine .inr ⟨⟨xs, ys, _, _, s2.seq hx, s2.seq hy, g1, g2⟩, small1000 (by omega), fun v H3 yl => ?_⟩
    obtain ⟨p, x, y, hp, rfl, w1, w2, rfl⟩ := yl
    have hx1 := w1 xs (s2.seq hx)
    have hy1 := w2 ys (s2.seq hy)
    have hxy : (xs.zip ys)[i]? = some (x, y) := by rw [List.getElem?_zip_eq_some]; exact ⟨hx1, hy1⟩
    have s3 : Same H2 (upd H2 p (.tup [x, y])) := Same.new hp
    refine ⟨p, [x, y], rfl, SqT.of upd_same, rfl, x, [y], rfl, y, [], rfl, rfl, ?_⟩
    refine step i x y _ _ _ hx1 hy1 (s2.trans s3) (fun hk z H5 s5 => ?_) fun hk H5 s5 => ?_
    · refine ⟨s5 _ _ (s3 _ _ e2), xs.length - (i + 1), by omega, rfl, hlt, ?_, ((s2.trans s3).trans s5).up hacc, upd_same⟩
      rw [List.take_add_one, hxy, List.filter_append, List.length_append, List.length_append, hz]
      simp [hk]
    · refine ⟨xs.length - (i + 1), by omega, rfl, hlt, ?_, (s2.trans s3).trans s5, s5 _ _ (s3 _ _ e2)⟩
      rw [List.take_add_one, hxy, List.filter_append, List.length_append, hz]
      simp [hk]
  · refine .inl ⟨⟨xs, ys, s2.seq hx, s2.seq hy, .inl (by omega)⟩, fin acc H2 zs hacc s2 e2 ?_⟩
    rwa [List.take_of_length_le (by omega)] at hz
end
end L2


/-! ITERATORS over the layer: ranges with a step, downwards, reversed; list(reversed(range(a, b))); xs.index(k). -/
namespace L2
open PySem PySem.Spec PyProof.Rows

/-- lo, lo + c, lo + 2 c .. (n of them) -/
def Its (lo c : Int) (n : Nat) : It := ⟨fun i _ => i < n, fun i H x H' => H' = H ∧ x = .int (lo + i * c), fun i _ => n ≤ i⟩
theorem turn_rangeS {P : Program} {w : World} {K : PySem.W.Frag} {tg : Expr} (it : Addr) (lo c : Int) (n : Nat) : Turn P w K tg (Its lo c n) [it] it (fun i h => IsRangeIter h it (lo + (i : Nat) * c) ((n : Int) - (i : Nat)) c) where
  mem := by simp
  obj := fun i h st b hb => by
    have e : b = it := by simpa using hb
    subst e
    exact ⟨_, st, fun v z => by cases z⟩
  keep := fun i h h' st k => k it (by simp) _ st
  item := by
    intro X hP hw hK hc i pins s σ H E I hf st hg
    subst hP hw hK
    obtain ⟨f0, f1, f2, f3, f4, f5⟩ := hf it (by simp)
    have W := Walks.range (prog := X.prog) (w := X.w) (I.ok.hd hc) it lo c n
    refine W.item i s _ _ hg st fun v h' tk hv st' kk => ?_
    obtain ⟨t, rfl⟩ := hv
    have I1 : Inv X pins σ H { s with heap := h', toks := tk } := I.turned (fun b o hb e => kk b o (by simpa using hb) e) f0 f1 f3 f4 f5
    exact ⟨_, rfl, go_of (s := { s with heap := h', toks := tk }) (n := "range_iterator") st' rfl rfl (by decide) ⟨.int (lo + i * c), H, I1, ⟨t, rfl⟩, ⟨rfl, rfl⟩, st', fun b hb => (hf b hb).1⟩⟩
  done := by
    intro X hP hw hK hc i pins s σ H E I hf st hg
    subst hP hw hK
    obtain ⟨f0, f1, f2, f3, f4, f5⟩ := hf it (by simp)
    exact wpAny_pyNext_range_end (I.ok.hd hc) st (by have : n ≤ i := hg; omega) fun h' eb => ⟨rfl, I.turned (t' := s.toks) (fun b o hb e => eb b o hb e) f0 f1 f3 f4 f5⟩
  self := fun _ _ _ _ _ st h => wpAny_pyIter_rangeiter st h
/-- a loop over such a range -/
theorem for_step {lo c : Int} {n : Nat} {g : TG} {tb : TS} {D : Ends} {σ : St} {H : Hp} (Pv : Nat → St → Hp → Prop) (h0 : Pv 0 σ H)
    (hs : ∀ i σ H, i < n → Pv i σ H → g (.int (lo + i * c)) σ H fun σ2 H2 => tb { D with nx := Pv (i + 1), ct := Pv (i + 1), bk := D.nx } σ2 H2) (hd : ∀ σ H, Pv n σ H → D.nx σ H) :
    ∃ W : Nat → Nat → St → Hp → Prop, (∃ m, W 0 m σ H) ∧ ∀ i m σ H, W i m σ H →
      ((Its lo c n).stop i H ∧ D.nx σ H) ∨ ((Its lo c n).go i H ∧ ∃ N : St → Hp → Prop, (∀ σ' H', N σ' H' → ∃ m', m' < m ∧ W (i + 1) m' σ' H') ∧ ∀ x H', (Its lo c n).yld i H x H' → g x σ H' fun σ2 H2 => tb { D with nx := N, ct := N, bk := D.nx } σ2 H2) := by
  refine ⟨fun i m σ H => m = n - i ∧ i ≤ n ∧ Pv i σ H, ⟨n, by simp, Nat.zero_le _, h0⟩, ?_⟩
  rintro i m σ H ⟨rfl, hi, p⟩
  by_cases hlt : i < n
  · refine .inr ⟨hlt, Pv (i + 1), fun σ' H' p' => ⟨n - (i + 1), by omega, rfl, hlt, p'⟩, fun x H' y => ?_⟩
    obtain ⟨e, rfl⟩ := y
    subst e
    exact hs i σ _ hlt p
  · have e : i = n := by omega
    subst e
    exact .inl ⟨Nat.le_refl _, hd σ H p⟩

theorem three {i j k : Int} {us : List Value} (r : Vals [.int i, .int j, .int k] us) : ∃ t t' t'', us = [Value.int i t, Value.int j t', Value.int k t''] := by
  cases r with
  | cons r1 r =>
    cases r with
    | cons r2 r =>
      cases r with
      | cons r3 r =>
        cases r
        obtain ⟨t, rfl⟩ := r1
        obtain ⟨t', rfl⟩ := r2
        obtain ⟨t'', rfl⟩ := r3
        exact ⟨t, t', t'', rfl⟩
section
variable {X : Cx} {tg : Expr}
/-- range(a, b, -1) -/
def iRng3 (ta : TA) : TI := fun σ H R => ta σ H fun vs H1 => ∃ i j : Int, vs = [.int i, .int j, .int (-1)] ∧ (-(2 ^ 20) ≤ i ∧ i < 2 ^ 20 ∧ -(2 ^ 20) ≤ j ∧ j < 2 ^ 20) ∧ R (Its i (-1) (i - j).toNat) H1
theorem pi_range3 {a b c : Expr} {ta : TA} {p pos : Pos} (hg : Gl X "range") (hm : X.mg "range" = none) (ha : PA X [a, b, c] ta) (hs : starEach [a, b, c] X.env = (false, eval a X.env) :: starEach [b, c] X.env := by rfl) (hp : (backTo pos (starEach [b, c] X.env)).any (·.1) = false := by rfl) :
    PI X tg (.Call (.Name "range" p) [a, b, c] [] pos) (iRng3 ta) := by
  intro pins s σ H R I h
  refine Call_ (ld_blt I hg hm bt_range (PyProof.Rows.callWith_type1 (thn (ha pos pins s σ H _ I h) fun us s1 ⟨vs, H1, I1, r1, q1⟩ => ?_) hs hp))
  obtain ⟨i, j, e, ⟨q1, q2, q3, q4⟩, q⟩ := q1
  subst e
  obtain ⟨t, t', t'', rfl⟩ := three r1
  · refine call_range_3 (by decide) ?_ (.inl (PyProof.noPylong_small (by decide)))
    refine wpAny_pyIter_range (IsRange.new ..) (PySem.W.small_down (by omega) (by omega) (by omega) (by omega)) ?_
    have I2 : Inv X pins σ H1 { s1 with heap := s1.heap.push { cls := .type "range", data := .fields #[.int i t, .int j t', .int (-1) t''] }, toks := s1.toks } := I1.kept fun b o e => Heap.get?_push_of_some _ e
    refine ⟨_, [_], _, _, H1, rfl, I2.kept (t' := s1.toks) fun b o e => Heap.get?_push_of_some _ e, turn_rangeS _ i (-1) (i - j).toNat, ?_, fun b hb => ?_, q⟩
    · have e1 : i + ((0 : Nat) : Int) * (-1) = i := by simp
      have e2 : (((i - j).toNat : Nat) : Int) - ((0 : Nat) : Int) = Builtin.Range.rangeSize i j (-1) := by rw [PySem.W.rangeSize_downNat]; omega
      show IsRangeIter _ _ (i + ((0 : Nat) : Int) * (-1)) ((((i - j).toNat : Nat) : Int) - ((0 : Nat) : Int)) (-1)
      rw [e1, e2]
      exact Heap.get?_push_size _ rfl
    · have e := List.mem_singleton.mp hb
      subst e
      exact I2.fpOk (Nat.le_refl _) I2.fresh
end

section
variable {prog : Program} {w : World} {A : Around} {E : Value → Shared → Prop} {s : Shared}
def downIter (a b : Int) : Obj := { cls := .type "range_iterator", dict := none, data := .fields #[rawInt (a + (((b - a).toNat : Int) - 1) * 1), rawInt ((b - a).toNat : Int), rawInt (-1)], slots := #[] }
end

section
variable {X : Cx} {tg : Expr}
/-- reversed(range(a, b)) -/
def iRevRng (ta : TA) : TI := fun σ H R => ta σ H fun vs H1 => ∃ i j : Int, vs = [.int i, .int j] ∧ (-(2 ^ 20) ≤ i ∧ i ≤ 2 ^ 20 ∧ -(2 ^ 20) ≤ j ∧ j ≤ 2 ^ 20) ∧ R (Its (i + ((j - i).toNat : Int) - 1) (-1) (j - i).toNat) H1
/-! ### xs.index(k) of ints -/
theorem mt_index : MtR X "list.index" (fun x xs H Q => ∃ (p : Addr) (ns : List Int) (k : Int), x = .ref p ∧ xs = [.int k] ∧ SqL X.K H p (ns.map V.int) ∧ k ∈ ns ∧ ns.length ≤ 1000 ∧ Q (.int (ns.idxOf k : Nat)) H) := by
  intro pins s σ H x xs v us Q I rx rs h
  obtain ⟨p, ns, k, rfl, rfl, hq, hk, hl, q⟩ := h
  cases rx
  obtain ⟨u, rfl, t, rfl⟩ := vals1 rs
  obtain ⟨its, r', pl, hz⟩ := I.list hq
  have hi := intsAre_of r'
  have hlen := hi.length
  obtain ⟨⟨cls, dd, data, sl⟩, ho, hc, n, hd⟩ := pl.isList
  simp only at hc hd
  subst hc hd
  have hj : ns.idxOf k < ns.length := List.idxOf_lt_length_iff.mpr hk
  have at_ : ∀ (m : Nat) (h1 : m < its.length) (h2 : m < ns.length), ∃ t, its[m] = Value.int ns[m] t := fun m h1 h2 => by
    obtain ⟨u, e, r⟩ := r'.get (i := m) (x := .int ns[m]) (by rw [List.getElem?_map, List.getElem?_eq_getElem h2]; rfl)
    obtain ⟨t, rfl⟩ := r
    rw [List.getElem?_eq_getElem h1] at e
    exact ⟨t, Option.some.inj e⟩
  refine call_meets PySem.F.slot_list_index ⟨_, ho, rfl⟩ PySem.F.entry_list_index (PySem.F.args_list_index_2 _ _)
    (SeqAt.list_indexAt p its.toArray n dd sl (.int k t) (fun y => match y with | .int a _ => a == k | _ => false) (ns.idxOf k) (by simpa [hlen] using hj) (by omega) ?_ ?_) ⟨ho, fun y hy => ?_, ⟨.int _, H, I.tok _, ⟨_, rfl⟩, q⟩⟩
  · obtain ⟨t, e⟩ := at_ (ns.idxOf k) (by omega) hj
    have e' : its.toArray[ns.idxOf k]'(by simpa [hlen] using hj) = Value.int ns[ns.idxOf k] t := by simpa using e
    rw [e']
    simp
  · intro m hm hlt
    have hm' : m < its.length := by simpa using hm
    obtain ⟨t, e⟩ := at_ m hm' (by omega)
    have e' : its.toArray[m]'hm = Value.int ns[m] t := by simpa using e
    rw [e']
    have := List.not_of_lt_findIdx (p := fun a => a == k) (xs := ns) (i := m) hlt
    simpa using this
  · have hy' : y ∈ its := by simpa using hy
    obtain ⟨m, hm, rfl⟩ := List.getElem_of_mem hy'
    obtain ⟨t2, e⟩ := at_ m hm (by omega)
    rw [e]
    exact SeqAt.EqAt.int_int _ _ _ _
end
end L2


/-! list(reversed(range(a, b))) over the layer. -/
namespace L2
open PySem PySem.Spec PyProof.Rows
section
variable {prog : Program} {w : World} {A : Around} {E : Value → Shared → Prop} {s : Shared}
end
section
variable {X : Cx}
def tListRevRng (ta : TA) : TE := fun σ H Q => ta σ H fun vs H1 => ∃ i j : Int, vs = [.int i, .int j] ∧ (-(2 ^ 9) ≤ i ∧ i ≤ 2 ^ 9 ∧ -(2 ^ 9) ≤ j ∧ j ≤ 400) ∧ ∀ l, H1 l = none → Q (.ref l) (upd H1 l (.lst ((Fs.upTo i j).reverse.map V.int)))
end
end L2


/-! METHODS of lists within a comprehension: the kit said. -/
namespace L2
open PySem PySem.Spec PyProof.Rows
section
variable {X : Cx} {K : PySem.W.Frag} {o e : Expr} {es : List Expr} {to : TE} {t : TA} {name : Str} {apos cpos : Pos} {T id : String} {r : V → List V → Hp → VK → Prop}
def rIndex (K : PySem.W.Frag) : V → List V → Hp → VK → Prop := fun x xs H Q => ∃ (p : Addr) (ns : List Int) (k : Int), x = .ref p ∧ xs = [.int k] ∧ SqL K H p (ns.map V.int) ∧ k ∈ ns ∧ ns.length ≤ 1000 ∧ Q (.int (ns.idxOf k : Nat)) H
end
end L2


/-! EXCEPTIONS of the program's own classes: raised, passing frames. -/
namespace L2
open PySem PySem.Spec PyProof.Rows

theorem ObjOk.there {P : Program} {w : World} {H : Hp} {h : Heap} {a : Addr} {o : HO} (x : ObjOk P w H h a o) : ∃ ob, h.get? a = some ob := by
  cases o with
  | lst xs => obtain ⟨_, _, _, _, e⟩ := x; exact ⟨_, e⟩
  | tup xs => obtain ⟨_, _, _, o, e, _⟩ := x; exact ⟨_, e⟩
  | dK kvs => obtain ⟨_, _, _, _, o, _, _, e, _⟩ := x; exact ⟨_, e⟩
  | dT kvs => obtain ⟨_, _, _, _, o, _, _, e, _⟩ := x; exact ⟨_, e⟩
  | set S n => obtain ⟨o, _, _, _, e, _⟩ := x; exact ⟨_, e⟩
  | ins C dx fs => obtain ⟨_, _, _, e, _⟩ := x; exact ⟨_, e⟩
  | own y => exact x
  | xd fs => obtain ⟨_, ⟨_, _, _, e, _⟩, _⟩ := x; exact ⟨_, e⟩
  | rng lo hi => obtain ⟨_, _, _, e⟩ := x; exact ⟨_, e⟩
  | frz ob u => obtain ⟨e, _⟩ := x; exact ⟨_, e⟩
  | tbl ps => exact ⟨_, (show h.get? a = some _ from x)⟩
  | met f y => exact ⟨_, (show h.get? a = some _ from x)⟩
  | ext φ => obtain ⟨_, e, _⟩ := x; exact e

/-- what lies in B: all that stood at g (the frames l aside), and all that is tracked -/
structure InB (B : Heap) (l : List Addr) (H' : Hp) (g : Heap) : Prop where
  old : ∀ b o, g.get? b = some o → b ∉ l → ∃ o', B.get? b = some o'
  trk : ∀ b u, H' b = some u → ∃ o', B.get? b = some o'
theorem fly_step {P : Program} {w : World} {B g h1 h2 : Heap} {l : List Env} {H H' : Hp} (u : Un (frs l) [] H H' g h1) (ok : HOk P w H' h1) (ib : InB B (frs l) H' g) (k1 : B.StaysIn h1) (k2 : B.StaysIn h2)
    (fr : h1.FunFrames B l) (up : h1.UpToSlots h2) : Un (frs l) [] H H' g h2 ∧ HOk P w H' h2 := by
  have same : ∀ b o, h1.get? b = some o → (∃ o', B.get? b = some o') → h2.get? b = some o := fun b o e ⟨o', q⟩ => by
    have z := k1 b o' q
    rw [e] at z
    cases z
    exact k2 b o q
  refine ⟨⟨fun b o e n hf hx => same b o (u.keep b o e n hf hx) (ib.old b o e hf), fun b o e n hf hx => ?_, u.free, fun b o e hx => ?_, u.tups, u.frzs, u.tbls⟩, fun a o e => ?_⟩
  · obtain ⟨sl, e1⟩ := u.slot b o e n hf hx
    obtain ⟨_, o1, q1, q2⟩ := fr.mem hf
    rw [e1] at q1
    cases q1
    obtain ⟨sl', e2⟩ := up b _ e1 q2
    exact ⟨sl', e2⟩
  · obtain ⟨o1, e1⟩ := u.there b o e hx
    by_cases hf : b ∈ frs l
    · obtain ⟨_, o2, q1, q2⟩ := fr.mem hf
      obtain ⟨sl', e2⟩ := up b _ q1 q2
      exact ⟨_, e2⟩
    · exact ⟨o1, same b o1 e1 (ib.old b o e hf)⟩
  · refine (ok a o e).stay (fun b v hb q => same b v q ?_) (fun _ q => q) fun _ _ q => q
    rcases hb with z | z
    · rw [z]; exact ib.trk a o e
    · exact ib.trk b _ z

/-- how an exception lies behind a call: it flies -/
def CXX (P : Program) (w : World) : CXT := fun outer H s E e s' => ∃ ea cls H', e = .ref ea ∧ s'.os = s.os ∧ AllBare s'.gens ∧ Un (frs outer) [] H H' s.heap s'.heap ∧ HOk P w H' s'.heap ∧ H' ea = none ∧
  (∃ B t, Heap.FlyingW B outer ea cls (.ref t) s'.heap ∧ InB B (frs outer) H' s.heap) ∧ E cls none H'
/-- an exception of a callee reaches what is wanted here; E by the names' values -/
def PassS (CX : CXT) (X : Cx) (E : St → XK) : Prop := ∀ (pins : List (Addr × Obj)) (σ : St) (H : Hp) (s : Shared) (e : Value) (s' : Shared), Inv X pins σ H s → CX X.stack H s (E σ) e s' → X.xe e s'

section
variable {P : Program} {w : World} {K : PySem.W.Frag} {mg : Str → Option Value} {base : Heap} {N : List Str} {qual : Str} {sc : Scope} {f : Addr} {cd : Value} {A : Around} {outer : List Env} {s₀ : Shared} {H₀ : Hp} {E : XK}
theorem old_of {X : Cx} {pins : List (Addr × Obj)} {σ : St} {H H' : Hp} {s : Shared} {B : Heap} (hx : X.ex = []) (I : Inv X pins σ H s) (ib : InB B (frs X.stack) H' s.heap) : ∀ b o, X.s₀.heap.get? b = some o → b ∉ frs X.outer → ∃ o', B.get? b = some o' := fun b o e hf => by
  obtain ⟨o1, e1⟩ := I.base.there b o e (by rw [hx]; simp)
  refine ib.old b o1 e1 fun z => ?_
  rcases List.mem_cons.mp (I.stkSub b z) with q | q
  · rw [q] at e
    exact absurd (Heap.lt_size e) (Nat.not_lt.mpr I.ok.above)
  · exact hf q
/-- through the frame of a body -/
theorem pass_leave : PassS (CXX P w) (cxOf (CXX P w) P w K mg base N qual sc f cd A outer s₀ H₀ E) (fun _ => E) := by
  rintro pins σ H s e s' I ⟨ea, cls, H', rfl, os, bare, un, hok, en, ⟨B, t, fl, ib⟩, q⟩
  show wpAny _ _ (leaving _ _) _ _ s'
  refine wpAny_leaves_onW I.ok.frames rfl fl fun h' fl' up => ?_
  obtain ⟨un', hok'⟩ := fly_step un hok ib fl.1 fl'.1 fl.2.2.1 up
  have J := I.call' (s' := { s' with heap := h' }) os un' hok' bare (fun b z => absurd z (by simp))
  exact ⟨ea, cls, H', rfl, J.os, bare, J.base, J.hok, en, ⟨B, t, fl', old_of rfl I ib, ib.trk⟩, q⟩
/-- an exception that was just made leaves -/
theorem raise_leave {pins : List (Addr × Obj)} {σ : St} {H : Hp} {s : Shared} {h' : Heap} {ea : Addr} {cls : Value} {vs : List Value} (I : Inv (cxOf (CXX P w) P w K mg base N qual sc f cd A outer s₀ H₀ E) pins σ H s)
    (m : Heap.MadeExcOf s.heap h' ea cls vs) (q : E cls none H) : (cxOf (CXX P w) P w K mg base N qual sc f cd A outer s₀ H₀ E).xe (.ref ea) { s with heap := h' } := by
  have ib : InB (PySem.W.hideAll s.heap (frs (cxOf (CXX P w) P w K mg base N qual sc f cd A outer s₀ H₀ E).stack)) (frs (cxOf (CXX P w) P w K mg base N qual sc f cd A outer s₀ H₀ E).stack) H s.heap := by
    refine ⟨fun b o e hf => ⟨o, PySem.W.hideAll_get _ e hf⟩, fun b u e => ?_⟩
    obtain ⟨ob, eb⟩ := (I.hok b u e).there
    refine ⟨ob, PySem.W.hideAll_get _ eb fun z => ?_⟩
    rw [I.stkFree b z] at e
    cases e
  have fr := PySem.W.funFrames_hide (as := frs (cxOf (CXX P w) P w K mg base N qual sc f cd A outer s₀ H₀ E).stack) I.stack fun env he a hf => List.mem_filterMap.mpr ⟨env, he, hf⟩
  show wpAny _ _ (leaving _ _) _ _ { s with heap := h' }
  refine wpAny_leaves_madeW (h := s.heap) I.ok.frames rfl (fun b o z => PySem.W.of_hideAll _ z) fr m fun h'' t fl _ _ up => ?_
  have refl : Un (frs (cxOf (CXX P w) P w K mg base N qual sc f cd A outer s₀ H₀ E).stack) [] H H s.heap s.heap := Un.kept fun b o z => z
  obtain ⟨un', hok'⟩ := fly_step refl I.hok ib (fun b o z => PySem.W.of_hideAll _ z) fl.1 fr ((Heap.UpToSlots.of_keeps m.keeps).trans up)
  have J := I.call' (s' := { s with heap := h'' }) rfl un' hok' I.bare (fun b z => absurd z (by simp))
  refine ⟨ea, cls, H, rfl, J.os, I.bare, J.base, J.hok, ?_, ⟨_, t, fl, old_of rfl I ib, ib.trk⟩, q⟩
  cases e : H ea with
  | none => rfl
  | some u =>
    obtain ⟨ob, eb⟩ := (I.hok ea u e).there
    rw [m.new] at eb
    cases eb
end

/-- an own class under ValueError, as the kit has it -/
def vmro : List Value := [.type "ValueError", .type "Exception", .type "BaseException", .type "object"]
structure ExcC (K : PySem.W.Frag) (C : Addr) : Prop where
  ok : PySem.W.excIn K C vmro "ValueError.__new__" = true
  kp : PySem.W.keepIn K (.ref C) = true
theorem exc_obj {K : PySem.W.Frag} {C : Addr} {h : Heap} (X : K.In h) (q : PySem.W.excIn K C vmro "ValueError.__new__" = true) :
    ∃ nm qn N bs bm hdct sn sub ab col dd k0 k1 k2 k3 k5 mN, h.get? C = some (excClassObj nm qn C N bs bm hdct sn sub ab col dd k0 k1 k2 k3 k5 "ValueError.__new__") ∧ h.Ns N mN ∧ mN "__init__" = none ∧ OwnTail h vmro bm := by
  unfold PySem.W.excIn at q
  split at q
  · rename_i dd cd sl ho
    split at q
    · rename_i C' bm k0 k1 k2 k3 n k5 hm hs
      simp only [Bool.and_eq_true, beq_iff_eq, Bool.not_eq_true'] at q
      obtain ⟨⟨⟨⟨⟨rfl, rfl⟩, nodel⟩, tail⟩, nsok⟩, noinit⟩ := q
      obtain ⟨nm, bs, mro, ns, qn, hd, sn, sub, ab, col, del⟩ := cd
      dsimp only at hm nodel nsok noinit
      subst hm nodel
      obtain ⟨l⟩ := sl
      simp only at hs
      subst hs
      exact ⟨nm, qn, ns, bs, bm, hd, sn, sub, ab, col, dd, k0, k1, k2, k3, k5, _, X _ _ ho, .of_isNs (PySem.W.isNs_of_in X nsok), PySem.W.nsMap_none_of_in X nsok noinit, PySem.W.tail_of_in X tail⟩
    · cases q
  · cases q

/-- raise C(..) in a body -/
def tRaise (C : Addr) (ta : TA) (E : XK) : TS := fun _ σ H => ta σ H fun vs H1 => vs.length ≤ 1000 ∧ E (.ref C) none H1
section
variable {P : Program} {w : World} {K : PySem.W.Frag} {mg : Str → Option Value} {base : Heap} {N : List Str} {qual : Str} {sc : Scope} {f : Addr} {cd : Value} {A : Around} {outer : List Env} {s₀ : Shared} {H₀ : Hp} {E : XK}
theorem ps_raise {x : Str} {C : Addr} {e₀ : Expr} {rest : List Expr} {np cpos pos : Pos} {ta : TA} (hc : ExcC K C) (hh : A.handled = none) (hg : Gl (cxOf (CXX P w) P w K mg base N qual sc f cd A outer s₀ H₀ E) x) (hm : mg x = some (.ref C))
    (ha : PA (cxOf (CXX P w) P w K mg base N qual sc f cd A outer s₀ H₀ E) (e₀ :: rest) ta)
    (he : starEach (e₀ :: rest) (cxOf (CXX P w) P w K mg base N qual sc f cd A outer s₀ H₀ E).env = (false, eval e₀ (cxOf (CXX P w) P w K mg base N qual sc f cd A outer s₀ H₀ E).env) :: starEach rest (cxOf (CXX P w) P w K mg base N qual sc f cd A outer s₀ H₀ E).env := by rfl)
    (hpl : (backTo cpos (starEach rest (cxOf (CXX P w) P w K mg base N qual sc f cd A outer s₀ H₀ E).env)).any (·.1) = false := by rfl) (hd : (x == ("__debug__" : Str)) = false := by decide) :
    PS (cxOf (CXX P w) P w K mg base N qual sc f cd A outer s₀ H₀ E) (.Raise (some (.Call (.Name x np) (e₀ :: rest) [] cpos)) none pos) (tRaise C ta E) := by
  intro pins s σ H D I h
  obtain ⟨nm, qn, N', bs, bm, hdct, sn, sub, ab, col, dd, k0, k1, k2, k3, k5, mN, hC, hN, hni, T⟩ := exc_obj I.ok.mod.kin hc.ok
  have hany : (backTo cpos (starEach (e₀ :: rest) (cxOf (CXX P w) P w K mg base N qual sc f cd A outer s₀ H₀ E).env)).any (·.1) = false := by
    rw [he]
    show (false || (backTo cpos (starEach rest (cxOf (CXX P w) P w K mg base N qual sc f cd A outer s₀ H₀ E).env)).any (·.1)) = false
    rw [hpl]
    rfl
  refine wpAny_Raise_call_subT (C := C) (nm := nm) (q := qn) (N := N') (bs := bs) (bm := bm) (hdct := hdct) (sn := sn) (sub := sub) (ab := ab) (col := col) (dd := dd) (k0 := k0) (k1 := k1) (k2 := k2) (k3 := k3) (k5 := k5)
    PySem.F.excBase_ValueError (mN := mN) (T.hasType PySem.F.excBase_ValueError.hasBase) hh hany hni (ld_glob I hg hm ⟨rfl, ?_⟩ hd)
  have hA := ha cpos pins s σ H _ I h
  rw [he] at hA ⊢
  refine Calls.evalArgs_plain (wpAny_mono hA (fun us s2 ⟨vs, H1, I1, r, hl, q⟩ => ?_) fun _ _ z => z)
  exact ⟨rfl, by show us.length ≤ sizeLine; rw [← r.length]; exact Nat.le_of_lt (small1000 hl), I1.bk _ _ hC, hN.keeps I1.bk, T.keeps I1.bk, fun h' e m => raise_leave I1 m q⟩
end

/-! ### calls of defs that may raise -/
def tCallS (sp : Sp) (dvs : List V) (E : St → XK) (t : TA) : TE := fun σ H Q => t σ H fun vs H1 => sp (vs ++ dvs) H1 Q (E σ)
def tCallKS (sp : Sp) (gV : List V → List V → List V) (E : St → XK) (t tk : TA) : TE := fun σ H Q => t σ H fun vs H1 => tk σ H1 fun zs H2 => sp (gV vs zs) H2 Q (E σ)
def tMethS (C : Addr) (m : Str) (sp : Sp) (dvs : List V) (E : St → XK) (ta : TE) (t : TA) : TE := fun σ H Q => ta σ H fun x H1 => ∃ a dx fs, x = .ref a ∧ H1 a = some (.ins C dx fs) ∧ fs.lookup m = none ∧
  t σ H1 fun vs H2 => sp (x :: (vs ++ dvs)) H2 Q (E σ)
def tMakeS (C : Addr) (sp : Sp) (dvs : List V) (E : St → XK) (t : TA) : TE := fun σ H Q => t σ H fun vs H1 => ∀ x dx, H1 x = none → H1 dx = none → dx ≠ x →
  sp (.ref x :: (vs ++ dvs)) (upd (upd H1 dx (.own x)) x (.ins C dx [])) (fun v H2 => v = .non ∧ Q (.ref x) H2) (E σ)
section
variable {X : Cx} {CX : CXT} {k : Nat} {f C : Addr} {fd : FuncData} {ps ks : List Str} {sp : Sp} {dvs : List V} {ds : List Value} {E : St → XK} {x m : Str} {p pos apos : Pos} {e o : Expr} {es : List Expr} {kws : List Keyword} {ta : TE} {t tk : TA}
/-- an exception of this call, at these names' values -/
def PassAt (CX : CXT) (X : Cx) (σ : St) (E : XK) : Prop := ∀ (pins : List (Addr × Obj)) (H : Hp) (s : Shared) (e : Value) (s' : Shared), Inv X pins σ H s → CX X.stack H s E e s' → X.xe e s'
theorem PassS.at (h : PassS CX X E) (σ : St) : PassAt CX X σ (E σ) := fun pins H s e s' I z => h pins σ H s e s' I z
theorem run_fnS {E : XK} {pins : List (Addr × Obj)} {σ : St} {H : Hp} {s : Shared} {Q : VK} {us : List Value} {vs : List V} (F : FnOk X.prog X.w X.K X.mg X.base CX k f fd ps sp) (hr : Room k X.A) (hb : Binds X.K fd ps ds) (hd : Vals dvs ds) (hx : PassAt CX X σ E)
    (I : Inv X pins σ H s) (r : Vals vs us) (h : sp (vs ++ dvs) H Q E) : wpAny (model X.prog X.w) X.A (call (.ref f) us) (EP X pins σ Q) X.xe s := by
  have r2 : Vals (vs ++ dvs) (us ++ ds) := r.append hd
  have hl : (us ++ ds).length = ps.length := by rw [← r2.length]; exact F.len _ _ _ _ h
  refine wpAny_call (codeAny_mono (F.run X.A X.stack s H ⟨us, []⟩ (us ++ ds) (vs ++ dvs) Q E hr I.env0 (hb s us I.kIn hl) r2 h) fun r s' hq => ?_)
  match r, hq with
  | .error e, hq => exact hx pins H s e s' I hq
  | .ok (.ret u), hq => exact I.after hq
theorem pe_callS (F : FnOk X.prog X.w X.K X.mg X.base CX k f fd ps sp) (hr : Room k X.A) (hg : Gl X x) (hm : X.mg x = some (.ref f)) (hk : PySem.W.keepIn X.K (.ref f) = true) (hb : Binds X.K fd ps ds) (hd : Vals dvs ds) (hx : PassS CX X E)
    (ha : PA X (e :: es) t) (hdb : (x == ("__debug__" : Str)) = false := by decide) (he : starEach (e :: es) X.env = (false, eval e X.env) :: starEach es X.env := by rfl) (hpl : (backTo pos (starEach es X.env)).any (·.1) = false := by rfl) :
    PE X (.Call (.Name x p) (e :: es) [] pos) (tCallS sp dvs E t) := by
  intro pins s σ H Q I h
  refine wpAny_Call_Name_kw (ld_glob I hg hm ?_ hdb)
  exact PySem.W.callWith_K (h₀ := X.base) I.ok.mod.kin hk (thn (ha pos pins s σ H _ I h) fun us s1 ⟨vs, H1, I1, r, q⟩ => ⟨I1.kIn, run_fnS F hr hb hd (hx.at σ) I1 r q⟩) he hpl
end
section
variable {P : Program} {w : World} {K : PySem.W.Frag} {mg : Str → Option Value} {base : Heap}
/-- the rule for a def that may raise -/
theorem Fun.okX {x qual : Str} {st : Stmt} {f : Addr} {fd : FuncData} {N ps : List Str} {k : Nat} {sp : Sp} (F : Fun K x qual st f fd) (S : FnScope N ps (defScope st)) (len : ∀ vs H Q E, sp vs H Q E → vs.length = ps.length)
    (hbody : ∀ (cdv : Value) (A : Around) (outer : List Env) (s : Shared) (H : Hp) (vs : List V) (Q : VK) (E : XK), Room k (A.deeper (envOfC qual (defScope st) s.heap.objs.size f cdv)) → sp vs H Q E →
      ∃ t, PSs (cxOf (CXX P w) P w K mg base N qual (defScope st) f cdv A outer s H E) (defBody st) t ∧ t { nx := fun _ H' => Q .non H', rt := Q } (start N vs) H) : FnOk P w K mg base (CXX P w) (k + 1) f fd ps sp := by
  obtain ⟨oc, od, kV, doc, pm, an, cdv, ct, osl, rfl, lk, hcd⟩ := F.ex
  exact fn_of lk hcd S len fun A outer s H vs Q E hr hsp => hbody cdv A outer s H vs Q E hr hsp
end
end L2


/-! TRY with one clause of an own class; what runs within its suite. -/
namespace L2
open PySem PySem.Spec PyProof.Rows

abbrev Cx.tr (X : Cx) (pn : List (Addr × Obj)) (E : Value → Shared → Prop) : Cx := { X with pn := pn, xe := E }
abbrev Cx.suite (X : Cx) (pn : List (Addr × Obj)) (e : Addr) (E : Value → Shared → Prop) : Cx := { X with A := X.A.mark (some (.ref e)), calm := false, pn := pn, xe := E }
section
variable {X : Cx} {pins pins' pn : List (Addr × Obj)} {σ : St} {H : Hp} {s : Shared} {E E' : Value → Shared → Prop} {ea : Addr}
theorem Cx.Ok.tr (ok : X.Ok) (pn : List (Addr × Obj)) (E : Value → Shared → Prop) : (X.tr pn E).Ok :=
  ⟨ok.mod, ok.kind, ok.glob, ok.blt, ok.above, ok.inj, ok.has, ok.cab, ok.hd, ok.frames, ok.stk, ok.exf, ok.bs, ok.bsz, ok.noex, ok.exfs, ok.funs, ok.frf⟩
theorem Cx.Ok.suite (ok : X.Ok) (pn : List (Addr × Obj)) (ea : Addr) (E : Value → Shared → Prop) : (X.suite pn ea E).Ok :=
  ⟨ok.mod, ok.kind, ok.glob, ok.blt, ok.above, ok.inj, ok.has, ok.cab, (fun z => nomatch z), ok.frames, ok.stk, ok.exf, ok.bs, ok.bsz, ok.noex, ok.exfs, ok.funs, ok.frf⟩
theorem Inv.tr (I : Inv X pins σ H s) (E : Value → Shared → Prop) : Inv (X.tr (X.pn ++ pins) E) [] σ H s :=
  ⟨I.ok.tr _ _, I.os, I.bare, I.base, I.loc, I.cell, I.free, I.freeC, fun p hp => I.pin p (by simpa using hp), I.hok, I.len⟩
theorem Inv.untr (I : Inv (X.tr (X.pn ++ pins) E) pins' σ H s) (ok : X.Ok) : Inv X pins σ H s :=
  ⟨ok, I.os, I.bare, I.base, I.loc, I.cell, I.free, I.freeC, fun p hp => I.pin p (List.mem_append_left _ hp), I.hok, I.len⟩
theorem Inv.suite (I : Inv (X.tr pn E) pins' σ H s) (ok : X.Ok) (ea : Addr) (E' : Value → Shared → Prop) : Inv (X.suite pn ea E') [] σ H s :=
  ⟨ok.suite _ _ _, I.os, I.bare, I.base, I.loc, I.cell, I.free, I.freeC, fun p hp => I.pin p (List.mem_append_left _ (by simpa using hp)), I.hok, I.len⟩
theorem Inv.unsuite (I : Inv (X.suite (X.pn ++ pins) ea E) pins' σ H s) (ok : X.Ok) : Inv X pins σ H s :=
  ⟨ok, I.os, I.bare, I.base, I.loc, I.cell, I.free, I.freeC, fun p hp => I.pin p (List.mem_append_left _ hp), I.hok, I.len⟩
theorem SP.untr {D : Ends} {f : Flow} (ok : X.Ok) (h : SP (X.tr (X.pn ++ pins) E) [] D f s) : SP X pins D f s := by
  match f, h with
  | .next, ⟨σ', H', I, q⟩ => exact ⟨σ', H', I.untr ok, q⟩
  | .brk, ⟨σ', H', I, q⟩ => exact ⟨σ', H', I.untr ok, q⟩
  | .cont, ⟨σ', H', I, q⟩ => exact ⟨σ', H', I.untr ok, q⟩
  | .ret u, ⟨v, σ', H', I, r, q⟩ => exact ⟨v, σ', H', I.untr ok, r, q⟩

/-- an object that was not tracked is tracked from now on -/
def IsExc (e : Addr) (cls : Value) : Heap → Prop := fun h => ∃ o, h.get? e = some o ∧ o.cls = cls
theorem Inv.track {e : Addr} {φ : Heap → Prop} (I : Inv X pins σ H s) (hn : H e = none) (h0 : X.s₀.heap.get? e = none) (hL : e ≠ X.env.locals) (hc : ∀ x c, X.env.cells.lookup x = some c → c ≠ e) (hp : ∀ p ∈ X.pn ++ pins, p.1 ≠ e)
    (ok : ObjOk X.prog X.w (upd H e (.ext φ)) s.heap e (.ext φ)) : Inv X pins σ (upd H e (.ext φ)) s := by
  have keep : ∀ b u, H b = some u → upd H e (.ext φ) b = some u := fun b u q => by rw [upd_ne (ne_of_none q hn)]; exact q
  refine ⟨I.ok, I.os, I.bare, ⟨I.base.keep, I.base.slot, fun b o q n hx => ?_, I.base.there, fun b xs q => keep b _ (I.base.tups b xs q), fun b o u q => keep b _ (I.base.frzs b o u q), fun b ps q => ?_⟩, I.loc, I.cell, ?_, fun x c q => ?_, fun p hm => ?_, fun b u q => ?_, I.len⟩
  · have hb : b ≠ e := fun z => by rw [z, h0] at q; cases q
    rw [upd_ne hb]
    exact I.base.free b o q n hx
  · obtain ⟨more, q'⟩ := I.base.tbls b ps q
    exact ⟨more, keep b _ q'⟩
  · rw [upd_ne hL.symm]; exact I.free
  · rw [upd_ne (hc x c q)]; exact I.freeC x c q
  · obtain ⟨z1, z2, z3⟩ := I.pin p hm
    exact ⟨z1, by rw [upd_ne (hp p hm)]; exact z2, z3⟩
  · by_cases hb : b = e
    · subst hb
      rw [upd_same] at q
      cases q
      exact ok
    · rw [upd_ne hb] at q
      exact (I.hok b u q).stay (fun c v _ z => z) (fun c z => keep c _ z) fun c xs z => keep c _ z
/-- a local name goes -/
theorem Inv.goes {i : Nat} {x : Str} {m : Str → Option Value} {h' : Heap} {v : Option Value} {t' : Nat} (I : Inv X pins σ H s) (hN : X.N.Nodup) (hi : X.N[i]? = some x) (hn : s.heap.Ns X.env.locals m)
    (hl : ∀ (i : Nat) (x : Str) (v : V), X.N[i]? = some x → σ[i]? = some (some v) → Vis X.env.scope x → ∃ u, RelV v u ∧ Look X.env s.heap m x u)
    (hn' : h'.Ns X.env.locals (fun y => if y = x then v else m y)) (hs : Heap.SameBut X.env.locals s.heap h') : Inv X pins (σ.set i none) H { s with heap := h', toks := t' } := by
  have cne := I.cne
  obtain ⟨oL, _, _, hoL, _⟩ := id hn
  have lt : ∀ b o, X.s₀.heap.get? b = some o → b ≠ X.env.locals := fun b o e => Nat.ne_of_lt (Nat.lt_of_lt_of_le (Heap.lt_size e) I.ok.above)
  refine ⟨I.ok, I.os, I.bare, ⟨fun b o e n hb hx => (hs.2 b (lt b o e)).trans (I.base.keep b o e n hb hx), fun b o e n hb hx => ?_, I.base.free, fun b o e hx => ?_, I.base.tups, I.base.frzs, I.base.tbls⟩, ⟨_, hn', fun j y v' e1 e2 e3 => ?_⟩, fun y c e => ?_, I.free, I.freeC, fun p hp => ?_, fun b u e => ?_, by simpa using I.len⟩
  · obtain ⟨sl, q⟩ := I.base.slot b o e n hb hx
    exact ⟨sl, (hs.2 b (lt b o e)).trans q⟩
  · obtain ⟨o', q⟩ := I.base.there b o e hx
    exact ⟨o', (hs.2 b (lt b o e)).trans q⟩
  · by_cases hj : j = i
    · subst hj
      by_cases hlt : j < σ.length
      · rw [List.getElem?_set_self hlt] at e2
        cases e2
      · rw [List.getElem?_eq_none (by simpa using hlt)] at e2
        cases e2
    · rw [List.getElem?_set_ne (Ne.symm hj)] at e2
      obtain ⟨u', r', q⟩ := hl j y v' e1 e2 e3
      refine ⟨u', r', ?_⟩
      rcases q with ⟨k, e⟩ | ⟨k, c, e, z⟩
      · refine .inl ⟨k, ?_⟩
        have ny : y ≠ x := fun z => hj (nodup_ix hN e1 (z ▸ hi))
        simp [ny, e]
      · exact .inr ⟨k, c, e, z.sameBut hs (cne y c e)⟩
  · obtain ⟨w', z⟩ := I.cell y c e
    exact ⟨w', z.sameBut hs (cne y c e)⟩
  · obtain ⟨e, n, ne, nf, d⟩ := I.pin p hp
    exact ⟨(hs.2 p.1 ne).trans e, n, ne, nf, d⟩
  · refine (I.hok b u e).stay (fun c w' hc q => (hs.2 c ?_).trans q) (fun _ q => q) fun _ _ q => q
    intro z
    rw [z] at hc
    rcases hc with hc | hc
    · rw [← hc, I.free] at e; cases e
    · rw [I.free] at hc; cases hc
end

/-! ### the class of a clause -/
section
variable {M : Model} {A : Around} {E : Value → Shared → Prop} {h : Heap} {g : Array GenState} {d : Drawn} {t : Nat} {os : OsState} {K : PySem.W.Frag} {C C0 e : Addr} {oe : Obj} {Q : Bool → Shared → Prop}
theorem exc_match (X : K.In h) (q : ExcC K C) (q0 : ExcC K C0) (hs : PySem.W.mroIn K C (.ref C0) = some true) (he : h.get? e = some oe) (hcls : oe.cls = .ref C) (hq : Q true ⟨h, g, d, t, os⟩) : wpAny M A (excMatches (.ref e) (.ref C0)) Q E ⟨h, g, d, t, os⟩ := by
  obtain ⟨nm, qn, N, bs, bm, hdct, sn, sub, ab, col, dd, k0, k1, k2, k3, k5, mN, hC, hN, hni, T⟩ := exc_obj X q.ok
  obtain ⟨nm', qn', N', bs', bm', hdct', sn', sub', ab', col', dd', k0', k1', k2', k3', k5', mN', hC', hN', hni', T'⟩ := exc_obj X q0.ok
  have hcB : (Value.ref C0 :: bm').contains (.type "BaseException") = true := by rw [List.contains_cons, T'.hasType PySem.F.excBase_ValueError.hasBase, Bool.or_true]
  have hcC : (Value.ref C :: bm).contains (.ref C0) = true := by
    unfold PySem.W.mroIn PySem.W.clsIn at hs
    have hk := q.ok
    unfold PySem.W.excIn at hk
    cases hl : K.lookup C with
    | none => rw [hl] at hk; cases hk
    | some ob =>
      have z := X _ _ hl
      rw [hC] at z
      cases z
      rw [hl] at hs
      simpa [excClassObj] using hs
  have f := tc_notTuple
  unfold excMatches
  repeat (first | (with_reducible refine wpAny_loadPart_at he ?_; rw [hcls]) | with_reducible refine wpAny_loadPart_at hC' ?_ | (with_reducible refine wpAny_isSubtype_exc hC' ?_; rw [hcB]) | (with_reducible refine wpAny_isSubtype_exc hC ?_; rw [hcC]) | wp_step)
  exact hq
end

/-! ### try: .. except C as n: .. -/
/-- tb: the body's reading by what is wanted of exceptions; C0: the clause's class; i: the name's slot; th: the suite's reading -/
def tTryAs (K : PySem.W.Frag) (C0 : Addr) (i : Nat) (tb : (Value → St → Hp → Prop) → TS) (th : TS) : TS := fun D σ H =>
  tb (fun cls σ' H' => ∃ C, cls = .ref C ∧ ExcC K C ∧ PySem.W.mroIn K C (.ref C0) = some true ∧ ∀ ea, H' ea = none →
    th { nx := fun σ2 H2 => D.nx (σ2.set i none) H2, rt := D.rt, bk := fun σ2 H2 => D.bk (σ2.set i none) H2, ct := fun σ2 H2 => D.ct (σ2.set i none) H2 } (σ'.set i (some (.ref ea))) (upd H' ea (.ext (IsExc ea (.ref C))))) D σ H
section
variable {X : Cx} {body : List Stmt} {x n : Str} {np hp pos : Pos} {b₀ : Stmt} {suite : List Stmt} {C0 : Addr} {i : Nat} {tb : (Value → St → Hp → Prop) → TS} {th : TS}
theorem ps_try_as (hex : X.ex = []) (hst : X.stack = X.env :: X.outer) (hfr : X.env.frame = some X.env.locals)
    (hb : ∀ (pn : List (Addr × Obj)) (xe : Value → Shared → Prop) (R : Value → St → Hp → Prop), PassS (CXX X.prog X.w) (X.tr pn xe) (fun σ cls _ H => R cls σ H) → PSs (X.tr pn xe) body (tb R))
    (hg : Gl X x) (hm : X.mg x = some (.ref C0)) (h0 : ExcC X.K C0) (hN : X.N.Nodup) (hi : X.N[i]? = some n) (hl : X.env.scope.names.lookup n = some .local)
    (hs : ∀ (pn : List (Addr × Obj)) (ea : Addr), PSs (X.suite pn ea fun _ _ => False) (b₀ :: suite) th) (hd : (x == ("__debug__" : Str)) = false := by decide) :
    PS X (.Try body [.ExceptHandler (some (.Name x np)) (some n) (b₀ :: suite) hp] [] [] pos) (tTryAs X.K C0 i tb th) := by
  intro pins s σ H D I h
  refine wpAny_Try_except ?_
  refine wpAny_mono (hb (X.pn ++ pins) (fun e s₁ => wpAny (model X.prog X.w) X.A (noteFrame e X.env) (fun _ s₂ => wpAny (model X.prog X.w) X.A (setFlight e none) (fun _ s₃ =>
    wpAny (model X.prog X.w) X.A (handleBy e X.env [.ExceptHandler (some (.Name x np)) (some n) (b₀ :: suite) hp]) (SP X pins D) X.xe s₃) X.xe s₂) X.xe s₁) _ ?_ [] s σ H D (I.tr _) h) (fun f s₁ q => ?_) fun e s₁ q => q
  · rintro pins' σ' H1 s1 e s2 I1 ⟨ea, cls, H', rfl, os, bare, un, hok, en, ⟨B, t, fl, ib⟩, C, rfl, hC, hsub, hq⟩
    show wpAny _ _ (noteFrame _ _) _ _ s2
    have fl0 : Heap.FlyingW B (X.env :: X.outer) ea (.ref C) (.ref t) s2.heap := by rw [← hst]; exact fl
    refine wpAny_looks_onW (by rw [I.ok.frames, hst]) hfr fl0 fun h4 held up4 => ?_
    refine wpAny_landsW held fun h5 fl5 up5 => ?_
    rw [← hst] at fl5
    have st5 := fly_step un hok ib fl.1 fl5.1 fl.2.2.1 (up4.trans up5)
    have J5 := I1.call' (s' := { s2 with heap := h5 }) os st5.1 st5.2 bare (fun b z => absurd z (by simp))
    refine wpAny_handleBy_cons (codeAny_handlers_test ?_) (by intro z; cases z)
    refine Calls.Name_function_global I.ok.kind hg (Calls.loadGlobal_global (by rw [I.ok.glob]; exact J5.mod.glob.keeps J5.bk) hm ?_) hd
    obtain ⟨ob, hob, hobc⟩ := fl5.there
    refine exc_match J5.kIn hC h0 hsub hob hobc ?_
    refine codeAny_handlers_suite_as ?_
    refine lands_againW fl5 fun h6 fl6 up6 => ?_
    have st6 := fly_step un hok ib fl.1 fl6.1 fl.2.2.1 ((up4.trans up5).trans up6)
    have J6 := I1.call' (s' := { s2 with heap := h6 }) os st6.1 st6.2 bare (fun b z => absurd z (by simp))
    obtain ⟨oe, vs, hoe, hoec, hoed, _⟩ := fl.first
    have nofr : ea ∉ frs X.stack := fun z => by
      obtain ⟨_, o1, q1, q2⟩ := fl.2.2.1.mem z
      rw [hoe] at q1
      cases q1
      exact q2 _ hoed
    have new1 : s1.heap.get? ea = none := by
      cases q : s1.heap.get? ea with
      | none => rfl
      | some o =>
        obtain ⟨o', z⟩ := ib.old ea o q nofr
        rw [fl.2.1] at z
        cases z
    have new0 : X.s₀.heap.get? ea = none := by
      cases q : X.s₀.heap.get? ea with
      | none => rfl
      | some o =>
        obtain ⟨o', z⟩ := I1.base.there ea o q (by show ea ∉ X.ex; rw [hex]; simp)
        rw [new1] at z
        cases z
    obtain ⟨ob6, hob6, hobc6⟩ := fl6.there
    have J7 := J6.track (e := ea) (φ := IsExc ea (.ref C)) en new0 (fun z => by
        obtain ⟨m, ⟨o, es, ep, ho, _⟩, _⟩ := I1.loc
        rw [← z, new1] at ho
        cases ho) (fun y c hc z => by
        obtain ⟨v, o, ho, _⟩ := I1.cell y c hc
        rw [z, new1] at ho
        cases ho) (fun p hp z => by
        have := (I1.pin p hp).1
        rw [z, new1] at this
        cases this) ⟨⟨ob6, hob6, hobc6⟩, ⟨ob6, hob6⟩, fun h1 h2 ⟨o, z1, z2⟩ k => ⟨o, k o z1, z2⟩⟩
    refine store_ok (X := X.tr (X.pn ++ pins) _) J7 hN hi (Or.inl hl) (v := .ref ea) rfl (fun s7 J8 => ?_) (.inr hl)
    refine wpAny_mono (hs (X.pn ++ pins) ea [] s7 _ _ _ (J8.suite I.ok ea _) (hq ea en)) (fun f s8 q => ?_) fun e' s8 z => False.elim z
    have hcls : (X.env.scope.kind == .class || (X.env.scope.kind == .module && X.env.locals != X.env.globals)) = false := by rw [I.ok.kind]; rfl
    match f, q with
    | .next, ⟨σ8, H8, J9, q9⟩ =>
      have K9 := J9.unsuite I.ok
      obtain ⟨m, hn, hl9⟩ := id K9.loc
      exact wpAny_nameGoes_keeps hl hn hcls fun h' v hn' hs' => ⟨_, H8, K9.goes hN hi hn hl9 hn' hs', q9⟩
    | .brk, ⟨σ8, H8, J9, q9⟩ =>
      have K9 := J9.unsuite I.ok
      obtain ⟨m, hn, hl9⟩ := id K9.loc
      exact wpAny_nameGoes_keeps hl hn hcls fun h' v hn' hs' => ⟨_, H8, K9.goes hN hi hn hl9 hn' hs', q9⟩
    | .cont, ⟨σ8, H8, J9, q9⟩ =>
      have K9 := J9.unsuite I.ok
      obtain ⟨m, hn, hl9⟩ := id K9.loc
      exact wpAny_nameGoes_keeps hl hn hcls fun h' v hn' hs' => ⟨_, H8, K9.goes hN hi hn hl9 hn' hs', q9⟩
    | .ret u, ⟨v8, σ8, H8, J9, r9, q9⟩ =>
      have K9 := J9.unsuite I.ok
      obtain ⟨m, hn, hl9⟩ := id K9.loc
      exact wpAny_nameGoes_keeps hl hn hcls fun h' v hn' hs' => ⟨v8, _, H8, K9.goes hN hi hn hl9 hn' hs', r9, q9⟩
  · have q := q.untr I.ok
    match f, q with
    | .next, q => exact wpAny_execs_nil q
    | .brk, q => exact q
    | .cont, q => exact q
    | .ret u, q => exact q
end

/-! ### a def called within a suite -/
structure RoomH (k : Nat) (A : Around) : Prop where
  dp : A.depth + 3 * k + 5 < recursionLimit
  un : A.units + 16 * k + 200 < cLine
theorem Room.toH {k : Nat} {A : Around} (r : Room k A) (v : Option Value) : RoomH k (A.mark v) := ⟨r.dp, r.un⟩
structure FnOkH (P : Program) (w : World) (K : PySem.W.Frag) (mg : Str → Option Value) (base : Heap) (k : Nat) (f : Addr) (fd : FuncData) (ps : List Str) (sp : Sp) : Prop where
  len : ∀ vs H Q E, sp vs H Q E → vs.length = ps.length
  run : ∀ (A : Around) (outer : List Env) (s : Shared) (H : Hp) (args : Args) (us : List Value) (vs : List V) (Q : VK) (E : XK), RoomH k A → Env0 P w K mg base A outer s H → BindsTo s fd args (ps.zip us) → Vals vs us → sp vs H Q E →
    codeAny (model P w) A (.call (.ref f) args) (CR CX0 outer P w H s Q E) s

def cxH (P : Program) (w : World) (K : PySem.W.Frag) (mg : Str → Option Value) (base : Heap) (N : List Str) (qual : Str) (scope : Scope) (f : Addr) (cd : Value) (A : Around) (outer : List Env) (s : Shared) (H : Hp) : Cx :=
  { cxOf CX0 P w K mg base N qual scope f cd A outer s H E0 with calm := false, xe := fun _ _ => False }
section
variable {P : Program} {w : World} {K : PySem.W.Frag} {mg : Str → Option Value} {base : Heap}
theorem Fun.okH {x qual : Str} {st : Stmt} {f : Addr} {fd : FuncData} {N ps : List Str} {k : Nat} {sp : Sp} (F : Fun K x qual st f fd) (S : FnScope N ps (defScope st)) (len : ∀ vs H Q E, sp vs H Q E → vs.length = ps.length)
    (hbody : ∀ (cdv : Value) (A : Around) (outer : List Env) (s : Shared) (H : Hp) (vs : List V) (Q : VK) (E : XK), RoomH k (A.deeper (envOfC qual (defScope st) s.heap.objs.size f cdv)) → sp vs H Q E →
      ∃ t, PSs (cxH P w K mg base N qual (defScope st) f cdv A outer s H) (defBody st) t ∧ t { nx := fun _ H' => Q .non H', rt := Q } (start N vs) H) : FnOkH P w K mg base (k + 1) f fd ps sp := by
  obtain ⟨oc, od, kV, doc, pm, an, cdv, ct, osl, rfl, lk, hcd⟩ := F.ex
  refine ⟨len, fun A outer s H args us vs Q E hr e0 hb r hsp => ?_⟩
  have inK : K.In s.heap := e0.mod.kin.keeps fun b o q => (e0.bs b o q).1
  have noLim : s.heap.NoLimit := e0.mod.nolimit.keeps fun b o q => (e0.bs b o q).1
  have kinds : ∀ y ∈ ps.zip us, (defScope st).names.lookup y.1 = some .local ∨ ((defScope st).names.lookup y.1 = some .cell ∧ ((cellsFrom (s.heap.objs.size + 1) (defScope st).names []).lookup y.1).isSome = true) := fun y hy => by
    have hm := (List.of_mem_zip (a := y.1) (b := y.2) hy).1
    rcases S.par y.1 hm with z | z
    · exact .inl z
    · exact .inr ⟨z, PySem.W.cellsFrom_some _ _ _ (.inl z)⟩
  refine codeAny_call_function (by have := hr.dp; omega) (inK _ _ lk) rfl S.co S.gen rfl (PySem.W.codeRec_of inK hcd) (hb _ _ _ _ ?_)
  refine wpAny_newFunctionEnv_cells S.kind kinds fun env he s1 x => ?_
  subst he
  refine ⟨noLim.keeps x.toInCall.keep, codeAny_func ?_⟩
  have room : RoomH k (A.deeper (envOfC qual (defScope st) s.heap.objs.size f cdv)) := ⟨by have := hr.dp; show A.depth + 1 + 3 * k + 5 < _; omega, by have := hr.un; show A.units + 3 + 16 * k + 200 < _; omega⟩
  obtain ⟨t, ht, hq⟩ := hbody cdv A outer s H vs Q E room hsp
  have e1 : Env0 P w K mg base { A with handled := none } outer s H := ⟨e0.frames, e0.mod, e0.bs, e0.bsz, e0.funs, e0.frf, e0.hok, e0.bare⟩
  have I0 : Inv (cxOf CX0 P w K mg base N qual (defScope st) f cdv { A with handled := none } outer s H E0) [] (start N vs) H s1 := inv_start S rfl e1 (len _ _ _ _ hsp) r x
  have I : Inv (cxH P w K mg base N qual (defScope st) f cdv A outer s H) [] (start N vs) H s1 :=
    ⟨⟨I0.ok.mod, I0.ok.kind, I0.ok.glob, I0.ok.blt, I0.ok.above, I0.ok.inj, I0.ok.has, I0.ok.cab, (fun z => nomatch z), Around.frames_deeper e0.frames, I0.ok.stk, I0.ok.exf, I0.ok.bs, I0.ok.bsz, I0.ok.noex, I0.ok.exfs, I0.ok.funs, I0.ok.frf⟩,
      I0.os, I0.bare, I0.base, I0.loc, I0.cell, I0.free, I0.freeC, I0.pin, I0.hok, I0.len⟩
  refine wpAny_mono (ht [] s1 (start N vs) H _ I hq) (fun fl s' hs => ?_) fun e s' z => False.elim z
  cases fl with
  | ret u =>
    obtain ⟨v, σ', H', J, rv, q⟩ := hs
    exact ⟨v, H', J.os, J.bare, J.base, J.hok, rv, q⟩
  | next =>
    obtain ⟨σ', H', J, q⟩ := hs
    exact ⟨.non, H', J.os, J.bare, J.base, J.hok, rfl, q⟩
  | brk =>
    obtain ⟨σ', H', J, q⟩ := hs
    exact False.elim q
  | cont =>
    obtain ⟨σ', H', J, q⟩ := hs
    exact False.elim q
end
section
variable {X : Cx} {k : Nat} {f : Addr} {fd : FuncData} {ps : List Str} {sp : Sp} {x : Str} {p pos : Pos} {e : Expr} {es : List Expr} {t : TA}
theorem pe_callH (F : FnOkH X.prog X.w X.K X.mg X.base k f fd ps sp) (hr : RoomH k X.A) (hg : Gl X x) (hm : X.mg x = some (.ref f)) (hk : PySem.W.keepIn X.K (.ref f) = true) (hb : Binds X.K fd ps []) (ha : PA X (e :: es) t)
    (hdb : (x == ("__debug__" : Str)) = false := by decide) (he : starEach (e :: es) X.env = (false, eval e X.env) :: starEach es X.env := by rfl) (hpl : (backTo pos (starEach es X.env)).any (·.1) = false := by rfl) :
    PE X (.Call (.Name x p) (e :: es) [] pos) (tCall sp [] E0 t) := by
  intro pins s σ H Q I h
  refine wpAny_Call_Name_kw (ld_glob I hg hm ?_ hdb)
  refine PySem.W.callWith_K (h₀ := X.base) I.ok.mod.kin hk (thn (ha pos pins s σ H _ I h) fun us s1 ⟨vs, H1, I1, r, q⟩ => ⟨I1.kIn, ?_⟩) he hpl
  have r2 : Vals (vs ++ []) (us ++ []) := r.append .nil
  have hl : (us ++ []).length = ps.length := by rw [← r2.length]; exact F.len _ _ _ _ q
  refine wpAny_call (codeAny_mono (F.run X.A X.stack s1 H1 ⟨us, []⟩ (us ++ []) (vs ++ []) Q E0 hr I1.env0 (hb s1 us I1.kIn hl) r2 q) fun r s' hq => ?_)
  match r, hq with
  | .error e, hq => exact False.elim hq
  | .ok (.ret u), hq => exact I1.after hq
end
end L2


/-! ISINSTANCE of an exception of an own class; f-strings whose words are free; objects whose methods may raise. -/
namespace L2
open PySem PySem.Spec PyProof.Rows

/-- what else the kit has of such a class -/
structure ExcF (K : PySem.W.Frag) (C : Addr) : Prop extends ExcC K C where
  ga : PySem.W.findIn K (.ref C) "__getattribute__" = some (some (.builtin "BaseException.__getattribute__"))
  gn : PySem.W.findIn K (.ref C) "__getattr__" = some none
  gc : PySem.W.findIn K (.ref C) "__class__" = some (some (.builtin "object.__class__"))

section
variable {prog : Program} {w : World} {A : Around} {E : Value → Shared → Prop} {h : Heap} {g : Array GenState} {d : Drawn} {t : Nat} {os : OsState} {K : PySem.W.Frag} {C a : Addr} {o : Obj}
theorem exc_sub {T : String} {M : Model} {Q : Bool → Shared → Prop} (X : K.In h) (F : ExcC K C) (ht : vmro.contains (.type T) = true) (hq : Q true ⟨h, g, d, t, os⟩) : wpAny M A (isSubtype (.ref C) (.type T)) Q E ⟨h, g, d, t, os⟩ := by
  obtain ⟨nm, qn, N, bs, bm, hdct, sn, sub, ab, col, dd, k0, k1, k2, k3, k5, mN, hC, hN, hni, T'⟩ := exc_obj X F.ok
  have hcB : (Value.ref C :: bm).contains (.type T) = true := by rw [List.contains_cons, T'.hasType ht, Bool.or_true]
  refine wpAny_isSubtype_exc hC ?_
  rw [hcB]
  exact hq
theorem exc_cls_get {R : Result → Shared → Prop} (X : K.In h) (F : ExcF K C) (hx : h.get? a = some o) (hc : o.cls = .ref C) (hq : R (.ok (.ret (.ref C))) ⟨h, g, d, t, os⟩) :
    codeAny (model prog w) A (.call (.builtin "getset_descriptor.__get__") ⟨[.builtin "object.__class__", .ref a, .ref C], []⟩) R ⟨h, g, d, t, os⟩ := by
  have hT5 : (⟨h, g, d, t, os⟩ : Shared).TypeIs (.builtin "object.__class__") "getset_descriptor" := PySem.F.typeOf_object_class
  have ho : (".".intercalate ("object.__class__".cutAt '.').dropLast) = "object" := PySem.F.owner_object_class
  refine codeAny_call_builtin PySem.F.slot_gs_get.plain PySem.F.entry_gs_get (PySem.F.slot_gs_get.check _ _ _ _ _ _ _ _ hT5 (PySem.F.args_gs_get _ _ _) ?_)
  repeat (any_goals (first | assumption | (with_reducible refine wpAny_loadPart_at hx ?_; rw [hc]) | (rw [ho]; with_reducible refine exc_sub X F.toExcC (by decide) ?_) | wp_step))
  refine ⟨Code.quiet_builtin _ (by decide +kernel), codeAny_builtin PySem.F.entry_object_class ?_⟩
  repeat (any_goals (first | assumption | (with_reducible refine wpAny_loadPart_at hx ?_; rw [hc]) | wp_step))
theorem exc_cls_entry {tk : Tok} {Q : Fin → Shared → Prop} (X : K.In h) (F : ExcF K C) (hx : h.get? a = some o) (hc : o.cls = .ref C) (hq : Q (.done (.ret (.ref C))) ⟨h, g, d, t, os⟩) :
    wpAny (model prog w) A (Builtin.«object.__getattribute__» ⟨[.ref a, .str "__class__" tk], []⟩) Q E ⟨h, g, d, t, os⟩ := by
  have hT5 : (⟨h, g, d, t, os⟩ : Shared).TypeIs (.builtin "object.__class__") "getset_descriptor" := PySem.F.typeOf_object_class
  have f5 := PySem.F.typeOf_object_class
  have f6 := PySem.F.slot_gs_get.lookup
  have f7 := PySem.F.slot_gs_set.lookup
  have L := PySem.W.looks_findIn (M := model prog w) X F.gc
  repeat (any_goals (first | assumption | (with_reducible refine wpAny_loadPart_at hx ?_; rw [hc]) | with_reducible refine L.at ?_ | wp_step))
  refine exc_cls_get X F hx hc ?_
  repeat (any_goals (first | assumption | wp_step))
theorem exc_cls_check {M : Model} {nameV : Value} {Q : Unit → Shared → Prop} (X : K.In h) (F : ExcF K C) (hx : h.get? a = some o) (hc : o.cls = .ref C) (hq : Q () ⟨h, g, d, t, os⟩) : wpAny M A (checkBuiltinCall "BaseException.__getattribute__" ⟨[.ref a, nameV], []⟩) Q E ⟨h, g, d, t, os⟩ := by
  have hk : builtinKind "BaseException.__getattribute__" = some .slot := by decide +kernel
  have hsplit : splitId "BaseException.__getattribute__" = some ("BaseException", "__getattribute__") := by decide +kernel
  have ha := PySem.F.args_bexc_ga (.ref a) nameV
  simp only [checkBuiltinCall, hk, hsplit]
  refine wpAny_bind ?_
  unfold isInstance
  repeat (first | (with_reducible refine wpAny_loadPart_at hx ?_; rw [hc]) | with_reducible refine exc_sub X F.toExcC (by decide) ?_ | wp_step)
  exact hq
theorem exc_cls_by {tk : Tok} {Q : Value → Shared → Prop} (X : K.In h) (F : ExcF K C) (hx : h.get? a = some o) (hc : o.cls = .ref C) (hq : Q (.ref C) ⟨h, g, d, t, os⟩) :
    wpAny (model prog w) A (getAttrBy (.ref a) (.str "__class__" tk) false) Q E ⟨h, g, d, t, os⟩ := by
  have f3 := PySem.F.excAttr_ValueError.ga.bind (.ref a)
  have hx2 : (Value.builtin "BaseException.__getattribute__" == Value.builtin "object.__getattribute__") = false := by decide +kernel
  have hx1 : (onTheHeap (Value.ref C) && Value.builtin "BaseException.__getattribute__" == Value.builtin "object.__getattribute__") = false := by rw [hx2]; rfl
  have L1 := PySem.W.looks_findIn (M := model prog w) X F.ga
  have L2 := PySem.W.looks_findIn (M := model prog w) X F.gn
  repeat (any_goals (first | assumption | (with_reducible refine wpAny_loadPart_at hx ?_; rw [hc]) | with_reducible refine L1.at ?_ | with_reducible refine L2.at ?_ | wp_step))
  refine codeAny_call_builtin PySem.F.excAttr_ValueError.ga.plain PySem.F.entry_bexc_ga (exc_cls_check X F hx hc (exc_cls_entry X F hx hc ?_))
  repeat (any_goals (first | assumption | wp_step))
theorem exc_cls_attr {Q : Option Value → Shared → Prop} (X : K.In h) (F : ExcF K C) (hx : h.get? a = some o) (hc : o.cls = .ref C) (hq : Q (some (.ref C)) ⟨h, g, d, t + 1, os⟩) : wpAny (model prog w) A (getAttr? (.ref a) "__class__") Q E ⟨h, g, d, t, os⟩ := by
  unfold getAttr? getAttrBy?
  repeat (any_goals (first | assumption | with_reducible apply exc_cls_by X F hx hc | wp_step))
end
theorem kitx_exc {K : PySem.W.Frag} {e C : Addr} (F : ExcF K C) : PySem.W.KitX K (.ref e) (.ref C) (IsExc e (.ref C)) where
  ty := fun M h _ ⟨o, h1, h2⟩ => h2 ▸ (PySem.W.Looks.ld h1).andThen .now
  it := fun M h X _ => by
    obtain ⟨nm, qn, N, bs, bm, hdct, sn, sub, ab, col, dd, k0, k1, k2, k3, k5, mN, hC, hN, hni, T'⟩ := exc_obj X F.ok
    intro A' Q' E' s' k q
    unfold isType loadHead
    exact wpAny_bind (wpAny_loadPart (k _ _ hC) (wpAny_pure q))
  ne := fun h tp dd its n sl X htp => by
    obtain ⟨nm, qn, N, bs, bm, hdct, sn, sub, ab, col, dd, k0, k1, k2, k3, k5, mN, hC, hN, hni, T'⟩ := exc_obj X F.ok
    refine Bool.eq_false_iff.mpr fun q => ?_
    have e : C = tp := Value.ref.inj (beq_iff_eq.mp q)
    subst e
    have z := congrArg Obj.cls (Option.some.inj (hC.symm.trans htp))
    exact absurd (Value.type.inj z) (by decide)
  ca := fun {_ _ _ _ _ s} X p k => by
    obtain ⟨h, g, d, t, os⟩ := s
    obtain ⟨o, h1, h2⟩ := p
    exact exc_cls_attr X F h1 h2 k

section
variable {X : Cx} {H : Hp} {e C C0 : Addr}
/-- isinstance(e, C0) of a tracked exception -/
theorem call_isexc : CallR X (.builtin "isinstance") (fun xs H Q => ∃ e C c b, xs = [.ref e, c] ∧ H e = some (.ext (IsExc e (.ref C))) ∧ ExcF X.K C ∧
    ((∃ C0, c = .ref C0 ∧ PySem.W.kitOne X.K (.ref C) (.ref C0) = some b) ∨ ∃ T, c = .ty T ∧ PySem.W.kitOne X.K (.ref C) (.type T) = some b) ∧ Q (.bl b) H) := by
  intro pins s σ H xs us Q I r h
  obtain ⟨e, C, c, b, rfl, he, F, hc, q⟩ := h
  obtain ⟨u, u', rfl, rx, rc⟩ := vals2 r
  cases rx
  have ok := I.hok e _ he
  have k : ∃ c', u' = c' ∧ PySem.W.kitOne X.K (.ref C) c' = some b := by
    rcases hc with ⟨C0, rfl, z⟩ | ⟨T, rfl, z⟩
    · exact ⟨_, rc, z⟩
    · exact ⟨_, rc, z⟩
  obtain ⟨c', rfl, z⟩ := k
  exact PySem.W.kia_one (kitx_exc (e := e) F) I.kIn ok.1 z (by intro q; cases q) fun tk => ⟨.bl b, H, I.tok tk, rfl, q⟩
end

/-! ### methods and making, where an exception may fly -/
section
variable {X : Cx} {CX : CXT} {k : Nat} {f C : Addr} {fd : FuncData} {ps : List Str} {sp : Sp} {dvs : List V} {ds : List Value} {E : St → XK} {x m : Str} {p pos apos : Pos} {e o : Expr} {es : List Expr} {ta : TE} {t : TA}
theorem pe_methS {pl : Sem Bool} (he : PE X o ta) (c : Cls X.K C) (hm : Meth X.K C m f) (F : FnOk X.prog X.w X.K X.mg X.base CX k f fd ps sp) (hr : Room k X.A) (hb : Binds X.K fd ps ds) (hd : Vals dvs ds) (hx : PassS CX X E) (ha : PA X (e :: es) t)
    (hst : starEach (e :: es) X.env = (false, eval e X.env) :: starEach es X.env := by rfl) (hpl : (backTo pos (starEach es X.env)).any (·.1) = false := by rfl)
    (ht : eval (.Call (.Attribute o m apos) (e :: es) [] pos) X.env = (do
      let ov ← eval o X.env
      standAt apos.atName
      let (f, first) ← holding [ov] (getMethod ov m pl)
      callWith pos f first (backTo pos (starEach (e :: es) X.env)) (backToKw pos (keywordEach [] X.env))) := by rfl) :
    PE X (.Call (.Attribute o m apos) (e :: es) [] pos) (tMethS C m sp dvs E ta t) := by
  intro pins s σ H Q I h
  refine PySem.W.methodCall_KW (pl := pl) (thn (he pins s σ H _ I h) fun u s1 ⟨x, H1, I1, rx, a, dx, fs, ex, ea, l, q⟩ => ?_) ht
  subst ex
  cases rx
  refine getmeth_ok I1 ea c hm l ?_
  exact PySem.W.callWith_K (first := [.ref a]) (h₀ := X.base) I.ok.mod.kin hm.kp (thn (ha pos pins s1 σ H1 _ I1 q) fun us s2 ⟨vs, H2, I2, r, q2⟩ => ⟨I2.kIn, run_fnS (us := .ref a :: us) (vs := .ref a :: vs) F hr hb hd (hx.at σ) I2 (.cons rfl r) q2⟩) hst hpl
theorem pe_methS0 {pl : Sem Bool} (he : PE X o ta) (c : Cls X.K C) (hm : Meth X.K C m f) (F : FnOk X.prog X.w X.K X.mg X.base CX k f fd ps sp) (hr : Room k X.A) (hb : Binds X.K fd ps ds) (hd : Vals dvs ds) (hx : PassS CX X E)
    (ht : eval (.Call (.Attribute o m apos) [] [] pos) X.env = (do
      let ov ← eval o X.env
      standAt apos.atName
      let (f, first) ← holding [ov] (getMethod ov m pl)
      callWith pos f first (backTo pos (starEach [] X.env)) (backToKw pos (keywordEach [] X.env))) := by rfl) :
    PE X (.Call (.Attribute o m apos) [] [] pos) (tMethS C m sp dvs E ta tNil) := by
  intro pins s σ H Q I h
  refine PySem.W.methodCall_KW (pl := pl) (thn (he pins s σ H _ I h) fun u s1 ⟨x, H1, I1, rx, a, dx, fs, ex, ea, l, q⟩ => ?_) ht
  subst ex
  cases rx
  exact getmeth_ok I1 ea c hm l (PySem.W.callWith_K0 (first := [.ref a]) I1.kIn hm.kp (run_fnS (us := [.ref a]) (vs := [.ref a]) F hr hb hd (hx.at σ) I1 (.cons rfl .nil) q))
theorem run_makeS {E : XK} {pins : List (Addr × Obj)} {σ : St} {H : Hp} {s : Shared} {Q : VK} {us : List Value} {vs : List V} (M : Mk X.K C f) (F : FnOk X.prog X.w X.K X.mg X.base CX k f fd ps sp) (hr : Room (k + 1) X.A) (hb : Binds X.K fd ps ds) (hd : Vals dvs ds)
    (hx : PassAt CX X σ E) (I : Inv X pins σ H s) (r : Vals vs us)
    (h : ∀ x dx, H x = none → H dx = none → dx ≠ x → sp (.ref x :: (vs ++ dvs)) (upd (upd H dx (.own x)) x (.ins C dx [])) (fun v H2 => v = .non ∧ Q (.ref x) H2) E) :
    wpAny (model X.prog X.w) X.A (call (.ref C) us) (EP X pins σ Q) X.xe s := by
  have I2 := Inv.made (C := C) I
  have hq := h (s.heap.objs.size + 1) s.heap.objs.size (I.hok.fresh (Nat.le_succ _)) (I.hok.fresh (Nat.le_refl _)) (Nat.ne_of_lt (Nat.lt_succ_self _))
  have r2 : Vals (V.ref (s.heap.objs.size + 1) :: (vs ++ dvs)) (Value.ref (s.heap.objs.size + 1) :: (us ++ ds)) := .cons rfl (r.append hd)
  have hl : (Value.ref (s.heap.objs.size + 1) :: us ++ ds).length = ps.length := (r2.length).symm.trans (F.len _ _ _ _ hq)
  have go := F.run _ X.stack _ _ ⟨Value.ref (s.heap.objs.size + 1) :: us, []⟩ (Value.ref (s.heap.objs.size + 1) :: (us ++ ds)) _ _ E (hr.make C us []) (I2.env0.make C us []) (hb _ (Value.ref (s.heap.objs.size + 1) :: us) I2.kIn hl) r2 hq
  refine wpAny_call (make_map (f := f) I.kIn M.makes M.init (beq_iff_eq.mp M.fn) (codeAny_mono go fun r s' z => ?_))
  match r, z with
  | .error e, z => exact hx pins _ _ e s' I2 z
  | .ok (.ret u), z =>
    obtain ⟨v, H', I3, rv, ev, q3⟩ := I2.after z
    subst ev
    exact ⟨rv, ⟨V.ref (s.heap.objs.size + 1), H', I3, rfl, q3⟩⟩
theorem pe_makeS (M : Mk X.K C f) (F : FnOk X.prog X.w X.K X.mg X.base CX k f fd ps sp) (hr : Room (k + 1) X.A) (hg : Gl X x) (hm : X.mg x = some (.ref C)) (hb : Binds X.K fd ps ds) (hd : Vals dvs ds) (hx : PassS CX X E)
    (ha : PA X (e :: es) t) (hdb : (x == ("__debug__" : Str)) = false := by decide) (he : starEach (e :: es) X.env = (false, eval e X.env) :: starEach es X.env := by rfl) (hpl : (backTo pos (starEach es X.env)).any (·.1) = false := by rfl) :
    PE X (.Call (.Name x p) (e :: es) [] pos) (tMakeS C sp dvs E t) := by
  intro pins s σ H Q I h
  refine wpAny_Call_Name_kw (ld_glob I hg hm (PySem.W.callWith_K (h₀ := X.base) I.ok.mod.kin M.kp (thn (ha pos pins s σ H _ I h) fun us s1 ⟨vs, H1, I1, r, q⟩ => ⟨I1.kIn, ?_⟩) he hpl) hdb)
  exact run_makeS M F hr hb hd (hx.at σ) I1 r q
end

/-! ### f-strings whose words nobody asks for -/
/-- what may stand in a field -/
def Fmt : V → Prop
  | .int n => n.natAbs < 10 ^ 500
  | .str x => x.length ≤ 1000
  | _ => False
abbrev TF := St → Hp → (Hp → Prop) → Prop
def fNil : TF := fun _ H Q => Q H
def fVal (ta : TE) (t : TF) : TF := fun σ H Q => ta σ H fun v H1 => Fmt v ∧ t σ H1 Q
def tFs (t : TF) : TE := fun σ H Q => t σ H fun H1 => ∀ x, Q (.str x) H1
def PF (X : Cx) (es : List Expr) (t : TF) : Prop :=
  ∀ (pins : List (Addr × Obj)) (s : Shared) (σ : St) (H : Hp) (acc : Str) (Q : VK), Inv X pins σ H s → acc.length + 2000 * es.length ≤ 100000 → t σ H (fun H1 => ∀ x, Q (.str x) H1) → wpAny (model X.prog X.w) X.A (joinParts acc (evalEach es X.env)) (EP X pins σ Q) X.xe s
section
variable {X : Cx} {e : Expr} {es : List Expr} {ta : TE} {t : TF} {x : Str} {j : Nat} {pos : Pos}
theorem len100 {n : Nat} (h : n ≤ 100000) : n ≤ sizeLine := Nat.le_trans h (by decide)
theorem pf_nil : PF X [] fNil := fun pins s σ H acc Q I hl h => joinParts_nil ⟨.str acc, H, I.tok _, ⟨_, rfl⟩, h acc⟩ (len100 (by simpa using hl))
theorem pf_str (hx : x.length ≤ 2000) (hr : PF X es t) : PF X (.Constant (.str x) j pos :: es) t := fun pins s σ H acc Q I hl h => by
  show wpAny _ _ (joinParts acc (eval (.Constant (.str x) j pos) X.env :: evalEach es X.env)) _ _ s
  have e1 : (acc ++ x).length = acc.length + x.length := strLen_append _ _
  simp only [List.length_cons] at hl
  exact joinParts_cons (Calls.Constant_str ⟨len100 (by omega), hr pins _ σ H (acc ++ x) Q (I.tok _) (by omega) h⟩)
theorem pf_val (he : PE X e ta) (hr : PF X es t) : PF X (.FormattedValue e (-1) none pos :: es) (fVal ta t) := fun pins s σ H acc Q I hl h => by
  show wpAny _ _ (joinParts acc (eval (.FormattedValue e (-1) none pos) X.env :: evalEach es X.env)) _ _ s
  simp only [List.length_cons] at hl
  refine joinParts_cons (PyProof.Rows.FormattedValue_plain (thn (he pins s σ H _ I h) fun u s1 ⟨v, H1, I1, r, f, q⟩ => ?_))
  cases v with
  | int n =>
    obtain ⟨tk, rfl⟩ := r
    have f : n.natAbs < 10 ^ 500 := f
    have hd : n.natAbs.log2 < 1920 := by
      by_cases z : n.natAbs = 0
      · rw [z]; decide
      · exact (Nat.log2_lt z).mpr (Nat.lt_trans f (by decide))
    have hlen : (Str.ofString (toString n)).length ≤ 2000 := by
      have e := int_text_length_le (k := 1920) (by decide) hd
      rw [PySem.ofString_length]; omega
    have e1 : (acc ++ Str.ofString (toString n)).length = acc.length + (Str.ofString (toString n)).length := strLen_append _ _
    exact PyProof.Rows.formatField_int_small hd ⟨len100 (by omega), hr pins _ σ H1 _ Q (I1.tok _) (by omega) q⟩
  | str y =>
    obtain ⟨tk, rfl⟩ := r
    have f : y.length ≤ 1000 := f
    have e1 : (acc ++ y).length = acc.length + y.length := strLen_append _ _
    exact PyProof.Rows.formatField_str (fun t' tk => ⟨len100 (by omega), hr pins _ σ H1 _ Q (I1.tok _) (by omega) q⟩) (len100 (by omega))
  | _ => exact False.elim f
theorem pe_fs {e2 : Expr} (h : PF X (e :: e2 :: es) t) (hl : 2000 * (e :: e2 :: es).length ≤ 100000 := by decide) : PE X (.JoinedStr (e :: e2 :: es) pos) (tFs t) := fun pins s σ H Q I q =>
  PyProof.Rows.JoinedStr_many (h pins s σ H Str.empty Q I (by rw [show Str.empty.length = 0 from rfl]; omega) q)
end
end L2


/-! insert, list(range(a, b, -1)), == of lists of bools. -/
namespace L2
open PySem PySem.Spec PyProof.Rows
theorem bt_ValueError : bootBuiltins "ValueError" = some (.type "ValueError") := by decide +kernel
section
variable {X : Cx}
def rInsert : V → List V → Hp → VK → Prop := fun x vs H Q => ∃ (l : Addr) (xs : List V) (i : Int) (y : V), x = .ref l ∧ vs = [.int i, y] ∧ H l = some (.lst xs) ∧ 0 ≤ i ∧ i ≤ xs.length ∧ xs.length ≤ 900 ∧ Q .non (upd H l (.lst (xs.take i.toNat ++ [y] ++ xs.drop i.toNat)))
/-- list(range(i, j, -1)) -/
def tListDown (ta : TA) : TE := fun σ H Q => ta σ H fun vs H1 => ∃ i j : Int, vs = [.int i, .int j, .int (-1)] ∧ (-(2 ^ 9) ≤ i ∧ i ≤ 400 ∧ -(2 ^ 9) ≤ j ∧ j ≤ 2 ^ 9) ∧ ∀ l, H1 l = none → Q (.ref l) (upd H1 l (.lst ((Fs.upTo (j + 1) (i + 1)).reverse.map V.int)))
/-! == of lists of bools -/
def bools (bs : List Bool) : PyData := .list (bs.map PyData.bool)
theorem bools_lay : ∀ bs : List Bool, PyData.canLayAll0 (bs.map PyData.bool) = true ∧ PyData.depthAll (bs.map PyData.bool) = 0
  | [] => ⟨rfl, rfl⟩
  | b :: r => by
    obtain ⟨h1, h2⟩ := bools_lay r
    simp [PyData.canLayAll0, PyData.canLay0, PyData.depthAll, PyData.depth, h1, h2]
theorem bools_shaped (bs : List Bool) : SeqAt.shaped (bools bs) = true := by
  obtain ⟨h1, h2⟩ := bools_lay bs
  simp [SeqAt.shaped, bools, PyData.canLay0, PyData.depth, h1, h2]
theorem bools_eqvAll : ∀ bs cs : List Bool, PyData.eqvAll (bs.map PyData.bool) (cs.map PyData.bool) = decide (bs = cs)
  | [], [] => by simp [PyData.eqvAll]
  | [], _ :: _ => by simp [PyData.eqvAll]
  | _ :: _, [] => by simp [PyData.eqvAll]
  | a :: r, b :: t => by
    simp only [List.map_cons, PyData.eqvAll, PyData.eqv, bools_eqvAll r t]
    cases a <;> cases b <;> by_cases h' : r = t <;> simp [h']
theorem readsBools {h : Heap} : ∀ {bs : List Bool} {its : List Value}, Vals (bs.map V.bl) its → ∃ as, ReadsAll h its (bs.map PyData.bool) as
  | [], _, .nil => ⟨_, .nil⟩
  | b :: r, _, .cons e q => by
    cases e
    obtain ⟨as, z⟩ := readsBools (h := h) q
    exact ⟨_, .cons (.bool b) z⟩
def rEqB (K : PySem.W.Frag) : R2 := fun x y H Q => ∃ (a b : Addr) (bs cs : List Bool), x = .ref a ∧ y = .ref b ∧ SqL K H a (bs.map V.bl) ∧ SqL K H b (cs.map V.bl) ∧ Q (.bl (decide (bs = cs))) H
theorem op_eqB (hu : X.A.units + 64 < cLine) : OpR X (compareOp .Eq) (rEqB X.K) := by
  intro pins s σ H x y v u Q I rx ry h
  obtain ⟨a, b, bs, cs, rfl, rfl, h1, h2, q⟩ := h
  cases rx
  cases ry
  obtain ⟨its, r1, p1, _⟩ := I.list h1
  obtain ⟨its2, r2, p2, _⟩ := I.list h2
  obtain ⟨as1, z1⟩ := readsBools (h := s.heap) r1
  obtain ⟨as2, z2⟩ := readsBools (h := s.heap) r2
  obtain ⟨o, ho, hc, n, hd⟩ := p1.isList
  obtain ⟨o', ho', hc', n', hd'⟩ := p2.isList
  refine eq_dataH (.list ho hc hd (by simpa using z1)) (.list ho' hc' hd' (by simpa using z2)) (bools_shaped bs) (bools_shaped cs) hu ?_
  have e : PyData.eqv (bools bs) (bools cs) = decide (bs = cs) := by simp only [bools, PyData.eqv]; exact bools_eqvAll bs cs
  show EP X pins σ Q (.bool (PyData.eqv (bools bs) (bools cs))) s
  rw [e]
  exact ⟨.bl _, H, I, rfl, q⟩
end
section
variable {K : PySem.W.Frag} {cap : List (Option Nat)} {σ : St} {H1 : Hp} {tt : TT} {te : TE} {Q : VK}
end
/-- where nothing may fly -/
theorem pass_no {P : Program} {w : World} {X : Cx} : PassS (CXX P w) X (fun _ => E0) := fun _ _ _ _ _ _ _ z => by
  obtain ⟨_, _, _, _, _, _, _, _, _, _, q⟩ := z
  exact q.elim
theorem fmtI {n : Int} (h1 : -(10 ^ 60) ≤ n) (h2 : n ≤ 10 ^ 60) : Fmt (.int n) := by
  show n.natAbs < 10 ^ 500
  have : n.natAbs ≤ 10 ^ 60 := by omega
  exact Nat.lt_of_le_of_lt this (by decide)
end L2

namespace Fl
open PySem L2
def top (i : Nat) : Stmt := PySem.Challenge.pw_flipstack_k12_whole_stack.main.body.getD i (.Pass ⟨0, 0, 0, 0⟩)
abbrev s_check_pile : Stmt := top 9
abbrev s_without_signs : Stmt := top 10
abbrev s_check_turns : Stmt := top 11
abbrev s_turned : Stmt := top 12
abbrev s_pile_after : Stmt := top 13
abbrev s_what_lies_below : Stmt := top 15
abbrev s_is_gap : Stmt := top 16
abbrev s_count_gaps : Stmt := top 17
abbrev s_turns_for_cake : Stmt := top 19
abbrev s_rule_plan : Stmt := top 20
abbrev s_check_height : Stmt := top 23
abbrev s_plan_within : Stmt := top 24
abbrev s_fewest_plan : Stmt := top 25
abbrev s_fewest : Stmt := top 26
abbrev s_Stack___init__ : Stmt := inClass (top 29) 0
abbrev s_Stack_turn : Stmt := inClass (top 29) 1
abbrev s_Stack_back : Stmt := inClass (top 29) 2
abbrev s_Stack_pile : Stmt := inClass (top 29) 3
abbrev s_Stack_turns : Stmt := inClass (top 29) 4
abbrev s_Stack_fewest : Stmt := inClass (top 29) 5
abbrev s_law_cell_at : Stmt := top 31
abbrev s_law_whole : Stmt := top 32
abbrev s_law_pile : Stmt := top 33
abbrev s_law_turned : Stmt := top 34
abbrev s_law_which : Stmt := top 35
abbrev s_law_refused : Stmt := top 36
abbrev s_law_deed : Stmt := top 37
abbrev s_law : Stmt := top 38
structure Adr where
  c_FlipError : Addr
  c_NoPile : Addr
  c_NoTurn : Addr
  c_TooTall : Addr
  c_NoBack : Addr
  c_BadLine : Addr
  c_Stack : Addr
  a_check_pile : Addr
  d_check_pile : FuncData
  a_without_signs : Addr
  d_without_signs : FuncData
  a_check_turns : Addr
  d_check_turns : FuncData
  a_turned : Addr
  d_turned : FuncData
  a_pile_after : Addr
  d_pile_after : FuncData
  a_what_lies_below : Addr
  d_what_lies_below : FuncData
  a_is_gap : Addr
  d_is_gap : FuncData
  a_count_gaps : Addr
  d_count_gaps : FuncData
  a_turns_for_cake : Addr
  d_turns_for_cake : FuncData
  a_rule_plan : Addr
  d_rule_plan : FuncData
  a_check_height : Addr
  d_check_height : FuncData
  a_plan_within : Addr
  d_plan_within : FuncData
  a_fewest_plan : Addr
  d_fewest_plan : FuncData
  a_fewest : Addr
  d_fewest : FuncData
  a_Stack___init__ : Addr
  d_Stack___init__ : FuncData
  a_Stack_turn : Addr
  d_Stack_turn : FuncData
  a_Stack_back : Addr
  d_Stack_back : FuncData
  a_Stack_pile : Addr
  d_Stack_pile : FuncData
  a_Stack_turns : Addr
  d_Stack_turns : FuncData
  a_Stack_fewest : Addr
  d_Stack_fewest : FuncData
  a_law_cell_at : Addr
  d_law_cell_at : FuncData
  a_law_whole : Addr
  d_law_whole : FuncData
  a_law_pile : Addr
  d_law_pile : FuncData
  a_law_turned : Addr
  d_law_turned : FuncData
  a_law_which : Addr
  d_law_which : FuncData
  a_law_refused : Addr
  d_law_refused : FuncData
  a_law_deed : Addr
  d_law_deed : FuncData
  a_law : Addr
  d_law : FuncData
structure Txt (K : PySem.W.Frag) (mg : Str → Option Value) (t : Adr) : Prop where
  x_FlipError : mg "FlipError" = some (.ref t.c_FlipError)
  x_NoPile : mg "NoPile" = some (.ref t.c_NoPile)
  x_NoTurn : mg "NoTurn" = some (.ref t.c_NoTurn)
  x_TooTall : mg "TooTall" = some (.ref t.c_TooTall)
  x_NoBack : mg "NoBack" = some (.ref t.c_NoBack)
  x_BadLine : mg "BadLine" = some (.ref t.c_BadLine)
  x_Stack : mg "Stack" = some (.ref t.c_Stack)
  e_FlipError : ExcF K t.c_FlipError
  e_NoPile : ExcF K t.c_NoPile
  e_NoTurn : ExcF K t.c_NoTurn
  e_TooTall : ExcF K t.c_TooTall
  e_NoBack : ExcF K t.c_NoBack
  e_BadLine : ExcF K t.c_BadLine
  u_NoPile : PySem.W.mroIn K t.c_NoPile (.ref t.c_FlipError) = some true
  i_NoPile_NoPile : PySem.W.kitOne K (.ref t.c_NoPile) (.ref t.c_NoPile) = some true
  i_NoPile_NoTurn : PySem.W.kitOne K (.ref t.c_NoPile) (.ref t.c_NoTurn) = some false
  i_NoPile_TooTall : PySem.W.kitOne K (.ref t.c_NoPile) (.ref t.c_TooTall) = some false
  i_NoPile_NoBack : PySem.W.kitOne K (.ref t.c_NoPile) (.ref t.c_NoBack) = some false
  i_NoPile_BadLine : PySem.W.kitOne K (.ref t.c_NoPile) (.ref t.c_BadLine) = some false
  i_NoPile_ValueError : PySem.W.kitOne K (.ref t.c_NoPile) (.type "ValueError") = some true
  u_NoTurn : PySem.W.mroIn K t.c_NoTurn (.ref t.c_FlipError) = some true
  i_NoTurn_NoPile : PySem.W.kitOne K (.ref t.c_NoTurn) (.ref t.c_NoPile) = some false
  i_NoTurn_NoTurn : PySem.W.kitOne K (.ref t.c_NoTurn) (.ref t.c_NoTurn) = some true
  i_NoTurn_TooTall : PySem.W.kitOne K (.ref t.c_NoTurn) (.ref t.c_TooTall) = some false
  i_NoTurn_NoBack : PySem.W.kitOne K (.ref t.c_NoTurn) (.ref t.c_NoBack) = some false
  i_NoTurn_BadLine : PySem.W.kitOne K (.ref t.c_NoTurn) (.ref t.c_BadLine) = some false
  i_NoTurn_ValueError : PySem.W.kitOne K (.ref t.c_NoTurn) (.type "ValueError") = some true
  u_TooTall : PySem.W.mroIn K t.c_TooTall (.ref t.c_FlipError) = some true
  i_TooTall_NoPile : PySem.W.kitOne K (.ref t.c_TooTall) (.ref t.c_NoPile) = some false
  i_TooTall_NoTurn : PySem.W.kitOne K (.ref t.c_TooTall) (.ref t.c_NoTurn) = some false
  i_TooTall_TooTall : PySem.W.kitOne K (.ref t.c_TooTall) (.ref t.c_TooTall) = some true
  i_TooTall_NoBack : PySem.W.kitOne K (.ref t.c_TooTall) (.ref t.c_NoBack) = some false
  i_TooTall_BadLine : PySem.W.kitOne K (.ref t.c_TooTall) (.ref t.c_BadLine) = some false
  i_TooTall_ValueError : PySem.W.kitOne K (.ref t.c_TooTall) (.type "ValueError") = some true
  u_NoBack : PySem.W.mroIn K t.c_NoBack (.ref t.c_FlipError) = some true
  i_NoBack_NoPile : PySem.W.kitOne K (.ref t.c_NoBack) (.ref t.c_NoPile) = some false
  i_NoBack_NoTurn : PySem.W.kitOne K (.ref t.c_NoBack) (.ref t.c_NoTurn) = some false
  i_NoBack_TooTall : PySem.W.kitOne K (.ref t.c_NoBack) (.ref t.c_TooTall) = some false
  i_NoBack_NoBack : PySem.W.kitOne K (.ref t.c_NoBack) (.ref t.c_NoBack) = some true
  i_NoBack_BadLine : PySem.W.kitOne K (.ref t.c_NoBack) (.ref t.c_BadLine) = some false
  i_NoBack_ValueError : PySem.W.kitOne K (.ref t.c_NoBack) (.type "ValueError") = some true
  u_BadLine : PySem.W.mroIn K t.c_BadLine (.ref t.c_FlipError) = some true
  i_BadLine_NoPile : PySem.W.kitOne K (.ref t.c_BadLine) (.ref t.c_NoPile) = some false
  i_BadLine_NoTurn : PySem.W.kitOne K (.ref t.c_BadLine) (.ref t.c_NoTurn) = some false
  i_BadLine_TooTall : PySem.W.kitOne K (.ref t.c_BadLine) (.ref t.c_TooTall) = some false
  i_BadLine_NoBack : PySem.W.kitOne K (.ref t.c_BadLine) (.ref t.c_NoBack) = some false
  i_BadLine_BadLine : PySem.W.kitOne K (.ref t.c_BadLine) (.ref t.c_BadLine) = some true
  i_BadLine_ValueError : PySem.W.kitOne K (.ref t.c_BadLine) (.type "ValueError") = some true
  cl_Stack : Cls K t.c_Stack
  n_cakes : NoAttr K t.c_Stack "cakes"
  n_done : NoAttr K t.c_Stack "done"
  F_check_pile : Fun K "check_pile" "check_pile" s_check_pile t.a_check_pile t.d_check_pile
  m_check_pile : mg "check_pile" = some (.ref t.a_check_pile)
  F_without_signs : Fun K "without_signs" "without_signs" s_without_signs t.a_without_signs t.d_without_signs
  m_without_signs : mg "without_signs" = some (.ref t.a_without_signs)
  F_check_turns : Fun K "check_turns" "check_turns" s_check_turns t.a_check_turns t.d_check_turns
  m_check_turns : mg "check_turns" = some (.ref t.a_check_turns)
  F_turned : Fun K "turned" "turned" s_turned t.a_turned t.d_turned
  m_turned : mg "turned" = some (.ref t.a_turned)
  F_pile_after : Fun K "pile_after" "pile_after" s_pile_after t.a_pile_after t.d_pile_after
  m_pile_after : mg "pile_after" = some (.ref t.a_pile_after)
  F_what_lies_below : Fun K "what_lies_below" "what_lies_below" s_what_lies_below t.a_what_lies_below t.d_what_lies_below
  m_what_lies_below : mg "what_lies_below" = some (.ref t.a_what_lies_below)
  F_is_gap : Fun K "is_gap" "is_gap" s_is_gap t.a_is_gap t.d_is_gap
  m_is_gap : mg "is_gap" = some (.ref t.a_is_gap)
  F_count_gaps : Fun K "count_gaps" "count_gaps" s_count_gaps t.a_count_gaps t.d_count_gaps
  m_count_gaps : mg "count_gaps" = some (.ref t.a_count_gaps)
  F_turns_for_cake : Fun K "turns_for_cake" "turns_for_cake" s_turns_for_cake t.a_turns_for_cake t.d_turns_for_cake
  m_turns_for_cake : mg "turns_for_cake" = some (.ref t.a_turns_for_cake)
  F_rule_plan : Fun K "rule_plan" "rule_plan" s_rule_plan t.a_rule_plan t.d_rule_plan
  m_rule_plan : mg "rule_plan" = some (.ref t.a_rule_plan)
  F_check_height : Fun K "check_height" "check_height" s_check_height t.a_check_height t.d_check_height
  m_check_height : mg "check_height" = some (.ref t.a_check_height)
  F_plan_within : Fun K "plan_within" "plan_within" s_plan_within t.a_plan_within t.d_plan_within
  m_plan_within : mg "plan_within" = some (.ref t.a_plan_within)
  F_fewest_plan : Fun K "fewest_plan" "fewest_plan" s_fewest_plan t.a_fewest_plan t.d_fewest_plan
  m_fewest_plan : mg "fewest_plan" = some (.ref t.a_fewest_plan)
  F_fewest : Fun K "fewest" "fewest" s_fewest t.a_fewest t.d_fewest
  m_fewest : mg "fewest" = some (.ref t.a_fewest)
  F_Stack___init__ : Fun K "__init__" "Stack.__init__" s_Stack___init__ t.a_Stack___init__ t.d_Stack___init__
  K_Stack : Mk K t.c_Stack t.a_Stack___init__
  F_Stack_turn : Fun K "turn" "Stack.turn" s_Stack_turn t.a_Stack_turn t.d_Stack_turn
  M_Stack_turn : Meth K t.c_Stack "turn" t.a_Stack_turn
  F_Stack_back : Fun K "back" "Stack.back" s_Stack_back t.a_Stack_back t.d_Stack_back
  M_Stack_back : Meth K t.c_Stack "back" t.a_Stack_back
  F_Stack_pile : Fun K "pile" "Stack.pile" s_Stack_pile t.a_Stack_pile t.d_Stack_pile
  M_Stack_pile : Meth K t.c_Stack "pile" t.a_Stack_pile
  F_Stack_turns : Fun K "turns" "Stack.turns" s_Stack_turns t.a_Stack_turns t.d_Stack_turns
  M_Stack_turns : Meth K t.c_Stack "turns" t.a_Stack_turns
  F_Stack_fewest : Fun K "fewest" "Stack.fewest" s_Stack_fewest t.a_Stack_fewest t.d_Stack_fewest
  M_Stack_fewest : Meth K t.c_Stack "fewest" t.a_Stack_fewest
  F_law_cell_at : Fun K "_law_cell_at" "_law_cell_at" s_law_cell_at t.a_law_cell_at t.d_law_cell_at
  m_law_cell_at : mg "_law_cell_at" = some (.ref t.a_law_cell_at)
  F_law_whole : Fun K "_law_whole" "_law_whole" s_law_whole t.a_law_whole t.d_law_whole
  m_law_whole : mg "_law_whole" = some (.ref t.a_law_whole)
  F_law_pile : Fun K "_law_pile" "_law_pile" s_law_pile t.a_law_pile t.d_law_pile
  m_law_pile : mg "_law_pile" = some (.ref t.a_law_pile)
  F_law_turned : Fun K "_law_turned" "_law_turned" s_law_turned t.a_law_turned t.d_law_turned
  m_law_turned : mg "_law_turned" = some (.ref t.a_law_turned)
  F_law_which : Fun K "_law_which" "_law_which" s_law_which t.a_law_which t.d_law_which
  m_law_which : mg "_law_which" = some (.ref t.a_law_which)
  F_law_refused : Fun K "_law_refused" "_law_refused" s_law_refused t.a_law_refused t.d_law_refused
  m_law_refused : mg "_law_refused" = some (.ref t.a_law_refused)
  F_law_deed : Fun K "_law_deed" "_law_deed" s_law_deed t.a_law_deed t.d_law_deed
  m_law_deed : mg "_law_deed" = some (.ref t.a_law_deed)
  F_law : Fun K "law" "law" s_law t.a_law t.d_law
  m_law : mg "law" = some (.ref t.a_law)
  m_fewest_fewest : mg "fewest_fewest" = some (.ref t.a_fewest)
  z_ValueError : mg "ValueError" = none
  z_abs : mg "abs" = none
  z_bool : mg "bool" = none
  z_int : mg "int" = none
  z_isinstance : mg "isinstance" = none
  z_len : mg "len" = none
  z_list : mg "list" = none
  z_range : mg "range" = none
  z_reversed : mg "reversed" = none
  z_sorted : mg "sorted" = none
  z_zip : mg "zip" = none
  g_MOST_CAKES : ∃ tk, mg "MOST_CAKES" = some (.int 12 tk)
  g_MOST_PLAIN_CAKES : ∃ tk, mg "MOST_PLAIN_CAKES" = some (.int 7 tk)

def negV : V → V
  | .int i => .int (-i)
  | v => v
def absV2 : V → V
  | .int i => .int (if i < 0 then -i else i)
  | v => v

def placeV (ys : List Int) : V → V
  | .int i => .int ((ys.idxOf i : Nat) + 1)
  | v => v

def spCell (K : PySem.W.Frag) : Sp := fun vs H Q _ => ∃ (a : Addr) (ns : List Int) (k : Int), vs = [.ref a, .int k] ∧ SqL K H a (ns.map V.int) ∧ 0 ≤ k ∧ ∀ v : Int, Q (.int v) H
def spWhole : Sp := fun vs H Q _ => ∃ i : Int, vs = [.int i] ∧ Q (.bl true) H
def spPile (K : PySem.W.Frag) : Sp := fun vs H Q _ => ∃ (a : Addr) (ns : List Int) (i m : Int), vs = [.ref a, .int i, .int m] ∧ SqL K H a (ns.map V.int) ∧ 0 ≤ i ∧ 0 < m ∧ m ≤ 12 ∧
  ∀ (p : Addr) (H' : Hp) (xs : List Int), H p = none → Same H H' → H' p = some (.lst (xs.map V.int)) → Fs.Plain xs → (xs.length : Int) ≤ m → Q (.ref p) H'
def spBurnt (K : PySem.W.Frag) : Sp := fun vs H Q _ => ∃ (a : Addr) (xs : List Int) (c : Int), vs = [.ref a, .int c] ∧ SqL K H a (xs.map V.int) ∧ xs.length ≤ 12 ∧
  ∀ (p : Addr) (H' : Hp) (ys : List Int), H p = none → Same H H' → H' p = some (.lst (ys.map V.int)) → ys.map Fs.absI = xs.map Fs.absI → Q (.ref p) H'
def spTurn (K : PySem.W.Frag) : Sp := fun vs H Q _ => ∃ (a : Addr) (xs : List Int) (k : Int) (b : Bool), vs = [.ref a, .int k, .bl b] ∧ SqL K H a (xs.map V.int) ∧ 0 ≤ k ∧ k ≤ xs.length ∧ xs.length ≤ 12 ∧ (∀ x ∈ xs, -100 ≤ x ∧ x ≤ 100) ∧
  ∀ (p : Addr) (H' : Hp), H p = none → Same H H' → H' p = some (.lst ((Fs.turnM b k.toNat xs).map V.int)) → Q (.ref p) H'
def spNumbers : Sp := fun vs H Q _ => ∃ (a : Addr) (xs : List Int) (lo hi : Int), vs = [.ref a, .int lo, .int hi] ∧ H a = some (.lst (xs.map V.int)) ∧ (∀ x ∈ xs, lo ≤ x ∧ x ≤ hi) ∧ Q (.bl true) H
def spCheck (K : PySem.W.Frag) : Sp := fun vs H Q _ => ∃ (a : Addr) (xs : List Int), vs = [.ref a] ∧ SqL K H a (xs.map V.int) ∧ Fs.Plain xs ∧ xs.length ≤ 12 ∧ ∀ H', Same H H' → Q .non H'
def spCheckB (K : PySem.W.Frag) : Sp := fun vs H Q _ => ∃ (a : Addr) (xs : List Int), vs = [.ref a] ∧ SqL K H a (xs.map V.int) ∧ Fs.Burnt xs ∧ xs.length ≤ 12 ∧ ∀ H', Same H H' → Q .non H'
def spSigns (K : PySem.W.Frag) : Sp := fun vs H Q _ => ∃ (a : Addr) (xs : List Int), vs = [.ref a] ∧ SqL K H a (xs.map V.int) ∧ xs.length ≤ 12 ∧
  ∀ (p : Addr) (H' : Hp), H p = none → Same H H' → H' p = some (.lst ((xs.map Fs.absI).map V.int)) → Q (.ref p) H'
def spCheckT (K : PySem.W.Frag) : Sp := fun vs H Q _ => ∃ (a b : Addr) (xs ts : List Int), vs = [.ref a, .ref b] ∧ SqL K H a (xs.map V.int) ∧ SqL K H b (ts.map V.int) ∧ (∀ x ∈ ts, 1 ≤ x ∧ x ≤ (xs.length : Int)) ∧ Q .non H
def spAfter (K : PySem.W.Frag) : Sp := fun vs H Q _ => ∃ (a b : Addr) (xs ts : List Int) (bb : Bool), vs = [.ref a, .ref b, .bl bb] ∧ SqL K H a (xs.map V.int) ∧ SqL K H b (ts.map V.int) ∧ (∀ x ∈ ts, 1 ≤ x ∧ x ≤ (xs.length : Int)) ∧ Fs.Burnt xs ∧ xs.length ≤ 12 ∧
  ∀ (p : Addr) (H' : Hp), H p = none → Same H H' → H' p = some (.lst ((Fs.behindM bb xs ts).map V.int)) → Q (.ref p) H'
def spBehind (K : PySem.W.Frag) (bb : Bool) : Sp := fun vs H Q _ => ∃ (a b : Addr) (xs ts : List Int), vs = [.ref a, .ref b] ∧ SqL K H a (xs.map V.int) ∧ SqL K H b (ts.map V.int) ∧ (∀ x ∈ ts, 1 ≤ x ∧ x ≤ (xs.length : Int)) ∧ Fs.Burnt xs ∧ (bb = false → Fs.Plain xs) ∧ xs.length ≤ 12 ∧
  ∀ (p : Addr) (H' : Hp), H p = none → Same H H' → H' p = some (.lst ((Fs.behindM bb xs ts).map V.int)) → Q (.ref p) H'
def spLaw (K : PySem.W.Frag) : Sp := fun vs H Q _ => ∃ (a : Addr) (ns : List Int), vs = [.ref a] ∧ SqL K H a (ns.map V.int) ∧ ns.length ≤ 63 ∧ ∀ H', Q (.bl true) H'

def spBelow (K : PySem.W.Frag) : Sp := fun vs H Q _ => ∃ (a : Addr) (xs : List Int), vs = [.ref a] ∧ SqL K H a (xs.map V.int) ∧ xs.length ≤ 12 ∧
  ∀ (p : Addr) (H' : Hp), H p = none → Same H H' → H' p = some (.lst ((xs.drop 1 ++ [(xs.length : Int) + 1]).map V.int)) → Q (.ref p) H'
def spGaps (K : PySem.W.Frag) (b : Bool) : Sp := fun vs H Q _ => ∃ (a : Addr) (xs : List Int), vs = [.ref a] ∧ SqL K H a (xs.map V.int) ∧ Fs.Burnt xs ∧ (b = false → Fs.Plain xs) ∧ xs.length ≤ 12 ∧ ∀ H', Same H H' → Q (.int (Fs.gapsM b xs)) H'
def spIsGap : Sp := fun vs H Q _ => ∃ (x y : Int) (b : Bool), vs = [.int x, .int y, .bl b] ∧ Q (.bl (Fs.bad b x y)) H
def spCount (K : PySem.W.Frag) : Sp := fun vs H Q _ => ∃ (a : Addr) (xs : List Int) (b : Bool), vs = [.ref a, .bl b] ∧ SqL K H a (xs.map V.int) ∧ 1 ≤ xs.length ∧ xs.length ≤ 12 ∧ ∀ H', Same H H' → Q (.int (Fs.gapsM b xs)) H'
def keepV (b : Bool) : V → V → Bool
  | .int x, .int y => Fs.bad b x y
  | _, _ => false
theorem keep_count (b : Bool) (xs : List Int) : (((xs.map V.int).zip ((xs.drop 1 ++ [(xs.length : Int) + 1]).map V.int)).filter fun q => keepV b q.1 q.2).length = Fs.gapsM b xs := by
  rw [List.zip_map, List.filter_map, List.length_map]
  exact Fs.cnt_zip (Fs.bad b) _ xs
theorem len_below (xs : List Int) (h : 1 ≤ xs.length) : (xs.drop 1 ++ [(xs.length : Int) + 1]).length = xs.length := by
  simp
  omega

def spMoves (K : PySem.W.Frag) : Sp := fun vs H Q _ => ∃ (a : Addr) (xs : List Int) (c : Nat) (b : Bool), vs = [.ref a, .int c, .bl b] ∧ SqL K H a (xs.map V.int) ∧ Fs.Ok b c xs ∧ 1 ≤ c ∧ c ≤ xs.length ∧ xs.length ≤ 12 ∧
  ∀ (p : Addr) (H' : Hp), H p = none → Same H H' → H' p = some (.lst ((Fs.movesM b xs c).map V.int)) → Q (.ref p) H'
def spRule : Sp := fun vs H Q _ => ∃ (a : Addr) (xs : List Int) (b : Bool), vs = [.ref a, .bl b] ∧ H a = some (.lst (xs.map V.int)) ∧ Fs.Burnt xs ∧ (b = false → Fs.Plain xs) ∧ xs.length ≤ 12 ∧
  ∀ (p : Addr) (H' : Hp), H p = none → Same H H' → H' p = some (.lst ((Fs.ruleM b xs.length xs).map V.int)) → Q (.ref p) H'
def spPlan (b : Bool) : Sp := fun vs H Q _ => ∃ (a : Addr) (xs : List Int), vs = [.ref a] ∧ H a = some (.lst (xs.map V.int)) ∧ Fs.Burnt xs ∧ (b = false → Fs.Plain xs) ∧ xs.length ≤ 12 ∧
  ∀ (p : Addr) (H' : Hp), H p = none → Same H H' → H' p = some (.lst ((Fs.ruleM b xs.length xs).map V.int)) → Q (.ref p) H'

def spHeight (K : PySem.W.Frag) : Sp := fun vs H Q _ => ∃ (a : Addr) (xs : List Int) (m : Int), vs = [.ref a, .int m] ∧ SqL K H a (xs.map V.int) ∧ (xs.length : Int) ≤ m ∧ Q .non H
def spWithin (K : PySem.W.Frag) (M : Nat) : Sp := fun vs H Q _ => ∃ (a : Addr) (xs : List Int) (m : Nat) (b : Bool), vs = [.ref a, .int m, .bl b] ∧ m < M ∧ m ≤ 100 ∧ SqL K H a (xs.map V.int) ∧ Fs.Burnt xs ∧ xs.length ≤ 12 ∧
  (Fs.planW b m xs = none → ∀ H', Same H H' → Q .non H') ∧
  ∀ ts, Fs.planW b m xs = some ts → ∀ (p : Addr) (H' : Hp), H p = none → Same H H' → H' p = some (.lst (ts.map V.int)) → Q (.ref p) H'
theorem plan_within_none {K : PySem.W.Frag} {vs : List V} {H : Hp} {Q : VK} {E : XK} (h : spWithin K 0 vs H Q E) : False := by
  obtain ⟨_, _, _, _, _, h, _⟩ := h
  omega
def spFewP : Sp := fun vs H Q _ => ∃ (a : Addr) (xs : List Int) (b : Bool), vs = [.ref a, .bl b] ∧ H a = some (.lst (xs.map V.int)) ∧ Fs.Pile b xs ∧ xs.length ≤ 12 ∧ (Fs.ruleM b xs.length xs).length ≤ 12 ∧
  ∀ (p : Addr) (H' : Hp), H p = none → Same H H' → H' p = some (.lst ((Fs.fewM b xs).map V.int)) → Q (.ref p) H'
def spFew (b : Bool) (m : Nat) : Sp := fun vs H Q _ => ∃ (a : Addr) (xs : List Int), vs = [.ref a] ∧ H a = some (.lst (xs.map V.int)) ∧ Fs.Pile b xs ∧ xs.length ≤ m ∧
  ∀ (p : Addr) (H' : Hp), H p = none → Same H H' → H' p = some (.lst ((Fs.fewM b xs).map V.int)) → Q (.ref p) H'
def spBetween : Sp := fun vs H Q _ => ∃ (a c : Addr) (xs ys : List Int), vs = [.ref a, .ref c] ∧ H a = some (.lst (xs.map V.int)) ∧ H c = some (.lst (ys.map V.int)) ∧ Fs.Plain xs ∧ Fs.Plain ys ∧ xs.length = ys.length ∧ xs.length ≤ 7 ∧
  ∀ (p : Addr) (H' : Hp), H p = none → Same H H' → H' p = some (.lst ((Fs.fewM false (Fs.namedM xs ys)).map V.int)) → Q (.ref p) H'
theorem rule_short_plain {xs : List Int} (h : Fs.Pile false xs) (h7 : xs.length ≤ 7) : (Fs.ruleM false xs.length xs).length ≤ 12 := by
  have := Fs.rule_len_plain xs.length (Fs.ok_start h.bt h.pl) (Nat.le_refl _)
  omega
theorem burnt_pos {xs : List Int} (bt : Fs.Burnt xs) : 1 ≤ xs.length := by have := bt.pl.pos; rwa [List.length_map] at this

/-- a plain pile (b: without its signs) of at most 12 cakes -/
def PB : Bool → List Int → Prop
  | false, xs => Fs.Plain xs ∧ xs.length ≤ 12
  | true, xs => Fs.Plain (xs.map Fs.absI) ∧ (xs.map Fs.absI).length ≤ 12
def cAt (t : Adr) : Nat → Addr
  | 0 => t.c_NoPile
  | 1 => t.c_NoTurn
  | 2 => t.c_TooTall
  | 3 => t.c_NoBack
  | _ => t.c_BadLine
def toldB (i : Nat) : List Bool := [i == 0, i == 1, i == 2, i == 3, i == 4, true]
def Gone (n : Nat) (ts : List Int) : Prop := ∃ x ∈ ts, ¬ (1 ≤ x ∧ x ≤ (n : Int))
def spCheckX (K : PySem.W.Frag) (N : Addr) (b : Bool) : Sp := fun vs H Q E => ∃ (a : Addr) (xs : List Int), vs = [.ref a] ∧ SqL K H a (xs.map V.int) ∧ xs.length ≤ 40 ∧ (PB b xs → ∀ H', Same H H' → Q .non H') ∧ (¬ PB b xs → ∀ H', Same H H' → E (.ref N) none H')
def spSignsX (K : PySem.W.Frag) : Sp := fun vs H Q _ => ∃ (a : Addr) (xs : List Int), vs = [.ref a] ∧ SqL K H a (xs.map V.int) ∧ xs.length ≤ 40 ∧
  ∀ (p : Addr) (H' : Hp), H p = none → Same H H' → H' p = some (.lst ((xs.map Fs.absI).map V.int)) → Q (.ref p) H'
def spTurnsX (K : PySem.W.Frag) (N : Addr) : Sp := fun vs H Q E => ∃ (a b : Addr) (xs ts : List Int), vs = [.ref a, .ref b] ∧ SqL K H a (xs.map V.int) ∧ SqL K H b (ts.map V.int) ∧ xs.length ≤ 40 ∧ (∀ x ∈ ts, -(10 ^ 60) ≤ x ∧ x ≤ 10 ^ 60) ∧
  (¬ Gone xs.length ts → Q .non H) ∧ (Gone xs.length ts → E (.ref N) none H)
def spHeightX (K : PySem.W.Frag) (N : Addr) : Sp := fun vs H Q E => ∃ (a : Addr) (xs : List Int) (m : Int), vs = [.ref a, .int m] ∧ SqL K H a (xs.map V.int) ∧ xs.length ≤ 40 ∧ 0 ≤ m ∧ m ≤ 100 ∧ ((xs.length : Int) ≤ m → Q .non H) ∧ (m < (xs.length : Int) → E (.ref N) none H)
def spSizeX (N : Addr) : Sp := fun vs H Q E => ∃ n m : Int, vs = [.int n, .int m] ∧ -(10 ^ 60) ≤ n ∧ n ≤ 10 ^ 60 ∧ 0 ≤ m ∧ m ≤ 100 ∧ (1 ≤ n → n ≤ m → Q .non H) ∧ (¬ (1 ≤ n ∧ n ≤ m) → E (.ref N) none H)

def spWhich (t : Adr) : Sp := fun vs H Q _ => ∃ (e : Addr) (i : Nat), vs = [.ref e] ∧ i < 5 ∧ H e = some (.ext (IsExc e (.ref (cAt t i)))) ∧ ∀ (p : Addr) (H' : Hp), H p = none → Same H H' → H' p = some (.lst ((toldB i).map V.bl)) → Q (.ref p) H'

theorem caught {K : PySem.W.Frag} {mg : Str → Option Value} {t : Adr} (T : Txt K mg t) : ∀ i : Nat, i < 5 → ExcF K (cAt t i) ∧ PySem.W.mroIn K (cAt t i) (.ref t.c_FlipError) = some true
  | 0, _ => ⟨T.e_NoPile, T.u_NoPile⟩
  | 1, _ => ⟨T.e_NoTurn, T.u_NoTurn⟩
  | 2, _ => ⟨T.e_TooTall, T.u_TooTall⟩
  | 3, _ => ⟨T.e_NoBack, T.u_NoBack⟩
  | 4, _ => ⟨T.e_BadLine, T.u_BadLine⟩

theorem neCD : ¬ (("cakes" : Str) = "done") := by decide +kernel
def flds (l d : Addr) : List (Str × V) := putF "done" (.ref d) (putF "cakes" (.ref l) [])
theorem flds_cakes (l d : Addr) : (flds l d).lookup ("cakes" : Str) = some (.ref l) := by
  unfold flds
  rw [lookup_putF, if_neg neCD, lookup_putF, if_pos rfl]
theorem flds_done (l d : Addr) : (flds l d).lookup ("done" : Str) = some (.ref d) := by
  unfold flds
  rw [lookup_putF, if_pos rfl]
theorem flds_no (l d : Addr) {m : Str} (h1 : ¬ m = "done") (h2 : ¬ m = "cakes") : (flds l d).lookup m = none := by
  unfold flds
  rw [lookup_putF, if_neg h1, lookup_putF, if_neg h2]
  rfl

theorem flds_put (l d l' : Addr) : putF "cakes" (.ref l') (flds l d) = flds l' d := by
  have e : ∀ x : Addr, flds x d = ([("cakes", V.ref x), ("done", V.ref d)] : List (Str × V)) := fun x => by
    show (if ("cakes" : Str) = "done" then [(("cakes" : Str), V.ref d)] else (("cakes" : Str), V.ref x) :: putF "done" (V.ref d) []) = ([("cakes", V.ref x), ("done", V.ref d)] : List (Str × V))
    rw [if_neg neCD]
    rfl
  rw [e, e]
  show (if ("cakes" : Str) = "cakes" then (("cakes" : Str), V.ref l') :: [(("done" : Str), V.ref d)] else (("cakes" : Str), V.ref l) :: putF "cakes" (V.ref l') [(("done" : Str), V.ref d)]) = ([("cakes", V.ref l'), ("done", V.ref d)] : List (Str × V))
  rw [if_pos rfl]
theorem flds_len (l d : Addr) : (flds l d).length < 1000 := by
  have e : flds l d = ([("cakes", V.ref l), ("done", V.ref d)] : List (Str × V)) := by
    show (if ("cakes" : Str) = "done" then [(("cakes" : Str), V.ref d)] else (("cakes" : Str), V.ref l) :: putF "done" (V.ref d) []) = ([("cakes", V.ref l), ("done", V.ref d)] : List (Str × V))
    rw [if_neg neCD]
    rfl
  rw [e]
  show 2 < 1000
  decide
/-- a stack at p -/
structure StackAt (C : Addr) (H : Hp) (p dx l d : Addr) (xs ds : List Int) : Prop where
  ob : H p = some (.ins C dx (flds l d))
  ck : H l = some (.lst (xs.map V.int))
  dn : H d = some (.lst (ds.map V.int))
  ne : d ≠ l
  pl : Fs.Plain xs
  l12 : xs.length ≤ 12
  dl : ds.length ≤ 100
  tn : ∀ x ∈ ds, 1 ≤ x ∧ x ≤ (xs.length : Int)
theorem StackAt.same {C p dx l d : Addr} {H H' : Hp} {xs ds : List Int} (s : StackAt C H p dx l d xs ds) (e : Same H H') : StackAt C H' p dx l d xs ds :=
  ⟨e _ _ s.ob, e _ _ s.ck, e _ _ s.dn, s.ne, s.pl, s.l12, s.dl, s.tn⟩
def spInit12 (K : PySem.W.Frag) (C : Addr) : Sp := fun vs H Q E => ∃ (p dx a : Addr) (xs : List Int), vs = [.ref p, .ref a] ∧ H p = some (.ins C dx []) ∧ SqL K H a (xs.map V.int) ∧ Fs.Plain xs ∧ xs.length ≤ 12 ∧
  ∀ (l d : Addr) (H' : Hp), H l = none → H d = none → (∀ b o, H b = some o → b ≠ p → H' b = some o) → StackAt C H' p dx l d xs [] → Q .non H'
def spTurn12 (t : Adr) : Sp := fun vs H Q E => ∃ (p dx l d : Addr) (xs ds : List Int) (k : Int), vs = [.ref p, .int k] ∧ StackAt t.c_Stack H p dx l d xs ds ∧ -(10 ^ 60) ≤ k ∧ k ≤ 10 ^ 60 ∧ ds.length ≤ 99 ∧
  (1 ≤ k → k ≤ xs.length → ∀ (l' : Addr) (H' : Hp), H l' = none → (∀ b o, H b = some o → b ≠ p → b ≠ d → H' b = some o) → StackAt t.c_Stack H' p dx l' d (Fs.turnM false k.toNat xs) (ds ++ [k]) → Q (.int ((ds.length : Int) + 1)) H') ∧
  (¬ (1 ≤ k ∧ k ≤ xs.length) → ∀ H', Same H H' → E (.ref t.c_NoTurn) none H')
def spBack12 (t : Adr) : Sp := fun vs H Q E => ∃ (p dx l d : Addr) (xs ds : List Int), vs = [.ref p] ∧ StackAt t.c_Stack H p dx l d xs ds ∧
  (∀ k es, ds = es ++ [k] → ∀ (l' : Addr) (H' : Hp), H l' = none → (∀ b o, H b = some o → b ≠ p → b ≠ d → H' b = some o) → StackAt t.c_Stack H' p dx l' d (Fs.turnM false k.toNat xs) es → Q (.int k) H') ∧
  (ds = [] → ∀ H', Same H H' → E (.ref t.c_NoBack) none H')
def spPile12 (t : Adr) : Sp := fun vs H Q E => ∃ (p dx l d : Addr) (xs ds : List Int), vs = [.ref p] ∧ StackAt t.c_Stack H p dx l d xs ds ∧ ∀ (r : Addr) (H' : Hp), H r = none → Same H H' → H' r = some (.lst (xs.map V.int)) → Q (.ref r) H'
def spTurns12 (t : Adr) : Sp := fun vs H Q E => ∃ (p dx l d : Addr) (xs ds : List Int), vs = [.ref p] ∧ StackAt t.c_Stack H p dx l d xs ds ∧ ∀ (r : Addr) (H' : Hp), H r = none → Same H H' → H' r = some (.lst (ds.map V.int)) → Q (.ref r) H'
def spFew12 (t : Adr) : Sp := fun vs H Q E => ∃ (a : Addr) (xs : List Int), vs = [.ref a] ∧ H a = some (.lst (xs.map V.int)) ∧ Fs.Plain xs ∧ xs.length ≤ 12 ∧
  (xs.length ≤ 7 → ∀ (p : Addr) (H' : Hp), H p = none → Same H H' → H' p = some (.lst ((Fs.fewM false xs).map V.int)) → Q (.ref p) H') ∧ (7 < xs.length → ∀ H', Same H H' → E (.ref t.c_TooTall) none H')
def spSFew12 (t : Adr) : Sp := fun vs H Q E => ∃ (p dx l d : Addr) (xs ds : List Int), vs = [.ref p] ∧ StackAt t.c_Stack H p dx l d xs ds ∧
  (xs.length ≤ 7 → ∀ (r : Addr) (H' : Hp), H r = none → Same H H' → H' r = some (.lst ((Fs.fewM false xs).map V.int)) → Q (.ref r) H') ∧ (7 < xs.length → ∀ H', Same H H' → E (.ref t.c_TooTall) none H')
def spRefused12 (t : Adr) : Sp := fun vs H Q E => ∃ (p dx l d : Addr) (xs ds : List Int) (w k : Int) (i : Nat), vs = [.ref p, .int w, .int k] ∧ StackAt t.c_Stack H p dx l d xs ds ∧ -(10 ^ 60) ≤ k ∧ k ≤ 10 ^ 60 ∧ ds.length ≤ 99 ∧
  ((w = 0 ∧ i = 1 ∧ ¬ (1 ≤ k ∧ k ≤ xs.length)) ∨ (w = 1 ∧ i = 3 ∧ ds = []) ∨ (w = 2 ∧ i = 2 ∧ 7 < xs.length)) ∧ ∀ (r : Addr) (H' : Hp), H r = none → Same H H' → H' r = some (.lst ((toldB i).map V.bl)) → Q (.ref r) H'

/-- the stack, and what the law keeps of it -/
structure DeedSt (C : Addr) (H : Hp) (p dx l d k kp dn : Addr) (xs ds : List Int) : Prop where
  st : StackAt C H p dx l d xs ds
  hk : H k = some (.lst [.ref kp])
  hkp : H kp = some (.lst (xs.map V.int))
  hdn : H dn = some (.lst (ds.map V.int))
  dk : d ≠ kp
  dd : d ≠ dn
  nl : dn ≠ l
  nk : dn ≠ kp
theorem DeedSt.same {C p dx l d k kp dn : Addr} {H H' : Hp} {xs ds : List Int} (s : DeedSt C H p dx l d k kp dn xs ds) (e : Same H H') : DeedSt C H' p dx l d k kp dn xs ds :=
  ⟨s.st.same e, e _ _ s.hk, e _ _ s.hkp, e _ _ s.hdn, s.dk, s.dd, s.nl, s.nk⟩
def spDeed (t : Adr) : Sp := fun vs H Q E => ∃ (p dx l d k kp dn : Addr) (xs ds : List Int) (c : Int), vs = [.ref p, .ref k, .ref dn, .int c] ∧ DeedSt t.c_Stack H p dx l d k kp dn xs ds ∧ ds.length ≤ 60 ∧
  ∀ (l' kp' : Addr) (xs' ds' : List Int) (H' : Hp), DeedSt t.c_Stack H' p dx l' d k kp' dn xs' ds' → ds'.length ≤ ds.length + 1 → (∀ b o, H b = some o → b ≠ p → b ≠ d → b ≠ k → b ≠ dn → H' b = some o) → Q (.bl true) H'
theorem int_list_ne {H : Hp} {a b x : Addr} {ys : List Int} (h1 : H a = some (.lst [.ref x])) (h2 : H b = some (.lst (ys.map V.int))) : a ≠ b := fun e => by
  subst e
  rw [h1] at h2
  cases ys with
  | nil => simp at h2
  | cons y r => simp at h2
section
variable {P : Program} {w : World} {K : PySem.W.Frag} {mg : Str → Option Value} {base : Heap} {t : Adr}
theorem b_check_pile (T : Txt K mg t) : Binds K t.d_check_pile ["pile"] [] := T.F_check_pile.binds fun _ _ _ _ _ _ us hl => match us, hl with | [_], _ => rfl
theorem b_without_signs (T : Txt K mg t) : Binds K t.d_without_signs ["pile"] [] := T.F_without_signs.binds fun _ _ _ _ _ _ us hl => match us, hl with | [_], _ => rfl
theorem b_check_turns (T : Txt K mg t) : Binds K t.d_check_turns ["pile", "turns"] [] := T.F_check_turns.binds fun _ _ _ _ _ _ us hl => match us, hl with | [_, _], _ => rfl
theorem b_turned (T : Txt K mg t) : Binds K t.d_turned ["pile", "turn", "burnt"] [] := T.F_turned.binds fun _ _ _ _ _ _ us hl => match us, hl with | [_, _, _], _ => rfl
theorem b_pile_after (T : Txt K mg t) : Binds K t.d_pile_after ["pile", "turns", "burnt"] [] := T.F_pile_after.binds fun _ _ _ _ _ _ us hl => match us, hl with | [_, _, _], _ => rfl
theorem b_what_lies_below (T : Txt K mg t) : Binds K t.d_what_lies_below ["pile"] [] := T.F_what_lies_below.binds fun _ _ _ _ _ _ us hl => match us, hl with | [_], _ => rfl
theorem b_is_gap (T : Txt K mg t) : Binds K t.d_is_gap ["cake", "below", "burnt"] [] := T.F_is_gap.binds fun _ _ _ _ _ _ us hl => match us, hl with | [_, _, _], _ => rfl
theorem b_count_gaps (T : Txt K mg t) : Binds K t.d_count_gaps ["pile", "burnt"] [] := T.F_count_gaps.binds fun _ _ _ _ _ _ us hl => match us, hl with | [_, _], _ => rfl
theorem b_turns_for_cake (T : Txt K mg t) : Binds K t.d_turns_for_cake ["pile", "cake", "burnt"] [] := T.F_turns_for_cake.binds fun _ _ _ _ _ _ us hl => match us, hl with | [_, _, _], _ => rfl
theorem b_rule_plan (T : Txt K mg t) : Binds K t.d_rule_plan ["pile", "burnt"] [] := T.F_rule_plan.binds fun _ _ _ _ _ _ us hl => match us, hl with | [_, _], _ => rfl
theorem b_check_height (T : Txt K mg t) : Binds K t.d_check_height ["pile", "most"] [] := T.F_check_height.binds fun _ _ _ _ _ _ us hl => match us, hl with | [_, _], _ => rfl
theorem b_plan_within (T : Txt K mg t) : Binds K t.d_plan_within ["pile", "most", "burnt"] [] := T.F_plan_within.binds fun _ _ _ _ _ _ us hl => match us, hl with | [_, _, _], _ => rfl
theorem b_fewest (T : Txt K mg t) : Binds K t.d_fewest ["pile"] [] := T.F_fewest.binds fun _ _ _ _ _ _ us hl => match us, hl with | [_], _ => rfl
theorem b_Stack___init__ (T : Txt K mg t) : Binds K t.d_Stack___init__ ["self", "pile"] [] := T.F_Stack___init__.binds fun _ _ _ _ _ _ us hl => match us, hl with | [_, _], _ => rfl
theorem b_Stack_turn (T : Txt K mg t) : Binds K t.d_Stack_turn ["self", "turn"] [] := T.F_Stack_turn.binds fun _ _ _ _ _ _ us hl => match us, hl with | [_, _], _ => rfl
theorem b_Stack_back (T : Txt K mg t) : Binds K t.d_Stack_back ["self"] [] := T.F_Stack_back.binds fun _ _ _ _ _ _ us hl => match us, hl with | [_], _ => rfl
theorem b_Stack_pile (T : Txt K mg t) : Binds K t.d_Stack_pile ["self"] [] := T.F_Stack_pile.binds fun _ _ _ _ _ _ us hl => match us, hl with | [_], _ => rfl
theorem b_Stack_turns (T : Txt K mg t) : Binds K t.d_Stack_turns ["self"] [] := T.F_Stack_turns.binds fun _ _ _ _ _ _ us hl => match us, hl with | [_], _ => rfl
theorem b_Stack_fewest (T : Txt K mg t) : Binds K t.d_Stack_fewest ["self"] [] := T.F_Stack_fewest.binds fun _ _ _ _ _ _ us hl => match us, hl with | [_], _ => rfl
theorem b_law_cell_at (T : Txt K mg t) : Binds K t.d_law_cell_at ["script", "k"] [] := T.F_law_cell_at.binds fun _ _ _ _ _ _ us hl => match us, hl with | [_, _], _ => rfl
theorem b_law_whole (T : Txt K mg t) : Binds K t.d_law_whole ["found"] [] := T.F_law_whole.binds fun _ _ _ _ _ _ us hl => match us, hl with | [_], _ => rfl
theorem b_law_pile (T : Txt K mg t) : Binds K t.d_law_pile ["script", "at", "most"] [] := T.F_law_pile.binds fun _ _ _ _ _ _ us hl => match us, hl with | [_, _, _], _ => rfl
theorem b_law_turned (T : Txt K mg t) : Binds K t.d_law_turned ["pile", "turn", "burnt"] [] := T.F_law_turned.binds fun _ _ _ _ _ _ us hl => match us, hl with | [_, _, _], _ => rfl
theorem b_law_which (T : Txt K mg t) : Binds K t.d_law_which ["e"] [] := T.F_law_which.binds fun _ _ _ _ _ _ us hl => match us, hl with | [_], _ => rfl
theorem b_law_refused (T : Txt K mg t) : Binds K t.d_law_refused ["stack", "way", "turn"] [] := T.F_law_refused.binds fun _ _ _ _ _ _ us hl => match us, hl with | [_, _, _], _ => rfl
theorem b_law_deed (T : Txt K mg t) : Binds K t.d_law_deed ["stack", "kept", "done", "cell"] [] := T.F_law_deed.binds fun _ _ _ _ _ _ us hl => match us, hl with | [_, _, _, _], _ => rfl
theorem sc_check_pile : FnScope ["pile", "size"] ["pile"] (defScope s_check_pile) := ⟨rfl, rfl, rfl, by decide +kernel, rfl, by decide +kernel, by decide +kernel⟩
theorem sc_without_signs : FnScope ["pile"] ["pile"] (defScope s_without_signs) := ⟨rfl, rfl, rfl, by decide +kernel, rfl, by decide +kernel, by decide +kernel⟩
theorem sc_check_turns : FnScope ["pile", "turns", "size", "turn"] ["pile", "turns"] (defScope s_check_turns) := ⟨rfl, rfl, rfl, by decide +kernel, rfl, by decide +kernel, by decide +kernel⟩
theorem sc_turned : FnScope ["pile", "turn", "burnt", "upper"] ["pile", "turn", "burnt"] (defScope s_turned) := ⟨rfl, rfl, rfl, by decide +kernel, rfl, by decide +kernel, by decide +kernel⟩
theorem sc_pile_after : FnScope ["pile", "turns", "burnt", "now", "turn"] ["pile", "turns", "burnt"] (defScope s_pile_after) := ⟨rfl, rfl, rfl, by decide +kernel, rfl, by decide +kernel, by decide +kernel⟩
theorem sc_what_lies_below : FnScope ["pile"] ["pile"] (defScope s_what_lies_below) := ⟨rfl, rfl, rfl, by decide +kernel, rfl, by decide +kernel, by decide +kernel⟩
theorem sc_is_gap : FnScope ["cake", "below", "burnt"] ["cake", "below", "burnt"] (defScope s_is_gap) := ⟨rfl, rfl, rfl, by decide +kernel, rfl, by decide +kernel, by decide +kernel⟩
theorem sc_count_gaps : FnScope ["pile", "burnt"] ["pile", "burnt"] (defScope s_count_gaps) := ⟨rfl, rfl, rfl, by decide +kernel, rfl, by decide +kernel, by decide +kernel⟩
theorem sc_turns_for_cake : FnScope ["pile", "cake", "burnt", "turns", "place"] ["pile", "cake", "burnt"] (defScope s_turns_for_cake) := ⟨rfl, rfl, rfl, by decide +kernel, rfl, by decide +kernel, by decide +kernel⟩
theorem sc_rule_plan : FnScope ["pile", "burnt", "now", "turns", "cake", "more"] ["pile", "burnt"] (defScope s_rule_plan) := ⟨rfl, rfl, rfl, by decide +kernel, rfl, by decide +kernel, by decide +kernel⟩
theorem sc_check_height : FnScope ["pile", "most", "size"] ["pile", "most"] (defScope s_check_height) := ⟨rfl, rfl, rfl, by decide +kernel, rfl, by decide +kernel, by decide +kernel⟩
theorem sc_plan_within : FnScope ["pile", "most", "burnt", "left", "turn", "rest"] ["pile", "most", "burnt"] (defScope s_plan_within) := ⟨rfl, rfl, rfl, by decide +kernel, rfl, by decide +kernel, by decide +kernel⟩
theorem sc_fewest_plan : FnScope ["pile", "burnt", "longest", "most", "found"] ["pile", "burnt"] (defScope s_fewest_plan) := ⟨rfl, rfl, rfl, by decide +kernel, rfl, by decide +kernel, by decide +kernel⟩
theorem sc_fewest : FnScope ["pile"] ["pile"] (defScope s_fewest) := ⟨rfl, rfl, rfl, by decide +kernel, rfl, by decide +kernel, by decide +kernel⟩
theorem sc_Stack___init__ : FnScope ["self", "pile"] ["self", "pile"] (defScope s_Stack___init__) := ⟨rfl, rfl, rfl, by decide +kernel, rfl, by decide +kernel, by decide +kernel⟩
theorem sc_Stack_turn : FnScope ["self", "turn"] ["self", "turn"] (defScope s_Stack_turn) := ⟨rfl, rfl, rfl, by decide +kernel, rfl, by decide +kernel, by decide +kernel⟩
theorem sc_Stack_back : FnScope ["self", "turn"] ["self"] (defScope s_Stack_back) := ⟨rfl, rfl, rfl, by decide +kernel, rfl, by decide +kernel, by decide +kernel⟩
theorem sc_Stack_pile : FnScope ["self"] ["self"] (defScope s_Stack_pile) := ⟨rfl, rfl, rfl, by decide +kernel, rfl, by decide +kernel, by decide +kernel⟩
theorem sc_Stack_turns : FnScope ["self"] ["self"] (defScope s_Stack_turns) := ⟨rfl, rfl, rfl, by decide +kernel, rfl, by decide +kernel, by decide +kernel⟩
theorem sc_Stack_fewest : FnScope ["self"] ["self"] (defScope s_Stack_fewest) := ⟨rfl, rfl, rfl, by decide +kernel, rfl, by decide +kernel, by decide +kernel⟩
theorem sc_law_cell_at : FnScope ["script", "k"] ["script", "k"] (defScope s_law_cell_at) := ⟨rfl, rfl, rfl, by decide +kernel, rfl, by decide +kernel, by decide +kernel⟩
theorem sc_law_whole : FnScope ["found"] ["found"] (defScope s_law_whole) := ⟨rfl, rfl, rfl, by decide +kernel, rfl, by decide +kernel, by decide +kernel⟩
theorem sc_law_pile : FnScope ["script", "at", "most", "size", "left", "pile", "k"] ["script", "at", "most"] (defScope s_law_pile) := ⟨rfl, rfl, rfl, by decide +kernel, rfl, by decide +kernel, by decide +kernel⟩
theorem sc_law_turned : FnScope ["pile", "turn", "burnt", "sign"] ["pile", "turn", "burnt"] (defScope s_law_turned) := ⟨rfl, rfl, rfl, by decide +kernel, rfl, by decide +kernel, by decide +kernel⟩
theorem sc_law_which : FnScope ["e", "some"] ["e"] (defScope s_law_which) := ⟨rfl, rfl, rfl, by decide +kernel, rfl, by decide +kernel, by decide +kernel⟩
theorem sc_law_refused : FnScope ["stack", "way", "turn", "told", "e"] ["stack", "way", "turn"] (defScope s_law_refused) := ⟨rfl, rfl, rfl, by decide +kernel, rfl, by decide +kernel, by decide +kernel⟩
theorem sc_law_deed : FnScope ["stack", "kept", "done", "cell", "way", "turn", "found", "gone", "due"] ["stack", "kept", "done", "cell"] (defScope s_law_deed) := ⟨rfl, rfl, rfl, by decide +kernel, rfl, by decide +kernel, by decide +kernel⟩
theorem sc_law : FnScope ["script", "pile", "handed", "stack", "other", "kept", "done", "many", "k", "cell", "found"] ["script"] (defScope s_law) := ⟨rfl, rfl, rfl, by decide +kernel, rfl, by decide +kernel, by decide +kernel⟩

def g3 {α : Type} : List α → List α → List α
  | [a, b], [c] => [a, b, c]
  | _, _ => []
theorem g3_rel {vs : List V} {us : List Value} {zs : List V} {ws : List Value} (r : Vals vs us) (q : Vals zs ws) : Vals (g3 vs zs) (g3 us ws) := by
  match vs, us, zs, ws, r, q with
  | _, _, _, _, .nil, _ => exact .nil
  | _, _, _, _, .cons _ .nil, _ => exact .nil
  | _, _, _, _, .cons _ (.cons _ .nil), .nil => exact .nil
  | _, _, _, _, .cons r1 (.cons r2 .nil), .cons r3 .nil => exact .cons r1 (.cons r2 (.cons r3 .nil))
  | _, _, _, _, .cons _ (.cons _ .nil), .cons _ (.cons _ _) => exact .nil
  | _, _, _, _, .cons _ (.cons _ (.cons _ _)), _ => exact .nil
theorem kb_turned (T : Txt K mg t) : KBinds K t.d_turned ["pile", "turn", "burnt"] ["burnt"] g3 g3 := by
  refine ⟨fun s us ws _ hl => ?_, g3_rel⟩
  obtain ⟨oc, od, kV, doc, pm, an, cdv, ct, osl, e, _⟩ := T.F_turned.ex
  rw [e]
  match us, ws, hl with
  | [a, b], [c], _ => exact .of_eq rfl
  | [], _, hl => simp [g3] at hl
  | [_], _, hl => simp [g3] at hl
  | [_, _], [], hl => simp [g3] at hl
  | [_, _], _ :: _ :: _, hl => simp [g3] at hl
  | _ :: _ :: _ :: _, _, hl => simp [g3] at hl

def g2 {α : Type} : List α → List α → List α
  | [a], [c] => [a, c]
  | _, _ => []
theorem g2_rel {vs : List V} {us : List Value} {zs : List V} {ws : List Value} (r : Vals vs us) (q : Vals zs ws) : Vals (g2 vs zs) (g2 us ws) := by
  match vs, us, zs, ws, r, q with
  | _, _, _, _, .nil, _ => exact .nil
  | _, _, _, _, .cons _ .nil, .nil => exact .nil
  | _, _, _, _, .cons r1 .nil, .cons r3 .nil => exact .cons r1 (.cons r3 .nil)
  | _, _, _, _, .cons _ .nil, .cons _ (.cons _ _) => exact .nil
  | _, _, _, _, .cons _ (.cons _ _), _ => exact .nil

theorem kb_fewest_plan (T : Txt K mg t) : KBinds K t.d_fewest_plan ["pile", "burnt"] ["burnt"] g2 g2 := by
  refine ⟨fun s us ws _ hl => ?_, g2_rel⟩
  obtain ⟨oc, od, kV, doc, pm, an, cdv, ct, osl, e, _⟩ := T.F_fewest_plan.ex
  rw [e]
  match us, ws, hl with
  | [a], [c], _ => exact .of_eq rfl
  | [], _, hl => simp [g2] at hl
  | [_], [], hl => simp [g2] at hl
  | [_], _ :: _ :: _, hl => simp [g2] at hl
  | _ :: _ :: _, _, hl => simp [g2] at hl

end
end Fl

namespace Fl
open PySem L2
section
variable {P : Program} {w : World} {K : PySem.W.Frag} {mg : Str → Option Value} {base : Heap} {t : Adr}
theorem ok_check_pile (T : Txt K mg t) : FnOk P w K mg base (CXX P w) 1 t.a_check_pile t.d_check_pile ["pile"] (spCheckX K t.c_NoPile false) := by
  refine T.F_check_pile.okX sc_check_pile (fun vs H Q E h => ?_) (fun cdv A outer s H vs Q E hr h => ?_)
  · obtain ⟨a, xs, rfl, hS, h40, q, qe⟩ := h
    rfl
  · obtain ⟨a, xs, rfl, hS, h40, q, qe⟩ := h
    refine ⟨_, (pss_cons (ps_set (i := 1) sc_check_pile.nd rfl (Or.inl rfl) (pe_callB (len_K (K := K)) rfl T.z_len bt_len (pa_cons (pv 0) pa_nil)))
      (pss_cons (ps_if (PW.pt (pw_or (pt_cmpR op_lt (pv 1) pe_int (nomark _)) (pw_or1 (pt_cmpR op_gt (pv 1) (pe_globI rfl T.g_MOST_CAKES) (nomark _))))) (pss_one (ps_raise T.e_NoPile.toExcC hr.hd rfl T.x_NoPile (pa_cons (pe_fs (pf_str (by decide +kernel) (pf_val (pe_globI rfl T.g_MOST_CAKES) (pf_str (by decide +kernel) (pf_val (pv 1) pf_nil))))) pa_nil))) pss_nil)
      (pss_one (ps_if (pt_cmpR (op_neL hr.units) (pe_callB call_sorted rfl T.z_sorted bt_sorted (pa_cons (pv 0) pa_nil)) (pe_callTy (call_list_rng rfl) rfl T.z_list bt_list (pa_cons (pe_callTy call_rng2 rfl T.z_range bt_range (pa_cons pe_int (pa_cons (pe_op op_add (pv 1) pe_int) pa_nil))) pa_nil)) (nomark _)) (pss_one (ps_raise T.e_NoPile.toExcC hr.hd rfl T.x_NoPile (pa_cons (pe_fs (pf_str (by decide +kernel) (pf_val (pv 1) (pf_str (by decide +kernel) pf_nil)))) pa_nil))) pss_nil)))), ?_⟩
    refine ⟨_, rfl, a, _, rfl, .inl hS, ?_⟩
    rw [len_map]
    refine ⟨_, rfl, _, _, rfl, rfl, _, rfl, ite2D (fun h => ?_) (fun h => ⟨_, rfl, _, _, rfl, rfl, _, rfl, ite2D (fun h' => ?_) (fun h' => ?_)⟩)⟩
    · exact ⟨fmtI (by decide) (by decide), _, rfl, fmtI (by omega) (by omega), fun x => ⟨by show 1 ≤ 1000; decide, qe (fun z => by have := z.1.pos; omega) H (Same.refl _)⟩⟩
    · exact ⟨fmtI (by decide) (by decide), _, rfl, fmtI (by omega) (by omega), fun x => ⟨by show 1 ≤ 1000; decide, qe (fun z => by have := z.2; omega) H (Same.refl _)⟩⟩
    refine ⟨_, rfl, a, xs, rfl, hS, by omega, fun l ms hl pm so => ?_⟩
    refine ⟨_, rfl, _, _, rfl, rfl, _, _, rfl, fun r hr0 => ⟨r, _, _, rfl, upd_same, by decide, by omega, by decide, by omega, fun l2 hl2 => ?_⟩⟩
    have nlr : l ≠ r := fun e => by rw [← e, upd_same] at hr0; cases hr0
    have hr1 : H r = none := by rwa [upd_ne nlr.symm] at hr0
    have n2r : l2 ≠ r := fun e => by rw [e, upd_same] at hl2; cases hl2
    rw [upd_ne n2r] at hl2
    have n2l : l2 ≠ l := fun e => by rw [e, upd_same] at hl2; cases hl2
    have hl20 : H l2 = none := by rwa [upd_ne n2l] at hl2
    refine ⟨l, l2, ms, Fs.upTo 1 ((xs.length : Int) + 1), rfl, rfl, SqL.of (by rw [upd_ne n2l.symm, upd_ne nlr, upd_same]), SqL.of upd_same, _, rfl, ?_⟩
    by_cases z : ms = Fs.upTo 1 ((xs.length : Int) + 1)
    · rw [decide_eq_true z]
      exact iteF (q ⟨⟨by omega, by rw [← z]; exact pm.symm⟩, by omega⟩ _ (((Same.new hl).up hr1).up hl20))
    · rw [decide_eq_false z]
      exact iteT ⟨_, rfl, fmtI (by omega) (by omega), fun x => ⟨by show 1 ≤ 1000; decide, qe (fun pl => z (pl.1.sorted pm so)) _ (((Same.new hl).up hr1).up hl20)⟩⟩
end
end Fl

namespace Fl
open PySem L2
section
variable {P : Program} {w : World} {K : PySem.W.Frag} {mg : Str → Option Value} {base : Heap} {t : Adr}
theorem ok_without_signs (T : Txt K mg t) : FnOk P w K mg base CX0 1 t.a_without_signs t.d_without_signs ["pile"] (spSigns K) := by
  refine T.F_without_signs.ok sc_without_signs (fun vs H Q E h => ?_) (fun cdv A outer s H vs Q E hr h => ?_)
  · obtain ⟨a, xs, rfl, hS, h12, q⟩ := h
    rfl
  · obtain ⟨a, xs, rfl, hS, h12, q⟩ := h
    refine ⟨_, (pss_one (ps_ret (pe_comp rfl (pi_list (pv 0)) (show CapOk _ _ ["cake"] [none] from (cap_own (cap_nil))) keep_name (fun _ _ _ _ => (pg_name (i := 0) (show (["cake"] : List Str).Nodup by decide +kernel) rfl (Or.inl rfl))) (fun _ _ _ _ => pif_nil) (fun _ _ _ _ => (pe_callB call_abs rfl T.z_abs bt_abs (pa_cons (pv 0) pa_nil)))))), ?_⟩
    refine ⟨_, rfl, a, rfl, ⟨_, hS⟩, comp_list (xs := xs.map V.int) absV2 hS (by rw [len_map]; omega) (fun x i H2 R hi s2 r => ?_) (fun p H2 hp s2 e => q p H2 hp s2 ?_)⟩
    · obtain ⟨y, rfl, hy⟩ := map_get hi
      exact ⟨_, rfl, y, rfl, r H2 (Same.refl _)⟩
    · rw [e, List.map_map, List.map_map]
      rfl
end
end Fl

namespace Fl
open PySem L2
section
variable {P : Program} {w : World} {K : PySem.W.Frag} {mg : Str → Option Value} {base : Heap} {t : Adr}
theorem ok_check_turns (T : Txt K mg t) : FnOk P w K mg base (CXX P w) 1 t.a_check_turns t.d_check_turns ["pile", "turns"] (spTurnsX K t.c_NoTurn) := by
  refine T.F_check_turns.okX sc_check_turns (fun vs H Q E h => ?_) (fun cdv A outer s H vs Q E hr h => ?_)
  · obtain ⟨a, b, xs, ts, rfl, hS, hT, h40, hb, q, qe⟩ := h
    rfl
  · obtain ⟨a, b, xs, ts, rfl, hS, hT, h40, hb, q, qe⟩ := h
    refine ⟨_, (pss_cons (ps_set (i := 2) sc_check_turns.nd rfl (Or.inl rfl) (pe_callB (len_K (K := K)) rfl T.z_len bt_len (pa_cons (pv 0) pa_nil)))
      (pss_one (ps_for PassesOwn.leaving rfl (pi_list (pv 1)) (pg_name (i := 3) sc_check_turns.nd rfl (Or.inl rfl)) (pss_one (ps_if (PW.pt (pw_or (pt_cmpR op_lt (pv 3) pe_int (nomark _)) (pw_or1 (pt_cmpR op_gt (pv 3) (pv 2) (nomark _))))) (pss_one (ps_raise T.e_NoTurn.toExcC hr.hd rfl T.x_NoTurn (pa_cons (pe_fs (pf_str (by decide +kernel) (pf_val (pv 2) (pf_str (by decide +kernel) (pf_val (pv 3) pf_nil))))) pa_nil))) pss_nil))))), ?_⟩
    refine ⟨_, rfl, a, _, rfl, .inl hS, ?_⟩
    rw [len_map]
    refine ⟨_, rfl, b, rfl, ⟨_, hT⟩, for_list (K := K) (a := b) (xs := ts.map V.int) (fun i σ H2 => (∃ kv : Option V, σ = [some (.ref a), some (.ref b), some (.int xs.length), kv] ∧ H2 = H) ∧ ∀ x ∈ ts.take i, 1 ≤ x ∧ x ≤ (xs.length : Int)) ⟨⟨none, rfl, rfl⟩, fun x hx => by simp at hx⟩ (fun i σ H2 _ ⟨⟨_, _, e⟩, _⟩ => by rw [e]; exact hT) ?_ ?_⟩
    · rintro i y σ H2 hi ⟨⟨kv, rfl, rfl⟩, ok⟩
      obtain ⟨x, rfl, hx⟩ := map_get hi
      obtain ⟨b1, b2⟩ := hb x (List.mem_of_getElem? hx)
      refine ⟨_, rfl, _, _, rfl, rfl, _, rfl, ite2D (fun h => ?_) (fun h => ⟨_, rfl, _, rfl, _, _, rfl, rfl, _, rfl, ite2D (fun h' => ?_) (fun h' => ?_)⟩)⟩
      · exact ⟨_, rfl, fmtI (by omega) (by omega), _, rfl, fmtI b1 b2, fun w => ⟨by show 1 ≤ 1000; decide, qe ⟨x, List.mem_of_getElem? hx, by omega⟩⟩⟩
      · exact ⟨_, rfl, fmtI (by omega) (by omega), _, rfl, fmtI b1 b2, fun w => ⟨by show 1 ≤ 1000; decide, qe ⟨x, List.mem_of_getElem? hx, by omega⟩⟩⟩
      · refine ⟨⟨_, rfl, rfl⟩, fun z hz => ?_⟩
        rw [List.take_add_one, hx] at hz
        simp only [Option.toList_some, List.mem_append, List.mem_singleton] at hz
        rcases hz with hz | rfl
        · exact ok z hz
        · omega
    · rintro σ H2 ⟨⟨kv, rfl, rfl⟩, ok⟩
      rw [len_map, List.take_length] at ok
      exact q fun ⟨x, hx, n⟩ => n (ok x hx)
end
end Fl

namespace Fl
open PySem L2
section
variable {P : Program} {w : World} {K : PySem.W.Frag} {mg : Str → Option Value} {base : Heap} {t : Adr}
theorem ok_turned (T : Txt K mg t) : FnOk P w K mg base CX0 1 t.a_turned t.d_turned ["pile", "turn", "burnt"] (spTurn K) := by
  refine T.F_turned.ok sc_turned (fun vs H Q E h => ?_) (fun cdv A outer s H vs Q E hr h => ?_)
  · obtain ⟨a, xs, k, b, rfl, hS, k0, kn, h12, hx, q⟩ := h
    rfl
  · obtain ⟨a, xs, k, b, rfl, hS, k0, kn, h12, hx, q⟩ := h
    refine ⟨_, (pss_cons (ps_set (i := 3) sc_turned.nd rfl (Or.inl rfl) (pe_list_rev rfl (pe_slice (sl_K (K := K)) (pv 0) po_none (po_some (pv 1))) rfl T.z_list rfl T.z_reversed))
      (pss_cons (ps_if (pt_val (pv 2)) (pss_one (ps_setc (i := 3) sc_turned.nd rfl (Or.inl rfl) rfl (pi_list (pv 3)) (show CapOk _ _ ["cake"] [none] from (cap_own (cap_nil))) keep_name (fun _ _ _ _ => (pg_name (i := 0) (show (["cake"] : List Str).Nodup by decide +kernel) rfl (Or.inl rfl))) (fun _ _ _ _ => pif_nil) (fun _ _ _ _ => (pe_un un_neg (pv 0))) (by with_unfolding_all rfl))) pss_nil)
      (pss_one (ps_ret (pe_op op_cat (pv 3) (pe_slice (sl_K (K := K)) (pv 0) (po_some (pv 1)) po_none)))))), ?_⟩
    refine ⟨_, rfl, _, rfl, _, rfl, a, _, rfl, hS, fun d hd => ⟨d, _, rfl, SqL.of upd_same, fun l hl => ?_⟩⟩
    rw [cut_lo _ k0] at hl ⊢
    have s0 : Same H (upd H d (.lst ((xs.map V.int).take k.toNat))) := Same.new hd
    have s1 : Same H (upd (upd H d (.lst ((xs.map V.int).take k.toNat))) l (.lst ((xs.map V.int).take k.toNat).reverse)) := s0.up (s0.free hl)
    generalize hH1 : upd (upd H d (.lst ((xs.map V.int).take k.toNat))) l (.lst ((xs.map V.int).take k.toNat).reverse) = H1 at s1
    have e1 : H1 l = some (.lst (((xs.take k.toNat).reverse).map V.int)) := by rw [← hH1, upd_same]; simp
    -- the end, for whatever list upper is
    have fin : ∀ (u : Addr) (H2 : Hp), Same H1 H2 → H2 u = some (.lst (((xs.take k.toNat).reverse.map (Fs.sgn b)).map V.int)) →
        tRet (tOp rCat (tVar 3) (tSl (rSlL K) (tVar 0) (tPart (tVar 1)) tNoPart)) { nx := fun _ H' => Q .non H', rt := Q } [some (.ref a), some (.int k), some (.bl b), some (.ref u)] H2 := fun u H2 s2 e2 => by
      have s3 := s1.trans s2
      refine ⟨_, rfl, _, rfl, _, rfl, _, rfl, a, _, rfl, s3.seq hS, fun p2 hp2 => ⟨u, p2, _, _, rfl, rfl, (by rw [upd_ne (ne_of_none e2 hp2)]; exact e2), upd_same, ?_, fun p3 hp3 => ?_⟩⟩
      · rw [cut_hi _ k0]
        refine small12 ?_
        simp
        omega
      have n32 : p3 ≠ p2 := fun e => by rw [e, upd_same] at hp3; cases hp3
      have hp3' : H2 p3 = none := by rwa [upd_ne n32] at hp3
      refine q p3 _ (s3.free hp3') ((s3.up (s3.free hp2)).up (s3.free hp3')) ?_
      rw [upd_same, cut_hi _ k0]
      simp [Fs.turnM]
    refine ⟨_, rfl, _, rfl, ?_⟩
    cases b with
    | false =>
      refine iteF (fin l H1 (Same.refl _) ?_)
      rw [e1]
      have : (Fs.sgn false) = id := by funext i; rfl
      rw [this, List.map_id]
    | true =>
      refine iteT ⟨_, rfl, l, rfl, ⟨_, SqL.of e1⟩, ?_⟩
      refine comp_list (K := K) (xs := ((xs.take k.toNat).reverse).map V.int) negV (SqL.of e1) (by simp; omega) (fun x i H2 R hi s2 r => ?_) (fun p H2 hp s2 e => ?_)
      · obtain ⟨y, rfl, hy⟩ := map_get hi
        exact ⟨_, rfl, y, rfl, r H2 (Same.refl _)⟩
      · refine fin p H2 s2 ?_
        rw [e, List.map_map, List.map_map]
        rfl
end
end Fl

namespace Fl
open PySem L2
section
variable {P : Program} {w : World} {K : PySem.W.Frag} {mg : Str → Option Value} {base : Heap} {t : Adr}
theorem ok_pile_after (T : Txt K mg t) : FnOk P w K mg base CX0 2 t.a_pile_after t.d_pile_after ["pile", "turns", "burnt"] (spAfter K) := by
  refine T.F_pile_after.ok sc_pile_after (fun vs H Q E h => ?_) (fun cdv A outer s H vs Q E hr h => ?_)
  · obtain ⟨a, b, xs, ts, bb, rfl, hS, hT, hb, bt, h12, q⟩ := h
    rfl
  · obtain ⟨a, b, xs, ts, bb, rfl, hS, hT, hb, bt, h12, q⟩ := h
    refine ⟨_, (pss_cons (ps_set (i := 3) sc_pile_after.nd rfl (Or.inl rfl) (pe_callTy call_list_of rfl T.z_list bt_list (pa_cons (pv 0) pa_nil)))
      (pss_cons (ps_for PassesOwn.never rfl (pi_list (pv 1)) (pg_name (i := 4) sc_pile_after.nd rfl (Or.inl rfl)) (pss_one (ps_set (i := 3) sc_pile_after.nd rfl (Or.inl rfl) (pe_call (ok_turned T) (hr.mono (by omega)) rfl T.m_turned T.F_turned.kp (b_turned T) .nil pass0 (pa_cons (pv 3) (pa_cons (pv 4) (pa_cons (pv 2) pa_nil)))))))
      (pss_one (ps_ret (pv 3))))), ?_⟩
    refine ⟨_, rfl, a, _, rfl, .inl hS, fun l hl => ?_⟩
    have s1 : Same H (upd H l (.lst (xs.map V.int))) := Same.new hl
    refine ⟨_, rfl, b, rfl, ⟨_, s1.seq hT⟩, for_list (K := K) (a := b) (xs := ts.map V.int) (fun i σ H2 => ∃ (u : Addr) (kv : Option V), σ = [some (.ref a), some (.ref b), some (.bl bb), some (.ref u), kv] ∧ Same H H2 ∧ H u = none ∧
      H2 u = some (.lst ((Fs.behindM bb xs (ts.take i)).map V.int))) ?_ (fun i σ H2 _ ⟨_, _, _, s2, _⟩ => s2.seq hT) ?_ ?_⟩
    · exact ⟨l, none, rfl, s1, hl, upd_same⟩
    · rintro i y σ H2 hi ⟨u, kv, rfl, s2, hu, e2⟩
      obtain ⟨x, rfl, hx⟩ := map_get hi
      obtain ⟨b1, b2⟩ := hb x (List.mem_of_getElem? hx)
      have hbl := bt.behind bb (ts.take i)
      have hln := Fs.length_behindM bb (ts.take i) xs
      refine ⟨_, rfl, _, rfl, _, rfl, u, Fs.behindM bb xs (ts.take i), x, bb, rfl, SqL.of e2, by omega, by omega, by omega, fun z hz => ?_, fun p H3 hp s3 e3 => ?_⟩
      · have := hbl.mem hz
        omega
      · refine ⟨p, _, rfl, s2.trans s3, s2.free hp, ?_⟩
        rw [e3, List.take_add_one, hx]
        show some (HO.lst _) = some (HO.lst ((Fs.behindM bb xs (ts.take i ++ [x])).map V.int))
        rw [Fs.behindM_snoc]
    · rintro σ H2 ⟨u, kv, rfl, s2, hu, e2⟩
      rw [len_map, List.take_length] at e2
      exact ⟨_, rfl, q u H2 hu s2 e2⟩
end
end Fl

namespace Fl
open PySem L2
section
variable {P : Program} {w : World} {K : PySem.W.Frag} {mg : Str → Option Value} {base : Heap} {t : Adr}
theorem ok_what_lies_below (T : Txt K mg t) : FnOk P w K mg base CX0 1 t.a_what_lies_below t.d_what_lies_below ["pile"] (spBelow K) := by
  refine T.F_what_lies_below.ok sc_what_lies_below (fun vs H Q E h => ?_) (fun cdv A outer s H vs Q E hr h => ?_)
  · obtain ⟨a, xs, rfl, hS, h12, q⟩ := h
    rfl
  · obtain ⟨a, xs, rfl, hS, h12, q⟩ := h
    refine ⟨_, (pss_one (ps_ret (pe_op op_cat (pe_slice (sl_K (K := K)) (pv 0) (po_some pe_int) po_none) (pe_lst (pa_cons (pe_op op_add (pe_callB (len_K (K := K)) rfl T.z_len bt_len (pa_cons (pv 0) pa_nil)) pe_int) pa_nil))))), ?_⟩
    refine ⟨_, rfl, _, rfl, a, _, rfl, hS, fun d hd => ?_⟩
    have s1 : Same H (upd H d (.lst (cutV (xs.map V.int) (some 1) none))) := Same.new hd
    refine ⟨_, rfl, a, _, rfl, .inl (s1.seq hS), _, _, rfl, rfl, small12 (by show 1 ≤ 1000; decide), fun l hl => ?_⟩
    refine ⟨d, l, _, _, rfl, rfl, (by rw [upd_ne (ne_of_none upd_same hl)]; exact upd_same), upd_same, ?_, fun p hp => ?_⟩
    · rw [cut_hi _ (by decide)]
      refine small12 ?_
      simp
      omega
    have s2 := s1.up (o := .lst [V.int (((xs.map V.int).length : Int) + 1)]) (s1.free hl)
    refine q p _ (s2.free hp) (s2.up (s2.free hp)) ?_
    rw [upd_same, cut_hi _ (by decide), len_map]
    simp
end
end Fl

namespace Fl
open PySem L2
section
variable {P : Program} {w : World} {K : PySem.W.Frag} {mg : Str → Option Value} {base : Heap} {t : Adr}
theorem ok_is_gap (T : Txt K mg t) : FnOk P w K mg base CX0 1 t.a_is_gap t.d_is_gap ["cake", "below", "burnt"] spIsGap := by
  refine T.F_is_gap.ok sc_is_gap (fun vs H Q E h => ?_) (fun cdv A outer s H vs Q E hr h => ?_)
  · obtain ⟨x, y, b, rfl, q⟩ := h
    rfl
  · obtain ⟨x, y, b, rfl, q⟩ := h
    refine ⟨_, (pss_cons (ps_if (pt_val (pv 2)) (pss_one (ps_ret (pe_cmpR op_ne (pv 1) (pe_op op_add (pv 0) pe_int) (nomark _)))) pss_nil)
      (pss_one (ps_ret (pe_cmpR op_ne (pe_callB call_abs rfl T.z_abs bt_abs (pa_cons (pe_op op_sub (pv 1) (pv 0)) pa_nil)) pe_int (nomark _))))), ?_⟩
    cases b with
    | true =>
      have e : (!decide (V.int y = V.int (x + 1))) = Fs.bad true x y := by
        rw [Bool.eq_iff_iff, Fs.bad_iff]
        simp only [Bool.not_eq_true', decide_eq_false_iff_not, V.int.injEq, Bool.true_eq_false, false_implies, and_true, ne_eq]
        omega
      refine ⟨_, rfl, _, rfl, iteT ⟨_, rfl, _, rfl, _, _, rfl, rfl, rfl, ?_⟩⟩
      rw [e]
      exact q
    | false =>
      have e : (!decide (V.int (if y - x < 0 then -(y - x) else y - x) = V.int 1)) = Fs.bad false x y := by
        rw [Bool.eq_iff_iff, Fs.bad_iff]
        simp only [Bool.not_eq_true', decide_eq_false_iff_not, V.int.injEq, forall_const, ne_eq]
        split <;> omega
      refine ⟨_, rfl, _, rfl, iteF ⟨_, rfl, _, rfl, _, _, rfl, rfl, _, rfl, rfl, ?_⟩⟩
      rw [e]
      exact q
end
end Fl

namespace Fl
open PySem L2
section
variable {P : Program} {w : World} {K : PySem.W.Frag} {mg : Str → Option Value} {base : Heap} {t : Adr}
theorem ok_count_gaps (T : Txt K mg t) : FnOk P w K mg base CX0 2 t.a_count_gaps t.d_count_gaps ["pile", "burnt"] (spCount K) := by
  refine T.F_count_gaps.ok sc_count_gaps (fun vs H Q E h => ?_) (fun cdv A outer s H vs Q E hr h => ?_)
  · obtain ⟨a, xs, b, rfl, hS, h1, h12, q⟩ := h
    rfl
  · obtain ⟨a, xs, b, rfl, hS, h1, h12, q⟩ := h
    refine ⟨_, (pss_one (ps_ret (pe_callB (len_K (K := K)) rfl T.z_len bt_len (pa_cons (pe_comp rfl (pi_zip (K := K) rfl T.z_zip (pa_cons (pv 0) (pa_cons (pe_call (ok_what_lies_below T) (hr.mono (by omega)) rfl T.m_what_lies_below T.F_what_lies_below.kp (b_what_lies_below T) .nil pass0 (pa_cons (pv 0) pa_nil)) pa_nil))) (show CapOk _ _ ["cake", "below", "burnt"] [none, none, some 1] from (cap_own (cap_own (cap_free (i := 1) (cap_nil))))) keep_two (fun _ _ _ _ => (pg_tupK (K := K) rfl (pgs_cons (pg_name (i := 0) (show (["cake", "below", "burnt"] : List Str).Nodup by decide +kernel) rfl (Or.inl rfl)) (pgs_cons (pg_name (i := 1) (show (["cake", "below", "burnt"] : List Str).Nodup by decide +kernel) rfl (Or.inl rfl)) pgs_nil)))) (fun _ _ _ _ => (pif_one (pt_val (pe_call (ok_is_gap T) (hr.mono (by omega)) rfl T.m_is_gap T.F_is_gap.kp (b_is_gap T) .nil pass0 (pa_cons (pv 0) (pa_cons (pv 1) (pa_cons (pv 2) pa_nil))))))) (fun _ _ _ _ => (pv 0))) pa_nil)))), ?_⟩
    refine ⟨_, rfl, _, rfl, a, xs, rfl, hS, h12, fun p H2 hp s2 e2 => ⟨a, p, rfl, ⟨_, s2.seq hS⟩, ⟨_, SqL.of e2⟩, ?_⟩⟩
    refine comp_zipF (keepV b) (s2.seq hS) (SqL.of e2) (by rw [len_map, len_map, len_below xs h1]) (by rw [len_map]; omega) (fun i v u H3 R1 R2 g1 g2 s3 k1 k2 => ?_) (fun l H4 zs hl s4 e4 hz => ?_)
    · obtain ⟨x, rfl, hx⟩ := map_get g1
      obtain ⟨y, rfl, hy⟩ := map_get g2
      have k1 : Fs.bad b x y = true → _ := k1
      have k2 : Fs.bad b x y = false → _ := k2
      refine ⟨_, rfl, _, rfl, _, rfl, x, y, b, rfl, _, rfl, ?_⟩
      cases hb : Fs.bad b x y
      · exact iteF (k2 hb H3 (Same.refl _))
      · exact iteT ⟨_, rfl, k1 hb _ H3 (Same.refl _)⟩
    · rw [keep_count] at hz
      refine ⟨l, zs, rfl, .inl (SqL.of e4), ?_⟩
      rw [hz]
      exact q H4 (s2.trans s4)
end
end Fl

namespace Fl
open PySem L2
section
variable {P : Program} {w : World} {K : PySem.W.Frag} {mg : Str → Option Value} {base : Heap} {t : Adr}
theorem ok_turns_for_cake (T : Txt K mg t) : FnOk P w K mg base CX0 3 t.a_turns_for_cake t.d_turns_for_cake ["pile", "cake", "burnt"] (spMoves K) := by
  refine T.F_turns_for_cake.ok sc_turns_for_cake (fun vs H Q E h => ?_) (fun cdv A outer s H vs Q E hr h => ?_)
  · obtain ⟨a, xs, c, b, rfl, hS, ok, c1, c2, h12, q⟩ := h
    rfl
  · obtain ⟨a, xs, c, b, rfl, hS, ok, c1, c2, h12, q⟩ := h
    refine ⟨_, (pss_cons (ps_if (pt_cmpR op_eq (pe_ix (ix_K (K := K)) (pv 0) (pe_op op_sub (pv 1) pe_int) (fun _ _ => rfl)) (pv 1) (nomark _)) (pss_one (ps_ret (pe_lst pa_nil))) pss_nil)
      (pss_cons (ps_set (i := 3) sc_turns_for_cake.nd rfl (Or.inl rfl) (pe_lst pa_nil))
      (pss_cons (ps_set (i := 4) sc_turns_for_cake.nd rfl (Or.inl rfl) (pe_op op_add (pe_bm PySem.F.plainAttrs_list PySem.F.slot_list_index PySem.F.type_list_index mt_index (pe_call (ok_without_signs T) (hr.mono (by omega)) rfl T.m_without_signs T.F_without_signs.kp (b_without_signs T) .nil pass0 (pa_cons (pv 0) pa_nil)) (pa_cons (pv 1) pa_nil)) pe_int))
      (pss_cons (ps_if (pt_cmpR op_ne (pv 4) pe_int (nomark _)) (pss_one (ps_expr (pe_bm PySem.F.plainAttrs_list PySem.F.slot_list_append PySem.F.type_list_append mt_append (pv 3) (pa_cons (pv 4) pa_nil)))) pss_nil)
      (pss_cons (ps_if (PW.pt (pw_and (pt_val (pv 2)) (pw_and1 (pt_cmpR op_gt (pe_ix (ix_K (K := K)) (pe_call (ok_pile_after T) (hr.mono (by omega)) rfl T.m_pile_after T.F_pile_after.kp (b_pile_after T) .nil pass0 (pa_cons (pv 0) (pa_cons (pv 3) (pa_cons (pv 2) pa_nil)))) pe_int (fun _ _ => rfl)) pe_int (nomark _))))) (pss_one (ps_expr (pe_bm PySem.F.plainAttrs_list PySem.F.slot_list_append PySem.F.type_list_append mt_append (pv 3) (pa_cons pe_int pa_nil)))) pss_nil)
      (pss_cons (ps_expr (pe_bm PySem.F.plainAttrs_list PySem.F.slot_list_append PySem.F.type_list_append mt_append (pv 3) (pa_cons (pv 1) pa_nil)))
      (pss_one (ps_ret (pv 3))))))))), ?_⟩
    have hcx : ((c : Int) - 1).toNat = c - 1 := by omega
    refine ⟨_, rfl, _, rfl, _, _, rfl, rfl, a, _, _, .int (xs.getD (c - 1) 0), rfl, rfl, hS, atI_int (by omega) (by rw [hcx]; exact get_ints (by omega)), _, rfl, rfl, _, rfl, ?_⟩
    refine ite2D (fun h => ?_) (fun h => ?_)
    · have h := V.int.inj h
      refine ⟨Nat.zero_le _, fun p hp => q p _ hp (Same.new hp) ?_⟩
      rw [upd_same]
      unfold Fs.movesM
      rw [if_pos h]
      rfl
    have hne : ¬ xs.getD (c - 1) 0 = (c : Int) := fun z => h (by rw [z])
    refine ⟨Nat.zero_le _, fun p hp => ?_⟩
    have s1 : Same H (upd H p (.lst [])) := Same.new hp
    -- place
    have hmem : (c : Int) ∈ xs.map Fs.absI := by
      rw [ok.bt.pl.perm.mem_iff, Fs.mem_upTo, List.length_map]
      omega
    refine ⟨_, rfl, a, xs, rfl, s1.seq hS, h12, fun w H2 hw s2 e2 => ⟨.inl ⟨rfl, _, SqL.of e2⟩, _, rfl, w, xs.map Fs.absI, c, rfl, rfl, SqL.of e2, hmem, by rw [List.length_map]; omega, _, _, rfl, rfl, ?_⟩⟩
    have S2 := s1.trans s2
    have ep : H2 p = some (.lst []) := s2 _ _ upd_same
    have epl : (((xs.map Fs.absI).idxOf (c : Int) : Nat) : Int) + 1 = (Fs.placeM xs c : Nat) := by unfold Fs.placeM; omega
    dsimp only [gName]
    rw [epl]
    refine seq_gen fun R hR => ?_
    have rest : ∀ H3, Same H H3 → H3 p = some (.lst ((Fs.upM xs c).map V.int)) → R [some (.ref a), some (.int c), some (.bl b), some (.ref p), some (.int (Fs.placeM xs c : Nat))] H3 := ?_
    · refine ⟨_, rfl, rfl, _, rfl, iteN (fun hc => ?_) (fun hc => rest H2 S2 ?_)⟩
      · have hc : Fs.placeM xs c ≠ 1 := fun z => hc (by rw [z]; rfl)
        refine ⟨_, rfl, .inl ⟨rfl, _, SqL.of ep⟩, _, rfl, p, _, _, rfl, rfl, ep, small1000 (by show 0 ≤ 1000; decide), rest _ (S2.up hp) ?_⟩
        rw [upd_same]
        unfold Fs.upM
        rw [if_pos hc]
        rfl
      · have hc : Fs.placeM xs c = 1 := by have := V.int.inj hc; omega
        rw [ep]
        unfold Fs.upM
        rw [if_neg (by omega)]
        rfl
    intro H3 S3 e3
    rw [hR]
    clear hR R
    have hup := Fs.upM_turns ok c1 c2
    refine seq_gen fun R hR => ?_
    have rest : ∀ H4, Same H H4 → H4 p = some (.lst ((Fs.upM xs c ++ Fs.burnM b xs c).map V.int)) → R [some (.ref a), some (.int c), some (.bl b), some (.ref p), some (.int (Fs.placeM xs c : Nat))] H4 := ?_
    · cases b with
      | false =>
        refine ⟨_, rfl, _, rfl, iteF (iteF (rest H3 S3 ?_))⟩
        rw [e3]
        unfold Fs.burnM
        rw [if_neg (fun z => nomatch z.1), List.append_nil]
      | true =>
        have hl := Fs.length_behindM true (Fs.upM xs c) xs
        refine ⟨_, rfl, _, rfl, iteT ⟨_, rfl, _, rfl, _, rfl, a, p, xs, Fs.upM xs c, true, rfl, S3.seq hS, SqL.of e3, hup.1.mono c2, ok.bt, h12, fun w H4 hw s4 e4 => ⟨w, _, _, .int ((Fs.behindM true xs (Fs.upM xs c)).getD 0 0), rfl, rfl, SqL.of e4, atI_int (by decide) (get_ints (by omega)), _, _, rfl, rfl, _, rfl, ?_⟩⟩⟩
        have ep4 := s4 _ _ e3
        cases hc : decide (0 < (Fs.behindM true xs (Fs.upM xs c)).getD 0 0)
        rotate_left
        · have hc := of_decide_eq_true hc
          refine iteT ⟨_, rfl, .inl ⟨rfl, _, SqL.of ep4⟩, p, _, _, rfl, rfl, ep4, small1000 (by rw [len_map]; omega), rest _ ((S3.trans s4).up hp) ?_⟩
          rw [upd_same]
          unfold Fs.burnM
          rw [if_pos ⟨rfl, hc⟩]
          simp
        · have hc := of_decide_eq_false hc
          refine iteF (rest H4 (S3.trans s4) ?_)
          rw [ep4]
          unfold Fs.burnM
          rw [if_neg (fun z => hc z.2), List.append_nil]
    intro H4 S4 e4
    rw [hR]
    have hbn := Fs.burnM_turns b xs c c1
    have hbl : (Fs.burnM b xs c).length ≤ 1 := by cases b <;> simp_all <;> omega
    refine ⟨_, rfl, .inl ⟨rfl, _, SqL.of e4⟩, _, rfl, p, _, _, rfl, rfl, e4, small1000 (by rw [len_map, List.length_append]; omega), ?_⟩
    refine ⟨_, rfl, q p _ hp (S4.up hp) ?_⟩
    rw [upd_same]
    unfold Fs.movesM
    rw [if_neg hne]
    simp
end
end Fl

namespace Fl
open PySem L2
section
variable {P : Program} {w : World} {K : PySem.W.Frag} {mg : Str → Option Value} {base : Heap} {t : Adr}
theorem ok_rule_plan (T : Txt K mg t) : FnOk P w K mg base CX0 4 t.a_rule_plan t.d_rule_plan ["pile", "burnt"] spRule := by
  refine T.F_rule_plan.ok sc_rule_plan (fun vs H Q E h => ?_) (fun cdv A outer s H vs Q E hr h => ?_)
  · obtain ⟨a, xs, b, rfl, hS, bt, pl, h12, q⟩ := h
    rfl
  · obtain ⟨a, xs, b, rfl, hS, bt, pl, h12, q⟩ := h
    refine ⟨_, (pss_cons (ps_set (i := 2) sc_rule_plan.nd rfl (Or.inl rfl) (pv 0))
      (pss_cons (ps_set (i := 3) sc_rule_plan.nd rfl (Or.inl rfl) (pe_lst pa_nil))
      (pss_cons (ps_for PassesOwn.never rfl (pi_range3 rfl T.z_range (pa_cons (pe_callB (len_K (K := K)) rfl T.z_len bt_len (pa_cons (pv 0) pa_nil)) (pa_cons pe_int (pa_cons (pe_un un_neg pe_int) pa_nil)))) (pg_name (i := 4) sc_rule_plan.nd rfl (Or.inl rfl)) (pss_cons (ps_set (i := 5) sc_rule_plan.nd rfl (Or.inl rfl) (pe_call (ok_turns_for_cake T) (hr.mono (by omega)) rfl T.m_turns_for_cake T.F_turns_for_cake.kp (b_turns_for_cake T) .nil pass0 (pa_cons (pv 2) (pa_cons (pv 4) (pa_cons (pv 1) pa_nil)))))
      (pss_cons (ps_expr (pe_bm PySem.F.plainAttrs_list PySem.F.slot_list_extend PySem.F.type_list_extend mt_extend (pv 3) (pa_cons (pv 5) pa_nil)))
      (pss_one (ps_set (i := 2) sc_rule_plan.nd rfl (Or.inl rfl) (pe_call (ok_pile_after T) (hr.mono (by omega)) rfl T.m_pile_after T.F_pile_after.kp (b_pile_after T) .nil pass0 (pa_cons (pv 2) (pa_cons (pv 5) (pa_cons (pv 1) pa_nil)))))))))
      (pss_one (ps_ret (pv 3)))))), ?_⟩
    refine ⟨_, rfl, Nat.zero_le _, fun p hp => ?_⟩
    have s1 : Same H (upd H p (.lst [])) := Same.new hp
    refine ⟨_, rfl, a, _, rfl, .inl (SqL.of (s1 _ _ hS)), _, rfl, _, 0, rfl, ⟨by omega, by rw [len_map]; omega, by decide, by decide⟩, ?_⟩
    rw [len_map]
    have en : (((xs.length : Nat) : Int) - 0).toNat = xs.length := by omega
    rw [en]
    refine for_step (lo := (xs.length : Int)) (c := -1) (n := xs.length) (fun i σ H2 => ∃ (u : Addr) (ys ts : List Int) (k4 k5 : Option V), σ = [some (.ref a), some (.bl b), some (.ref u), some (.ref p), k4, k5] ∧ Same H H2 ∧
      H2 u = some (.lst (ys.map V.int)) ∧ u ≠ p ∧ H2 p = some (.lst (ts.map V.int)) ∧ Fs.Ok b (xs.length - i) ys ∧ ys.length = xs.length ∧ ts.length ≤ 3 * i ∧ i ≤ xs.length ∧ ts ++ Fs.ruleM b (xs.length - i) ys = Fs.ruleM b xs.length xs) ?_ ?_ ?_
    · exact ⟨a, xs, [], _, _, rfl, s1, s1 _ _ hS, ne_of_none hS hp, upd_same, Fs.ok_start bt pl, rfl, Nat.zero_le _, Nat.zero_le _, rfl⟩
    · rintro i σ H2 hi ⟨u, ys, ts, k4, k5, rfl, s2, hu, hup, hpt, ok, hyl, htl, _, ht⟩
      obtain ⟨c, hc⟩ : ∃ c, xs.length - i = c + 1 := ⟨xs.length - i - 1, by omega⟩
      have hc' : xs.length - (i + 1) = c := by omega
      rw [hc] at ok ht
      have ev : (xs.length : Int) + (i : Int) * (-1) = ((c + 1 : Nat) : Int) := by omega
      have mt := Fs.movesM_turns ok (by omega) (by omega)
      have ml : (Fs.movesM b ys (c + 1)).length ≤ 3 := by have := mt.2; cases b <;> simp_all <;> omega
      dsimp only [gName]
      rw [ev]
      refine ⟨_, rfl, _, rfl, _, rfl, u, ys, c + 1, b, rfl, SqL.of hu, ok, by omega, by omega, by omega, fun m H3 hm s3 e3 => ?_⟩
      have S3 := s2.trans s3
      have ep3 := s3 _ _ hpt
      refine ⟨_, rfl, .inl ⟨rfl, _, SqL.of ep3⟩, _, rfl, p, m, _, _, rfl, rfl, ep3, e3, small12 (by rw [len_map, len_map]; omega), ?_⟩
      have np : p ≠ m := ne_of_none hpt hm
      have em : upd H3 p (.lst (ts.map V.int ++ (Fs.movesM b ys (c + 1)).map V.int)) m = some (.lst ((Fs.movesM b ys (c + 1)).map V.int)) := by rw [upd_ne np.symm]; exact e3
      have S4 : Same H (upd H3 p (.lst (ts.map V.int ++ (Fs.movesM b ys (c + 1)).map V.int))) := S3.up hp
      have hu3 : SqL K (upd H3 p (.lst (ts.map V.int ++ (Fs.movesM b ys (c + 1)).map V.int))) u (ys.map V.int) := SqL.of (by rw [upd_ne hup]; exact s3 _ _ hu)
      refine ⟨_, rfl, _, rfl, _, rfl, u, m, ys, Fs.movesM b ys (c + 1), b, rfl, hu3, SqL.of em, fun z hz => (by have := mt.1 z hz; omega), ok.bt, by omega, fun v H5 hv s5 e5 => ?_⟩
      refine ⟨v, Fs.behindM b ys (Fs.movesM b ys (c + 1)), ts ++ Fs.movesM b ys (c + 1), _, _, rfl, S4.trans s5, e5, (ne_of_none (upd_same (H := H3) (a := p) (o := .lst (ts.map V.int ++ (Fs.movesM b ys (c + 1)).map V.int))) hv).symm, ?_, ?_, ?_, ?_, hi, ?_⟩
      · rw [s5 _ _ upd_same]; simp
      · rw [hc']; exact ok.moves (by omega)
      · rw [Fs.length_behindM]; exact hyl
      · rw [List.length_append]; omega
      · rw [hc', ← ht, Fs.ruleM_succ, List.append_assoc]
    · rintro σ H2 ⟨u, ys, ts, k4, k5, rfl, s2, hu, hup, hpt, ok, hyl, htl, _, ht⟩
      rw [Nat.sub_self] at ht
      have ht : ts = Fs.ruleM b xs.length xs := by rw [← ht]; simp [Fs.ruleM]
      rw [ht] at hpt
      exact ⟨_, rfl, q p H2 hp s2 hpt⟩
end
end Fl

namespace Fl
open PySem L2
section
variable {P : Program} {w : World} {K : PySem.W.Frag} {mg : Str → Option Value} {base : Heap} {t : Adr}
theorem ok_check_height (T : Txt K mg t) : FnOk P w K mg base (CXX P w) 1 t.a_check_height t.d_check_height ["pile", "most"] (spHeightX K t.c_TooTall) := by
  refine T.F_check_height.okX sc_check_height (fun vs H Q E h => ?_) (fun cdv A outer s H vs Q E hr h => ?_)
  · obtain ⟨a, xs, m, rfl, hS, h40, m0, m1, q, qe⟩ := h
    rfl
  · obtain ⟨a, xs, m, rfl, hS, h40, m0, m1, q, qe⟩ := h
    refine ⟨_, (pss_cons (ps_set (i := 2) sc_check_height.nd rfl (Or.inl rfl) (pe_callB (len_K (K := K)) rfl T.z_len bt_len (pa_cons (pv 0) pa_nil)))
      (pss_one (ps_if (pt_cmpR op_gt (pv 2) (pv 1) (nomark _)) (pss_one (ps_raise T.e_TooTall.toExcC hr.hd rfl T.x_TooTall (pa_cons (pe_fs (pf_str (by decide +kernel) (pf_val (pv 1) (pf_str (by decide +kernel) (pf_val (pv 2) pf_nil))))) pa_nil))) pss_nil))), ?_⟩
    refine ⟨_, rfl, a, _, rfl, .inl hS, ?_⟩
    rw [len_map]
    refine ⟨_, rfl, _, rfl, _, _, rfl, rfl, _, rfl, ite2D (fun h => ?_) (fun h => q (by omega))⟩
    exact ⟨_, rfl, fmtI (by omega) (by omega), _, rfl, fmtI (by omega) (by omega), fun w => ⟨by show 1 ≤ 1000; decide, qe (by omega)⟩⟩
end
end Fl

namespace Fl
open PySem L2
section
variable {P : Program} {w : World} {K : PySem.W.Frag} {mg : Str → Option Value} {base : Heap} {t : Adr}
theorem step_plan_within (T : Txt K mg t) (M : Nat) (ih : FnOk P w K mg base CX0 (M + 3) t.a_plan_within t.d_plan_within ["pile", "most", "burnt"] (spWithin K M)) : FnOk P w K mg base CX0 ((M + 1) + 3) t.a_plan_within t.d_plan_within ["pile", "most", "burnt"] (spWithin K (M + 1)) := by
  refine T.F_plan_within.ok sc_plan_within (fun vs H Q E h => ?_) (fun cdv A outer s H vs Q E hr h => ?_)
  · obtain ⟨a, xs, m, b, rfl, hm, hm2, hS, bt, h12, q1, q2⟩ := h
    rfl
  · obtain ⟨a, xs, m, b, rfl, hm, hm2, hS, bt, h12, q1, q2⟩ := h
    refine ⟨_, (pss_cons (ps_set (i := 3) sc_plan_within.nd rfl (Or.inl rfl) (pe_call (ok_count_gaps T) (hr.mono (by omega)) rfl T.m_count_gaps T.F_count_gaps.kp (b_count_gaps T) .nil pass0 (pa_cons (pv 0) (pa_cons (pv 2) pa_nil))))
      (pss_cons (ps_if (pt_cmpR op_gt (pv 3) (pv 1) (nomark _)) (pss_one (ps_ret pe_non)) pss_nil)
      (pss_cons (ps_if (pt_cmpR op_eq (pv 3) pe_int (nomark _)) (pss_one (ps_ret (pe_lst pa_nil))) pss_nil)
      (pss_cons (ps_for PassesOwn.never rfl (pi_range2 rfl T.z_range (pa_cons pe_int (pa_cons (pe_op op_add (pe_callB (len_K (K := K)) rfl T.z_len bt_len (pa_cons (pv 0) pa_nil)) pe_int) pa_nil))) (pg_name (i := 4) sc_plan_within.nd rfl (Or.inl rfl)) (pss_cons (ps_set (i := 5) sc_plan_within.nd rfl (Or.inl rfl) (pe_call ih (hr.mono (by omega)) rfl T.m_plan_within T.F_plan_within.kp (b_plan_within T) .nil pass0 (pa_cons (pe_call (ok_turned T) (hr.mono (by omega)) rfl T.m_turned T.F_turned.kp (b_turned T) .nil pass0 (pa_cons (pv 0) (pa_cons (pv 4) (pa_cons (pv 2) pa_nil)))) (pa_cons (pe_op op_sub (pv 1) pe_int) (pa_cons (pv 2) pa_nil)))))
      (pss_one (ps_if (pt_cmp (pc_notN (pv 5))) (pss_one (ps_ret (pe_op op_cat (pe_lst (pa_cons (pv 4) pa_nil)) (pv 5)))) pss_nil))))
      (pss_one (ps_ret pe_non)))))), ?_⟩
    have h1 := burnt_pos bt
    refine ⟨_, rfl, _, rfl, a, xs, b, rfl, hS, h1, h12, fun H1 s1 => ?_⟩
    refine ⟨_, rfl, _, rfl, _, _, rfl, rfl, _, rfl, ite2D (fun h => ?_) (fun h => ?_)⟩
    · exact q1 (Fs.planW_few (by omega)) H1 s1
    refine ⟨_, rfl, rfl, _, rfl, ite2D (fun h0 => ?_) (fun h0 => ?_)⟩
    · have h0 : Fs.gapsM b xs = 0 := by have := V.int.inj h0; omega
      refine ⟨Nat.zero_le _, fun p hp => q2 [] (Fs.planW_zero h0 m) p _ (s1.free hp) (s1.up (s1.free hp)) upd_same⟩
    have h0 : Fs.gapsM b xs ≠ 0 := fun z => h0 (by rw [z]; rfl)
    obtain ⟨m', rfl⟩ : ∃ m', m = m' + 1 := ⟨m - 1, by omega⟩
    have st := Fs.planW_step (b := b) (xs := xs) (m := m') (by omega) h0
    rw [st] at q1 q2
    refine ⟨_, rfl, a, _, rfl, .inl (s1.seq hS), _, _, rfl, rfl, 1, _, rfl, ⟨by decide, by decide, by omega, by rw [len_map]; omega⟩, ?_⟩
    rw [len_map]
    have en : (((xs.length : Int) + 1) - 1).toNat = xs.length := by omega
    rw [en]
    refine for_range (lo := 1) (n := xs.length) (fun i σ H2 => ∃ (k4 k5 : Option V), σ = [some (.ref a), some (.int ((m' + 1 : Nat) : Int)), some (.bl b), some (.int (Fs.gapsM b xs : Nat)), k4, k5] ∧ Same H H2 ∧ i ≤ xs.length ∧
      Fs.tryT (Fs.planW b m') b xs (Fs.upTo 1 ((xs.length : Int) + 1)) = Fs.tryT (Fs.planW b m') b xs (Fs.upTo (1 + (i : Int)) ((xs.length : Int) + 1))) ?_ ?_ ?_
    · exact ⟨_, _, rfl, s1, Nat.zero_le _, by simp⟩
    · rintro i σ H2 hi ⟨k4, k5, rfl, s2, _, et⟩
      have tn : ((1 : Int) + (i : Nat)).toNat = i + 1 := by omega
      rw [Fs.upTo_cons (lo := 1 + (i : Int)) (by omega)] at et
      have em : ((m' + 1 : Nat) : Int) - 1 = (m' : Nat) := by omega
      refine ⟨_, rfl, _, rfl, _, rfl, a, xs, _, b, rfl, s2.seq hS, by omega, by omega, h12, fun z hz => (by have := bt.mem hz; omega), fun p H3 hp s3 e3 => ?_⟩
      refine ⟨_, rfl, _, _, rfl, rfl, _, rfl, p, _, m', b, ?_, by omega, by omega, SqL.of e3, bt.turn b _, by rw [Fs.length_turnM]; exact h12, fun hn H4 s4 => ?_, fun ts hts p4 H4 hp4 s4 e4 => ?_⟩
      · dsimp only
        rw [em]
        rfl
      · refine ⟨_, rfl, _, rfl, iteNS rfl ⟨_, _, rfl, s2.trans (s3.trans s4), hi, ?_⟩⟩
        have ei : (1 : Int) + (i : Int) + 1 = 1 + ((i + 1 : Nat) : Int) := by omega
        rw [et, Fs.tryT_skip hn, ei]
      · refine ⟨_, rfl, _, rfl, iteT ?_⟩
        have S4 := s2.trans (s3.trans s4)
        refine ⟨_, rfl, small12 (by show 1 ≤ 1000; decide), fun d hd => ⟨_, rfl, d, p4, _, _, rfl, rfl, upd_same, (by rw [upd_ne (ne_of_none e4 hd)]; exact e4), ?_, fun p5 hp5 => ?_⟩⟩
        · have := (Fs.planW_some hts).2
          rw [len_map]
          refine small12 ?_
          simp only [List.length_cons, List.length_nil]
          omega
        · have T5 : Same H (upd H4 d (.lst [.int (1 + (i : Nat))])) := S4.up (S4.free hd)
          refine q2 ((1 + (i : Int)) :: ts) ?_ p5 _ (T5.free hp5) (T5.up (T5.free hp5)) ?_
          · rw [et, Fs.tryT_take hts]
          · rw [upd_same]
            rfl
    · rintro σ H2 ⟨k4, k5, rfl, s2, _, et⟩
      refine q1 ?_ H2 s2
      rw [et, Fs.upTo_nil (by omega)]
      rfl
theorem ok_plan_within (T : Txt K mg t) : ∀ M : Nat, FnOk P w K mg base CX0 (M + 3) t.a_plan_within t.d_plan_within ["pile", "most", "burnt"] (spWithin K M)
  | 0 => ⟨fun vs H Q E h => (plan_within_none h).elim, fun A outer s H args us vs Q E _ _ _ _ h => (plan_within_none h).elim⟩
  | M + 1 => step_plan_within T M (ok_plan_within T M)
end
end Fl

namespace Fl
open PySem L2
section
variable {P : Program} {w : World} {K : PySem.W.Frag} {mg : Str → Option Value} {base : Heap} {t : Adr}
theorem ok_fewest_plan (T : Txt K mg t) : FnOk P w K mg base CX0 17 t.a_fewest_plan t.d_fewest_plan ["pile", "burnt"] spFewP := by
  refine T.F_fewest_plan.ok sc_fewest_plan (fun vs H Q E h => ?_) (fun cdv A outer s H vs Q E hr h => ?_)
  · obtain ⟨a, xs, b, rfl, hS, pl, h12, hr12, q⟩ := h
    rfl
  · obtain ⟨a, xs, b, rfl, hS, pl, h12, hr12, q⟩ := h
    refine ⟨_, (pss_cons (ps_set (i := 2) sc_fewest_plan.nd rfl (Or.inl rfl) (pe_call (ok_rule_plan T) (hr.mono (by omega)) rfl T.m_rule_plan T.F_rule_plan.kp (b_rule_plan T) .nil pass0 (pa_cons (pv 0) (pa_cons (pv 1) pa_nil))))
      (pss_cons (ps_for PassesOwn.never rfl (pi_range2 rfl T.z_range (pa_cons (pe_call (ok_count_gaps T) (hr.mono (by omega)) rfl T.m_count_gaps T.F_count_gaps.kp (b_count_gaps T) .nil pass0 (pa_cons (pv 0) (pa_cons (pv 1) pa_nil))) (pa_cons (pe_op op_add (pe_callB (len_K (K := K)) rfl T.z_len bt_len (pa_cons (pv 2) pa_nil)) pe_int) pa_nil))) (pg_name (i := 3) sc_fewest_plan.nd rfl (Or.inl rfl)) (pss_cons (ps_set (i := 4) sc_fewest_plan.nd rfl (Or.inl rfl) (pe_call (ok_plan_within T 13) (hr.mono (by omega)) rfl T.m_plan_within T.F_plan_within.kp (b_plan_within T) .nil pass0 (pa_cons (pv 0) (pa_cons (pv 3) (pa_cons (pv 1) pa_nil)))))
      (pss_one (ps_if (pt_cmp (pc_notN (pv 4))) (pss_one (ps_ret (pv 4))) pss_nil))))
      (pss_one (ps_ret (pv 2))))), ?_⟩
    have h1 := burnt_pos pl.bt
    refine ⟨_, rfl, _, rfl, a, xs, b, rfl, hS, pl.bt, pl.pl, h12, fun p H1 hp s1 e1 => ?_⟩
    refine ⟨_, rfl, _, rfl, a, xs, b, rfl, SqL.of (s1 _ _ hS), h1, h12, fun H2 s2 => ?_⟩
    have S2 := s1.trans s2
    have hg := pl.rule.gaps
    refine ⟨_, rfl, p, _, rfl, .inl (SqL.of (s2 _ _ e1)), _, _, rfl, rfl, _, _, rfl, ⟨by omega, by omega, by omega, by rw [len_map]; omega⟩, ?_⟩
    rw [len_map]
    have en : (((Fs.ruleM b xs.length xs).length : Int) + 1 - (Fs.gapsM b xs : Nat)).toNat = (Fs.ruleM b xs.length xs).length + 1 - Fs.gapsM b xs := by omega
    rw [en]
    refine for_range (lo := (Fs.gapsM b xs : Nat)) (n := (Fs.ruleM b xs.length xs).length + 1 - Fs.gapsM b xs) (fun i σ H3 => ∃ (k3 k4 : Option V), σ = [some (.ref a), some (.bl b), some (.ref p), k3, k4] ∧ Same H2 H3 ∧ i ≤ (Fs.ruleM b xs.length xs).length + 1 - Fs.gapsM b xs ∧
      Fs.fewM b xs = Fs.scanM (fun m => Fs.planW b m xs) (Fs.ruleM b xs.length xs) (Fs.gapsM b xs + i) ((Fs.ruleM b xs.length xs).length + 1 - Fs.gapsM b xs - i)) ?_ ?_ ?_
    · exact ⟨_, _, rfl, Same.refl _, Nat.zero_le _, rfl⟩
    · rintro i σ H3 hi ⟨k3, k4, rfl, s3, _, ef⟩
      obtain ⟨k, hk⟩ : ∃ k, (Fs.ruleM b xs.length xs).length + 1 - Fs.gapsM b xs - i = k + 1 := ⟨(Fs.ruleM b xs.length xs).length + 1 - Fs.gapsM b xs - i - 1, by omega⟩
      have hk' : (Fs.ruleM b xs.length xs).length + 1 - Fs.gapsM b xs - (i + 1) = k := by omega
      rw [hk] at ef
      unfold Fs.scanM at ef
      refine ⟨_, rfl, _, rfl, _, rfl, a, xs, Fs.gapsM b xs + i, b, ?_, by omega, by omega, SqL.of (s3 _ _ (S2 _ _ hS)), pl.bt, h12, fun hn H4 s4 => ?_, fun ts hts p4 H4 hp4 s4 e4 => ?_⟩
      · rfl
      · rw [hn] at ef
        refine ⟨_, rfl, _, rfl, iteNS rfl ⟨_, _, rfl, s3.trans s4, hi, ?_⟩⟩
        rw [hk', ef]
        rfl
      · rw [hts] at ef
        refine ⟨_, rfl, _, rfl, iteT ⟨_, rfl, q p4 H4 ((S2.trans s3).free hp4) (S2.trans (s3.trans s4)) ?_⟩⟩
        rw [e4, ef]
    · rintro σ H3 ⟨k3, k4, rfl, s3, _, ef⟩
      rw [Nat.sub_self] at ef
      refine ⟨_, rfl, q p H3 hp (S2.trans s3) ?_⟩
      rw [s3 _ _ (s2 _ _ e1), ef]
      rfl
end
end Fl

namespace Fl
open PySem L2
section
variable {P : Program} {w : World} {K : PySem.W.Frag} {mg : Str → Option Value} {base : Heap} {t : Adr}
theorem ok_fewest (T : Txt K mg t) : FnOk P w K mg base (CXX P w) 18 t.a_fewest t.d_fewest ["pile"] (spFew12 t) := by
  refine T.F_fewest.okX sc_fewest (fun vs H Q E h => ?_) (fun cdv A outer s H vs Q E hr h => ?_)
  · obtain ⟨a, xs, rfl, hS, px, h12, q, qe⟩ := h
    rfl
  · obtain ⟨a, xs, rfl, hS, px, h12, q, qe⟩ := h
    refine ⟨_, (pss_cons (ps_expr (pe_callS (ok_check_pile T) (hr.mono (by omega)) rfl T.m_check_pile T.F_check_pile.kp (b_check_pile T) .nil pass_leave (pa_cons (pv 0) pa_nil)))
      (pss_cons (ps_expr (pe_callS (ok_check_height T) (hr.mono (by omega)) rfl T.m_check_height T.F_check_height.kp (b_check_height T) .nil pass_leave (pa_cons (pv 0) (pa_cons (pe_globI rfl T.g_MOST_PLAIN_CAKES) pa_nil))))
      (pss_one (ps_ret (pe_callK (ok_fewest_plan T) (hr.mono (by omega)) rfl T.m_fewest_plan T.F_fewest_plan.kp (kb_fewest_plan T) pass0 (pa_cons (pv 0) pa_nil) (pk_cons pe_bl pk_nil)))))), ?_⟩
    refine ⟨_, rfl, a, xs, rfl, SqL.of hS, by omega, fun _ H1 s1 => ?_, fun np => absurd ⟨px, h12⟩ np⟩
    refine ⟨_, rfl, a, xs, _, rfl, SqL.of (s1 _ _ hS), by omega, by decide, by decide, fun l7 => ?_, fun l7 => qe (by omega) H1 s1⟩
    exact ⟨_, rfl, a, xs, false, rfl, s1 _ _ hS, px.pile, h12, rule_short_plain px.pile (by omega), fun p H2 hp s2 e => q (by omega) p H2 (s1.free hp) (s1.trans s2) e⟩
end
end Fl

namespace Fl
open PySem L2
section
variable {P : Program} {w : World} {K : PySem.W.Frag} {mg : Str → Option Value} {base : Heap} {t : Adr}
theorem ok_Stack___init__ (T : Txt K mg t) : FnOk P w K mg base (CXX P w) 2 t.a_Stack___init__ t.d_Stack___init__ ["self", "pile"] (spInit12 K t.c_Stack) := by
  refine T.F_Stack___init__.okX sc_Stack___init__ (fun vs H Q E h => ?_) (fun cdv A outer s H vs Q E hr h => ?_)
  · obtain ⟨p, dx, a, xs, rfl, hp, hS, px, h12, q⟩ := h
    rfl
  · obtain ⟨p, dx, a, xs, rfl, hp, hS, px, h12, q⟩ := h
    refine ⟨_, (pss_cons (ps_expr (pe_callS (ok_check_pile T) (hr.mono (by omega)) rfl T.m_check_pile T.F_check_pile.kp (b_check_pile T) .nil pass_leave (pa_cons (pv 1) pa_nil)))
      (pss_cons (ps_fld (pv 0) (pe_callTy call_list_of rfl T.z_list bt_list (pa_cons (pv 1) pa_nil)) rfl)
      (pss_one (ps_fld (pv 0) (pe_lst pa_nil) rfl)))), ?_⟩
    refine ⟨_, rfl, a, xs, rfl, hS, by omega, fun pl H1 s1 => ?_, fun np => absurd ⟨px, h12⟩ np⟩
    have h1 := s1 _ _ hp
    refine ⟨_, rfl, a, _, rfl, .inl (s1.seq hS), fun l hl => ?_⟩
    have npl : p ≠ l := ne_of_none h1 hl
    refine ⟨_, rfl, p, t.c_Stack, dx, _, rfl, (by rw [upd_ne npl]; exact h1), T.cl_Stack, T.n_cakes, (by show 0 < 1000; decide), ?_⟩
    refine ⟨Nat.zero_le _, fun d hd => ?_⟩
    have ndp : d ≠ p := fun e => by rw [e, upd_same] at hd; cases hd
    have hd1 : upd H1 l (.lst (xs.map V.int)) d = none := by rwa [upd_ne ndp] at hd
    have ndl : d ≠ l := fun e => by rw [e, upd_same] at hd1; cases hd1
    have hd0 : H1 d = none := by rwa [upd_ne ndl] at hd1
    refine ⟨_, rfl, p, t.c_Stack, dx, _, rfl, (by rw [upd_ne ndp.symm, upd_same]), T.cl_Stack, T.n_done, (by show 1 < 1000; decide), ?_⟩
    refine q l d _ (s1.free hl) (s1.free hd0) (fun b o e hb => ?_) ⟨upd_same, ?_, ?_, ndl, px, h12, by decide, fun x hx => (nomatch hx)⟩
    · have e1 := s1 _ _ e
      rw [upd_ne hb, upd_ne (ne_of_none e1 hd0), upd_ne hb, upd_ne (ne_of_none e1 hl)]
      exact e1
    · rw [upd_ne npl.symm, upd_ne ndl.symm, upd_ne npl.symm, upd_same]
    · rw [upd_ne ndp, upd_same]
      rfl
end
end Fl

namespace Fl
open PySem L2
section
variable {P : Program} {w : World} {K : PySem.W.Frag} {mg : Str → Option Value} {base : Heap} {t : Adr}
theorem ok_Stack_turn (T : Txt K mg t) : FnOk P w K mg base (CXX P w) 2 t.a_Stack_turn t.d_Stack_turn ["self", "turn"] (spTurn12 t) := by
  refine T.F_Stack_turn.okX sc_Stack_turn (fun vs H Q E h => ?_) (fun cdv A outer s H vs Q E hr h => ?_)
  · obtain ⟨p, dx, l, d, xs, ds, k, rfl, S, k0, k1, d99, q, qe⟩ := h
    rfl
  · obtain ⟨p, dx, l, d, xs, ds, k, rfl, S, k0, k1, d99, q, qe⟩ := h
    refine ⟨_, (pss_cons (ps_expr (pe_callS (ok_check_turns T) (hr.mono (by omega)) rfl T.m_check_turns T.F_check_turns.kp (b_check_turns T) .nil pass_leave (pa_cons (pe_fld (pv 0) rfl) (pa_cons (pe_lst (pa_cons (pv 1) pa_nil)) pa_nil))))
      (pss_cons (ps_fld (pv 0) (pe_callK (ok_turned T) (hr.mono (by omega)) rfl T.m_turned T.F_turned.kp (kb_turned T) pass0 (pa_cons (pe_fld (pv 0) rfl) (pa_cons (pv 1) pa_nil)) (pk_cons pe_bl pk_nil)) rfl)
      (pss_cons (ps_expr (pe_bm PySem.F.plainAttrs_list PySem.F.slot_list_append PySem.F.type_list_append mt_append (pe_fld (pv 0) rfl) (pa_cons (pv 1) pa_nil)))
      (pss_one (ps_ret (pe_callB (len_K (K := K)) rfl T.z_len bt_len (pa_cons (pe_fld (pv 0) rfl) pa_nil))))))), ?_⟩
    have npd : p ≠ d := ne_of S.ob S.dn (by intro z; cases z)
    refine ⟨_, rfl, p, t.c_Stack, dx, _, _, rfl, S.ob, T.cl_Stack, T.n_cakes, flds_cakes _ _, _, rfl, small12 (by show 1 ≤ 1000; decide), fun e he => ?_⟩
    have s1 := Same.new (o := .lst [.int k]) he
    have S1 := S.same s1
    refine ⟨l, e, xs, [k], rfl, SqL.of S1.ck, SqL.of upd_same, by have := S.l12; omega, fun x hx => ?_, fun ng => ?_, fun gn => ?_⟩
    · rw [List.mem_singleton.mp hx]
      exact ⟨k0, k1⟩
    · have kk : 1 ≤ k ∧ k ≤ (xs.length : Int) := Classical.not_not.mp fun z => ng ⟨k, List.mem_singleton.mpr rfl, z⟩
      refine ⟨_, rfl, p, t.c_Stack, dx, _, _, rfl, S1.ob, T.cl_Stack, T.n_cakes, flds_cakes _ _, _, rfl, l, xs, k, false, rfl, SqL.of S1.ck, by omega, kk.2, S.l12, fun x hx => ?_, fun l' H2 hl' s2 e2 => ?_⟩
      · have := S.pl.mem hx
        have := S.l12
        omega
      have S2 := S1.same s2
      have npl : p ≠ l' := ne_of (s2 _ _ S1.ob) e2 (by intro z; cases z)
      have ndl : d ≠ l' := ne_of_none S1.dn hl'
      refine ⟨_, rfl, p, t.c_Stack, dx, _, rfl, S2.ob, T.cl_Stack, T.n_cakes, flds_len _ _, ?_⟩
      rw [flds_put]
      refine ⟨_, rfl, p, t.c_Stack, dx, _, _, rfl, upd_same, T.cl_Stack, T.n_done, flds_done _ _, .inl ⟨rfl, _, SqL.of (by rw [upd_ne npd.symm]; exact S2.dn)⟩, _, rfl, d, _, _, rfl, rfl, (by rw [upd_ne npd.symm]; exact S2.dn), small1000 (by rw [len_map]; omega), ?_⟩
      refine ⟨_, rfl, p, t.c_Stack, dx, _, _, rfl, (by rw [upd_ne npd, upd_same]), T.cl_Stack, T.n_done, flds_done _ _, d, _, rfl, .inl (SqL.of upd_same), ?_⟩
      have el : ((ds.map V.int ++ [V.int k]).length : Int) = (ds.length : Int) + 1 := by simp
      rw [el]
      refine q kk.1 kk.2 l' _ (s1.free hl') (fun b o e' n1 n2 => ?_) ⟨?_, ?_, ?_, ndl, S.pl.turn _, ?_, ?_, ?_⟩
      · rw [upd_ne n2, upd_ne n1]
        exact s2 _ _ (s1 _ _ e')
      · rw [upd_ne npd, upd_same]
      · rw [upd_ne ndl.symm, upd_ne npl.symm]
        exact e2
      · rw [upd_same]
        simp
      · rw [Fs.length_turnM]
        exact S.l12
      · simp
        omega
      · intro x hx
        rw [Fs.length_turnM]
        rcases List.mem_append.mp hx with z | z
        · exact S.tn x z
        · rw [List.mem_singleton.mp z]
          exact kk
    · obtain ⟨x, hx, n⟩ := gn
      rw [List.mem_singleton.mp hx] at n
      exact qe n _ s1
end
end Fl

namespace Fl
open PySem L2
section
variable {P : Program} {w : World} {K : PySem.W.Frag} {mg : Str → Option Value} {base : Heap} {t : Adr}
theorem ok_Stack_back (T : Txt K mg t) : FnOk P w K mg base (CXX P w) 2 t.a_Stack_back t.d_Stack_back ["self"] (spBack12 t) := by
  refine T.F_Stack_back.okX sc_Stack_back (fun vs H Q E h => ?_) (fun cdv A outer s H vs Q E hr h => ?_)
  · obtain ⟨p, dx, l, d, xs, ds, rfl, S, q, qe⟩ := h
    rfl
  · obtain ⟨p, dx, l, d, xs, ds, rfl, S, q, qe⟩ := h
    refine ⟨_, (pss_cons (ps_if (pt_not (pt_truth (pe_fld (pv 0) rfl) (fun _ => rfl))) (pss_one (ps_raise T.e_NoBack.toExcC hr.hd rfl T.x_NoBack (pa_cons pe_str pa_nil))) pss_nil)
      (pss_cons (ps_set (i := 1) sc_Stack_back.nd rfl (Or.inl rfl) (pe_bm0 PySem.F.plainAttrs_list PySem.F.slot_list_pop PySem.F.type_list_pop mt_pop (pe_fld (pv 0) rfl)))
      (pss_cons (ps_fld (pv 0) (pe_callK (ok_turned T) (hr.mono (by omega)) rfl T.m_turned T.F_turned.kp (kb_turned T) pass0 (pa_cons (pe_fld (pv 0) rfl) (pa_cons (pv 1) pa_nil)) (pk_cons pe_bl pk_nil)) rfl)
      (pss_one (ps_ret (pv 1)))))), ?_⟩
    have npd : p ≠ d := ne_of S.ob S.dn (by intro z; cases z)
    rcases List.eq_nil_or_concat ds with rfl | ⟨es, k, hes⟩
    · exact ⟨_, rfl, p, t.c_Stack, dx, _, _, rfl, S.ob, T.cl_Stack, T.n_done, flds_done _ _, false, .inl ⟨_, SqL.of S.dn, rfl⟩, by show 1 ≤ 1000; decide, qe rfl H (Same.refl _)⟩
    · rw [List.concat_eq_append] at hes
      subst hes
      refine ⟨_, rfl, p, t.c_Stack, dx, _, _, rfl, S.ob, T.cl_Stack, T.n_done, flds_done _ _, true, .inl ⟨_, SqL.of S.dn, by simp⟩, ?_⟩
      have kk := S.tn k (by simp)
      refine ⟨_, rfl, p, t.c_Stack, dx, _, _, rfl, S.ob, T.cl_Stack, T.n_done, flds_done _ _, .inl ⟨rfl, _, SqL.of S.dn⟩, d, _, .int k, rfl, rfl, S.dn, (by simp), ?_⟩
      have ee : ((es ++ [k]).map V.int).dropLast = es.map V.int := by simp
      rw [ee]
      have h1 : upd H d (.lst (es.map V.int)) p = some (.ins t.c_Stack dx (flds l d)) := by rw [upd_ne npd]; exact S.ob
      have h2 : upd H d (.lst (es.map V.int)) l = some (.lst (xs.map V.int)) := by rw [upd_ne S.ne.symm]; exact S.ck
      refine ⟨_, rfl, p, t.c_Stack, dx, _, _, rfl, h1, T.cl_Stack, T.n_cakes, flds_cakes _ _, _, rfl, l, xs, k, false, rfl, SqL.of h2, by omega, kk.2, S.l12, fun x hx => ?_, fun l' H2 hl' s2 e2 => ?_⟩
      · have := S.pl.mem hx
        have := S.l12
        omega
      have npl : p ≠ l' := ne_of (s2 _ _ h1) e2 (by intro z; cases z)
      have ndl : d ≠ l' := ne_of_none upd_same hl'
      have hl0 : H l' = none := by rwa [upd_ne ndl.symm] at hl'
      refine ⟨_, rfl, p, t.c_Stack, dx, _, rfl, s2 _ _ h1, T.cl_Stack, T.n_cakes, flds_len _ _, ?_⟩
      rw [flds_put]
      refine ⟨_, rfl, q k es rfl l' _ hl0 (fun b o e' n1 n2 => ?_) ⟨upd_same, ?_, ?_, ndl, S.pl.turn _, ?_, ?_, ?_⟩⟩
      · rw [upd_ne n1]
        exact s2 _ _ (by rw [upd_ne n2]; exact e')
      · rw [upd_ne npl.symm]
        exact e2
      · rw [upd_ne npd.symm]
        exact s2 _ _ upd_same
      · rw [Fs.length_turnM]
        exact S.l12
      · have := S.dl
        simp at this
        omega
      · intro x hx
        rw [Fs.length_turnM]
        exact S.tn x (List.mem_append_left _ hx)
end
end Fl

namespace Fl
open PySem L2
section
variable {P : Program} {w : World} {K : PySem.W.Frag} {mg : Str → Option Value} {base : Heap} {t : Adr}
theorem ok_Stack_pile (T : Txt K mg t) : FnOk P w K mg base CX0 1 t.a_Stack_pile t.d_Stack_pile ["self"] (spPile12 t) := by
  refine T.F_Stack_pile.ok sc_Stack_pile (fun vs H Q E h => ?_) (fun cdv A outer s H vs Q E hr h => ?_)
  · obtain ⟨p, dx, l, d, xs, ds, rfl, S, q⟩ := h
    rfl
  · obtain ⟨p, dx, l, d, xs, ds, rfl, S, q⟩ := h
    refine ⟨_, (pss_one (ps_ret (pe_callTy call_list_of rfl T.z_list bt_list (pa_cons (pe_fld (pv 0) rfl) pa_nil)))), ?_⟩
    exact ⟨_, rfl, p, t.c_Stack, dx, _, _, rfl, S.ob, T.cl_Stack, T.n_cakes, flds_cakes _ _, l, _, rfl, .inl (SqL.of S.ck), fun r hr0 => q r _ hr0 (Same.new hr0) upd_same⟩
end
end Fl

namespace Fl
open PySem L2
section
variable {P : Program} {w : World} {K : PySem.W.Frag} {mg : Str → Option Value} {base : Heap} {t : Adr}
theorem ok_Stack_turns (T : Txt K mg t) : FnOk P w K mg base CX0 1 t.a_Stack_turns t.d_Stack_turns ["self"] (spTurns12 t) := by
  refine T.F_Stack_turns.ok sc_Stack_turns (fun vs H Q E h => ?_) (fun cdv A outer s H vs Q E hr h => ?_)
  · obtain ⟨p, dx, l, d, xs, ds, rfl, S, q⟩ := h
    rfl
  · obtain ⟨p, dx, l, d, xs, ds, rfl, S, q⟩ := h
    refine ⟨_, (pss_one (ps_ret (pe_callTy call_list_of rfl T.z_list bt_list (pa_cons (pe_fld (pv 0) rfl) pa_nil)))), ?_⟩
    exact ⟨_, rfl, p, t.c_Stack, dx, _, _, rfl, S.ob, T.cl_Stack, T.n_done, flds_done _ _, d, _, rfl, .inl (SqL.of S.dn), fun r hr0 => q r _ hr0 (Same.new hr0) upd_same⟩
end
end Fl

namespace Fl
open PySem L2
section
variable {P : Program} {w : World} {K : PySem.W.Frag} {mg : Str → Option Value} {base : Heap} {t : Adr}
theorem ok_Stack_fewest (T : Txt K mg t) : FnOk P w K mg base (CXX P w) 19 t.a_Stack_fewest t.d_Stack_fewest ["self"] (spSFew12 t) := by
  refine T.F_Stack_fewest.okX sc_Stack_fewest (fun vs H Q E h => ?_) (fun cdv A outer s H vs Q E hr h => ?_)
  · obtain ⟨p, dx, l, d, xs, ds, rfl, S, q, qe⟩ := h
    rfl
  · obtain ⟨p, dx, l, d, xs, ds, rfl, S, q, qe⟩ := h
    refine ⟨_, (pss_one (ps_ret (pe_callS (ok_fewest T) (hr.mono (by omega)) rfl T.m_fewest_fewest T.F_fewest.kp (b_fewest T) .nil pass_leave (pa_cons (pe_fld (pv 0) rfl) pa_nil)))), ?_⟩
    exact ⟨_, rfl, p, t.c_Stack, dx, _, _, rfl, S.ob, T.cl_Stack, T.n_cakes, flds_cakes _ _, l, xs, rfl, S.ck, S.pl, S.l12, q, qe⟩
end
end Fl

namespace Fl
open PySem L2
section
variable {P : Program} {w : World} {K : PySem.W.Frag} {mg : Str → Option Value} {base : Heap} {t : Adr}
theorem ok_law_cell_at (T : Txt K mg t) : FnOk P w K mg base CX0 1 t.a_law_cell_at t.d_law_cell_at ["script", "k"] (spCell K) := by
  refine T.F_law_cell_at.ok sc_law_cell_at (fun vs H Q E h => ?_) (fun cdv A outer s H vs Q E hr h => ?_)
  · obtain ⟨a, ns, k, rfl, hS, h0, q⟩ := h
    rfl
  · obtain ⟨a, ns, k, rfl, hS, h0, q⟩ := h
    refine ⟨_, (pss_cons (ps_if (pt_cmpR op_lt (pv 1) (pe_callB (len_K (K := K)) rfl T.z_len bt_len (pa_cons (pv 0) pa_nil)) (nomark _)) (pss_one (ps_ret (pe_ix (ix_K (K := K)) (pv 0) (pv 1) (fun _ _ => rfl)))) pss_nil)
      (pss_one (ps_ret pe_int))), ?_⟩
    refine ⟨_, rfl, _, rfl, a, _, rfl, .inl hS, _, _, rfl, rfl, _, rfl, ?_⟩
    refine ite2D (fun h => ?_) (fun _ => q 0)
    rw [len_map] at h
    exact ⟨_, rfl, _, rfl, a, _, _, _, rfl, rfl, hS, atI_int h0 (get_ints (by omega)), q _⟩
end
end Fl

namespace Fl
open PySem L2
section
variable {P : Program} {w : World} {K : PySem.W.Frag} {mg : Str → Option Value} {base : Heap} {t : Adr}
theorem ok_law_whole (T : Txt K mg t) : FnOk P w K mg base CX0 1 t.a_law_whole t.d_law_whole ["found"] spWhole := by
  refine T.F_law_whole.ok sc_law_whole (fun vs H Q E h => ?_) (fun cdv A outer s H vs Q E hr h => ?_)
  · obtain ⟨i, rfl, q⟩ := h
    rfl
  · obtain ⟨i, rfl, q⟩ := h
    refine ⟨_, (pss_one (ps_ret (pe_and (pe_callB call_isinst rfl T.z_isinstance bt_isinstance (pa_cons (pv 0) (pa_cons (pe_bltn (v := .ty "int") rfl T.z_int bt_int rfl) pa_nil))) (pe_one (pe_not (pe_callB call_isinst rfl T.z_isinstance bt_isinstance (pa_cons (pv 0) (pa_cons (pe_bltn (v := .ty "bool") rfl T.z_bool bt_bool rfl) pa_nil)))))))), ?_⟩
    exact ⟨_, rfl, _, _, _, _, rfl, .int i, kit_same K "int", _, rfl, iteT ⟨_, rfl, _, _, _, _, rfl, .int i, kit_int_bool K, _, rfl, q⟩⟩
end
end Fl

namespace Fl
open PySem L2
section
variable {P : Program} {w : World} {K : PySem.W.Frag} {mg : Str → Option Value} {base : Heap} {t : Adr}
theorem ok_law_pile (T : Txt K mg t) : FnOk P w K mg base CX0 2 t.a_law_pile t.d_law_pile ["script", "at", "most"] (spPile K) := by
  refine T.F_law_pile.ok sc_law_pile (fun vs H Q E h => ?_) (fun cdv A outer s H vs Q E hr h => ?_)
  · obtain ⟨a, ns, i0, m, rfl, hS, h0, hm, hm2, q⟩ := h
    rfl
  · obtain ⟨a, ns, i0, m, rfl, hS, h0, hm, hm2, q⟩ := h
    refine ⟨_, (pss_cons (ps_set (i := 3) sc_law_pile.nd rfl (Or.inl rfl) (pe_op op_add pe_int (pe_op op_mod (pe_call (ok_law_cell_at T) (hr.mono (by omega)) rfl T.m_law_cell_at T.F_law_cell_at.kp (b_law_cell_at T) .nil pass0 (pa_cons (pv 0) (pa_cons (pv 1) pa_nil))) (pv 2))))
      (pss_cons (ps_set (i := 4) sc_law_pile.nd rfl (Or.inl rfl) (pe_callTy (call_list_rng rfl) rfl T.z_list bt_list (pa_cons (pe_callTy call_rng2 rfl T.z_range bt_range (pa_cons pe_int (pa_cons (pe_op op_add (pv 3) pe_int) pa_nil))) pa_nil)))
      (pss_cons (ps_set (i := 5) sc_law_pile.nd rfl (Or.inl rfl) (pe_lst pa_nil))
      (pss_cons (ps_for PassesOwn.never rfl (pi_range1 rfl T.z_range (pa_cons (pv 3) pa_nil)) (pg_name (i := 6) sc_law_pile.nd rfl (Or.inl rfl)) (pss_one (ps_expr (pe_bm PySem.F.plainAttrs_list PySem.F.slot_list_append PySem.F.type_list_append mt_append (pv 5) (pa_cons (pe_bm PySem.F.plainAttrs_list PySem.F.slot_list_pop PySem.F.type_list_pop mt_popAt (pv 4) (pa_cons (pe_op op_mod (pe_call (ok_law_cell_at T) (hr.mono (by omega)) rfl T.m_law_cell_at T.F_law_cell_at.kp (b_law_cell_at T) .nil pass0 (pa_cons (pv 0) (pa_cons (pe_op op_add (pe_op op_add (pv 1) pe_int) (pv 6)) pa_nil))) (pe_callB (len_K (K := K)) rfl T.z_len bt_len (pa_cons (pv 4) pa_nil))) pa_nil)) pa_nil)))))
      (pss_one (ps_ret (pv 5))))))), ?_⟩
    refine ⟨_, rfl, _, rfl, a, ns, i0, rfl, hS, h0, fun v => ⟨_, rfl, _, _, rfl, rfl, hm, _, _, rfl, rfl, ?_⟩⟩
    have b1 := Int.emod_nonneg v (Int.ne_of_gt hm)
    have b2 := Int.emod_lt_of_pos v hm
    dsimp only
    generalize hz : (1 : Int) + v % m = z
    have z1 : 1 ≤ z := by omega
    have z2 : z ≤ m := by omega
    -- left = list(range(1, size + 1)); pile = []
    refine ⟨_, rfl, _, _, rfl, rfl, _, _, rfl, fun r hr0 => ⟨r, _, _, rfl, upd_same, by decide, by omega, by decide, by omega, fun l hl => ⟨Nat.zero_le _, fun p hp => ?_⟩⟩⟩
    have nlr : l ≠ r := fun e => by rw [e, upd_same] at hl; cases hl
    have hl0 : H l = none := by rwa [upd_ne nlr] at hl
    have npl : p ≠ l := fun e => by rw [e, upd_same] at hp; cases hp
    have hp1 : upd H r (.rng 1 (z + 1)) p = none := by rwa [upd_ne npl] at hp
    have npr : p ≠ r := fun e => by rw [e, upd_same] at hp1; cases hp1
    have hp0 : H p = none := by rwa [upd_ne npr] at hp1
    refine ⟨_, rfl, _, rfl, by omega, by omega, for_range (n := z.toNat) (fun i σ H2 => ∃ (xs ls : List Int) (kv : Option V), σ = [some (.ref a), some (.int i0), some (.int m), some (.int z), some (.ref l), some (.ref p), kv] ∧ Same H H2 ∧
      H2 l = some (.lst (ls.map V.int)) ∧ H2 p = some (.lst (xs.map V.int)) ∧ xs.length = i ∧ ls.length + i = z.toNat ∧ (xs ++ ls).Perm (Fs.upTo 1 (z + 1))) ?_ ?_ ?_⟩
    · refine ⟨[], Fs.upTo 1 (z + 1), none, rfl, (((Same.new hr0).up hl0).up hp0), ?_, upd_same, rfl, ?_, List.Perm.refl _⟩
      · rw [upd_ne npl.symm]; exact upd_same
      · rw [Fs.length_upTo]; omega
    · rintro i σ H2 hi ⟨xs, ls, kv, rfl, s2, hl2, hp2, e1, e2, pm⟩
      have hlen : 0 < ls.length := by omega
      refine ⟨_, rfl, .inl ⟨rfl, _, SqL.of hp2⟩, _, rfl, .inl ⟨rfl, _, SqL.of hl2⟩, _, rfl, _, rfl, _, _, rfl, rfl, _, rfl, _, _, rfl, rfl, a, ns, _, rfl, s2.seq hS, by omega, fun u => ⟨_, rfl, l, _, rfl, .inl (SqL.of hl2), _, _, rfl, rfl, ?_, ?_⟩⟩
      · rw [len_map]; omega
      rw [len_map]
      dsimp only
      have c1 := Int.emod_nonneg u (show (ls.length : Int) ≠ 0 by omega)
      have c2 := Int.emod_lt_of_pos u (show (0 : Int) < ls.length by omega)
      generalize hj : u % (ls.length : Int) = j at c1 c2 ⊢
      have hjl : j.toNat < ls.length := by omega
      refine ⟨l, _, _, j.toNat, _, rfl, rfl, hl2, by omega, by omega, by rw [len_map]; exact seq_at c1 c2, get_ints hjl, p, _, _, rfl, rfl, (by rw [upd_ne npl]; exact hp2), small1000 (by rw [len_map]; omega), ?_⟩
      refine ⟨xs ++ [ls.getD j.toNat 0], ls.eraseIdx j.toNat, _, rfl, ((s2.up hl0).up hp0), ?_, ?_, ?_, ?_, ?_⟩
      · rw [upd_ne npl.symm, upd_same, erase_map]
      · rw [upd_same]; simp
      · simp [e1]
      · rw [List.length_eraseIdx_of_lt hjl]; omega
      · refine List.Perm.trans ?_ pm
        rw [List.append_assoc]
        refine List.Perm.append_left _ ?_
        exact Fs.erase_perm ls j.toNat hjl
    · rintro σ H2 ⟨xs, ls, kv, rfl, s2, hl2, hp2, e1, e2, pm⟩
      have hls : ls = [] := List.eq_nil_of_length_eq_zero (by omega)
      subst hls
      rw [List.append_nil] at pm
      have hx : (xs.length : Int) = z := by omega
      exact ⟨_, rfl, q p H2 xs hp0 s2 hp2 ⟨by omega, by rw [hx]; exact pm⟩ (by omega)⟩
end
end Fl

namespace Fl
open PySem L2
section
variable {P : Program} {w : World} {K : PySem.W.Frag} {mg : Str → Option Value} {base : Heap} {t : Adr}
theorem ok_law_turned (T : Txt K mg t) : FnOk P w K mg base CX0 1 t.a_law_turned t.d_law_turned ["pile", "turn", "burnt"] (spTurn K) := by
  refine T.F_law_turned.ok sc_law_turned (fun vs H Q E h => ?_) (fun cdv A outer s H vs Q E hr h => ?_)
  · obtain ⟨a, xs, k, b, rfl, hS, k0, kn, h12, hx, q⟩ := h
    rfl
  · obtain ⟨a, xs, k, b, rfl, hS, k0, kn, h12, hx, q⟩ := h
    refine ⟨_, (pss_cons (ps_set (i := 3) sc_law_turned.nd rfl (Or.inr rfl) (pe_ix (ix_K (K := K)) (pe_lst (pa_cons pe_int (pa_cons (pe_un un_neg pe_int) pa_nil))) (pe_callTy call_int1 rfl T.z_int bt_int (pa_cons (pv 2) pa_nil)) (fun _ _ => rfl)))
      (pss_one (ps_ret (pe_op op_cat (pe_comp rfl (pi_range1 rfl T.z_range (pa_cons (pv 1) pa_nil)) (show CapOk _ _ ["k", "sign", "pile", "turn"] [none, some 3, some 0, some 1] from (cap_own (cap_free (i := 3) (cap_free (i := 0) (cap_free (i := 1) (cap_nil)))))) keep_name (fun _ _ _ _ => (pg_name (i := 0) (show (["k", "sign", "pile", "turn"] : List Str).Nodup by decide +kernel) rfl (Or.inl rfl))) (fun _ _ _ _ => pif_nil) (fun _ _ _ _ => (pe_op op_mul (pv 1) (pe_ix (ix_K (K := K)) (pv 2) (pe_op op_sub (pe_op op_sub (pv 3) pe_int) (pv 0)) (fun _ _ => rfl))))) (pe_slice (sl_K (K := K)) (pv 0) (po_some (pv 1)) po_none))))), ?_⟩
    refine ⟨_, rfl, small12 (by show 2 ≤ 1000; decide), fun d hd => ⟨_, rfl, .inr ⟨b, rfl, d, _, _, .int (if b then -1 else 1), rfl, rfl, SqL.of upd_same, ?_, ?_⟩⟩⟩
    · cases b <;> rfl
    have s1 : Same H (upd H d (.lst [V.int 1, V.int (-1)])) := Same.new hd
    refine ⟨_, rfl, k, rfl, by omega, by omega, comp_rangeR (n := k.toNat) (fun i y => y = .int (Fs.sgn b (xs.getD (k.toNat - 1 - i) 0))) (by omega) (fun i H2 R hi s2 r => ?_) (fun p H2 ys hp s2 hys hl hall => ?_)⟩
    · have hj : (k - 1 - (0 + (i : Int))).toNat = k.toNat - 1 - i := by omega
      have hjl : k.toNat - 1 - i < xs.length := by omega
      have hb := hx (xs.getD (k.toNat - 1 - i) 0) (by rw [List.getD_eq_getElem?_getD, List.getElem?_eq_getElem hjl]; exact List.getElem_mem _)
      refine ⟨_, rfl, _, rfl, _, rfl, _, _, rfl, rfl, _, rfl, _, _, rfl, rfl, a, _, _, .int (xs.getD (k.toNat - 1 - i) 0), rfl, rfl, (s1.trans s2).seq hS, atI_int (by omega) (by rw [hj]; exact get_ints hjl), _, _, rfl, rfl, ?_, ?_⟩
      · cases b <;> exact .inl ⟨by decide, by decide⟩
      · refine r _ H2 ?_ (Same.refl _)
        cases b
        · simp [Fs.sgn]
        · simp [Fs.sgn]
    · have s3 := s1.trans s2
      refine ⟨_, rfl, _, rfl, _, rfl, a, _, rfl, s3.seq hS, fun p2 hp2 => ⟨p, p2, _, _, rfl, rfl, (by rw [upd_ne (ne_of_none hys hp2)]; exact hys), upd_same, ?_, fun p3 hp3 => ?_⟩⟩
      · rw [cut_hi _ k0, hl]
        refine small12 ?_
        simp
        omega
      have n32 : p3 ≠ p2 := fun e => by rw [e, upd_same] at hp3; cases hp3
      have hp3' : H2 p3 = none := by rwa [upd_ne n32] at hp3
      refine q p3 _ (s3.free hp3') ((s3.up (s3.free hp2)).up (s3.free hp3')) ?_
      rw [upd_same, cut_hi _ k0]
      have e : ys = (((xs.take k.toNat).reverse.map (Fs.sgn b)).map V.int) := by
        refine List.ext_getElem? fun i => ?_
        by_cases hi : i < k.toNat
        · have hy : ys[i]? = some ys[i] := List.getElem?_eq_getElem (by omega)
          have hjl : k.toNat - 1 - i < xs.length := by omega
          rw [hy, hall i _ hy, List.getElem?_map, List.getElem?_map, List.getElem?_reverse (by simp; omega), List.length_take, Nat.min_eq_left (by omega), List.getElem?_take_of_lt (by omega), List.getElem?_eq_getElem hjl,
            List.getD_eq_getElem?_getD, List.getElem?_eq_getElem hjl]
          rfl
        · rw [List.getElem?_eq_none (by omega), List.getElem?_eq_none (by simp; omega)]
      rw [e]
      simp [Fs.turnM]
end
end Fl

namespace Fl
open PySem L2
section
variable {P : Program} {w : World} {K : PySem.W.Frag} {mg : Str → Option Value} {base : Heap} {t : Adr}
theorem ok_law_which (T : Txt K mg t) : FnOkH P w K mg base 1 t.a_law_which t.d_law_which ["e"] (spWhich t) := by
  refine T.F_law_which.okH sc_law_which (fun vs H Q E h => ?_) (fun cdv A outer s H vs Q E hr h => ?_)
  · obtain ⟨e, i, rfl, hi, he, q⟩ := h
    rfl
  · obtain ⟨e, i, rfl, hi, he, q⟩ := h
    refine ⟨_, (pss_cons (ps_set (i := 1) sc_law_which.nd rfl (Or.inl rfl) (pe_lst (pa_cons (pe_callB call_isexc rfl T.z_isinstance bt_isinstance (pa_cons (pv 0) (pa_cons (pe_glob (v := .ref t.c_NoPile) rfl T.x_NoPile rfl) pa_nil))) (pa_cons (pe_callB call_isexc rfl T.z_isinstance bt_isinstance (pa_cons (pv 0) (pa_cons (pe_glob (v := .ref t.c_NoTurn) rfl T.x_NoTurn rfl) pa_nil))) (pa_cons (pe_callB call_isexc rfl T.z_isinstance bt_isinstance (pa_cons (pv 0) (pa_cons (pe_glob (v := .ref t.c_TooTall) rfl T.x_TooTall rfl) pa_nil))) (pa_cons (pe_callB call_isexc rfl T.z_isinstance bt_isinstance (pa_cons (pv 0) (pa_cons (pe_glob (v := .ref t.c_NoBack) rfl T.x_NoBack rfl) pa_nil))) pa_nil))))))
      (pss_one (ps_ret (pe_op op_cat (pv 1) (pe_lst (pa_cons (pe_callB call_isexc rfl T.z_isinstance bt_isinstance (pa_cons (pv 0) (pa_cons (pe_glob (v := .ref t.c_BadLine) rfl T.x_BadLine rfl) pa_nil))) (pa_cons (pe_callB call_isexc rfl T.z_isinstance bt_isinstance (pa_cons (pv 0) (pa_cons (pe_bltn (v := .ty "ValueError") rfl T.z_ValueError bt_ValueError rfl) pa_nil))) pa_nil))))))), ?_⟩
    obtain ⟨b0, b1, b2, b3, b4, C, he, F, k0, k1, k2, k3, k4, k5, eb⟩ : ∃ (b0 b1 b2 b3 b4 : Bool) (C : Addr), H e = some (.ext (IsExc e (.ref C))) ∧ ExcF K C ∧ PySem.W.kitOne K (.ref C) (.ref t.c_NoPile) = some b0 ∧ PySem.W.kitOne K (.ref C) (.ref t.c_NoTurn) = some b1 ∧ PySem.W.kitOne K (.ref C) (.ref t.c_TooTall) = some b2 ∧
        PySem.W.kitOne K (.ref C) (.ref t.c_NoBack) = some b3 ∧ PySem.W.kitOne K (.ref C) (.ref t.c_BadLine) = some b4 ∧ PySem.W.kitOne K (.ref C) (.type "ValueError") = some true ∧ [b0, b1, b2, b3, b4, true] = toldB i := by
      match i, hi with
      | 0, _ => exact ⟨_, _, _, _, _, _, he, T.e_NoPile, T.i_NoPile_NoPile, T.i_NoPile_NoTurn, T.i_NoPile_TooTall, T.i_NoPile_NoBack, T.i_NoPile_BadLine, T.i_NoPile_ValueError, rfl⟩
      | 1, _ => exact ⟨_, _, _, _, _, _, he, T.e_NoTurn, T.i_NoTurn_NoPile, T.i_NoTurn_NoTurn, T.i_NoTurn_TooTall, T.i_NoTurn_NoBack, T.i_NoTurn_BadLine, T.i_NoTurn_ValueError, rfl⟩
      | 2, _ => exact ⟨_, _, _, _, _, _, he, T.e_TooTall, T.i_TooTall_NoPile, T.i_TooTall_NoTurn, T.i_TooTall_TooTall, T.i_TooTall_NoBack, T.i_TooTall_BadLine, T.i_TooTall_ValueError, rfl⟩
      | 3, _ => exact ⟨_, _, _, _, _, _, he, T.e_NoBack, T.i_NoBack_NoPile, T.i_NoBack_NoTurn, T.i_NoBack_TooTall, T.i_NoBack_NoBack, T.i_NoBack_BadLine, T.i_NoBack_ValueError, rfl⟩
      | 4, _ => exact ⟨_, _, _, _, _, _, he, T.e_BadLine, T.i_BadLine_NoPile, T.i_BadLine_NoTurn, T.i_BadLine_TooTall, T.i_BadLine_NoBack, T.i_BadLine_BadLine, T.i_BadLine_ValueError, rfl⟩
    refine ⟨_, rfl, e, C, _, b0, rfl, he, F, .inl ⟨_, rfl, k0⟩, _, rfl, e, C, _, b1, rfl, he, F, .inl ⟨_, rfl, k1⟩, _, rfl, e, C, _, b2, rfl, he, F, .inl ⟨_, rfl, k2⟩, _, rfl, e, C, _, b3, rfl, he, F, .inl ⟨_, rfl, k3⟩, small12 (by show 4 ≤ 1000; decide), fun p1 hp1 => ?_⟩
    have he1 : upd H p1 (.lst [.bl b0, .bl b1, .bl b2, .bl b3]) e = some (.ext (IsExc e (.ref C))) := by rw [upd_ne (ne_of_none he hp1)]; exact he
    refine ⟨_, rfl, _, rfl, e, C, _, b4, rfl, he1, F, .inl ⟨_, rfl, k4⟩, _, rfl, e, C, _, true, rfl, he1, F, .inr ⟨_, rfl, k5⟩, small12 (by show 2 ≤ 1000; decide), fun p2 hp2 => ?_⟩
    have n12 : p1 ≠ p2 := ne_of_none upd_same hp2
    refine ⟨p1, p2, _, _, rfl, rfl, (by rw [upd_ne n12, upd_same]), upd_same, small12 (by show 6 ≤ 1000; decide), fun p3 hp3 => ?_⟩
    have t1 : Same H (upd H p1 (.lst [.bl b0, .bl b1, .bl b2, .bl b3])) := Same.new hp1
    have t2 := t1.up (t1.free hp2) (o := .lst [.bl b4, .bl true])
    refine q p3 _ (t2.free hp3) (t2.up (t2.free hp3)) ?_
    rw [upd_same, ← eb]
    rfl
end
end Fl

namespace Fl
open PySem L2
section
variable {P : Program} {w : World} {K : PySem.W.Frag} {mg : Str → Option Value} {base : Heap} {t : Adr}
theorem ok_law_refused (T : Txt K mg t) : FnOk P w K mg base CX0 20 t.a_law_refused t.d_law_refused ["stack", "way", "turn"] (spRefused12 t) := by
  refine T.F_law_refused.ok sc_law_refused (fun vs H Q E h => ?_) (fun cdv A outer s H vs Q E hr h => ?_)
  · obtain ⟨p, dx, l, d, xs, ds, w, k, i, rfl, S, k0, k1, d99, cd, q⟩ := h
    rfl
  · obtain ⟨p, dx, l, d, xs, ds, w, k, i, rfl, S, k0, k1, d99, cd, q⟩ := h
    refine ⟨_, (pss_cons (ps_set (i := 3) sc_law_refused.nd rfl (Or.inl rfl) (pe_lst pa_nil))
      (pss_cons (ps_try_as (i := 4) rfl rfl rfl (fun pn xe R hp => (pss_one (ps_if (pt_cmpR op_eq (pv 1) pe_int (nomark _)) (pss_one (ps_expr (pe_methS (pv 0) T.cl_Stack T.M_Stack_turn (ok_Stack_turn T) (hr.mono (by omega)) (b_Stack_turn T) .nil hp (pa_cons (pv 2) pa_nil)))) (pss_one (ps_if (pt_cmpR op_eq (pv 1) pe_int (nomark _)) (pss_one (ps_expr (pe_methS0 (pv 0) T.cl_Stack T.M_Stack_back (ok_Stack_back T) (hr.mono (by omega)) (b_Stack_back T) .nil hp))) (pss_one (ps_expr (pe_methS0 (pv 0) T.cl_Stack T.M_Stack_fewest (ok_Stack_fewest T) (hr.mono (by omega)) (b_Stack_fewest T) .nil hp)))))))) rfl T.x_FlipError T.e_FlipError.toExcC sc_law_refused.nd rfl rfl (fun pn ea => (pss_one (ps_set (i := 3) sc_law_refused.nd rfl (Or.inl rfl) (pe_callH (ok_law_which T) ((hr.mono (by omega)).toH _) rfl T.m_law_which T.F_law_which.kp (b_law_which T) (pa_cons (pv 4) pa_nil))))))
      (pss_one (ps_ret (pv 3))))), ?_⟩
    refine ⟨Nat.zero_le _, fun p0 hp0 => ?_⟩
    have s0 := Same.new (o := .lst []) hp0
    have S0 := S.same s0
    have i5 : i < 5 := by omega
    obtain ⟨hF, hu⟩ := caught T i i5
    have wi : ∀ {k : Int}, V.int w = V.int k → w = k := fun e => by injection e
    refine ⟨_, rfl, rfl, _, rfl, ite2D (fun e => ?_) (fun e0 => ?_)⟩
    · have e := wi e
      have z : i = 1 ∧ ¬ (1 ≤ k ∧ k ≤ (xs.length : Int)) := by
        rcases cd with ⟨_, z⟩ | ⟨z, _⟩ | ⟨z, _⟩
        · exact z
        · omega
        · omega
      obtain ⟨rfl, z⟩ := z
      refine ⟨_, rfl, p, dx, _, rfl, S0.ob, flds_no _ _ (by decide +kernel) (by decide +kernel), _, rfl, p, dx, l, d, xs, ds, k, rfl, S0, k0, k1, d99, fun z1 z2 => absurd ⟨z1, z2⟩ z, fun _ H' s => ?_⟩
      refine ⟨_, rfl, hF.toExcC, hu, fun ea hea => ⟨_, rfl, ea, _, rfl, i5, upd_same, fun r H2 hr s2 e2 => ⟨_, rfl, q r H2 ?_ ?_ e2⟩⟩⟩
      · exact (s0.trans s).free (by rwa [upd_ne (fun z => by rw [z, upd_same] at hr; cases hr)] at hr)
      · exact ((s0.trans s).up ((s0.trans s).free hea)).trans s2
    refine ⟨_, rfl, rfl, _, rfl, ite2D (fun e => ?_) (fun e1 => ?_)⟩
    · have e := wi e
      have z : i = 3 ∧ ds = [] := by
        rcases cd with ⟨z, _⟩ | ⟨_, z⟩ | ⟨z, _⟩
        · omega
        · exact z
        · omega
      obtain ⟨rfl, rfl⟩ := z
      refine ⟨_, rfl, p, dx, _, rfl, S0.ob, flds_no _ _ (by decide +kernel) (by decide +kernel), p, dx, l, d, xs, [], rfl, S0, fun k es z => absurd z (by simp), fun _ H' s => ?_⟩
      refine ⟨_, rfl, hF.toExcC, hu, fun ea hea => ⟨_, rfl, ea, _, rfl, i5, upd_same, fun r H2 hr s2 e2 => ⟨_, rfl, q r H2 ?_ ?_ e2⟩⟩⟩
      · exact (s0.trans s).free (by rwa [upd_ne (fun z => by rw [z, upd_same] at hr; cases hr)] at hr)
      · exact ((s0.trans s).up ((s0.trans s).free hea)).trans s2
    · have z : i = 2 ∧ 7 < xs.length := by
        rcases cd with ⟨z, _⟩ | ⟨z, _⟩ | ⟨_, z⟩
        · exact absurd (by rw [z]) e0
        · exact absurd (by rw [z]) e1
        · exact z
      obtain ⟨rfl, z⟩ := z
      refine ⟨_, rfl, p, dx, _, rfl, S0.ob, flds_no _ _ (by decide +kernel) (by decide +kernel), p, dx, l, d, xs, ds, rfl, S0, fun z' => absurd z' (by omega), fun _ H' s => ?_⟩
      refine ⟨_, rfl, hF.toExcC, hu, fun ea hea => ⟨_, rfl, ea, _, rfl, i5, upd_same, fun r H2 hr s2 e2 => ⟨_, rfl, q r H2 ?_ ?_ e2⟩⟩⟩
      · exact (s0.trans s).free (by rwa [upd_ne (fun z => by rw [z, upd_same] at hr; cases hr)] at hr)
      · exact ((s0.trans s).up ((s0.trans s).free hea)).trans s2
end
end Fl

namespace Fl
open PySem L2
section
variable {P : Program} {w : World} {K : PySem.W.Frag} {mg : Str → Option Value} {base : Heap} {t : Adr}
theorem ok_law_deed (T : Txt K mg t) : FnOk P w K mg base CX0 21 t.a_law_deed t.d_law_deed ["stack", "kept", "done", "cell"] (spDeed t) := by
  refine T.F_law_deed.ok sc_law_deed (fun vs H Q E h => ?_) (fun cdv A outer s H vs Q E hr h => ?_)
  · obtain ⟨p, dx, l, d, k, kp, dn, xs, ds, c, rfl, D, d60, q⟩ := h
    rfl
  · obtain ⟨p, dx, l, d, k, kp, dn, xs, ds, c, rfl, D, d60, q⟩ := h
    refine ⟨_, (pss_cons (ps_set (i := 4) sc_law_deed.nd rfl (Or.inl rfl) (pe_op op_mod (pv 3) pe_int))
      (pss_cons (ps_if (pt_cmpR op_lt (pv 4) pe_int (nomark _)) (pss_cons (ps_set (i := 5) sc_law_deed.nd rfl (Or.inl rfl) (pe_op op_add pe_int (pe_op op_mod (pe_op op_fdiv (pv 3) pe_int) (pe_callB (len_K (K := K)) rfl T.z_len bt_len (pa_cons (pe_ix (ix_K (K := K)) (pv 1) pe_int (fun _ _ => rfl)) pa_nil)))))
      (pss_cons (ps_asg (pe_call (ok_law_turned T) (hr.mono (by omega)) rfl T.m_law_turned T.F_law_turned.kp (b_law_turned T) .nil pass0 (pa_cons (pe_ix (ix_K (K := K)) (pv 1) pe_int (fun _ _ => rfl)) (pa_cons (pv 5) (pa_cons pe_bl pa_nil)))) (pg_sub (pv 1) pe_int set_list))
      (pss_cons (ps_expr (pe_bm PySem.F.plainAttrs_list PySem.F.slot_list_append PySem.F.type_list_append mt_append (pv 2) (pa_cons (pv 5) pa_nil)))
      (pss_cons (ps_set (i := 6) sc_law_deed.nd rfl (Or.inl rfl) (pe_methS (pv 0) T.cl_Stack T.M_Stack_turn (ok_Stack_turn T) (hr.mono (by omega)) (b_Stack_turn T) .nil pass_no (pa_cons (pv 5) pa_nil)))
      (pss_one (ps_ret (pe_and (pe_call (ok_law_whole T) (hr.mono (by omega)) rfl T.m_law_whole T.F_law_whole.kp (b_law_whole T) .nil pass0 (pa_cons (pv 6) pa_nil)) (pe_one (pe_cmpR op_eq (pv 6) (pe_callB (len_K (K := K)) rfl T.z_len bt_len (pa_cons (pv 2) pa_nil)) (nomark _)))))))))) pss_nil)
      (pss_cons (ps_if (pt_cmpR op_eq (pv 4) pe_int (nomark _)) (pss_cons (ps_set (i := 7) sc_law_deed.nd rfl (Or.inl rfl) (pe_lst (pa_cons pe_int (pa_cons (pe_op op_add (pe_callB (len_K (K := K)) rfl T.z_len bt_len (pa_cons (pe_ix (ix_K (K := K)) (pv 1) pe_int (fun _ _ => rfl)) pa_nil)) pe_int) (pa_cons (pe_op op_sub (pe_un un_neg pe_int) (pe_op op_mod (pe_op op_fdiv (pv 3) pe_int) (pe_op op_pow pe_int pe_int))) (pa_cons (pe_op op_add (pe_op op_add (pe_callB (len_K (K := K)) rfl T.z_len bt_len (pa_cons (pe_ix (ix_K (K := K)) (pv 1) pe_int (fun _ _ => rfl)) pa_nil)) pe_int) (pe_op op_mod (pe_op op_fdiv (pv 3) pe_int) (pe_op op_pow pe_int pe_int))) pa_nil))))))
      (pss_one (ps_ret (pe_cmpR (op_eqB hr.units) (pe_call (ok_law_refused T) (hr.mono (by omega)) rfl T.m_law_refused T.F_law_refused.kp (b_law_refused T) .nil pass0 (pa_cons (pv 0) (pa_cons pe_int (pa_cons (pe_ix (ix_K (K := K)) (pv 7) (pe_op op_mod (pe_op op_fdiv (pv 3) pe_int) pe_int) (fun _ _ => rfl)) pa_nil)))) (pe_lst (pa_cons pe_bl (pa_cons pe_bl (pa_cons pe_bl (pa_cons pe_bl (pa_cons pe_bl (pa_cons pe_bl pa_nil))))))) (nomark _))))) pss_nil)
      (pss_cons (ps_if (PW.pt (pw_and (pt_cmpR op_eq (pv 4) pe_int (nomark _)) (pw_and1 (pt_cmpR op_eq (pe_callB (len_K (K := K)) rfl T.z_len bt_len (pa_cons (pv 2) pa_nil)) pe_int (nomark _))))) (pss_one (ps_ret (pe_cmpR (op_eqB hr.units) (pe_call (ok_law_refused T) (hr.mono (by omega)) rfl T.m_law_refused T.F_law_refused.kp (b_law_refused T) .nil pass0 (pa_cons (pv 0) (pa_cons pe_int (pa_cons pe_int pa_nil)))) (pe_lst (pa_cons pe_bl (pa_cons pe_bl (pa_cons pe_bl (pa_cons pe_bl (pa_cons pe_bl (pa_cons pe_bl pa_nil))))))) (nomark _)))) pss_nil)
      (pss_cons (ps_if (pt_cmpR op_eq (pv 4) pe_int (nomark _)) (pss_cons (ps_set (i := 5) sc_law_deed.nd rfl (Or.inl rfl) (pe_bm0 PySem.F.plainAttrs_list PySem.F.slot_list_pop PySem.F.type_list_pop mt_pop (pv 2)))
      (pss_cons (ps_asg (pe_call (ok_law_turned T) (hr.mono (by omega)) rfl T.m_law_turned T.F_law_turned.kp (b_law_turned T) .nil pass0 (pa_cons (pe_ix (ix_K (K := K)) (pv 1) pe_int (fun _ _ => rfl)) (pa_cons (pv 5) (pa_cons pe_bl pa_nil)))) (pg_sub (pv 1) pe_int set_list))
      (pss_cons (ps_set (i := 6) sc_law_deed.nd rfl (Or.inl rfl) (pe_methS0 (pv 0) T.cl_Stack T.M_Stack_back (ok_Stack_back T) (hr.mono (by omega)) (b_Stack_back T) .nil pass_no))
      (pss_one (ps_ret (pe_and (pe_call (ok_law_whole T) (hr.mono (by omega)) rfl T.m_law_whole T.F_law_whole.kp (b_law_whole T) .nil pass0 (pa_cons (pv 6) pa_nil)) (pe_one (pe_cmpR op_eq (pv 6) (pv 5) (nomark _))))))))) pss_nil)
      (pss_cons (ps_if (pt_cmpR op_gt (pe_callB (len_K (K := K)) rfl T.z_len bt_len (pa_cons (pe_ix (ix_K (K := K)) (pv 1) pe_int (fun _ _ => rfl)) pa_nil)) pe_int (nomark _)) (pss_one (ps_ret (pe_cmpR (op_eqB hr.units) (pe_call (ok_law_refused T) (hr.mono (by omega)) rfl T.m_law_refused T.F_law_refused.kp (b_law_refused T) .nil pass0 (pa_cons (pv 0) (pa_cons pe_int (pa_cons pe_int pa_nil)))) (pe_lst (pa_cons pe_bl (pa_cons pe_bl (pa_cons pe_bl (pa_cons pe_bl (pa_cons pe_bl (pa_cons pe_bl pa_nil))))))) (nomark _)))) pss_nil)
      (pss_cons (ps_set (i := 6) sc_law_deed.nd rfl (Or.inl rfl) (pe_methS0 (pv 0) T.cl_Stack T.M_Stack_fewest (ok_Stack_fewest T) (hr.mono (by omega)) (b_Stack_fewest T) .nil pass_no))
      (pss_cons (ps_set (i := 8) sc_law_deed.nd rfl (Or.inl rfl) (pe_callS (ok_fewest T) (hr.mono (by omega)) rfl T.m_fewest_fewest T.F_fewest.kp (b_fewest T) .nil pass_no (pa_cons (pe_callTy call_list_of rfl T.z_list bt_list (pa_cons (pe_ix (ix_K (K := K)) (pv 1) pe_int (fun _ _ => rfl)) pa_nil)) pa_nil)))
      (pss_cons (ps_if (pt_cmpR (op_neL hr.units) (pv 6) (pv 8) (nomark _)) (pss_one (ps_ret pe_bl)) pss_nil)
      (pss_cons (ps_expr (pe_bm PySem.F.plainAttrs_list PySem.F.slot_list_append PySem.F.type_list_append mt_append (pv 6) (pa_cons pe_int pa_nil)))
      (pss_one (ps_ret (pe_cmpR (op_eqL hr.units) (pe_methS0 (pv 0) T.cl_Stack T.M_Stack_fewest (ok_Stack_fewest T) (hr.mono (by omega)) (b_Stack_fewest T) .nil pass_no) (pv 8) (nomark _)))))))))))))), ?_⟩
    have S := D.st
    have n1 := S.pl.pos
    have npk : p ≠ k := ne_of S.ob D.hk (by intro z; cases z)
    have npd : p ≠ d := ne_of S.ob S.dn (by intro z; cases z)
    have npn : p ≠ dn := ne_of S.ob D.hdn (by intro z; cases z)
    have npl : p ≠ l := ne_of S.ob S.ck (by intro z; cases z)
    have npq : p ≠ kp := ne_of S.ob D.hkp (by intro z; cases z)
    have nkd : k ≠ d := int_list_ne D.hk S.dn
    have nkn : k ≠ dn := int_list_ne D.hk D.hdn
    have nkl : k ≠ l := int_list_ne D.hk S.ck
    have nkp : k ≠ kp := int_list_ne D.hk D.hkp
    refine ⟨_, rfl, _, _, rfl, rfl, (by show (0 : Int) < 6; decide), ?_⟩
    have w0 := Int.emod_nonneg c (show (6 : Int) ≠ 0 by decide)
    have w1 := Int.emod_lt_of_pos c (show (0 : Int) < 6 by decide)
    dsimp only
    generalize c % (6 : Int) = wy at w0 w1
    refine ⟨_, rfl, _, _, rfl, rfl, _, rfl, ite2D (fun h3 => ?_) (fun h3 => ?_)⟩
    · refine ⟨_, rfl, _, _, rfl, rfl, ⟨by decide, by decide⟩, _, rfl, k, _, _, .ref kp, rfl, rfl, SqL.of D.hk, rfl, kp, _, rfl, .inl (SqL.of D.hkp), _, _, rfl, rfl, (by rw [len_map]; omega), _, _, rfl, rfl, ?_⟩
      rw [len_map]
      dsimp only
      have t0 := Int.emod_nonneg (c / 6) (show (xs.length : Int) ≠ 0 by omega)
      have t1 := Int.emod_lt_of_pos (c / 6) (show (0 : Int) < xs.length by omega)
      generalize htn : 1 + c / 6 % (xs.length : Int) = tn
      have k1 : 1 ≤ tn := by omega
      have k2 : tn ≤ xs.length := by omega
      have l12 := S.l12
      refine ⟨_, rfl, k, _, _, .ref kp, rfl, rfl, SqL.of D.hk, rfl, _, rfl, kp, xs, tn, false, rfl, SqL.of D.hkp, by omega, k2, S.l12, fun x hx => by have := S.pl.mem hx; omega, fun kp' H1 hkp' s1 e1 => ?_⟩
      have D1k := s1 _ _ D.hk
      have D1n := s1 _ _ D.hdn
      have S1 := S.same s1
      refine ⟨_, rfl, k, _, 0, 0, rfl, rfl, D1k, rfl, ?_⟩
      have nkk : k ≠ kp' := ne_of_none D.hk hkp'
      have ndk : d ≠ kp' := ne_of_none S.dn hkp'
      have nnk : dn ≠ kp' := ne_of_none D.hdn hkp'
      have npk' : p ≠ kp' := ne_of_none S.ob hkp'
      refine ⟨_, rfl, .inl ⟨rfl, _, SqL.of (by rw [upd_ne nkn.symm]; exact D1n)⟩, _, rfl, dn, _, _, rfl, rfl, (by rw [upd_ne nkn.symm]; exact D1n), small1000 (by rw [len_map]; omega), ?_⟩
      generalize hH2 : upd (upd H1 k (HO.lst ([V.ref kp].set 0 (V.ref kp')))) dn (HO.lst (ds.map V.int ++ [V.int tn])) = H2
      have at2 : ∀ b o, H1 b = some o → b ≠ k → b ≠ dn → H2 b = some o := fun b o e n1 n2 => by rw [← hH2, upd_ne n2, upd_ne n1]; exact e
      have hk2 : H2 k = some (.lst [.ref kp']) := by rw [← hH2, upd_ne nkn, upd_same]; rfl
      have hn2 : H2 dn = some (.lst ((ds ++ [tn]).map V.int)) := by rw [← hH2, upd_same]; simp
      have S2 : StackAt t.c_Stack H2 p dx l d xs ds := ⟨at2 _ _ S1.ob npk npn, at2 _ _ S1.ck nkl.symm D.nl.symm, at2 _ _ S1.dn nkd.symm D.dd, S.ne, S.pl, S.l12, S.dl, S.tn⟩
      have e2 : H2 kp' = some (.lst ((Fs.turnM false tn.toNat xs).map V.int)) := at2 _ _ e1 nkk.symm nnk.symm
      refine ⟨_, rfl, p, dx, _, rfl, S2.ob, flds_no _ _ (by decide +kernel) (by decide +kernel), _, rfl, p, dx, l, d, xs, ds, tn, rfl, S2, by omega, by omega, by omega, fun _ _ l' H3 hl' fr S3 => ?_, fun z => absurd ⟨k1, k2⟩ z⟩
      have hk3 := fr _ _ hk2 npk.symm nkd
      have hn3 := fr _ _ hn2 npn.symm D.dd.symm
      have e3 := fr _ _ e2 npk'.symm ndk.symm
      have hlen : ((((ds ++ [tn]).map V.int).length : Nat) : Int) = (ds.length : Int) + 1 := by simp
      refine ⟨_, rfl, _, rfl, _, rfl, iteT ⟨_, rfl, _, rfl, dn, _, rfl, .inl (SqL.of hn3), rfl, ?_⟩⟩
      rw [hlen, decide_eq_true rfl]
      refine q l' kp' _ _ H3 ⟨S3, hk3, e3, hn3, ndk, D.dd, ?_, nnk⟩ (by simp) fun b o e b1 b2 b3 b4 => ?_
      · exact ne_of_none hn2 hl'
      · exact fr _ _ (at2 _ _ (s1 _ _ e) b3 b4) b1 b2
    have l12 := S.l12
    refine ⟨_, rfl, rfl, _, rfl, ite2D (fun e3 => ?_) (fun e3 => ?_)⟩
    · refine ⟨_, rfl, k, _, _, .ref kp, rfl, rfl, SqL.of D.hk, rfl, kp, _, rfl, .inl (SqL.of D.hkp), _, _, rfl, rfl, _, rfl, _, rfl, _, _, rfl, rfl, ⟨by decide, by decide⟩, _, _, rfl, rfl, ⟨by decide, by decide, by decide⟩, _, _, rfl, rfl, (by show (0 : Int) < 10 ^ 30; decide), _, _, rfl, rfl, _, rfl, k, _, _, .ref kp, rfl, rfl, SqL.of D.hk, rfl, kp, _, rfl, .inl (SqL.of D.hkp), _, _, rfl, rfl, _, rfl, _, _, rfl, rfl, ⟨by decide, by decide⟩, _, _, rfl, rfl, ⟨by decide, by decide, by decide⟩, _, _, rfl, rfl, (by show (0 : Int) < 10 ^ 30; decide), _, _, rfl, rfl, ?_⟩
      have f0 := Int.emod_nonneg (c / 24) (show (10 ^ 30 : Int) ≠ 0 by decide)
      have f1 := Int.emod_lt_of_pos (c / 24) (show (0 : Int) < 10 ^ 30 by decide)
      generalize hfar : c / 24 % (10 : Int) ^ (30 : Int).toNat = far
      replace f0 : 0 ≤ far := by rw [← hfar]; exact f0
      replace f1 : far < 10 ^ 30 := by rw [← hfar]; exact f1
      rw [len_map]
      refine ⟨small12 (by show 4 ≤ 1000; decide), fun g hg => ?_⟩
      have s1 := Same.new (o := .lst [.int 0, .int ((xs.length : Int) + 1), .int (-1 - far), .int ((xs.length : Int) + 1 + far)]) hg
      have D1 := D.same s1
      refine ⟨_, rfl, _, rfl, _, rfl, _, _, rfl, rfl, ⟨by decide, by decide⟩, _, _, rfl, rfl, (by show (0 : Int) < 4; decide), ?_⟩
      have i0 := Int.emod_nonneg (c / 6) (show (4 : Int) ≠ 0 by decide)
      have i1 := Int.emod_lt_of_pos (c / 6) (show (0 : Int) < 4 by decide)
      generalize hix : c / 6 % (4 : Int) = ix
      rw [hix] at i0 i1
      obtain ⟨x, hx, xb, xl, xh⟩ : ∃ x : Int, atI [V.int 0, V.int ((xs.length : Int) + 1), V.int (-1 - far), V.int ((xs.length : Int) + 1 + far)] ix = some (.int x) ∧ ¬ (1 ≤ x ∧ x ≤ (xs.length : Int)) ∧ -(10 ^ 60) ≤ x ∧ x ≤ 10 ^ 60 := by
        have : ix = 0 ∨ ix = 1 ∨ ix = 2 ∨ ix = 3 := by omega
        rcases this with z | z | z | z <;> subst z
        · exact ⟨0, rfl, by omega, by decide, by decide⟩
        · exact ⟨(xs.length : Int) + 1, rfl, by omega, by omega, by omega⟩
        · exact ⟨-1 - far, rfl, by omega, by omega, by omega⟩
        · exact ⟨(xs.length : Int) + 1 + far, rfl, by omega, by omega, by omega⟩
      refine ⟨g, _, _, .int x, rfl, rfl, SqL.of upd_same, (by show atI _ (c / 6 % 4) = _; rw [hix]; exact hx), p, dx, l, d, xs, ds, 0, x, 1, rfl, D1.st, xl, xh, by omega, .inl ⟨rfl, rfl, xb⟩, fun r H2 hr s2 e2 => ⟨small12 (by show 6 ≤ 1000; decide), fun l2 hl2 => ?_⟩⟩
      refine ⟨r, l2, toldB 1, [false, true, false, false, false, true], rfl, rfl, SqL.of ((Same.new hl2) _ _ e2), SqL.of upd_same, ?_⟩
      have S2 := (s1.trans s2).trans (Same.new (o := .lst [.bl false, .bl true, .bl false, .bl false, .bl false, .bl true]) hl2)
      exact q l kp xs ds _ (D.same S2) (by omega) fun b o e _ _ _ _ => S2 _ _ e
    refine ⟨_, rfl, rfl, _, rfl, ite2D (fun e4 => ⟨_, rfl, dn, _, rfl, .inl (SqL.of D.hdn), rfl, _, rfl, ite2D (fun e => ?_) (fun n => ?_)⟩) (fun n4 => ?_)⟩
    · have en : ds = [] := by
        rw [len_map] at e
        injection e with e
        exact List.eq_nil_of_length_eq_zero (by omega)
      subst en
      refine ⟨_, rfl, p, dx, l, d, xs, [], 1, 0, 3, rfl, D.st, by decide, by decide, by decide, .inr (.inl ⟨rfl, rfl, rfl⟩), fun r H2 hr s2 e2 => ⟨small12 (by show 6 ≤ 1000; decide), fun l2 hl2 => ?_⟩⟩
      refine ⟨r, l2, toldB 3, [false, false, false, true, false, true], rfl, rfl, SqL.of ((Same.new hl2) _ _ e2), SqL.of upd_same, ?_⟩
      have S2 := s2.trans (Same.new (o := .lst [.bl false, .bl false, .bl false, .bl true, .bl false, .bl true]) hl2)
      exact q l kp xs [] _ (D.same S2) (by decide) fun b o e _ _ _ _ => S2 _ _ e
    · refine ⟨_, rfl, rfl, _, rfl, iteDT e4 ?_⟩
      rcases List.eq_nil_or_concat ds with en | ⟨es, t0, hes⟩
      · exact absurd (by rw [en]; rfl) n
      rw [List.concat_eq_append] at hes
      subst hes
      have tk := S.tn t0 (by simp)
      refine ⟨_, rfl, .inl ⟨rfl, _, SqL.of D.hdn⟩, dn, _, .int t0, rfl, rfl, D.hdn, (by simp), ?_⟩
      have ee : ((es ++ [t0]).map V.int).dropLast = es.map V.int := by simp
      rw [ee]
      have D1k : upd H dn (.lst (es.map V.int)) k = some (.lst [.ref kp]) := by rw [upd_ne nkn]; exact D.hk
      have D1p : upd H dn (.lst (es.map V.int)) kp = some (.lst (xs.map V.int)) := by rw [upd_ne D.nk.symm]; exact D.hkp
      refine ⟨_, rfl, k, _, _, .ref kp, rfl, rfl, SqL.of D1k, rfl, _, rfl, kp, xs, t0, false, rfl, SqL.of D1p, by omega, tk.2, S.l12, fun x hx => by have := S.pl.mem hx; omega, fun kp' H1 hkp' s1 e1 => ?_⟩
      have nnk : dn ≠ kp' := ne_of_none upd_same hkp'
      have hkp0 : H kp' = none := by rwa [upd_ne nnk.symm] at hkp'
      refine ⟨_, rfl, k, _, 0, 0, rfl, rfl, s1 _ _ D1k, rfl, ?_⟩
      have nkk : k ≠ kp' := ne_of_none D.hk hkp0
      have ndk : d ≠ kp' := ne_of_none S.dn hkp0
      have npk' : p ≠ kp' := ne_of_none S.ob hkp0
      generalize hH2 : upd H1 k (HO.lst ([V.ref kp].set 0 (V.ref kp'))) = H2
      have at2 : ∀ b o, H b = some o → b ≠ dn → b ≠ k → H2 b = some o := fun b o e n1 n2 => by rw [← hH2, upd_ne n2]; exact s1 _ _ (by rw [upd_ne n1]; exact e)
      have hk2 : H2 k = some (.lst [.ref kp']) := by rw [← hH2, upd_same]; rfl
      have hn2 : H2 dn = some (.lst (es.map V.int)) := by rw [← hH2, upd_ne nkn.symm]; exact s1 _ _ upd_same
      have e2 : H2 kp' = some (.lst ((Fs.turnM false t0.toNat xs).map V.int)) := by rw [← hH2, upd_ne nkk.symm]; exact e1
      have S2 : StackAt t.c_Stack H2 p dx l d xs (es ++ [t0]) := ⟨at2 _ _ S.ob npn npk, at2 _ _ S.ck D.nl.symm nkl.symm, at2 _ _ S.dn D.dd nkd.symm, S.ne, S.pl, S.l12, S.dl, S.tn⟩
      refine ⟨_, rfl, p, dx, _, rfl, S2.ob, flds_no _ _ (by decide +kernel) (by decide +kernel), p, dx, l, d, xs, es ++ [t0], rfl, S2, fun t1 es1 he1 l' H3 hl' fr S3 => ?_, fun z => absurd z (by simp)⟩
      obtain ⟨rfl, z⟩ := List.append_inj' he1 rfl
      cases z
      have hk3 := fr _ _ hk2 npk.symm nkd
      have hn3 := fr _ _ hn2 npn.symm D.dd.symm
      have e3 := fr _ _ e2 npk'.symm ndk.symm
      refine ⟨_, rfl, _, rfl, _, rfl, iteT ⟨_, rfl, _, rfl, rfl, ?_⟩⟩
      rw [decide_eq_true rfl]
      refine q l' kp' _ _ H3 ⟨S3, hk3, e3, hn3, ndk, D.dd, ?_, nnk⟩ (by simp; omega) fun b o e b1 b2 b3 b4 => ?_
      · exact ne_of_none hn2 hl'
      · exact fr _ _ (at2 _ _ e b4 b3) b1 b2
    · refine ⟨_, rfl, rfl, _, rfl, iteD n4 ?_⟩
      refine ⟨_, rfl, k, _, _, .ref kp, rfl, rfl, SqL.of D.hk, rfl, kp, _, rfl, .inl (SqL.of D.hkp), _, _, rfl, rfl, _, rfl, ?_⟩
      rw [len_map]
      refine ite2D (fun h7 => ?_) (fun h7 => ?_)
      · refine ⟨_, rfl, p, dx, l, d, xs, ds, 2, 0, 2, rfl, D.st, by decide, by decide, by omega, .inr (.inr ⟨rfl, rfl, by omega⟩), fun r H2 hr s2 e2 => ⟨small12 (by show 6 ≤ 1000; decide), fun l2 hl2 => ?_⟩⟩
        refine ⟨r, l2, toldB 2, [false, false, true, false, false, true], rfl, rfl, SqL.of ((Same.new hl2) _ _ e2), SqL.of upd_same, ?_⟩
        have S2 := s2.trans (Same.new (o := .lst [.bl false, .bl false, .bl true, .bl false, .bl false, .bl true]) hl2)
        exact q l kp xs ds _ (D.same S2) (by omega) fun b o e _ _ _ _ => S2 _ _ e
      · refine ⟨_, rfl, p, dx, _, rfl, S.ob, flds_no _ _ (by decide +kernel) (by decide +kernel), p, dx, l, d, xs, ds, rfl, S, fun l7 r H1 hr s1 e1 => ?_, fun z => absurd z (by omega)⟩
        have D1 := D.same s1
        refine ⟨_, rfl, k, _, _, .ref kp, rfl, rfl, SqL.of D1.hk, rfl, kp, _, rfl, .inl (SqL.of D1.hkp), fun g hg => ?_⟩
        have s2 := Same.new (o := .lst (xs.map V.int)) hg
        refine ⟨g, xs, rfl, upd_same, S.pl, S.l12, fun l7 r2 H2 hr2 s3 e3 => ?_, fun z => absurd z (by omega)⟩
        have e1' := s3 _ _ (s2 _ _ e1)
        refine ⟨_, rfl, _, rfl, r, r2, _, _, rfl, rfl, SqL.of e1', SqL.of e3, _, rfl, ?_⟩
        rw [decide_eq_true rfl]
        refine iteF ?_
        have nrr : r ≠ r2 := ne_of_none (s2 _ _ e1) hr2
        refine ⟨_, rfl, .inl ⟨rfl, _, SqL.of e1'⟩, r, _, _, rfl, rfl, e1', small1000 (by rw [len_map]; have := Fs.few_short_plain S.pl l7; omega), ?_⟩
        have s4 : Same H (upd H2 r (.lst ((Fs.fewM false xs).map V.int ++ [.int 1]))) := ((s1.trans s2).trans s3).up hr
        have D4 := D.same s4
        have e4 : upd H2 r (.lst ((Fs.fewM false xs).map V.int ++ [.int 1])) r2 = some (.lst ((Fs.fewM false xs).map V.int)) := by rw [upd_ne nrr.symm]; exact e3
        refine ⟨_, rfl, p, dx, _, rfl, D4.st.ob, flds_no _ _ (by decide +kernel) (by decide +kernel), p, dx, l, d, xs, ds, rfl, D4.st, fun l7 r3 H5 hr3 s5 e5 => ?_, fun z => absurd z (by omega)⟩
        refine ⟨_, rfl, r3, r2, _, _, rfl, rfl, SqL.of e5, SqL.of (s5 _ _ e4), ?_⟩
        rw [decide_eq_true rfl]
        exact q l kp xs ds H5 (D4.same s5) (by omega) fun b o e _ _ _ _ => s5 _ _ (s4 _ _ e)
end
end Fl

namespace Fl
open PySem L2
section
variable {P : Program} {w : World} {K : PySem.W.Frag} {mg : Str → Option Value} {base : Heap} {t : Adr}
theorem ok_law (T : Txt K mg t) : FnOk P w K mg base CX0 22 t.a_law t.d_law ["script"] (spLaw K) := by
  refine T.F_law.ok sc_law (fun vs H Q E h => ?_) (fun cdv A outer s H vs Q E hr h => ?_)
  · obtain ⟨a, ns, rfl, hS, hlen, q⟩ := h
    rfl
  · obtain ⟨a, ns, rfl, hS, hlen, q⟩ := h
    refine ⟨_, (pss_cons (ps_set (i := 1) sc_law.nd rfl (Or.inl rfl) (pe_call (ok_law_pile T) (hr.mono (by omega)) rfl T.m_law_pile T.F_law_pile.kp (b_law_pile T) .nil pass0 (pa_cons (pv 0) (pa_cons pe_int (pa_cons (pe_ix (ix_K (K := K)) (pe_lst (pa_cons pe_int (pa_cons pe_int (pa_cons pe_int pa_nil)))) (pe_op op_mod (pe_call (ok_law_cell_at T) (hr.mono (by omega)) rfl T.m_law_cell_at T.F_law_cell_at.kp (b_law_cell_at T) .nil pass0 (pa_cons (pv 0) (pa_cons pe_int pa_nil))) pe_int) (fun _ _ => rfl)) pa_nil)))))
      (pss_cons (ps_set (i := 2) sc_law.nd rfl (Or.inl rfl) (pe_callTy call_list_of rfl T.z_list bt_list (pa_cons (pv 1) pa_nil)))
      (pss_cons (ps_set (i := 3) sc_law.nd rfl (Or.inl rfl) (pe_makeS T.K_Stack (ok_Stack___init__ T) (hr.mono (by omega)) rfl T.x_Stack (b_Stack___init__ T) .nil pass_no (pa_cons (pv 2) pa_nil)))
      (pss_cons (ps_set (i := 4) sc_law.nd rfl (Or.inl rfl) (pe_makeS T.K_Stack (ok_Stack___init__ T) (hr.mono (by omega)) rfl T.x_Stack (b_Stack___init__ T) .nil pass_no (pa_cons (pv 2) pa_nil)))
      (pss_cons (ps_expr (pe_bm0 PySem.F.plainAttrs_list PySem.F.slot_list_reverse PySem.F.type_list_reverse mt_reverse (pv 2)))
      (pss_cons (ps_expr (pe_bm PySem.F.plainAttrs_list PySem.F.slot_list_append PySem.F.type_list_append mt_append (pv 2) (pa_cons pe_int pa_nil)))
      (pss_cons (ps_set (i := 5) sc_law.nd rfl (Or.inl rfl) (pe_lst (pa_cons (pe_callTy call_list_of rfl T.z_list bt_list (pa_cons (pv 1) pa_nil)) pa_nil)))
      (pss_cons (ps_set (i := 6) sc_law.nd rfl (Or.inl rfl) (pe_lst pa_nil))
      (pss_cons (ps_set (i := 7) sc_law.nd rfl (Or.inl rfl) (pe_op op_mod (pe_call (ok_law_cell_at T) (hr.mono (by omega)) rfl T.m_law_cell_at T.F_law_cell_at.kp (b_law_cell_at T) .nil pass0 (pa_cons (pv 0) (pa_cons pe_int pa_nil))) pe_int))
      (pss_cons (ps_if (pt_cmpR op_eq (pe_op op_mod (pe_op op_fdiv (pe_call (ok_law_cell_at T) (hr.mono (by omega)) rfl T.m_law_cell_at T.F_law_cell_at.kp (b_law_cell_at T) .nil pass0 (pa_cons (pv 0) (pa_cons pe_int pa_nil))) pe_int) pe_int) pe_int (nomark _)) (pss_one (ps_set (i := 7) sc_law.nd rfl (Or.inl rfl) (pe_op op_add pe_int (pe_op op_mod (pe_op op_fdiv (pe_call (ok_law_cell_at T) (hr.mono (by omega)) rfl T.m_law_cell_at T.F_law_cell_at.kp (b_law_cell_at T) .nil pass0 (pa_cons (pv 0) (pa_cons pe_int pa_nil))) pe_int) pe_int)))) pss_nil)
      (pss_cons (ps_for PassesOwn.never rfl (pi_range1 rfl T.z_range (pa_cons (pv 7) pa_nil)) (pg_name (i := 8) sc_law.nd rfl (Or.inl rfl)) (pss_cons (ps_set (i := 9) sc_law.nd rfl (Or.inl rfl) (pe_call (ok_law_cell_at T) (hr.mono (by omega)) rfl T.m_law_cell_at T.F_law_cell_at.kp (b_law_cell_at T) .nil pass0 (pa_cons (pv 0) (pa_cons (pe_op op_add pe_int (pv 8)) pa_nil))))
      (pss_cons (ps_if (PW.pt (pw_and (pt_cmpR op_gt (pv 8) pe_int (nomark _)) (pw_and1 (pt_cmpR op_eq (pe_op op_mod (pv 9) pe_int) pe_int (nomark _))))) (pss_one (ps_set (i := 9) sc_law.nd rfl (Or.inl rfl) (pe_op op_sub (pv 9) pe_int))) pss_nil)
      (pss_cons (ps_if (pt_not (pt_val (pe_call (ok_law_deed T) (hr.mono (by omega)) rfl T.m_law_deed T.F_law_deed.kp (b_law_deed T) .nil pass0 (pa_cons (pv 3) (pa_cons (pv 5) (pa_cons (pv 6) (pa_cons (pv 9) pa_nil))))))) (pss_one (ps_ret pe_bl)) pss_nil)
      (pss_cons (ps_set (i := 10) sc_law.nd rfl (Or.inl rfl) (pe_lst (pa_cons (pe_meth0 (pv 3) T.cl_Stack T.M_Stack_pile (ok_Stack_pile T) (hr.mono (by omega)) (b_Stack_pile T) .nil pass0) (pa_cons (pe_meth0 (pv 3) T.cl_Stack T.M_Stack_turns (ok_Stack_turns T) (hr.mono (by omega)) (b_Stack_turns T) .nil pass0) pa_nil))))
      (pss_cons (ps_if (PW.pt (pw_or (pt_cmpR (op_neR hr.units) (pv 10) (pe_lst (pa_cons (pe_ix (ix_K (K := K)) (pv 5) pe_int (fun _ _ => rfl)) (pa_cons (pv 6) pa_nil))) (nomark _)) (pw_or (pt_cmpR (op_neL hr.units) (pe_meth0 (pv 4) T.cl_Stack T.M_Stack_pile (ok_Stack_pile T) (hr.mono (by omega)) (b_Stack_pile T) .nil pass0) (pv 1) (nomark _)) (pw_or1 (pt_cmpR (op_neL hr.units) (pe_meth0 (pv 4) T.cl_Stack T.M_Stack_turns (ok_Stack_turns T) (hr.mono (by omega)) (b_Stack_turns T) .nil pass0) (pe_lst pa_nil) (nomark _)))))) (pss_one (ps_ret pe_bl)) pss_nil)
      (pss_cons (ps_expr (pe_bm PySem.F.plainAttrs_list PySem.F.slot_list_append PySem.F.type_list_append mt_append (pe_ix (ix_K (K := K)) (pv 10) pe_int (fun _ _ => rfl)) (pa_cons pe_int pa_nil)))
      (pss_one (ps_expr (pe_bm PySem.F.plainAttrs_list PySem.F.slot_list_append PySem.F.type_list_append mt_append (pe_ix (ix_K (K := K)) (pv 10) pe_int (fun _ _ => rfl)) (pa_cons pe_int pa_nil)))))))))))
      (pss_one (ps_ret (pe_and (pe_cmpR (op_eqL hr.units) (pe_meth0 (pv 3) T.cl_Stack T.M_Stack_pile (ok_Stack_pile T) (hr.mono (by omega)) (b_Stack_pile T) .nil pass0) (pe_ix (ix_K (K := K)) (pv 5) pe_int (fun _ _ => rfl)) (nomark _)) (pe_one (pe_cmpR (op_eqL hr.units) (pe_meth0 (pv 3) T.cl_Stack T.M_Stack_turns (ok_Stack_turns T) (hr.mono (by omega)) (b_Stack_turns T) .nil pass0) (pv 6) (nomark _))))))))))))))))), ?_⟩
    -- pile
    refine ⟨_, rfl, small12 (by show 3 ≤ 1000; decide), fun d0 hd0 => ?_⟩
    have s0 := Same.new (o := .lst [.int 6, .int 6, .int 12]) hd0
    refine ⟨_, rfl, a, ns, _, rfl, s0.seq hS, by decide, fun v0 => ⟨_, _, rfl, rfl, (by show (0 : Int) < 3; decide), ?_⟩⟩
    have m0 := Int.emod_nonneg v0 (show (3 : Int) ≠ 0 by decide)
    have m1 := Int.emod_lt_of_pos v0 (show (0 : Int) < 3 by decide)
    dsimp only
    generalize v0 % (3 : Int) = mi at m0 m1
    obtain ⟨m, hm, ml, mh⟩ : ∃ m : Int, atI [V.int 6, V.int 6, V.int 12] mi = some (.int m) ∧ 0 < m ∧ m ≤ 12 := by
      have : mi = 0 ∨ mi = 1 ∨ mi = 2 := by omega
      rcases this with z | z | z <;> subst z
      · exact ⟨6, rfl, by decide, by decide⟩
      · exact ⟨6, rfl, by decide, by decide⟩
      · exact ⟨12, rfl, by decide, by decide⟩
    refine ⟨d0, _, _, .int m, rfl, rfl, SqL.of upd_same, hm, a, ns, 1, m, rfl, s0.seq hS, by decide, ml, mh, fun p0 H1 xs hp0 s1 e1 px xl => ?_⟩
    have x12 : xs.length ≤ 12 := by omega
    have S1 := s0.trans s1
    -- handed
    refine ⟨_, rfl, p0, _, rfl, .inl (SqL.of e1), fun h hh => ?_⟩
    have s2 := Same.new (o := .lst (xs.map V.int)) hh
    have S2 := S1.trans s2
    have e2 := s2 _ _ e1
    have f2 : upd H1 h (.lst (xs.map V.int)) h = some (.lst (xs.map V.int)) := upd_same
    have nh0 : p0 ≠ h := ne_of_none e1 hh
    generalize upd H1 h (.lst (xs.map V.int)) = H2 at s2 S2 e2 f2
    -- stack
    refine ⟨_, rfl, fun p dx hp hdx ndx => ?_⟩
    have u1 : ∀ b o, H2 b = some o → upd (upd H2 dx (.own p)) p (.ins t.c_Stack dx []) b = some o := fun b o e => by rw [upd_ne (ne_of_none e hp), upd_ne (ne_of_none e hdx)]; exact e
    refine ⟨p, dx, h, xs, rfl, upd_same, SqL.of (u1 _ _ f2), px, x12, fun l d H3 hl hd fr3 T3 => ⟨rfl, ?_⟩⟩
    have s3 : Same H2 H3 := fun b o e => fr3 b o (u1 b o e) (ne_of_none e hp)
    have S3 := S2.trans s3
    have nlh : h ≠ l := ne_of_none (u1 _ _ f2) hl
    have ndh : h ≠ d := ne_of_none (u1 _ _ f2) hd
    have n0d : p0 ≠ d := ne_of_none (u1 _ _ e2) hd
    have hp_0 : H p = none := S2.free hp
    have hd_2 : H2 d = none := by
      have z1 : d ≠ p := fun z => by rw [z, upd_same] at hd; cases hd
      rw [upd_ne z1] at hd
      have z2 : d ≠ dx := fun z => by rw [z, upd_same] at hd; cases hd
      rwa [upd_ne z2] at hd
    have hd_0 : H d = none := S2.free hd_2
    -- other
    refine ⟨_, rfl, fun p' dx' hp' hdx' ndx' => ?_⟩
    have u2 : ∀ b o, H3 b = some o → upd (upd H3 dx' (.own p')) p' (.ins t.c_Stack dx' []) b = some o := fun b o e => by rw [upd_ne (ne_of_none e hp'), upd_ne (ne_of_none e hdx')]; exact e
    have f3 := s3 _ _ f2
    refine ⟨p', dx', h, xs, rfl, upd_same, SqL.of (u2 _ _ f3), px, x12, fun l' d' H4 hl' hd' fr4 T4 => ⟨rfl, ?_⟩⟩
    have s4 : Same H3 H4 := fun b o e => fr4 b o (u2 b o e) (ne_of_none e hp')
    have S4 := S3.trans s4
    have nlh' : h ≠ l' := ne_of_none (u2 _ _ f3) hl'
    have ndh' : h ≠ d' := ne_of_none (u2 _ _ f3) hd'
    have npp : p ≠ p' := ne_of_none T3.ob hp'
    have ndl' : d ≠ l' := ne_of_none (u2 _ _ T3.dn) hl'
    have ndd' : d ≠ d' := ne_of_none (u2 _ _ T3.dn) hd'
    have f4 := s4 _ _ f3
    have e4 := s4 _ _ (s3 _ _ e2)
    have P4 := T3.same s4
    have hh_0 : H h = none := S1.free hh
    -- handed.reverse(); handed.append(0)
    refine ⟨_, rfl, .inl ⟨rfl, _, SqL.of f4⟩, h, _, rfl, rfl, f4, ?_⟩
    refine ⟨_, rfl, .inl ⟨rfl, _, SqL.of upd_same⟩, h, _, _, rfl, rfl, upd_same, small1000 (by simp; omega), ?_⟩
    generalize hH5 : upd (upd H4 h (HO.lst (xs.map V.int).reverse)) h (HO.lst ((xs.map V.int).reverse ++ [V.int 0])) = H5
    have at5 : ∀ b o, H4 b = some o → b ≠ h → H5 b = some o := fun b o e n => by rw [← hH5, upd_ne n, upd_ne n]; exact e
    have S5 : Same H H5 := by rw [← hH5]; exact (S4.up hh_0).up hh_0
    have nph : p ≠ h := ne_of P4.ob f4 (by intro z; cases z)
    have nph' : p' ≠ h := ne_of T4.ob f4 (by intro z; cases z)
    have P5 : StackAt t.c_Stack H5 p dx l d xs [] := ⟨at5 _ _ P4.ob nph, at5 _ _ P4.ck nlh.symm, at5 _ _ P4.dn ndh.symm, P4.ne, px, x12, by decide, fun x hx => (nomatch hx)⟩
    have O5 : StackAt t.c_Stack H5 p' dx' l' d' xs [] := ⟨at5 _ _ T4.ob nph', at5 _ _ T4.ck nlh'.symm, at5 _ _ T4.dn ndh'.symm, T4.ne, px, x12, by decide, fun x hx => (nomatch hx)⟩
    have e5 := at5 _ _ e4 nh0
    -- kept, done
    refine ⟨_, rfl, p0, _, rfl, .inl (SqL.of e5), fun kp hkp => ⟨small12 (by show 1 ≤ 1000; decide), fun k hk => ⟨Nat.zero_le _, fun dn hdn => ?_⟩⟩⟩
    have s6 := Same.new (o := .lst (xs.map V.int)) hkp
    have s7 := s6.up (s6.free hk) (o := .lst [.ref kp])
    have s8 := s7.up (s7.free hdn) (o := .lst [])
    have k6 : upd H5 kp (.lst (xs.map V.int)) kp = some (.lst (xs.map V.int)) := upd_same
    have k7 : upd (upd H5 kp (.lst (xs.map V.int))) k (.lst [.ref kp]) kp = some (.lst (xs.map V.int)) := by rw [upd_ne (ne_of_none k6 hk)]; exact k6
    have k7k : upd (upd H5 kp (.lst (xs.map V.int))) k (.lst [.ref kp]) k = some (.lst [.ref kp]) := upd_same
    have D0 : DeedSt t.c_Stack (upd (upd (upd H5 kp (.lst (xs.map V.int))) k (.lst [.ref kp])) dn (.lst [])) p dx l d k kp dn xs [] := by
      refine ⟨P5.same s8, ?_, ?_, ?_, ?_, ?_, ?_, ?_⟩
      · rw [upd_ne (ne_of_none k7k hdn)]; exact k7k
      · rw [upd_ne (ne_of_none k7 hdn)]; exact k7
      · exact upd_same
      · exact ne_of_none P5.dn hkp
      · exact ne_of_none (s7 _ _ P5.dn) hdn
      · exact (ne_of_none (s7 _ _ P5.ck) hdn).symm
      · exact (ne_of_none k7 hdn).symm
    have O0 := O5.same s8
    have e8 := s8 _ _ e5
    have S8 := S5.trans s8
    have nk0 : p0 ≠ k := ne_of_none (s6 _ _ e5) hk
    have nn0 : p0 ≠ dn := ne_of_none (s7 _ _ e5) hdn
    have nkl' : l' ≠ k := ne_of_none (s6 _ _ O5.ck) hk
    have nnl' : l' ≠ dn := ne_of_none (s7 _ _ O5.ck) hdn
    have nkd' : d' ≠ k := ne_of_none (s6 _ _ O5.dn) hk
    have nnd' : d' ≠ dn := ne_of_none (s7 _ _ O5.dn) hdn
    have npk' : p' ≠ k := ne_of_none (s6 _ _ O5.ob) hk
    have npn' : p' ≠ dn := ne_of_none (s7 _ _ O5.ob) hdn
    have npd' : p' ≠ d := ne_of O5.ob P5.dn (by intro z; cases z)
    have np0 : p0 ≠ p := ne_of e5 P5.ob (by intro z; cases z)
    have npl' : l' ≠ p := ne_of O5.ck P5.ob (by intro z; cases z)
    have npd2 : d' ≠ p := ne_of O5.dn P5.ob (by intro z; cases z)
    have hk_0 : H k = none := S5.free (s6.free hk)
    have hn_0 : H dn = none := S5.free (s7.free hdn)
    generalize upd (upd (upd H5 kp (HO.lst (xs.map V.int))) k (HO.lst [V.ref kp])) dn (HO.lst []) = H8 at s8 D0 O0 e8 S8
    -- many
    refine ⟨_, rfl, a, ns, _, rfl, S8.seq hS, by decide, fun v14 => ⟨_, _, rfl, rfl, (by show (0 : Int) < 21; decide), ?_⟩⟩
    dsimp only [gName]
    refine seq_gen fun R hR => ?_
    have rest : ∀ mn : Int, 0 ≤ mn → mn ≤ 47 → R [some (.ref a), some (.ref p0), some (.ref h), some (.ref p), some (.ref p'), some (.ref k), some (.ref dn), some (.int mn), none, none, none] H8 := ?_
    · refine ⟨_, rfl, a, ns, _, rfl, S8.seq hS, by decide, fun v => ⟨_, _, rfl, rfl, ⟨by decide, by decide⟩, _, _, rfl, rfl, (by show (0 : Int) < 4; decide), rfl, _, rfl, ?_⟩⟩
      refine ite2D (fun _ => ?_) (fun _ => rest _ (by omega) (by omega))
      exact ⟨_, rfl, a, ns, _, rfl, S8.seq hS, by decide, fun v4 => ⟨_, _, rfl, rfl, ⟨by decide, by decide⟩, _, _, rfl, rfl, (by show (0 : Int) < 27; decide), _, _, rfl, rfl, rest _ (by omega) (by omega)⟩⟩
    intro mn mn0 mn1
    rw [hR]
    clear hR R
    refine ⟨_, rfl, mn, rfl, by omega, by omega, for_range (n := mn.toNat) (fun i σ H9 => ∃ (l1 kp1 : Addr) (ys ds : List Int) (c1 c2 c3 : Option V), σ = [some (.ref a), some (.ref p0), some (.ref h), some (.ref p), some (.ref p'), some (.ref k), some (.ref dn), some (.int mn), c1, c2, c3] ∧ Same H H9 ∧
      DeedSt t.c_Stack H9 p dx l1 d k kp1 dn ys ds ∧ ds.length ≤ i ∧ StackAt t.c_Stack H9 p' dx' l' d' xs [] ∧ H9 p0 = some (.lst (xs.map V.int))) ?_ ?_ ?_⟩
    · exact ⟨l, kp, xs, [], none, none, none, rfl, S8, D0, by simp, O0, e8⟩
    · rintro i σ H9 hi ⟨l1, kp1, ys, ds, c1, c2, c3, rfl, S9, D9, dl9, O9, e9⟩
      refine ⟨_, rfl, _, rfl, _, _, rfl, rfl, a, ns, _, rfl, S9.seq hS, by omega, fun cv => ?_⟩
      dsimp only [gName]
      refine seq_gen fun R hR => ?_
      have rest : ∀ cv : Int, R [some (.ref a), some (.ref p0), some (.ref h), some (.ref p), some (.ref p'), some (.ref k), some (.ref dn), some (.int mn), some (.int (0 + (i : Int))), some (.int cv), c3] H9 := ?_
      · refine ⟨_, rfl, _, _, rfl, rfl, _, rfl, ite2D (fun _ => ⟨_, rfl, _, _, rfl, rfl, (by show (0 : Int) < 6; decide), rfl, _, rfl, ite2D (fun _ => ?_) (fun _ => rest cv)⟩) (fun _ => rest cv)⟩
        exact ⟨_, rfl, _, _, rfl, rfl, rest _⟩
      intro cv
      rw [hR]
      clear hR R
      refine ⟨_, rfl, _, rfl, _, rfl, _, rfl, p, dx, l1, d, k, kp1, dn, ys, ds, cv, rfl, D9, by omega, fun l2 kp2 zs ds2 H10 D10 dl10 fr => ⟨_, rfl, ?_⟩⟩
      have S10 : Same H H10 := fun b o e => fr b o (S9 _ _ e) (ne_of_none e hp_0) (ne_of_none e hd_0) (ne_of_none e hk_0) (ne_of_none e hn_0)
      have O10 : StackAt t.c_Stack H10 p' dx' l' d' xs [] := ⟨fr _ _ O9.ob npp.symm npd' npk' npn', fr _ _ O9.ck npl' ndl'.symm nkl' nnl', fr _ _ O9.dn npd2 ndd'.symm nkd' nnd', O9.ne, px, x12, by decide, fun x hx => (nomatch hx)⟩
      have e10 := fr _ _ e9 np0 n0d nk0 nn0
      -- found
      refine ⟨_, rfl, p, dx, _, rfl, D10.st.ob, flds_no _ _ (by decide +kernel) (by decide +kernel), p, dx, l2, d, zs, ds2, rfl, D10.st, fun r1 H11 hr1 s11 e11 => ?_⟩
      have D11 := D10.same s11
      refine ⟨_, rfl, p, dx, _, rfl, D11.st.ob, flds_no _ _ (by decide +kernel) (by decide +kernel), p, dx, l2, d, zs, ds2, rfl, D11.st, fun r2 H12 hr2 s12 e12 => ⟨small12 (by show 2 ≤ 1000; decide), fun f hf => ?_⟩⟩
      have n12 : r1 ≠ r2 := ne_of_none e11 hr2
      have s13 := Same.new (o := .lst [.ref r1, .ref r2]) hf
      have T13 := (s11.trans s12).trans s13
      have D13 := D10.same T13
      -- the three tests
      refine ⟨_, rfl, _, rfl, k, _, _, .ref kp2, rfl, rfl, SqL.of D13.hk, rfl, _, rfl, small12 (by show 2 ≤ 1000; decide), fun g hg => ?_⟩
      have s14 := Same.new (o := .lst [.ref kp2, .ref dn]) hg
      have T14 := T13.trans s14
      have D14 := D10.same T14
      have f14 := s14 _ _ (upd_same (H := H12) (a := f) (o := .lst [.ref r1, .ref r2]))
      have r1_14 := s14 _ _ (s13 _ _ (s12 _ _ e11))
      have r2_14 := s14 _ _ (s13 _ _ e12)
      refine ⟨f, g, _, _, [zs, ds2], [zs, ds2], rfl, rfl, SqL.of f14, SqL.of upd_same, .cons ⟨r1, rfl, SqL.of r1_14⟩ (.cons ⟨r2, rfl, SqL.of r2_14⟩ .nil), .cons ⟨kp2, rfl, SqL.of D14.hkp⟩ (.cons ⟨dn, rfl, SqL.of D14.hdn⟩ .nil), _, rfl, ?_⟩
      rw [decide_eq_true rfl]
      refine iteF ?_
      have O14 := O10.same T14
      refine ⟨_, rfl, p', dx', _, rfl, O14.ob, flds_no _ _ (by decide +kernel) (by decide +kernel), p', dx', l', d', xs, [], rfl, O14, fun r3 H15 hr3 s15 e15 => ?_⟩
      refine ⟨_, rfl, r3, p0, xs, xs, rfl, rfl, SqL.of e15, SqL.of (s15 _ _ (T14 _ _ e10)), _, rfl, ?_⟩
      rw [decide_eq_true rfl]
      refine iteF ?_
      have O15 := O14.same s15
      refine ⟨_, rfl, p', dx', _, rfl, O15.ob, flds_no _ _ (by decide +kernel) (by decide +kernel), p', dx', l', d', xs, [], rfl, O15, fun r4 H16 hr4 s16 e16 => ⟨Nat.zero_le _, fun z hz => ?_⟩⟩
      have s17 := Same.new (o := .lst []) hz
      refine ⟨r4, z, [], [], rfl, rfl, SqL.of (s17 _ _ e16), SqL.of upd_same, _, rfl, ?_⟩
      rw [decide_eq_true rfl]
      refine iteF ?_
      have T17 : Same H10 (upd H16 z (.lst [])) := ((T14.trans s15).trans s16).trans s17
      have f17 := s17 _ _ (s16 _ _ (s15 _ _ f14))
      have r1_17 := s17 _ _ (s16 _ _ (s15 _ _ r1_14))
      have r2_17 := s17 _ _ (s16 _ _ (s15 _ _ r2_14))
      generalize upd H16 z (HO.lst []) = H17 at s17 T17 f17 r1_17 r2_17
      have nf1 : f ≠ r1 := (ne_of_none (s12 _ _ e11) hf).symm
      -- found[0].append(0); found[1].append(0)
      have zl : zs.length ≤ 12 := D10.st.l12
      refine ⟨_, rfl, f, _, _, .ref r1, rfl, rfl, SqL.of f17, rfl, .inl ⟨rfl, _, SqL.of r1_17⟩, r1, _, _, rfl, rfl, r1_17, small1000 (by rw [len_map]; omega), ?_⟩
      have f18 : upd H17 r1 (.lst (zs.map V.int ++ [.int 0])) f = some (.lst [.ref r1, .ref r2]) := by rw [upd_ne nf1]; exact f17
      have r2_18 : upd H17 r1 (.lst (zs.map V.int ++ [.int 0])) r2 = some (.lst (ds2.map V.int)) := by rw [upd_ne n12.symm]; exact r2_17
      refine ⟨_, rfl, f, _, _, .ref r2, rfl, rfl, SqL.of f18, rfl, .inl ⟨rfl, _, SqL.of r2_18⟩, r2, _, _, rfl, rfl, r2_18, small1000 (by rw [len_map]; omega), ?_⟩
      have T19 : Same H10 (upd (upd H17 r1 (.lst (zs.map V.int ++ [.int 0]))) r2 (.lst (ds2.map V.int ++ [.int 0]))) := (T17.up hr1).up (s11.free hr2)
      exact ⟨l2, kp2, zs, ds2, _, _, _, rfl, S10.trans T19, D10.same T19, by omega, O10.same T19, T19 _ _ e10⟩
    · rintro σ H9 ⟨l1, kp1, ys, ds, c1, c2, c3, rfl, S9, D9, dl9, O9, e9⟩
      refine ⟨_, rfl, p, dx, _, rfl, D9.st.ob, flds_no _ _ (by decide +kernel) (by decide +kernel), p, dx, l1, d, ys, ds, rfl, D9.st, fun r1 H10 hr1 s10 e10 => ?_⟩
      have D10 := D9.same s10
      refine ⟨_, rfl, k, _, _, .ref kp1, rfl, rfl, SqL.of D10.hk, rfl, r1, kp1, ys, ys, rfl, rfl, SqL.of e10, SqL.of D10.hkp, _, rfl, ?_⟩
      rw [decide_eq_true rfl]
      refine iteT ?_
      refine ⟨_, rfl, p, dx, _, rfl, D10.st.ob, flds_no _ _ (by decide +kernel) (by decide +kernel), p, dx, l1, d, ys, ds, rfl, D10.st, fun r2 H11 hr2 s11 e11 => ?_⟩
      refine ⟨_, rfl, r2, dn, ds, ds, rfl, rfl, SqL.of e11, SqL.of (D10.same s11).hdn, ?_⟩
      rw [decide_eq_true rfl]
      exact q _
end
end Fl

namespace Fl
open PySem L2
theorem all_mk {l : PySem.W.OpenLaw} {w : World} {K : PySem.W.Frag} {h : Heap} {mg : Str → Option Value} {fa : Addr} (X : K.In h) (G : h.Ns mainGlobals mg) (hfa : mg "law" = some (.ref fa))
    {C_FlipError C_NoPile C_NoTurn C_TooTall C_NoBack C_BadLine C_Stack f_check_pile f_without_signs f_check_turns f_turned f_pile_after f_what_lies_below f_is_gap f_count_gaps f_turns_for_cake f_rule_plan f_check_height f_plan_within f_fewest_plan f_fewest f_Stack___init__ f_Stack_turn f_Stack_back f_Stack_pile f_Stack_turns f_Stack_fewest f_law_cell_at f_law_whole f_law_pile f_law_turned f_law_which f_law_refused f_law_deed f_law : Addr}
    {oc_check_pile kV_check_pile dc_check_pile pm_check_pile cd_check_pile ct_check_pile : Value} {od_check_pile an_check_pile : Option Addr} {sl_check_pile : Array (Option Value)}
    {oc_without_signs kV_without_signs dc_without_signs pm_without_signs cd_without_signs ct_without_signs : Value} {od_without_signs an_without_signs : Option Addr} {sl_without_signs : Array (Option Value)}
    {oc_check_turns kV_check_turns dc_check_turns pm_check_turns cd_check_turns ct_check_turns : Value} {od_check_turns an_check_turns : Option Addr} {sl_check_turns : Array (Option Value)}
    {oc_turned kV_turned dc_turned pm_turned cd_turned ct_turned : Value} {od_turned an_turned : Option Addr} {sl_turned : Array (Option Value)}
    {oc_pile_after kV_pile_after dc_pile_after pm_pile_after cd_pile_after ct_pile_after : Value} {od_pile_after an_pile_after : Option Addr} {sl_pile_after : Array (Option Value)}
    {oc_what_lies_below kV_what_lies_below dc_what_lies_below pm_what_lies_below cd_what_lies_below ct_what_lies_below : Value} {od_what_lies_below an_what_lies_below : Option Addr} {sl_what_lies_below : Array (Option Value)}
    {oc_is_gap kV_is_gap dc_is_gap pm_is_gap cd_is_gap ct_is_gap : Value} {od_is_gap an_is_gap : Option Addr} {sl_is_gap : Array (Option Value)}
    {oc_count_gaps kV_count_gaps dc_count_gaps pm_count_gaps cd_count_gaps ct_count_gaps : Value} {od_count_gaps an_count_gaps : Option Addr} {sl_count_gaps : Array (Option Value)}
    {oc_turns_for_cake kV_turns_for_cake dc_turns_for_cake pm_turns_for_cake cd_turns_for_cake ct_turns_for_cake : Value} {od_turns_for_cake an_turns_for_cake : Option Addr} {sl_turns_for_cake : Array (Option Value)}
    {oc_rule_plan kV_rule_plan dc_rule_plan pm_rule_plan cd_rule_plan ct_rule_plan : Value} {od_rule_plan an_rule_plan : Option Addr} {sl_rule_plan : Array (Option Value)}
    {oc_check_height kV_check_height dc_check_height pm_check_height cd_check_height ct_check_height : Value} {od_check_height an_check_height : Option Addr} {sl_check_height : Array (Option Value)}
    {oc_plan_within kV_plan_within dc_plan_within pm_plan_within cd_plan_within ct_plan_within : Value} {od_plan_within an_plan_within : Option Addr} {sl_plan_within : Array (Option Value)}
    {oc_fewest_plan kV_fewest_plan dc_fewest_plan pm_fewest_plan cd_fewest_plan ct_fewest_plan : Value} {od_fewest_plan an_fewest_plan : Option Addr} {sl_fewest_plan : Array (Option Value)}
    {oc_fewest kV_fewest dc_fewest pm_fewest cd_fewest ct_fewest : Value} {od_fewest an_fewest : Option Addr} {sl_fewest : Array (Option Value)}
    {oc_Stack___init__ kV_Stack___init__ dc_Stack___init__ pm_Stack___init__ cd_Stack___init__ ct_Stack___init__ : Value} {od_Stack___init__ an_Stack___init__ : Option Addr} {sl_Stack___init__ : Array (Option Value)}
    {oc_Stack_turn kV_Stack_turn dc_Stack_turn pm_Stack_turn cd_Stack_turn ct_Stack_turn : Value} {od_Stack_turn an_Stack_turn : Option Addr} {sl_Stack_turn : Array (Option Value)}
    {oc_Stack_back kV_Stack_back dc_Stack_back pm_Stack_back cd_Stack_back ct_Stack_back : Value} {od_Stack_back an_Stack_back : Option Addr} {sl_Stack_back : Array (Option Value)}
    {oc_Stack_pile kV_Stack_pile dc_Stack_pile pm_Stack_pile cd_Stack_pile ct_Stack_pile : Value} {od_Stack_pile an_Stack_pile : Option Addr} {sl_Stack_pile : Array (Option Value)}
    {oc_Stack_turns kV_Stack_turns dc_Stack_turns pm_Stack_turns cd_Stack_turns ct_Stack_turns : Value} {od_Stack_turns an_Stack_turns : Option Addr} {sl_Stack_turns : Array (Option Value)}
    {oc_Stack_fewest kV_Stack_fewest dc_Stack_fewest pm_Stack_fewest cd_Stack_fewest ct_Stack_fewest : Value} {od_Stack_fewest an_Stack_fewest : Option Addr} {sl_Stack_fewest : Array (Option Value)}
    {oc_law_cell_at kV_law_cell_at dc_law_cell_at pm_law_cell_at cd_law_cell_at ct_law_cell_at : Value} {od_law_cell_at an_law_cell_at : Option Addr} {sl_law_cell_at : Array (Option Value)}
    {oc_law_whole kV_law_whole dc_law_whole pm_law_whole cd_law_whole ct_law_whole : Value} {od_law_whole an_law_whole : Option Addr} {sl_law_whole : Array (Option Value)}
    {oc_law_pile kV_law_pile dc_law_pile pm_law_pile cd_law_pile ct_law_pile : Value} {od_law_pile an_law_pile : Option Addr} {sl_law_pile : Array (Option Value)}
    {oc_law_turned kV_law_turned dc_law_turned pm_law_turned cd_law_turned ct_law_turned : Value} {od_law_turned an_law_turned : Option Addr} {sl_law_turned : Array (Option Value)}
    {oc_law_which kV_law_which dc_law_which pm_law_which cd_law_which ct_law_which : Value} {od_law_which an_law_which : Option Addr} {sl_law_which : Array (Option Value)}
    {oc_law_refused kV_law_refused dc_law_refused pm_law_refused cd_law_refused ct_law_refused : Value} {od_law_refused an_law_refused : Option Addr} {sl_law_refused : Array (Option Value)}
    {oc_law_deed kV_law_deed dc_law_deed pm_law_deed cd_law_deed ct_law_deed : Value} {od_law_deed an_law_deed : Option Addr} {sl_law_deed : Array (Option Value)}
    {oc_law kV_law dc_law pm_law cd_law ct_law : Value} {od_law an_law : Option Addr} {sl_law : Array (Option Value)}
    (hx_FlipError : PySem.W.nsIn K mainGlobals "FlipError" = some (some (.ref C_FlipError)))
    (hx_NoPile : PySem.W.nsIn K mainGlobals "NoPile" = some (some (.ref C_NoPile)))
    (hx_NoTurn : PySem.W.nsIn K mainGlobals "NoTurn" = some (some (.ref C_NoTurn)))
    (hx_TooTall : PySem.W.nsIn K mainGlobals "TooTall" = some (some (.ref C_TooTall)))
    (hx_NoBack : PySem.W.nsIn K mainGlobals "NoBack" = some (some (.ref C_NoBack)))
    (hx_BadLine : PySem.W.nsIn K mainGlobals "BadLine" = some (some (.ref C_BadLine)))
    (hx_Stack : PySem.W.nsIn K mainGlobals "Stack" = some (some (.ref C_Stack)))
    (he_FlipError : PySem.W.excIn K C_FlipError vmro "ValueError.__new__" = true)
    (hk_FlipError : PySem.W.keepIn K (.ref C_FlipError) = true)
    (hg_FlipError : PySem.W.findIn K (.ref C_FlipError) "__getattribute__" = some (some (.builtin "BaseException.__getattribute__")))
    (hn_FlipError : PySem.W.findIn K (.ref C_FlipError) "__getattr__" = some none)
    (hc_FlipError : PySem.W.findIn K (.ref C_FlipError) "__class__" = some (some (.builtin "object.__class__")))
    (he_NoPile : PySem.W.excIn K C_NoPile vmro "ValueError.__new__" = true)
    (hk_NoPile : PySem.W.keepIn K (.ref C_NoPile) = true)
    (hg_NoPile : PySem.W.findIn K (.ref C_NoPile) "__getattribute__" = some (some (.builtin "BaseException.__getattribute__")))
    (hn_NoPile : PySem.W.findIn K (.ref C_NoPile) "__getattr__" = some none)
    (hc_NoPile : PySem.W.findIn K (.ref C_NoPile) "__class__" = some (some (.builtin "object.__class__")))
    (he_NoTurn : PySem.W.excIn K C_NoTurn vmro "ValueError.__new__" = true)
    (hk_NoTurn : PySem.W.keepIn K (.ref C_NoTurn) = true)
    (hg_NoTurn : PySem.W.findIn K (.ref C_NoTurn) "__getattribute__" = some (some (.builtin "BaseException.__getattribute__")))
    (hn_NoTurn : PySem.W.findIn K (.ref C_NoTurn) "__getattr__" = some none)
    (hc_NoTurn : PySem.W.findIn K (.ref C_NoTurn) "__class__" = some (some (.builtin "object.__class__")))
    (he_TooTall : PySem.W.excIn K C_TooTall vmro "ValueError.__new__" = true)
    (hk_TooTall : PySem.W.keepIn K (.ref C_TooTall) = true)
    (hg_TooTall : PySem.W.findIn K (.ref C_TooTall) "__getattribute__" = some (some (.builtin "BaseException.__getattribute__")))
    (hn_TooTall : PySem.W.findIn K (.ref C_TooTall) "__getattr__" = some none)
    (hc_TooTall : PySem.W.findIn K (.ref C_TooTall) "__class__" = some (some (.builtin "object.__class__")))
    (he_NoBack : PySem.W.excIn K C_NoBack vmro "ValueError.__new__" = true)
    (hk_NoBack : PySem.W.keepIn K (.ref C_NoBack) = true)
    (hg_NoBack : PySem.W.findIn K (.ref C_NoBack) "__getattribute__" = some (some (.builtin "BaseException.__getattribute__")))
    (hn_NoBack : PySem.W.findIn K (.ref C_NoBack) "__getattr__" = some none)
    (hc_NoBack : PySem.W.findIn K (.ref C_NoBack) "__class__" = some (some (.builtin "object.__class__")))
    (he_BadLine : PySem.W.excIn K C_BadLine vmro "ValueError.__new__" = true)
    (hk_BadLine : PySem.W.keepIn K (.ref C_BadLine) = true)
    (hg_BadLine : PySem.W.findIn K (.ref C_BadLine) "__getattribute__" = some (some (.builtin "BaseException.__getattribute__")))
    (hn_BadLine : PySem.W.findIn K (.ref C_BadLine) "__getattr__" = some none)
    (hc_BadLine : PySem.W.findIn K (.ref C_BadLine) "__class__" = some (some (.builtin "object.__class__")))
    (hu_NoPile : PySem.W.mroIn K C_NoPile (.ref C_FlipError) = some true)
    (hi_NoPile_NoPile : PySem.W.kitOne K (.ref C_NoPile) (.ref C_NoPile) = some true)
    (hi_NoPile_NoTurn : PySem.W.kitOne K (.ref C_NoPile) (.ref C_NoTurn) = some false)
    (hi_NoPile_TooTall : PySem.W.kitOne K (.ref C_NoPile) (.ref C_TooTall) = some false)
    (hi_NoPile_NoBack : PySem.W.kitOne K (.ref C_NoPile) (.ref C_NoBack) = some false)
    (hi_NoPile_BadLine : PySem.W.kitOne K (.ref C_NoPile) (.ref C_BadLine) = some false)
    (hi_NoPile_V : PySem.W.kitOne K (.ref C_NoPile) (.type "ValueError") = some true)
    (hu_NoTurn : PySem.W.mroIn K C_NoTurn (.ref C_FlipError) = some true)
    (hi_NoTurn_NoPile : PySem.W.kitOne K (.ref C_NoTurn) (.ref C_NoPile) = some false)
    (hi_NoTurn_NoTurn : PySem.W.kitOne K (.ref C_NoTurn) (.ref C_NoTurn) = some true)
    (hi_NoTurn_TooTall : PySem.W.kitOne K (.ref C_NoTurn) (.ref C_TooTall) = some false)
    (hi_NoTurn_NoBack : PySem.W.kitOne K (.ref C_NoTurn) (.ref C_NoBack) = some false)
    (hi_NoTurn_BadLine : PySem.W.kitOne K (.ref C_NoTurn) (.ref C_BadLine) = some false)
    (hi_NoTurn_V : PySem.W.kitOne K (.ref C_NoTurn) (.type "ValueError") = some true)
    (hu_TooTall : PySem.W.mroIn K C_TooTall (.ref C_FlipError) = some true)
    (hi_TooTall_NoPile : PySem.W.kitOne K (.ref C_TooTall) (.ref C_NoPile) = some false)
    (hi_TooTall_NoTurn : PySem.W.kitOne K (.ref C_TooTall) (.ref C_NoTurn) = some false)
    (hi_TooTall_TooTall : PySem.W.kitOne K (.ref C_TooTall) (.ref C_TooTall) = some true)
    (hi_TooTall_NoBack : PySem.W.kitOne K (.ref C_TooTall) (.ref C_NoBack) = some false)
    (hi_TooTall_BadLine : PySem.W.kitOne K (.ref C_TooTall) (.ref C_BadLine) = some false)
    (hi_TooTall_V : PySem.W.kitOne K (.ref C_TooTall) (.type "ValueError") = some true)
    (hu_NoBack : PySem.W.mroIn K C_NoBack (.ref C_FlipError) = some true)
    (hi_NoBack_NoPile : PySem.W.kitOne K (.ref C_NoBack) (.ref C_NoPile) = some false)
    (hi_NoBack_NoTurn : PySem.W.kitOne K (.ref C_NoBack) (.ref C_NoTurn) = some false)
    (hi_NoBack_TooTall : PySem.W.kitOne K (.ref C_NoBack) (.ref C_TooTall) = some false)
    (hi_NoBack_NoBack : PySem.W.kitOne K (.ref C_NoBack) (.ref C_NoBack) = some true)
    (hi_NoBack_BadLine : PySem.W.kitOne K (.ref C_NoBack) (.ref C_BadLine) = some false)
    (hi_NoBack_V : PySem.W.kitOne K (.ref C_NoBack) (.type "ValueError") = some true)
    (hu_BadLine : PySem.W.mroIn K C_BadLine (.ref C_FlipError) = some true)
    (hi_BadLine_NoPile : PySem.W.kitOne K (.ref C_BadLine) (.ref C_NoPile) = some false)
    (hi_BadLine_NoTurn : PySem.W.kitOne K (.ref C_BadLine) (.ref C_NoTurn) = some false)
    (hi_BadLine_TooTall : PySem.W.kitOne K (.ref C_BadLine) (.ref C_TooTall) = some false)
    (hi_BadLine_NoBack : PySem.W.kitOne K (.ref C_BadLine) (.ref C_NoBack) = some false)
    (hi_BadLine_BadLine : PySem.W.kitOne K (.ref C_BadLine) (.ref C_BadLine) = some true)
    (hi_BadLine_V : PySem.W.kitOne K (.ref C_BadLine) (.type "ValueError") = some true)
    (pg_Stack : PySem.W.plainGet K C_Stack Str.empty = true)
    (hd_Stack : PySem.W.hasDictIn K C_Stack = true)
    (po_Stack : PySem.W.plainOver K C_Stack = true)
    (sa_Stack : PySem.W.findIn K (.ref C_Stack) "__setattr__" = some (some (.builtin "object.__setattr__")))
    (na_cakes : PySem.W.findIn K (.ref C_Stack) "cakes" = some none)
    (na_done : PySem.W.findIn K (.ref C_Stack) "done" = some none)
    (a_check_pile : PySem.W.nsIn K mainGlobals "check_pile" = some (some (.ref f_check_pile)))
    (l_check_pile : K.lookup f_check_pile = some ⟨oc_check_pile, od_check_pile, .func (PySem.W.fnOf "check_pile" "check_pile" (defArgs s_check_pile) (defBody s_check_pile) (defScope s_check_pile) .none kV_check_pile dc_check_pile pm_check_pile an_check_pile cd_check_pile ct_check_pile), sl_check_pile⟩)
    (q_check_pile : PySem.W.codeIn K cd_check_pile "check_pile" = true)
    (k_check_pile : PySem.W.keepIn K (.ref f_check_pile) = true)
    (a_without_signs : PySem.W.nsIn K mainGlobals "without_signs" = some (some (.ref f_without_signs)))
    (l_without_signs : K.lookup f_without_signs = some ⟨oc_without_signs, od_without_signs, .func (PySem.W.fnOf "without_signs" "without_signs" (defArgs s_without_signs) (defBody s_without_signs) (defScope s_without_signs) .none kV_without_signs dc_without_signs pm_without_signs an_without_signs cd_without_signs ct_without_signs), sl_without_signs⟩)
    (q_without_signs : PySem.W.codeIn K cd_without_signs "without_signs" = true)
    (k_without_signs : PySem.W.keepIn K (.ref f_without_signs) = true)
    (a_check_turns : PySem.W.nsIn K mainGlobals "check_turns" = some (some (.ref f_check_turns)))
    (l_check_turns : K.lookup f_check_turns = some ⟨oc_check_turns, od_check_turns, .func (PySem.W.fnOf "check_turns" "check_turns" (defArgs s_check_turns) (defBody s_check_turns) (defScope s_check_turns) .none kV_check_turns dc_check_turns pm_check_turns an_check_turns cd_check_turns ct_check_turns), sl_check_turns⟩)
    (q_check_turns : PySem.W.codeIn K cd_check_turns "check_turns" = true)
    (k_check_turns : PySem.W.keepIn K (.ref f_check_turns) = true)
    (a_turned : PySem.W.nsIn K mainGlobals "turned" = some (some (.ref f_turned)))
    (l_turned : K.lookup f_turned = some ⟨oc_turned, od_turned, .func (PySem.W.fnOf "turned" "turned" (defArgs s_turned) (defBody s_turned) (defScope s_turned) .none kV_turned dc_turned pm_turned an_turned cd_turned ct_turned), sl_turned⟩)
    (q_turned : PySem.W.codeIn K cd_turned "turned" = true)
    (k_turned : PySem.W.keepIn K (.ref f_turned) = true)
    (a_pile_after : PySem.W.nsIn K mainGlobals "pile_after" = some (some (.ref f_pile_after)))
    (l_pile_after : K.lookup f_pile_after = some ⟨oc_pile_after, od_pile_after, .func (PySem.W.fnOf "pile_after" "pile_after" (defArgs s_pile_after) (defBody s_pile_after) (defScope s_pile_after) .none kV_pile_after dc_pile_after pm_pile_after an_pile_after cd_pile_after ct_pile_after), sl_pile_after⟩)
    (q_pile_after : PySem.W.codeIn K cd_pile_after "pile_after" = true)
    (k_pile_after : PySem.W.keepIn K (.ref f_pile_after) = true)
    (a_what_lies_below : PySem.W.nsIn K mainGlobals "what_lies_below" = some (some (.ref f_what_lies_below)))
    (l_what_lies_below : K.lookup f_what_lies_below = some ⟨oc_what_lies_below, od_what_lies_below, .func (PySem.W.fnOf "what_lies_below" "what_lies_below" (defArgs s_what_lies_below) (defBody s_what_lies_below) (defScope s_what_lies_below) .none kV_what_lies_below dc_what_lies_below pm_what_lies_below an_what_lies_below cd_what_lies_below ct_what_lies_below), sl_what_lies_below⟩)
    (q_what_lies_below : PySem.W.codeIn K cd_what_lies_below "what_lies_below" = true)
    (k_what_lies_below : PySem.W.keepIn K (.ref f_what_lies_below) = true)
    (a_is_gap : PySem.W.nsIn K mainGlobals "is_gap" = some (some (.ref f_is_gap)))
    (l_is_gap : K.lookup f_is_gap = some ⟨oc_is_gap, od_is_gap, .func (PySem.W.fnOf "is_gap" "is_gap" (defArgs s_is_gap) (defBody s_is_gap) (defScope s_is_gap) .none kV_is_gap dc_is_gap pm_is_gap an_is_gap cd_is_gap ct_is_gap), sl_is_gap⟩)
    (q_is_gap : PySem.W.codeIn K cd_is_gap "is_gap" = true)
    (k_is_gap : PySem.W.keepIn K (.ref f_is_gap) = true)
    (a_count_gaps : PySem.W.nsIn K mainGlobals "count_gaps" = some (some (.ref f_count_gaps)))
    (l_count_gaps : K.lookup f_count_gaps = some ⟨oc_count_gaps, od_count_gaps, .func (PySem.W.fnOf "count_gaps" "count_gaps" (defArgs s_count_gaps) (defBody s_count_gaps) (defScope s_count_gaps) .none kV_count_gaps dc_count_gaps pm_count_gaps an_count_gaps cd_count_gaps ct_count_gaps), sl_count_gaps⟩)
    (q_count_gaps : PySem.W.codeIn K cd_count_gaps "count_gaps" = true)
    (k_count_gaps : PySem.W.keepIn K (.ref f_count_gaps) = true)
    (a_turns_for_cake : PySem.W.nsIn K mainGlobals "turns_for_cake" = some (some (.ref f_turns_for_cake)))
    (l_turns_for_cake : K.lookup f_turns_for_cake = some ⟨oc_turns_for_cake, od_turns_for_cake, .func (PySem.W.fnOf "turns_for_cake" "turns_for_cake" (defArgs s_turns_for_cake) (defBody s_turns_for_cake) (defScope s_turns_for_cake) .none kV_turns_for_cake dc_turns_for_cake pm_turns_for_cake an_turns_for_cake cd_turns_for_cake ct_turns_for_cake), sl_turns_for_cake⟩)
    (q_turns_for_cake : PySem.W.codeIn K cd_turns_for_cake "turns_for_cake" = true)
    (k_turns_for_cake : PySem.W.keepIn K (.ref f_turns_for_cake) = true)
    (a_rule_plan : PySem.W.nsIn K mainGlobals "rule_plan" = some (some (.ref f_rule_plan)))
    (l_rule_plan : K.lookup f_rule_plan = some ⟨oc_rule_plan, od_rule_plan, .func (PySem.W.fnOf "rule_plan" "rule_plan" (defArgs s_rule_plan) (defBody s_rule_plan) (defScope s_rule_plan) .none kV_rule_plan dc_rule_plan pm_rule_plan an_rule_plan cd_rule_plan ct_rule_plan), sl_rule_plan⟩)
    (q_rule_plan : PySem.W.codeIn K cd_rule_plan "rule_plan" = true)
    (k_rule_plan : PySem.W.keepIn K (.ref f_rule_plan) = true)
    (a_check_height : PySem.W.nsIn K mainGlobals "check_height" = some (some (.ref f_check_height)))
    (l_check_height : K.lookup f_check_height = some ⟨oc_check_height, od_check_height, .func (PySem.W.fnOf "check_height" "check_height" (defArgs s_check_height) (defBody s_check_height) (defScope s_check_height) .none kV_check_height dc_check_height pm_check_height an_check_height cd_check_height ct_check_height), sl_check_height⟩)
    (q_check_height : PySem.W.codeIn K cd_check_height "check_height" = true)
    (k_check_height : PySem.W.keepIn K (.ref f_check_height) = true)
    (a_plan_within : PySem.W.nsIn K mainGlobals "plan_within" = some (some (.ref f_plan_within)))
    (l_plan_within : K.lookup f_plan_within = some ⟨oc_plan_within, od_plan_within, .func (PySem.W.fnOf "plan_within" "plan_within" (defArgs s_plan_within) (defBody s_plan_within) (defScope s_plan_within) .none kV_plan_within dc_plan_within pm_plan_within an_plan_within cd_plan_within ct_plan_within), sl_plan_within⟩)
    (q_plan_within : PySem.W.codeIn K cd_plan_within "plan_within" = true)
    (k_plan_within : PySem.W.keepIn K (.ref f_plan_within) = true)
    (a_fewest_plan : PySem.W.nsIn K mainGlobals "fewest_plan" = some (some (.ref f_fewest_plan)))
    (l_fewest_plan : K.lookup f_fewest_plan = some ⟨oc_fewest_plan, od_fewest_plan, .func (PySem.W.fnOf "fewest_plan" "fewest_plan" (defArgs s_fewest_plan) (defBody s_fewest_plan) (defScope s_fewest_plan) .none kV_fewest_plan dc_fewest_plan pm_fewest_plan an_fewest_plan cd_fewest_plan ct_fewest_plan), sl_fewest_plan⟩)
    (q_fewest_plan : PySem.W.codeIn K cd_fewest_plan "fewest_plan" = true)
    (k_fewest_plan : PySem.W.keepIn K (.ref f_fewest_plan) = true)
    (a_fewest : PySem.W.nsIn K mainGlobals "fewest" = some (some (.ref f_fewest)))
    (l_fewest : K.lookup f_fewest = some ⟨oc_fewest, od_fewest, .func (PySem.W.fnOf "fewest" "fewest" (defArgs s_fewest) (defBody s_fewest) (defScope s_fewest) .none kV_fewest dc_fewest pm_fewest an_fewest cd_fewest ct_fewest), sl_fewest⟩)
    (q_fewest : PySem.W.codeIn K cd_fewest "fewest" = true)
    (k_fewest : PySem.W.keepIn K (.ref f_fewest) = true)
    (a_Stack___init__ : PySem.W.findIn K (.ref C_Stack) "__init__" = some (some (.ref f_Stack___init__)))
    (i_Stack___init__ : PySem.W.isFn K (.ref f_Stack___init__) = true)
    (l_Stack___init__ : K.lookup f_Stack___init__ = some ⟨oc_Stack___init__, od_Stack___init__, .func (PySem.W.fnOf "__init__" "Stack.__init__" (defArgs s_Stack___init__) (defBody s_Stack___init__) (defScope s_Stack___init__) .none kV_Stack___init__ dc_Stack___init__ pm_Stack___init__ an_Stack___init__ cd_Stack___init__ ct_Stack___init__), sl_Stack___init__⟩)
    (q_Stack___init__ : PySem.W.codeIn K cd_Stack___init__ "Stack.__init__" = true)
    (k_Stack___init__ : PySem.W.keepIn K (.ref f_Stack___init__) = true)
    (mk_Stack : PySem.W.makesIn K C_Stack = true)
    (kc_Stack : PySem.W.keepIn K (.ref C_Stack) = true)
    (a_Stack_turn : PySem.W.findIn K (.ref C_Stack) "turn" = some (some (.ref f_Stack_turn)))
    (i_Stack_turn : PySem.W.isFn K (.ref f_Stack_turn) = true)
    (l_Stack_turn : K.lookup f_Stack_turn = some ⟨oc_Stack_turn, od_Stack_turn, .func (PySem.W.fnOf "turn" "Stack.turn" (defArgs s_Stack_turn) (defBody s_Stack_turn) (defScope s_Stack_turn) .none kV_Stack_turn dc_Stack_turn pm_Stack_turn an_Stack_turn cd_Stack_turn ct_Stack_turn), sl_Stack_turn⟩)
    (q_Stack_turn : PySem.W.codeIn K cd_Stack_turn "Stack.turn" = true)
    (k_Stack_turn : PySem.W.keepIn K (.ref f_Stack_turn) = true)
    (a_Stack_back : PySem.W.findIn K (.ref C_Stack) "back" = some (some (.ref f_Stack_back)))
    (i_Stack_back : PySem.W.isFn K (.ref f_Stack_back) = true)
    (l_Stack_back : K.lookup f_Stack_back = some ⟨oc_Stack_back, od_Stack_back, .func (PySem.W.fnOf "back" "Stack.back" (defArgs s_Stack_back) (defBody s_Stack_back) (defScope s_Stack_back) .none kV_Stack_back dc_Stack_back pm_Stack_back an_Stack_back cd_Stack_back ct_Stack_back), sl_Stack_back⟩)
    (q_Stack_back : PySem.W.codeIn K cd_Stack_back "Stack.back" = true)
    (k_Stack_back : PySem.W.keepIn K (.ref f_Stack_back) = true)
    (a_Stack_pile : PySem.W.findIn K (.ref C_Stack) "pile" = some (some (.ref f_Stack_pile)))
    (i_Stack_pile : PySem.W.isFn K (.ref f_Stack_pile) = true)
    (l_Stack_pile : K.lookup f_Stack_pile = some ⟨oc_Stack_pile, od_Stack_pile, .func (PySem.W.fnOf "pile" "Stack.pile" (defArgs s_Stack_pile) (defBody s_Stack_pile) (defScope s_Stack_pile) .none kV_Stack_pile dc_Stack_pile pm_Stack_pile an_Stack_pile cd_Stack_pile ct_Stack_pile), sl_Stack_pile⟩)
    (q_Stack_pile : PySem.W.codeIn K cd_Stack_pile "Stack.pile" = true)
    (k_Stack_pile : PySem.W.keepIn K (.ref f_Stack_pile) = true)
    (a_Stack_turns : PySem.W.findIn K (.ref C_Stack) "turns" = some (some (.ref f_Stack_turns)))
    (i_Stack_turns : PySem.W.isFn K (.ref f_Stack_turns) = true)
    (l_Stack_turns : K.lookup f_Stack_turns = some ⟨oc_Stack_turns, od_Stack_turns, .func (PySem.W.fnOf "turns" "Stack.turns" (defArgs s_Stack_turns) (defBody s_Stack_turns) (defScope s_Stack_turns) .none kV_Stack_turns dc_Stack_turns pm_Stack_turns an_Stack_turns cd_Stack_turns ct_Stack_turns), sl_Stack_turns⟩)
    (q_Stack_turns : PySem.W.codeIn K cd_Stack_turns "Stack.turns" = true)
    (k_Stack_turns : PySem.W.keepIn K (.ref f_Stack_turns) = true)
    (a_Stack_fewest : PySem.W.findIn K (.ref C_Stack) "fewest" = some (some (.ref f_Stack_fewest)))
    (i_Stack_fewest : PySem.W.isFn K (.ref f_Stack_fewest) = true)
    (l_Stack_fewest : K.lookup f_Stack_fewest = some ⟨oc_Stack_fewest, od_Stack_fewest, .func (PySem.W.fnOf "fewest" "Stack.fewest" (defArgs s_Stack_fewest) (defBody s_Stack_fewest) (defScope s_Stack_fewest) .none kV_Stack_fewest dc_Stack_fewest pm_Stack_fewest an_Stack_fewest cd_Stack_fewest ct_Stack_fewest), sl_Stack_fewest⟩)
    (q_Stack_fewest : PySem.W.codeIn K cd_Stack_fewest "Stack.fewest" = true)
    (k_Stack_fewest : PySem.W.keepIn K (.ref f_Stack_fewest) = true)
    (a_law_cell_at : PySem.W.nsIn K mainGlobals "_law_cell_at" = some (some (.ref f_law_cell_at)))
    (l_law_cell_at : K.lookup f_law_cell_at = some ⟨oc_law_cell_at, od_law_cell_at, .func (PySem.W.fnOf "_law_cell_at" "_law_cell_at" (defArgs s_law_cell_at) (defBody s_law_cell_at) (defScope s_law_cell_at) .none kV_law_cell_at dc_law_cell_at pm_law_cell_at an_law_cell_at cd_law_cell_at ct_law_cell_at), sl_law_cell_at⟩)
    (q_law_cell_at : PySem.W.codeIn K cd_law_cell_at "_law_cell_at" = true)
    (k_law_cell_at : PySem.W.keepIn K (.ref f_law_cell_at) = true)
    (a_law_whole : PySem.W.nsIn K mainGlobals "_law_whole" = some (some (.ref f_law_whole)))
    (l_law_whole : K.lookup f_law_whole = some ⟨oc_law_whole, od_law_whole, .func (PySem.W.fnOf "_law_whole" "_law_whole" (defArgs s_law_whole) (defBody s_law_whole) (defScope s_law_whole) .none kV_law_whole dc_law_whole pm_law_whole an_law_whole cd_law_whole ct_law_whole), sl_law_whole⟩)
    (q_law_whole : PySem.W.codeIn K cd_law_whole "_law_whole" = true)
    (k_law_whole : PySem.W.keepIn K (.ref f_law_whole) = true)
    (a_law_pile : PySem.W.nsIn K mainGlobals "_law_pile" = some (some (.ref f_law_pile)))
    (l_law_pile : K.lookup f_law_pile = some ⟨oc_law_pile, od_law_pile, .func (PySem.W.fnOf "_law_pile" "_law_pile" (defArgs s_law_pile) (defBody s_law_pile) (defScope s_law_pile) .none kV_law_pile dc_law_pile pm_law_pile an_law_pile cd_law_pile ct_law_pile), sl_law_pile⟩)
    (q_law_pile : PySem.W.codeIn K cd_law_pile "_law_pile" = true)
    (k_law_pile : PySem.W.keepIn K (.ref f_law_pile) = true)
    (a_law_turned : PySem.W.nsIn K mainGlobals "_law_turned" = some (some (.ref f_law_turned)))
    (l_law_turned : K.lookup f_law_turned = some ⟨oc_law_turned, od_law_turned, .func (PySem.W.fnOf "_law_turned" "_law_turned" (defArgs s_law_turned) (defBody s_law_turned) (defScope s_law_turned) .none kV_law_turned dc_law_turned pm_law_turned an_law_turned cd_law_turned ct_law_turned), sl_law_turned⟩)
    (q_law_turned : PySem.W.codeIn K cd_law_turned "_law_turned" = true)
    (k_law_turned : PySem.W.keepIn K (.ref f_law_turned) = true)
    (a_law_which : PySem.W.nsIn K mainGlobals "_law_which" = some (some (.ref f_law_which)))
    (l_law_which : K.lookup f_law_which = some ⟨oc_law_which, od_law_which, .func (PySem.W.fnOf "_law_which" "_law_which" (defArgs s_law_which) (defBody s_law_which) (defScope s_law_which) .none kV_law_which dc_law_which pm_law_which an_law_which cd_law_which ct_law_which), sl_law_which⟩)
    (q_law_which : PySem.W.codeIn K cd_law_which "_law_which" = true)
    (k_law_which : PySem.W.keepIn K (.ref f_law_which) = true)
    (a_law_refused : PySem.W.nsIn K mainGlobals "_law_refused" = some (some (.ref f_law_refused)))
    (l_law_refused : K.lookup f_law_refused = some ⟨oc_law_refused, od_law_refused, .func (PySem.W.fnOf "_law_refused" "_law_refused" (defArgs s_law_refused) (defBody s_law_refused) (defScope s_law_refused) .none kV_law_refused dc_law_refused pm_law_refused an_law_refused cd_law_refused ct_law_refused), sl_law_refused⟩)
    (q_law_refused : PySem.W.codeIn K cd_law_refused "_law_refused" = true)
    (k_law_refused : PySem.W.keepIn K (.ref f_law_refused) = true)
    (a_law_deed : PySem.W.nsIn K mainGlobals "_law_deed" = some (some (.ref f_law_deed)))
    (l_law_deed : K.lookup f_law_deed = some ⟨oc_law_deed, od_law_deed, .func (PySem.W.fnOf "_law_deed" "_law_deed" (defArgs s_law_deed) (defBody s_law_deed) (defScope s_law_deed) .none kV_law_deed dc_law_deed pm_law_deed an_law_deed cd_law_deed ct_law_deed), sl_law_deed⟩)
    (q_law_deed : PySem.W.codeIn K cd_law_deed "_law_deed" = true)
    (k_law_deed : PySem.W.keepIn K (.ref f_law_deed) = true)
    (a_law : PySem.W.nsIn K mainGlobals "law" = some (some (.ref f_law)))
    (l_law : K.lookup f_law = some ⟨oc_law, od_law, .func (PySem.W.fnOf "law" "law" (defArgs s_law) (defBody s_law) (defScope s_law) .none kV_law dc_law pm_law an_law cd_law ct_law), sl_law⟩)
    (q_law : PySem.W.codeIn K cd_law "law" = true)
    (k_law : PySem.W.keepIn K (.ref f_law) = true)
    (al_fewest_fewest : PySem.W.nsIn K mainGlobals "fewest_fewest" = some (some (.ref f_fewest)))
    (hz_ValueError : PySem.W.nsIn K mainGlobals "ValueError" = some none)
    (hz_abs : PySem.W.nsIn K mainGlobals "abs" = some none)
    (hz_bool : PySem.W.nsIn K mainGlobals "bool" = some none)
    (hz_int : PySem.W.nsIn K mainGlobals "int" = some none)
    (hz_isinstance : PySem.W.nsIn K mainGlobals "isinstance" = some none)
    (hz_len : PySem.W.nsIn K mainGlobals "len" = some none)
    (hz_list : PySem.W.nsIn K mainGlobals "list" = some none)
    (hz_range : PySem.W.nsIn K mainGlobals "range" = some none)
    (hz_reversed : PySem.W.nsIn K mainGlobals "reversed" = some none)
    (hz_sorted : PySem.W.nsIn K mainGlobals "sorted" = some none)
    (hz_zip : PySem.W.nsIn K mainGlobals "zip" = some none)
    {tk_MOST_CAKES : Tok} 
    (hg_c_MOST_CAKES : PySem.W.nsIn K mainGlobals "MOST_CAKES" = some (some (.int 12 tk_MOST_CAKES)))
    {tk_MOST_PLAIN_CAKES : Tok} 
    (hg_c_MOST_PLAIN_CAKES : PySem.W.nsIn K mainGlobals "MOST_PLAIN_CAKES" = some (some (.int 7 tk_MOST_PLAIN_CAKES))) :
    ∃ fd : FuncData, (∀ (s : Shared) (v : Value), BindsTo s fd ⟨[v], []⟩ [("script", v)]) ∧ ∀ base : Heap, K.In base → base.Ns mainGlobals mg → FnOk l.prog w K mg base CX0 22 fa fd ["script"] (spLaw K) := by
  have e := hfa.symm.trans (PySem.W.mg_of X G a_law)
  cases e
  have T : Txt K mg ⟨C_FlipError, C_NoPile, C_NoTurn, C_TooTall, C_NoBack, C_BadLine, C_Stack, f_check_pile, _, f_without_signs, _, f_check_turns, _, f_turned, _, f_pile_after, _, f_what_lies_below, _, f_is_gap, _, f_count_gaps, _, f_turns_for_cake, _, f_rule_plan, _, f_check_height, _, f_plan_within, _, f_fewest_plan, _, f_fewest, _, f_Stack___init__, _, f_Stack_turn, _, f_Stack_back, _, f_Stack_pile, _, f_Stack_turns, _, f_Stack_fewest, _, f_law_cell_at, _, f_law_whole, _, f_law_pile, _, f_law_turned, _, f_law_which, _, f_law_refused, _, f_law_deed, _, fa, _⟩ := ⟨PySem.W.mg_of X G hx_FlipError, PySem.W.mg_of X G hx_NoPile, PySem.W.mg_of X G hx_NoTurn, PySem.W.mg_of X G hx_TooTall, PySem.W.mg_of X G hx_NoBack, PySem.W.mg_of X G hx_BadLine, PySem.W.mg_of X G hx_Stack, ⟨⟨he_FlipError, hk_FlipError⟩, hg_FlipError, hn_FlipError, hc_FlipError⟩, ⟨⟨he_NoPile, hk_NoPile⟩, hg_NoPile, hn_NoPile, hc_NoPile⟩, ⟨⟨he_NoTurn, hk_NoTurn⟩, hg_NoTurn, hn_NoTurn, hc_NoTurn⟩, ⟨⟨he_TooTall, hk_TooTall⟩, hg_TooTall, hn_TooTall, hc_TooTall⟩, ⟨⟨he_NoBack, hk_NoBack⟩, hg_NoBack, hn_NoBack, hc_NoBack⟩, ⟨⟨he_BadLine, hk_BadLine⟩, hg_BadLine, hn_BadLine, hc_BadLine⟩, hu_NoPile, hi_NoPile_NoPile, hi_NoPile_NoTurn, hi_NoPile_TooTall, hi_NoPile_NoBack, hi_NoPile_BadLine, hi_NoPile_V, hu_NoTurn, hi_NoTurn_NoPile, hi_NoTurn_NoTurn, hi_NoTurn_TooTall, hi_NoTurn_NoBack, hi_NoTurn_BadLine, hi_NoTurn_V, hu_TooTall, hi_TooTall_NoPile, hi_TooTall_NoTurn, hi_TooTall_TooTall, hi_TooTall_NoBack, hi_TooTall_BadLine, hi_TooTall_V, hu_NoBack, hi_NoBack_NoPile, hi_NoBack_NoTurn, hi_NoBack_TooTall, hi_NoBack_NoBack, hi_NoBack_BadLine, hi_NoBack_V, hu_BadLine, hi_BadLine_NoPile, hi_BadLine_NoTurn, hi_BadLine_TooTall, hi_BadLine_NoBack, hi_BadLine_BadLine, hi_BadLine_V, ⟨pg_Stack, hd_Stack, po_Stack, sa_Stack⟩, na_cakes, na_done, fun_mk (st := s_check_pile) l_check_pile q_check_pile k_check_pile, PySem.W.mg_of X G a_check_pile, fun_mk (st := s_without_signs) l_without_signs q_without_signs k_without_signs, PySem.W.mg_of X G a_without_signs, fun_mk (st := s_check_turns) l_check_turns q_check_turns k_check_turns, PySem.W.mg_of X G a_check_turns, fun_mk (st := s_turned) l_turned q_turned k_turned, PySem.W.mg_of X G a_turned, fun_mk (st := s_pile_after) l_pile_after q_pile_after k_pile_after, PySem.W.mg_of X G a_pile_after, fun_mk (st := s_what_lies_below) l_what_lies_below q_what_lies_below k_what_lies_below, PySem.W.mg_of X G a_what_lies_below, fun_mk (st := s_is_gap) l_is_gap q_is_gap k_is_gap, PySem.W.mg_of X G a_is_gap, fun_mk (st := s_count_gaps) l_count_gaps q_count_gaps k_count_gaps, PySem.W.mg_of X G a_count_gaps, fun_mk (st := s_turns_for_cake) l_turns_for_cake q_turns_for_cake k_turns_for_cake, PySem.W.mg_of X G a_turns_for_cake, fun_mk (st := s_rule_plan) l_rule_plan q_rule_plan k_rule_plan, PySem.W.mg_of X G a_rule_plan, fun_mk (st := s_check_height) l_check_height q_check_height k_check_height, PySem.W.mg_of X G a_check_height, fun_mk (st := s_plan_within) l_plan_within q_plan_within k_plan_within, PySem.W.mg_of X G a_plan_within, fun_mk (st := s_fewest_plan) l_fewest_plan q_fewest_plan k_fewest_plan, PySem.W.mg_of X G a_fewest_plan, fun_mk (st := s_fewest) l_fewest q_fewest k_fewest, PySem.W.mg_of X G a_fewest, fun_mk (st := s_Stack___init__) l_Stack___init__ q_Stack___init__ k_Stack___init__, ⟨mk_Stack, a_Stack___init__, i_Stack___init__, kc_Stack⟩, fun_mk (st := s_Stack_turn) l_Stack_turn q_Stack_turn k_Stack_turn, ⟨a_Stack_turn, i_Stack_turn, k_Stack_turn⟩, fun_mk (st := s_Stack_back) l_Stack_back q_Stack_back k_Stack_back, ⟨a_Stack_back, i_Stack_back, k_Stack_back⟩, fun_mk (st := s_Stack_pile) l_Stack_pile q_Stack_pile k_Stack_pile, ⟨a_Stack_pile, i_Stack_pile, k_Stack_pile⟩, fun_mk (st := s_Stack_turns) l_Stack_turns q_Stack_turns k_Stack_turns, ⟨a_Stack_turns, i_Stack_turns, k_Stack_turns⟩, fun_mk (st := s_Stack_fewest) l_Stack_fewest q_Stack_fewest k_Stack_fewest, ⟨a_Stack_fewest, i_Stack_fewest, k_Stack_fewest⟩, fun_mk (st := s_law_cell_at) l_law_cell_at q_law_cell_at k_law_cell_at, PySem.W.mg_of X G a_law_cell_at, fun_mk (st := s_law_whole) l_law_whole q_law_whole k_law_whole, PySem.W.mg_of X G a_law_whole, fun_mk (st := s_law_pile) l_law_pile q_law_pile k_law_pile, PySem.W.mg_of X G a_law_pile, fun_mk (st := s_law_turned) l_law_turned q_law_turned k_law_turned, PySem.W.mg_of X G a_law_turned, fun_mk (st := s_law_which) l_law_which q_law_which k_law_which, PySem.W.mg_of X G a_law_which, fun_mk (st := s_law_refused) l_law_refused q_law_refused k_law_refused, PySem.W.mg_of X G a_law_refused, fun_mk (st := s_law_deed) l_law_deed q_law_deed k_law_deed, PySem.W.mg_of X G a_law_deed, fun_mk (st := s_law) l_law q_law k_law, PySem.W.mg_of X G a_law, PySem.W.mg_of X G al_fewest_fewest, PySem.W.mg_none_of X G hz_ValueError, PySem.W.mg_none_of X G hz_abs, PySem.W.mg_none_of X G hz_bool, PySem.W.mg_none_of X G hz_int, PySem.W.mg_none_of X G hz_isinstance, PySem.W.mg_none_of X G hz_len, PySem.W.mg_none_of X G hz_list, PySem.W.mg_none_of X G hz_range, PySem.W.mg_none_of X G hz_reversed, PySem.W.mg_none_of X G hz_sorted, PySem.W.mg_none_of X G hz_zip, ⟨_, PySem.W.mg_of X G hg_c_MOST_CAKES⟩, ⟨_, PySem.W.mg_of X G hg_c_MOST_PLAIN_CAKES⟩⟩
  exact ⟨_, fun s v => .of_eq rfl, fun base _ _ => ok_law T⟩
theorem walk {l : PySem.W.OpenLaw} {q : Program} {loose : List Str} {XP : (Str → Option Value) → Heap → Prop} {YP : World → Heap → Prop} {d : DefRec} {K : Params → PySem.W.Frag} (hn : l.most = some 63) (hdf : d.params.defaults = [])
    (hY : ∀ (w : World) (h : Heap), YP w h → (K w.params).In h)
    (F : ∀ (w : World) (mg : Str → Option Value) (fa : Addr) (h : Heap), (K w.params).In h → h.Ns mainGlobals mg → mg d.name = some (.ref fa) →
      ∃ fd : FuncData, (∀ (s : Shared) (u : Value), BindsTo s fd ⟨[u], []⟩ [("script", u)]) ∧ ∀ base : Heap, (K w.params).In base → base.Ns mainGlobals mg → FnOk l.prog w (K w.params) mg base CX0 22 fa fd ["script"] (spLaw (K w.params))) :
    PySem.W.WalkO q loose XP YP l.row.toRowW d [] (fun f vs => PySem.call f vs) :=
  L2.walk_of (n := 63) (k := 22) (x := "script") (CX := fun _ => CX0) (sp := fun w => spLaw (K w.params)) hn (by decide) hdf ⟨rfl, by decide, by decide⟩ hY F (fun _ _ a ns hl _ hS => ⟨a, ns, rfl, hS, hl, fun _ => rfl⟩) fun _ _ _ _ _ z => z
end Fl
open PySem PySem.W PyProof.Rows
set_option maxRecDepth 100000 in
set_option maxHeartbeats 0 in
theorem PySem.Challenge.cw_flipstack_k12_whole_stack_holds : PySem.Challenge.rw_flipstack_k12_whole_stack.Holds := by
  w_on; o_law; k_head; (case hw => w_witness2)
  k_fill
  refine Fl.walk (l := PySem.Challenge.rw_flipstack_k12_whole_stack) rfl rfl (fun w h Y => PySem.W.kIn_of Y) ?F
  case F =>
    intro w mg fa h KX G hmg
    refine' Fl.all_mk KX G hmg ?hx_FlipError ?hx_NoPile ?hx_NoTurn ?hx_TooTall ?hx_NoBack ?hx_BadLine ?hx_Stack ?he_FlipError ?hk_FlipError ?hg_FlipError ?hn_FlipError ?hc_FlipError ?he_NoPile ?hk_NoPile ?hg_NoPile ?hn_NoPile ?hc_NoPile ?he_NoTurn ?hk_NoTurn ?hg_NoTurn ?hn_NoTurn ?hc_NoTurn ?he_TooTall ?hk_TooTall ?hg_TooTall ?hn_TooTall ?hc_TooTall ?he_NoBack ?hk_NoBack ?hg_NoBack ?hn_NoBack ?hc_NoBack ?he_BadLine ?hk_BadLine ?hg_BadLine ?hn_BadLine ?hc_BadLine ?hu_NoPile ?hi_NoPile_NoPile ?hi_NoPile_NoTurn ?hi_NoPile_TooTall ?hi_NoPile_NoBack ?hi_NoPile_BadLine ?hi_NoPile_V ?hu_NoTurn ?hi_NoTurn_NoPile ?hi_NoTurn_NoTurn ?hi_NoTurn_TooTall ?hi_NoTurn_NoBack ?hi_NoTurn_BadLine ?hi_NoTurn_V ?hu_TooTall ?hi_TooTall_NoPile ?hi_TooTall_NoTurn ?hi_TooTall_TooTall ?hi_TooTall_NoBack ?hi_TooTall_BadLine ?hi_TooTall_V ?hu_NoBack ?hi_NoBack_NoPile ?hi_NoBack_NoTurn ?hi_NoBack_TooTall ?hi_NoBack_NoBack ?hi_NoBack_BadLine ?hi_NoBack_V ?hu_BadLine ?hi_BadLine_NoPile ?hi_BadLine_NoTurn ?hi_BadLine_TooTall ?hi_BadLine_NoBack ?hi_BadLine_BadLine ?hi_BadLine_V ?pg_Stack ?hd_Stack ?po_Stack ?sa_Stack ?na_cakes ?na_done ?a_check_pile ?l_check_pile ?q_check_pile ?k_check_pile ?a_without_signs ?l_without_signs ?q_without_signs ?k_without_signs ?a_check_turns ?l_check_turns ?q_check_turns ?k_check_turns ?a_turned ?l_turned ?q_turned ?k_turned ?a_pile_after ?l_pile_after ?q_pile_after ?k_pile_after ?a_what_lies_below ?l_what_lies_below ?q_what_lies_below ?k_what_lies_below ?a_is_gap ?l_is_gap ?q_is_gap ?k_is_gap ?a_count_gaps ?l_count_gaps ?q_count_gaps ?k_count_gaps ?a_turns_for_cake ?l_turns_for_cake ?q_turns_for_cake ?k_turns_for_cake ?a_rule_plan ?l_rule_plan ?q_rule_plan ?k_rule_plan ?a_check_height ?l_check_height ?q_check_height ?k_check_height ?a_plan_within ?l_plan_within ?q_plan_within ?k_plan_within ?a_fewest_plan ?l_fewest_plan ?q_fewest_plan ?k_fewest_plan ?a_fewest ?l_fewest ?q_fewest ?k_fewest ?a_Stack___init__ ?i_Stack___init__ ?l_Stack___init__ ?q_Stack___init__ ?k_Stack___init__ ?mk_Stack ?kc_Stack ?a_Stack_turn ?i_Stack_turn ?l_Stack_turn ?q_Stack_turn ?k_Stack_turn ?a_Stack_back ?i_Stack_back ?l_Stack_back ?q_Stack_back ?k_Stack_back ?a_Stack_pile ?i_Stack_pile ?l_Stack_pile ?q_Stack_pile ?k_Stack_pile ?a_Stack_turns ?i_Stack_turns ?l_Stack_turns ?q_Stack_turns ?k_Stack_turns ?a_Stack_fewest ?i_Stack_fewest ?l_Stack_fewest ?q_Stack_fewest ?k_Stack_fewest ?a_law_cell_at ?l_law_cell_at ?q_law_cell_at ?k_law_cell_at ?a_law_whole ?l_law_whole ?q_law_whole ?k_law_whole ?a_law_pile ?l_law_pile ?q_law_pile ?k_law_pile ?a_law_turned ?l_law_turned ?q_law_turned ?k_law_turned ?a_law_which ?l_law_which ?q_law_which ?k_law_which ?a_law_refused ?l_law_refused ?q_law_refused ?k_law_refused ?a_law_deed ?l_law_deed ?q_law_deed ?k_law_deed ?a_law ?l_law ?q_law ?k_law ?al_fewest_fewest ?hz_ValueError ?hz_abs ?hz_bool ?hz_int ?hz_isinstance ?hz_len ?hz_list ?hz_range ?hz_reversed ?hz_sorted ?hz_zip ?hg_c_MOST_CAKES ?hg_c_MOST_PLAIN_CAKES
    (case hx_FlipError => k_is)
    (case hx_NoPile => k_is)
    (case hx_NoTurn => k_is)
    (case hx_TooTall => k_is)
    (case hx_NoBack => k_is)
    (case hx_BadLine => k_is)
    (case hx_Stack => k_is)
    (case he_FlipError => k_exc)
    (case hk_FlipError => k_is)
    (case hg_FlipError => k_is)
    (case hn_FlipError => k_is)
    (case hc_FlipError => k_is)
    (case he_NoPile => k_exc)
    (case hk_NoPile => k_is)
    (case hg_NoPile => k_is)
    (case hn_NoPile => k_is)
    (case hc_NoPile => k_is)
    (case he_NoTurn => k_exc)
    (case hk_NoTurn => k_is)
    (case hg_NoTurn => k_is)
    (case hn_NoTurn => k_is)
    (case hc_NoTurn => k_is)
    (case he_TooTall => k_exc)
    (case hk_TooTall => k_is)
    (case hg_TooTall => k_is)
    (case hn_TooTall => k_is)
    (case hc_TooTall => k_is)
    (case he_NoBack => k_exc)
    (case hk_NoBack => k_is)
    (case hg_NoBack => k_is)
    (case hn_NoBack => k_is)
    (case hc_NoBack => k_is)
    (case he_BadLine => k_exc)
    (case hk_BadLine => k_is)
    (case hg_BadLine => k_is)
    (case hn_BadLine => k_is)
    (case hc_BadLine => k_is)
    (case hu_NoPile => k_is)
    (case hi_NoPile_NoPile => kit_is)
    (case hi_NoPile_NoTurn => kit_is)
    (case hi_NoPile_TooTall => kit_is)
    (case hi_NoPile_NoBack => kit_is)
    (case hi_NoPile_BadLine => kit_is)
    (case hi_NoPile_V => kit_is)
    (case hu_NoTurn => k_is)
    (case hi_NoTurn_NoPile => kit_is)
    (case hi_NoTurn_NoTurn => kit_is)
    (case hi_NoTurn_TooTall => kit_is)
    (case hi_NoTurn_NoBack => kit_is)
    (case hi_NoTurn_BadLine => kit_is)
    (case hi_NoTurn_V => kit_is)
    (case hu_TooTall => k_is)
    (case hi_TooTall_NoPile => kit_is)
    (case hi_TooTall_NoTurn => kit_is)
    (case hi_TooTall_TooTall => kit_is)
    (case hi_TooTall_NoBack => kit_is)
    (case hi_TooTall_BadLine => kit_is)
    (case hi_TooTall_V => kit_is)
    (case hu_NoBack => k_is)
    (case hi_NoBack_NoPile => kit_is)
    (case hi_NoBack_NoTurn => kit_is)
    (case hi_NoBack_TooTall => kit_is)
    (case hi_NoBack_NoBack => kit_is)
    (case hi_NoBack_BadLine => kit_is)
    (case hi_NoBack_V => kit_is)
    (case hu_BadLine => k_is)
    (case hi_BadLine_NoPile => kit_is)
    (case hi_BadLine_NoTurn => kit_is)
    (case hi_BadLine_TooTall => kit_is)
    (case hi_BadLine_NoBack => kit_is)
    (case hi_BadLine_BadLine => kit_is)
    (case hi_BadLine_V => kit_is)
    (case pg_Stack => k_is)
    (case hd_Stack => k_is)
    (case po_Stack => k_is)
    (case sa_Stack => k_is)
    (case na_cakes => k_is)
    (case na_done => k_is)
    (case a_check_pile => k_is)
    (case l_check_pile => k_is)
    (case q_check_pile => k_is)
    (case k_check_pile => k_is)
    (case a_without_signs => k_is)
    (case l_without_signs => k_is)
    (case q_without_signs => k_is)
    (case k_without_signs => k_is)
    (case a_check_turns => k_is)
    (case l_check_turns => k_is)
    (case q_check_turns => k_is)
    (case k_check_turns => k_is)
    (case a_turned => k_is)
    (case l_turned => k_is)
    (case q_turned => k_is)
    (case k_turned => k_is)
    (case a_pile_after => k_is)
    (case l_pile_after => k_is)
    (case q_pile_after => k_is)
    (case k_pile_after => k_is)
    (case a_what_lies_below => k_is)
    (case l_what_lies_below => k_is)
    (case q_what_lies_below => k_is)
    (case k_what_lies_below => k_is)
    (case a_is_gap => k_is)
    (case l_is_gap => k_is)
    (case q_is_gap => k_is)
    (case k_is_gap => k_is)
    (case a_count_gaps => k_is)
    (case l_count_gaps => k_is)
    (case q_count_gaps => k_is)
    (case k_count_gaps => k_is)
    (case a_turns_for_cake => k_is)
    (case l_turns_for_cake => k_is)
    (case q_turns_for_cake => k_is)
    (case k_turns_for_cake => k_is)
    (case a_rule_plan => k_is)
    (case l_rule_plan => k_is)
    (case q_rule_plan => k_is)
    (case k_rule_plan => k_is)
    (case a_check_height => k_is)
    (case l_check_height => k_is)
    (case q_check_height => k_is)
    (case k_check_height => k_is)
    (case a_plan_within => k_is)
    (case l_plan_within => k_is)
    (case q_plan_within => k_is)
    (case k_plan_within => k_is)
    (case a_fewest_plan => k_is)
    (case l_fewest_plan => k_is)
    (case q_fewest_plan => k_is)
    (case k_fewest_plan => k_is)
    (case a_fewest => k_is)
    (case l_fewest => k_is)
    (case q_fewest => k_is)
    (case k_fewest => k_is)
    (case a_Stack___init__ => k_is)
    (case i_Stack___init__ => k_is)
    (case l_Stack___init__ => k_is)
    (case q_Stack___init__ => k_is)
    (case k_Stack___init__ => k_is)
    (case mk_Stack => k_is)
    (case kc_Stack => k_is)
    (case a_Stack_turn => k_is)
    (case i_Stack_turn => k_is)
    (case l_Stack_turn => k_is)
    (case q_Stack_turn => k_is)
    (case k_Stack_turn => k_is)
    (case a_Stack_back => k_is)
    (case i_Stack_back => k_is)
    (case l_Stack_back => k_is)
    (case q_Stack_back => k_is)
    (case k_Stack_back => k_is)
    (case a_Stack_pile => k_is)
    (case i_Stack_pile => k_is)
    (case l_Stack_pile => k_is)
    (case q_Stack_pile => k_is)
    (case k_Stack_pile => k_is)
    (case a_Stack_turns => k_is)
    (case i_Stack_turns => k_is)
    (case l_Stack_turns => k_is)
    (case q_Stack_turns => k_is)
    (case k_Stack_turns => k_is)
    (case a_Stack_fewest => k_is)
    (case i_Stack_fewest => k_is)
    (case l_Stack_fewest => k_is)
    (case q_Stack_fewest => k_is)
    (case k_Stack_fewest => k_is)
    (case a_law_cell_at => k_is)
    (case l_law_cell_at => k_is)
    (case q_law_cell_at => k_is)
    (case k_law_cell_at => k_is)
    (case a_law_whole => k_is)
    (case l_law_whole => k_is)
    (case q_law_whole => k_is)
    (case k_law_whole => k_is)
    (case a_law_pile => k_is)
    (case l_law_pile => k_is)
    (case q_law_pile => k_is)
    (case k_law_pile => k_is)
    (case a_law_turned => k_is)
    (case l_law_turned => k_is)
    (case q_law_turned => k_is)
    (case k_law_turned => k_is)
    (case a_law_which => k_is)
    (case l_law_which => k_is)
    (case q_law_which => k_is)
    (case k_law_which => k_is)
    (case a_law_refused => k_is)
    (case l_law_refused => k_is)
    (case q_law_refused => k_is)
    (case k_law_refused => k_is)
    (case a_law_deed => k_is)
    (case l_law_deed => k_is)
    (case q_law_deed => k_is)
    (case k_law_deed => k_is)
    (case a_law => k_is)
    (case l_law => k_is)
    (case q_law => k_is)
    (case k_law => k_is)
    (case al_fewest_fewest => k_is)
    (case hz_ValueError => k_is)
    (case hz_abs => k_is)
    (case hz_bool => k_is)
    (case hz_int => k_is)
    (case hz_isinstance => k_is)
    (case hz_len => k_is)
    (case hz_list => k_is)
    (case hz_range => k_is)
    (case hz_reversed => k_is)
    (case hz_sorted => k_is)
    (case hz_zip => k_is)
    (case hg_c_MOST_CAKES => k_is)
    (case hg_c_MOST_PLAIN_CAKES => k_is)

