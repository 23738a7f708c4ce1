import PyProof.Rows.All
import Wide.All
import OpenK.AllK
import Wide.FinOn
import Lean
import PyProof.EqAt
import PyProof.EqKinds
import PyProof.TupleCall
import PySem.Challenge.RW_flipstack_k14_texts_refused
set_option Elab.async false
set_option linter.all false
set_option maxRecDepth 100000
/-! THE HAND LAYER, for ints, bools, texts, own classes, LISTS and tuples (index, slices, in, append, pop ..), calls, loops. Paste it whole ahead of your own text; what your proof does not reach may be deleted. -/
namespace L2
open PySem PySem.Spec PyProof.Rows

/-- a key: an int or a str -/
abbrev Key := Sum Int Str
def keyIs : Key → Value → Bool
  | .inl k, v => Value.isInt k v
  | .inr x, v => Value.isStrOf x v
def keyH (w : World) : Key → Int
  | .inl k => hashInt k
  | .inr x => hashStr w x
theorem keyIs_shape : ∀ {k : Key} {v : Value}, keyIs k v = true → (∃ i t, k = Sum.inl i ∧ v = Value.int i t) ∨ (∃ x t, k = Sum.inr x ∧ v = Value.str x t)
  | .inl i, v, h => by
    obtain ⟨t, e⟩ := Value.isInt_shape (k := i) (v := v) h
    exact .inl ⟨i, t, rfl, e⟩
  | .inr x, v, h => by
    obtain ⟨t, e⟩ := Value.isStrOf_shape (x := x) (v := v) h
    exact .inr ⟨x, t, rfl, e⟩
theorem keyIs_int (i : Int) (t : Tok) : keyIs (.inl i) (.int i t) = true := by simp [keyIs, Value.isInt]
theorem keyIs_str (x : Str) (t : Tok) : keyIs (.inr x) (.str x t) = true := by simp [keyIs, Value.isStrOf]
theorem key_ll (a b : Int) : decide ((Sum.inl a : Key) = Sum.inl b) = (a == b) := by
  by_cases e : a = b
  · subst e; simp
  · have h : ¬ (Sum.inl a : Key) = Sum.inl b := fun q => e (Sum.inl.inj q)
    rw [decide_eq_false h]
    exact (beq_eq_false_iff_ne.mpr e).symm
theorem key_rr (a b : Str) : decide ((Sum.inr a : Key) = Sum.inr b) = decide (a = b) := by
  by_cases e : a = b
  · subst e; simp
  · have h : ¬ (Sum.inr a : Key) = Sum.inr b := fun q => e (Sum.inr.inj q)
    rw [decide_eq_false h, decide_eq_false e]
theorem key_lr (a : Int) (b : Str) : decide ((Sum.inl a : Key) = Sum.inr b) = false := decide_eq_false (fun q => nomatch q)
theorem key_rl (a : Str) (b : Int) : decide ((Sum.inr a : Key) = Sum.inl b) = false := decide_eq_false (fun q => nomatch q)

def mixKind (prog : Program) (w : World) : PySem.KeyKind prog w Key where
  is := keyIs
  hash := keyH w
  inj := fun v a b ha hb => by
    rcases keyIs_shape ha with ⟨i, t, rfl, rfl⟩ | ⟨x, t, rfl, rfl⟩
    · rcases keyIs_shape hb with ⟨j, u, rfl, e⟩ | ⟨y, u, rfl, e⟩
      · injection e with e1 _; rw [e1]
      · exact nomatch e
    · rcases keyIs_shape hb with ⟨j, u, rfl, e⟩ | ⟨y, u, rfl, e⟩
      · exact nomatch e
      · injection e with e1 _; rw [e1]
  byValue := fun k v h => by
    rcases keyIs_shape h with ⟨i, t, rfl, rfl⟩ | ⟨x, t, rfl, rfl⟩ <;> rfl
  pyHash := fun hv h => by
    rcases keyIs_shape hv with ⟨i, t, rfl, rfl⟩ | ⟨x, t, rfl, rfl⟩
    · exact wpAny_pyHash_int h
    · exact wpAny_pyHash_str h
  eqBool := fun hu hv h => by
    rcases keyIs_shape hu with ⟨i, t, rfl, rfl⟩ | ⟨x, t, rfl, rfl⟩
    · rcases keyIs_shape hv with ⟨j, u, rfl, rfl⟩ | ⟨y, u, rfl, rfl⟩
      · rw [key_ll] at h; exact wpAny_eqBool_int h
      · rw [key_lr] at h; exact SeqAt.EqAt.int_str i t y u _ _ _ _ h
    · rcases keyIs_shape hv with ⟨j, u, rfl, rfl⟩ | ⟨y, u, rfl, rfl⟩
      · rw [key_rl] at h; exact SeqAt.EqAt.str_int x t j u _ _ _ _ h
      · rw [key_rr] at h; exact wpAny_eqBool_str h
  «strs» := fun k x t v h => by
    rcases keyIs_shape h with ⟨i, u, rfl, e⟩ | ⟨y, u, rfl, e⟩
    · exact nomatch e
    · injection e with e1 _
      subst e1
      cases v <;> rfl

theorem mixKind_int (prog : Program) (w : World) (i : Int) (t : Tok) : (mixKind prog w).is (.inl i) (.int i t) = true := keyIs_int i t
theorem mixKind_str (prog : Program) (w : World) (x : Str) (t : Tok) : (mixKind prog w).is (.inr x) (.str x t) = true := keyIs_str x t
end L2

namespace L2
open PySem PySem.Spec PyProof.Rows

/-- a value, without the heap -/
inductive V where
  | non | bl (b : Bool) | int (i : Int) | str (x : Str) | byt (b : Array UInt8) | flt (b : UInt64) | ref (a : Addr) | ty (n : String)
  deriving DecidableEq

def RelV : V → Value → Prop
  | .non, u => u = Value.none
  | .bl b, u => u = Value.bool b
  | .int i, u => ∃ t, u = Value.int i t
  | .str x, u => ∃ t, u = Value.str x t
  | .byt b, u => ∃ t, u = Value.bytes b t
  | .flt b, u => ∃ t, u = Value.float b t
  | .ref a, u => u = Value.ref a
  | .ty n, u => u = Value.type n

abbrev Vals : List V → List Value → Prop := Paired RelV
theorem Vals.length {xs : List V} {us : List Value} (r : Vals xs us) : xs.length = us.length := Paired.length r
theorem Vals.get : ∀ {xs : List V} {us : List Value} {i : Nat} {x : V}, Vals xs us → xs[i]? = some x → ∃ u, us[i]? = some u ∧ RelV x u
  | _, _, _, _, .nil, e => by simp at e
  | _, _, 0, _, .cons r _, e => by simp at e; subst e; exact ⟨_, rfl, r⟩
  | _, _, i + 1, x, .cons _ t, e => by
    obtain ⟨u, h1, h2⟩ := Vals.get (i := i) (x := x) t (by simpa using e)
    exact ⟨u, by simpa using h1, h2⟩
theorem Vals.append : ∀ {xs ys : List V} {us ws : List Value}, Vals xs us → Vals ys ws → Vals (xs ++ ys) (us ++ ws)
  | _, _, _, _, .nil, s => s
  | _, _, _, _, .cons r t, s => .cons r (Vals.append t s)
def RelO : Option V → Option Value → Prop
  | some v, some u => RelV v u
  | none, none => True
  | _, _ => False
def KV {κ : Type} : List (κ × V) → List (κ × Value) → Prop := Paired fun (p : κ × V) (q : κ × Value) => p.1 = q.1 ∧ RelV p.2 q.2

/-- a key of a dict (00_mix): an int or a text -/
def kV : Key → V
  | .inl i => .int i
  | .inr x => .str x

/-- what stands at a tracked address -/
inductive HO where
  /-- a list -/
  | lst (xs : List V)
  /-- a tuple (never changes) -/
  | tup (xs : List V)
  /-- a dict whose keys are ints and texts; one whose keys are tuples of ints and texts (the empty one is both) -/
  | dK (kvs : List (Key × V)) | dT (kvs : List (List Key × V))
  /-- a set of ints: its members, its size -/
  | set (S : Int → Bool) (n : Nat)
  /-- an instance of the class at C, its dict at dx, its attributes -/
  | ins (C dx : Addr) (fs : List (Str × V))
  /-- the dict of the instance at x -/
  | own (x : Addr)
  /-- the dict of an exception -/
  | xd (fs : List (Str × V))
  /-- a bound method, f of x -/
  | met (f x : Addr)
  /-- a range object lo, lo + 1, .. below hi -/
  | rng (lo hi : Int)
  /-- a thing that is known to the object (the script; a dict while a loop walks it): read, never written while it is so -/
  | frz (o : Obj) (u : HO)
  /-- a code object's table -/
  | tbl (ps : Array Value)
  /-- any other thing, by what is true of its one object (a def of one's own: SetO a S n := HO.ext fun h => ..) -/
  | ext (φ : Heap → Prop)

abbrev Hp := Addr → Option HO
def upd (H : Hp) (a : Addr) (o : HO) : Hp := fun b => if b = a then some o else H b
theorem upd_same {H : Hp} {a : Addr} {o : HO} : upd H a o a = some o := by unfold upd; rw [if_pos rfl]
theorem upd_ne {H : Hp} {a b : Addr} {o : HO} (h : b ≠ a) : upd H a o b = H b := by unfold upd; rw [if_neg h]
/-- two objects of different content stand apart -/
theorem ne_of {H : Hp} {a b : Addr} {o u : HO} (h : H a = some o) (h' : H b = some u) (d : o ≠ u) : a ≠ b := by
  intro e; subst e; rw [h] at h'; exact d (Option.some.inj h')
theorem ne_of_none {H : Hp} {a b : Addr} {o : HO} (h : H a = some o) (h' : H b = none) : a ≠ b := by
  intro e; subst e; rw [h] at h'; cases h'

section
variable (P : Program) (w : World)
def ObjOk (H : Hp) (h : Heap) (a : Addr) : HO → Prop
  | .lst xs => xs.length ≤ sizeLine ∧ ∃ (its : List Value) (n : Nat), Vals xs its ∧ h.get? a = some { cls := .type "list", data := .seq its.toArray n }
  | .tup xs => xs.length ≤ sizeLine ∧ ∃ its : List Value, Vals xs its ∧ IsTup h a its.toArray
  | .dK kvs => kvs.length ≤ sizeLine ∧ (a == sysModules) = false ∧ ∃ vs, KV kvs vs ∧ h.DictOf (mixKind P w) a vs
  | .dT kvs => kvs.length ≤ sizeLine ∧ (a == sysModules) = false ∧ ∃ xs : List (List Key × Addr × Value),
      Paired (fun (p : List Key × V) (q : List Key × Addr × Value) => p.1 = q.1 ∧ H q.2.1 = some (.tup (p.1.map kV)) ∧ RelV p.2 q.2.2) kvs xs ∧
      ∃ o es ep, h.get? a = some o ∧ o.ExactDict ∧ o.data = .dict es ep ∧ es.toList = xs.map (entryOfKey (tupleKind (mixKind P w))) ∧ (xs.map (·.1)).Nodup
  | .set S n => h.SetOf (intKind P w) a S n
  | .ins C dx fs => H dx = some (.own a) ∧ fs.length ≤ 1000 ∧ dx ≠ a ∧ h.get? a = some (PySem.W.instObj C dx) ∧
      ∃ mA, h.Ns1 dx mA ∧ (∀ f, RelO (fs.lookup f) (mA f)) ∧ PySem.Within mA (fs.map (·.1))
  | .own _ => ∃ o, h.get? a = some o
  | .xd fs => ∃ mA, h.Ns1 a mA ∧ ∀ f, RelO (fs.lookup f) (mA f)
  | .rng lo hi => ∃ t u v, h.get? a = some { cls := .type "range", data := .fields #[.int lo t, .int hi u, .int 1 v] }
  | .frz o u => h.get? a = some o ∧ ObjOk H h a u
  | .tbl ps => h.get? a = some { cls := .none, data := .fields ps }
  | .met f x => h.get? a = some (PySem.W.methodObj (.ref f) (.ref x))
  | .ext φ => φ h ∧ (∃ o, h.get? a = some o) ∧ ∀ h1 h2 : Heap, φ h1 → (∀ o, h1.get? a = some o → h2.get? a = some o) → φ h2
/-- the abstract heap is held -/
def HOk (H : Hp) (h : Heap) : Prop := ∀ a o, H a = some o → ObjOk P w H h a o
end

section
variable {P : Program} {w : World} {H H' : Hp} {h h' : Heap} {a : Addr} {o : HO}
theorem ObjOk.lt (x : ObjOk P w H h a o) : a < h.objs.size := by
  cases o with
  | lst xs => obtain ⟨_, _, _, _, e⟩ := x; exact Heap.lt_size e
  | tup xs => obtain ⟨_, _, _, p⟩ := x; exact p.lt
  | dK kvs => obtain ⟨_, _, _, _, o, _, _, e, _⟩ := x; exact Heap.lt_size e
  | dT kvs => obtain ⟨_, _, _, _, o, _, _, e, _⟩ := x; exact Heap.lt_size e
  | set S n => obtain ⟨o, _, _, _, e, _⟩ := x; exact Heap.lt_size e
  | ins C dx fs => obtain ⟨_, _, _, e, _⟩ := x; exact Heap.lt_size e
  | own y => obtain ⟨_, e⟩ := x; exact Heap.lt_size e
  | xd fs => obtain ⟨_, ⟨_, _, _, e, _⟩, _⟩ := x; exact Heap.lt_size e
  | rng lo hi => obtain ⟨_, _, _, e⟩ := x; exact Heap.lt_size e
  | frz ob u => obtain ⟨e, _⟩ := x; exact Heap.lt_size e
  | tbl ps => exact Heap.lt_size (show h.get? a = some _ from x)
  | met f y => exact Heap.lt_size (show h.get? a = some _ from x)
  | ext φ => obtain ⟨_, ⟨_, e⟩, _⟩ := x; exact Heap.lt_size e
theorem Paired.mapP {α β : Type} {F G : α → β → Prop} : ∀ {l₁ : List α} {l₂ : List β}, Paired F l₁ l₂ → (∀ a b, F a b → G a b) → Paired G l₁ l₂
  | _, _, .nil, _ => .nil
  | _, _, .cons r t, f => .cons (f _ _ r) (Paired.mapP t f)
/-- what an object's description leans on: its own object, its own dict, the tuples -/
theorem ObjOk.stay (x : ObjOk P w H h a o) (k : ∀ b u, (b = a ∨ H b = some (.own a)) → h.get? b = some u → h'.get? b = some u)
    (ho : ∀ b, H b = some (.own a) → H' b = some (.own a)) (ht : ∀ b xs, H b = some (.tup xs) → H' b = some (.tup xs)) : ObjOk P w H' h' a o := by
  induction o with
  | lst xs => obtain ⟨z, its, n, r, e⟩ := x; exact ⟨z, its, n, r, k _ _ (.inl rfl) e⟩
  | tup xs => obtain ⟨z, its, r, ob, e, c⟩ := x; exact ⟨z, its, r, ob, k _ _ (.inl rfl) e, c⟩
  | dK kvs => obtain ⟨z, y, vs, r, ob, es, ep, e, c⟩ := x; exact ⟨z, y, vs, r, ob, es, ep, k _ _ (.inl rfl) e, c⟩
  | dT kvs =>
    obtain ⟨z, y, xs, r, ob, es, ep, e, c⟩ := x
    exact ⟨z, y, xs, Paired.mapP r fun p q z => ⟨z.1, ht _ _ z.2.1, z.2.2⟩, ob, es, ep, k _ _ (.inl rfl) e, c⟩
  | set S n => obtain ⟨ob, es, ep, t, e, c⟩ := x; exact ⟨ob, es, ep, t, k _ _ (.inl rfl) e, c⟩
  | ins C dx fs =>
    obtain ⟨d, z, ne, e, mA, ⟨od, es, ep, e2, c⟩, r⟩ := x
    exact ⟨ho _ d, z, ne, k _ _ (.inl rfl) e, mA, ⟨od, es, ep, k _ _ (.inr d) e2, c⟩, r⟩
  | own y => obtain ⟨ob, e⟩ := x; exact ⟨ob, k _ _ (.inl rfl) e⟩
  | xd fs => obtain ⟨mA, ⟨od, es, ep, e, c⟩, r⟩ := x; exact ⟨mA, ⟨od, es, ep, k _ _ (.inl rfl) e, c⟩, r⟩
  | rng lo hi => obtain ⟨t, u, v, e⟩ := x; exact ⟨t, u, v, k _ _ (.inl rfl) e⟩
  | frz ob u ih => obtain ⟨e, q⟩ := x; exact ⟨k _ _ (.inl rfl) e, ih q⟩
  | tbl ps =>
    have e : h.get? a = some { cls := .none, data := .fields ps } := x
    show h'.get? a = some { cls := .none, data := .fields ps }
    exact k a _ (.inl rfl) e
  | met f y =>
    have e : h.get? a = some (PySem.W.methodObj (.ref f) (.ref y)) := x
    show h'.get? a = some (PySem.W.methodObj (.ref f) (.ref y))
    exact k a _ (.inl rfl) e
  | ext φ => obtain ⟨p, ⟨o, e⟩, st⟩ := x; exact ⟨st _ _ p fun o q => k _ _ (.inl rfl) q, ⟨o, k _ _ (.inl rfl) e⟩, st⟩
theorem HOk.lt (x : HOk P w H h) (e : H a = some o) : a < h.objs.size := (x a o e).lt
theorem HOk.fresh (x : HOk P w H h) (e : h.objs.size ≤ a) : H a = none := by
  cases q : H a with
  | none => rfl
  | some u => exact absurd (Nat.lt_of_lt_of_le (x.lt q) e) (Nat.lt_irrefl _)
/-- every object of the heap is kept -/
theorem HOk.kept (x : HOk P w H h) (k : ∀ b u, h.get? b = some u → h'.get? b = some u) : HOk P w H h' := fun a o e =>
  (x a o e).stay (fun b u _ q => k b u q) (fun _ q => q) fun _ _ q => q
/-- a new object is laid and tracked -/
theorem HOk.laid (x : HOk P w H h) (k : ∀ b u, h.get? b = some u → h'.get? b = some u) (hp : h.objs.size ≤ a) (new : ObjOk P w (upd H a o) h' a o) : HOk P w (upd H a o) h' := fun b u e => by
  have hn := x.fresh hp
  by_cases hb : b = a
  · subst hb; rw [upd_same] at e; cases e; exact new
  · rw [upd_ne hb] at e
    exact (x b u e).stay (fun c v _ q => k c v q) (fun c q => by rw [upd_ne (ne_of_none q hn)]; exact q) fun c xs q => by rw [upd_ne (ne_of_none q hn)]; exact q
end

/-- what may be read as u: it is u, or a known u -/
def Rd (H : Hp) (a : Addr) (u : HO) : Prop := H a = some u ∨ ∃ o, H a = some (.frz o u)
theorem Rd.ok {P : Program} {w : World} {H : Hp} {h : Heap} {a : Addr} {u : HO} (r : Rd H a u) (x : HOk P w H h) : ObjOk P w H h a u := by
  rcases r with r | ⟨o, r⟩
  · exact x a u r
  · obtain ⟨_, q⟩ := x a _ r
    exact q
/-- what may be written -/
def Mut : Option HO → Prop
  | some (.lst _) => True
  | some (.dK _) => True
  | some (.dT _) => True
  | some (.set _ _) => True
  | some (.ins _ _ _) => True
  | some (.ext _) => True
  | _ => False
section
variable {P : Program} {w : World} {H : Hp} {h h' : Heap} {x e : Addr} {o' : HO}
/-- the object at e is changed: x itself, or the dict of the instance x -/
theorem HOk.write (ok : HOk P w H h) (mu : Mut (H x)) (he : e = x ∨ H e = some (.own x)) (k : ∀ b u, b ≠ e → h.get? b = some u → h'.get? b = some u) (heo : ∃ u, h'.get? e = some u)
    (new : ObjOk P w (upd H x o') h' x o') : HOk P w (upd H x o') h' := fun b u q => by
  have nown : ∀ c y, H c = some (.own y) → c ≠ x := fun c y r z => by subst z; rw [r] at mu; exact mu
  have ntup : ∀ c xs, H c = some (.tup xs) → c ≠ x := fun c xs r z => by subst z; rw [r] at mu; exact mu
  by_cases hb : b = x
  · subst hb; rw [upd_same] at q; cases q; exact new
  · rw [upd_ne hb] at q
    by_cases hbe : b = e
    · have q' : H b = some (.own x) := by
        rcases he with z | z
        · exact absurd (hbe.trans z) hb
        · rw [hbe]; exact z
      rw [q] at q'; cases q'
      obtain ⟨v, hv⟩ := heo
      exact ⟨v, by rw [hbe]; exact hv⟩
    · refine (ok b u q).stay (fun c v hc r => k c v ?_ r) (fun c r => by rw [upd_ne (nown c b r)]; exact r) fun c xs r => by rw [upd_ne (ntup c xs r)]; exact r
      rcases hc with rfl | hc
      · exact hbe
      · rintro rfl
        rcases he with z | z
        · exact nown c b hc z
        · rw [hc] at z; cases z; exact hb rfl
end

/-! ### kept unless tracked; of the frames at fs (the callers') the slots may change (an exception that passes writes there); of the records at ex (iterators) nothing is said -/
structure Un (fs ex : List Addr) (H H' : Hp) (h h' : Heap) : Prop where
  keep : ∀ b o, h.get? b = some o → H b = none → b ∉ fs → b ∉ ex → h'.get? b = some o
  slot : ∀ b o, h.get? b = some o → H b = none → b ∈ fs → b ∉ ex → ∃ sl, h'.get? b = some { o with slots := sl }
  free : ∀ b o, h.get? b = some o → H b = none → b ∉ ex → H' b = none
  there : ∀ b o, h.get? b = some o → b ∉ ex → ∃ o', h'.get? b = some o'
  tups : ∀ b xs, H b = some (.tup xs) → H' b = some (.tup xs)
  frzs : ∀ b o u, H b = some (.frz o u) → H' b = some (.frz o u)
  tbls : ∀ b ps, H b = some (.tbl ps) → ∃ more, H' b = some (.tbl (ps ++ more))
section
variable {fs fs' ex ex' : List Addr} {H H1 H2 : Hp} {h h1 h2 h' : Heap} {a x e : Addr} {o : HO}
theorem Un.any (u : Un fs ex H H1 h h1) {b : Addr} {ob : Obj} (q : h.get? b = some ob) (n : H b = none) (hx : b ∉ ex) : ∃ sl, h1.get? b = some { ob with slots := sl } := by
  by_cases hb : b ∈ fs
  · exact u.slot b ob q n hb hx
  · exact ⟨ob.slots, u.keep b ob q n hb hx⟩
theorem Un.kept (k : ∀ b u, h.get? b = some u → h'.get? b = some u) : Un fs ex H H h h' :=
  ⟨fun b ob q _ _ _ => k b ob q, fun b ob q _ _ _ => ⟨ob.slots, k b ob q⟩, fun _ _ _ n _ => n, fun b ob q _ => ⟨ob, k b ob q⟩, fun _ _ q => q, fun _ _ _ q => q, fun _ ps q => ⟨#[], by rw [q]; simp⟩⟩
theorem Un.refl : Un fs ex H H h h := Un.kept fun _ _ q => q
theorem Un.laid (k : ∀ b u, h.get? b = some u → h'.get? b = some u) (hp : h.objs.size ≤ a) (hn : H a = none) : Un fs ex H (upd H a o) h h' where
  keep := fun b u q _ _ _ => k b u q
  slot := fun b u q _ _ _ => ⟨u.slots, k b u q⟩
  free := fun b u q n _ => by rw [upd_ne (Nat.ne_of_lt (Nat.lt_of_lt_of_le (Heap.lt_size q) hp))]; exact n
  there := fun b u q _ => ⟨u, k b u q⟩
  tups := fun b xs q => by rw [upd_ne (ne_of_none q hn)]; exact q
  frzs := fun b u xs q => by rw [upd_ne (ne_of_none q hn)]; exact q
  tbls := fun b ps q => ⟨#[], by rw [upd_ne (ne_of_none q hn), q]; simp⟩
theorem Un.write (mu : Mut (H x)) (he : e = x ∨ H e = some (.own x)) (k : ∀ b u, b ≠ e → h.get? b = some u → h'.get? b = some u) (heo : ∃ u, h'.get? e = some u) : Un fs ex H (upd H x o) h h' := by
  have hx : ∀ b, H b = none → b ≠ x := fun b n z => by subst z; rw [n] at mu; exact mu
  have hb : ∀ b, H b = none → b ≠ e := fun b n z => by
    subst z
    rcases he with r | r
    · exact hx b n r
    · rw [n] at r; cases r
  have hm : ∀ b u, H b = some u → ¬ Mut (some u) → b ≠ x := fun b u q nm z => by subst z; rw [q] at mu; exact nm mu
  refine ⟨fun b u q n _ _ => k b u (hb b n) q, fun b u q n _ _ => ⟨u.slots, k b u (hb b n) q⟩, fun b u q n _ => by rw [upd_ne (hx b n)]; exact n, fun b u q _ => ?_,
    fun b xs q => by rw [upd_ne (hm b _ q fun z => z)]; exact q, fun b u xs q => by rw [upd_ne (hm b _ q fun z => z)]; exact q, fun b ps q => ⟨#[], by rw [upd_ne (hm b _ q fun z => z), q]; simp⟩⟩
  by_cases hbe : b = e
  · subst hbe; exact heo
  · exact ⟨u, k b u hbe q⟩
end

/-! ### the heap without what is tracked -/
def trk (h : Heap) (H : Hp) : List Addr := (List.range h.objs.size).filter fun a => (H a).isSome
def hidT (h : Heap) (H : Hp) : Heap := PySem.W.hideAll h (trk h H)
theorem hidT_size (h : Heap) (H : Hp) : (hidT h H).objs.size = h.objs.size := PySem.W.hideAll_size _ _
theorem hidT_get {h : Heap} {H : Hp} {b : Addr} {o : Obj} (e : h.get? b = some o) (n : H b = none) : (hidT h H).get? b = some o :=
  PySem.W.hideAll_get _ e fun hm => by
    have q : (H b).isSome = true := (List.mem_filter.mp hm).2
    rw [n] at q; simp at q
theorem of_hidT {h : Heap} {H : Hp} {b : Addr} {o : Obj} (e : (hidT h H).get? b = some o) : h.get? b = some o ∧ H b = none := by
  have e' : h.get? b = some o := PySem.W.of_hideAll (trk h H) e
  refine ⟨e', ?_⟩
  cases q : H b with
  | none => rfl
  | some x =>
    have hm : b ∈ trk h H := List.mem_filter.mpr ⟨List.mem_range.mpr (Heap.lt_size e'), by simp [q]⟩
    have z : (hidT h H).get? b = none := PySem.W.hideAll_none (trk h H) hm
    rw [z] at e; cases e

/-! ### OpenK's ledger, filled with every new object but one -/
end L2

namespace L2
open PySem PySem.Spec PyProof.Rows

/-- the module's facts, over the base: the heap at the law's entry without what is tracked there -/
structure Mod (K : PySem.W.Frag) (mg : Str → Option Value) (base : Heap) : Prop where
  kin : K.In base
  glob : base.Ns mainGlobals mg
  blt : ∃ mb, base.Ns builtinsNs mb ∧ ∀ x : Str, x ≠ "__name__" → mb x = bootBuiltins x
  nolimit : base.NoLimit

/-- the context: a def's body (or a comprehension's block) running. base: fixed through the whole law; s₀, H₀: the entry; outer: the frames whose slots others may change (a def's callers); stack: all frames that run;
   ex: iterators that were made ahead of the entry and are walked here (a comprehension's); fn: the names whose cells were made at the entry (a def: all; a comprehension's block: its own); calm: not within an except suite; pn: pins that every state bears; xe: what is wanted of an exception that leaves the code -/
structure Cx where
  prog : Program
  w : World
  K : PySem.W.Frag
  mg : Str → Option Value
  base : Heap
  A : Around
  N : List Str
  s₀ : Shared
  H₀ : Hp
  env : Env
  outer : List Env
  stack : List Env
  ex : List Addr
  fn : Str → Bool
  calm : Bool
  pn : List (Addr × Obj)
  xe : Value → Shared → Prop
/-- the callers' frames -/
def frs (l : List Env) : List Addr := l.filterMap (·.frame)
abbrev Cx.fs (X : Cx) : List Addr := frs X.outer

def Vis (sc : Scope) (x : Str) : Prop := sc.names.lookup x = some .local ∨ sc.names.lookup x = some .cell ∨ sc.names.lookup x = some .free
def Loc (sc : Scope) (x : Str) : Prop := sc.names.lookup x = some .local ∨ sc.names.lookup x = some .cell
def Look (env : Env) (h : Heap) (m : Str → Option Value) (x : Str) (u : Value) : Prop :=
  (env.kindOf x = some .local ∧ m x = some u) ∨ ((env.kindOf x = some .cell ∨ env.kindOf x = some .free) ∧ ∃ c, env.cells.lookup x = some c ∧ h.IsCell c (some u))

structure Cx.Ok (X : Cx) : Prop where
  mod : Mod X.K X.mg X.base
  kind : X.env.scope.kind = .function
  glob : X.env.globals = mainGlobals
  blt : X.env.builtins = builtinsNs
  above : X.s₀.heap.objs.size ≤ X.env.locals
  inj : ∀ x y c, X.env.cells.lookup x = some c → X.env.cells.lookup y = some c → x = y
  has : ∀ x, (X.env.kindOf x = some .cell ∨ X.env.kindOf x = some .free) → ∃ c, X.env.cells.lookup x = some c
  cab : ∀ x c, X.fn x = true → X.env.cells.lookup x = some c → X.s₀.heap.objs.size ≤ c
  hd : X.calm = true → X.A.handled = none
  frames : X.A.frames = some X.stack
  stk : X.stack = X.outer ∨ (X.stack = X.env :: X.outer ∧ X.env.frame = some X.env.locals)
  exf : ∀ b ∈ X.ex, b ≠ X.env.locals ∧ ∀ x c, X.env.cells.lookup x = some c → c ≠ b
  bs : ∀ b o, X.base.get? b = some o → X.s₀.heap.get? b = some o ∧ X.H₀ b = none
  bsz : X.base.objs.size ≤ X.s₀.heap.objs.size
  noex : ∀ b o, X.base.get? b = some o → b ∉ X.ex
  exfs : ∀ b ∈ X.ex, b ∉ X.fs
  funs : X.s₀.heap.FunFrames X.base X.outer
  frf : ∀ b ∈ X.fs, X.H₀ b = none

structure Inv (X : Cx) (pins : List (Addr × Obj)) (σ : List (Option V)) (H : Hp) (s : Shared) : Prop where
  ok : X.Ok
  os : s.os = X.s₀.os
  bare : AllBare s.gens
  base : Un X.fs X.ex X.H₀ H X.s₀.heap s.heap
  loc : ∃ m, s.heap.Ns X.env.locals m ∧ ∀ (i : Nat) (x : Str) (v : V), X.N[i]? = some x → σ[i]? = some (some v) → Vis X.env.scope x → ∃ u, RelV v u ∧ Look X.env s.heap m x u
  cell : ∀ x c, X.env.cells.lookup x = some c → ∃ v, s.heap.IsCell c v
  free : H X.env.locals = none
  freeC : ∀ x c, X.env.cells.lookup x = some c → H c = none
  pin : ∀ p ∈ X.pn ++ pins, s.heap.get? p.1 = some p.2 ∧ H p.1 = none ∧ p.1 ≠ X.env.locals ∧ p.1 ∉ X.fs ∧ ∀ v, p.2.data ≠ .cell v
  hok : HOk X.prog X.w H s.heap
  len : σ.length = X.N.length

section
variable {X : Cx} {pins : List (Addr × Obj)} {σ : List (Option V)} {H H' : Hp} {s : Shared} {h' : Heap}

theorem Cx.Ok.nofr (ok : X.Ok) {b : Addr} {o : Obj} (e : X.base.get? b = some o) : b ∉ X.fs := fun hb => by
  have := (ok.funs.mem hb).1
  rw [e] at this; cases this
theorem Inv.bs (I : Inv X pins σ H s) : ∀ b o, X.base.get? b = some o → s.heap.get? b = some o ∧ H b = none := fun b o e =>
  ⟨I.base.keep b o (I.ok.bs b o e).1 (I.ok.bs b o e).2 (I.ok.nofr e) (I.ok.noex b o e), I.base.free b o (I.ok.bs b o e).1 (I.ok.bs b o e).2 (I.ok.noex b o e)⟩
theorem Inv.bk (I : Inv X pins σ H s) : ∀ b o, X.base.get? b = some o → s.heap.get? b = some o := fun b o e => (I.bs b o e).1
theorem Inv.mod (I : Inv X pins σ H s) : Mod X.K X.mg X.base := I.ok.mod
theorem Inv.kIn (I : Inv X pins σ H s) : X.K.In s.heap := I.ok.mod.kin.keeps I.bk
theorem Inv.lt (I : Inv X pins σ H s) : X.env.locals < s.heap.objs.size := let ⟨_, hn, _⟩ := I.loc; hn.lt
theorem Inv.sz (I : Inv X pins σ H s) : X.s₀.heap.objs.size ≤ s.heap.objs.size := Nat.le_trans I.ok.above (Nat.le_of_lt I.lt)
theorem Inv.nofs (I : Inv X pins σ H s) {a : Addr} (h : s.heap.objs.size ≤ a) : a ∉ X.fs := fun hb => by
  obtain ⟨_, o, ho, _⟩ := I.ok.funs.mem hb
  exact absurd (Nat.lt_of_lt_of_le (Heap.lt_size ho) (Nat.le_trans I.sz h)) (Nat.lt_irrefl _)
theorem Inv.cne (I : Inv X pins σ H s) : ∀ x c, X.env.cells.lookup x = some c → c ≠ X.env.locals := fun x c e z => by
  obtain ⟨v, o, ho, hd⟩ := I.cell x c e
  obtain ⟨m, ⟨o', es, ep, ho', hd', _⟩, _⟩ := I.loc
  rw [z, ho'] at ho; cases ho; rw [hd'] at hd; cases hd
theorem Inv.funs (I : Inv X pins σ H s) : s.heap.FunFrames X.base X.outer := by
  have all : ∀ (l : List Env), (∀ b ∈ frs l, b ∈ X.fs) → X.s₀.heap.FunFrames X.base l → s.heap.FunFrames X.base l := by
    intro l
    induction l with
    | nil => intro _ _; trivial
    | cons env r ih =>
      intro hs hl
      obtain ⟨hk, ⟨L, o, hf, hn, ho, hd⟩, hr⟩ := hl
      have hL : L ∈ X.fs := hs L (by unfold frs; rw [List.filterMap_cons, hf]; exact List.mem_cons_self)
      obtain ⟨sl, e⟩ := I.base.slot L o ho (I.ok.frf L hL) hL fun z => I.ok.exfs L z hL
      exact ⟨hk, ⟨L, _, hf, hn, e, hd⟩, ih (fun b hb => hs b (by unfold frs; rw [List.filterMap_cons, hf]; exact List.mem_cons_of_mem _ hb)) hr⟩
  exact all X.outer (fun _ hb => hb) I.ok.funs

/-- the frames that run, for a call -/
theorem Inv.stack (I : Inv X pins σ H s) : s.heap.FunFrames X.base X.stack := by
  rcases I.ok.stk with e | ⟨e, hf⟩
  · rw [e]; exact I.funs
  · rw [e]
    obtain ⟨m, hn, _⟩ := I.loc
    refine .cons (by rw [I.ok.kind]; decide) hf hn ?_ I.funs
    exact Heap.get?_none_of_le (Nat.le_trans I.ok.bsz I.ok.above)
theorem Inv.stkSub (I : Inv X pins σ H s) : ∀ b ∈ frs X.stack, b ∈ X.env.locals :: X.fs := fun b hb => by
  rcases I.ok.stk with e | ⟨e, hf⟩
  · rw [e] at hb; exact List.mem_cons_of_mem _ hb
  · rw [e] at hb
    unfold frs at hb
    rw [List.filterMap_cons, hf] at hb
    exact hb
theorem Inv.stkFree (I : Inv X pins σ H s) : ∀ b ∈ frs X.stack, H b = none := fun b hb => by
  rcases List.mem_cons.mp (I.stkSub b hb) with e | hb
  · rw [e]; exact I.free
  · obtain ⟨_, o, ho, _⟩ := I.ok.funs.mem hb
    exact I.base.free b o ho (I.ok.frf b hb) fun z => I.ok.exfs b z hb

/-- THE STEP: the untracked objects but the frame and the records at ch are kept (the callers' frames up to slots), the frame's map is kept, the new abstract heap is held -/
theorem Inv.step {g' : Array GenState} {t' : Nat} {d' : Drawn} {ch : List Addr} (I : Inv X pins σ H s)
    (hch : ∀ b ∈ ch, (b ∈ X.ex ∨ X.s₀.heap.objs.size ≤ b) ∧ b ≠ X.env.locals ∧ (∀ x c, X.env.cells.lookup x = some c → c ≠ b) ∧ ∀ p ∈ X.pn ++ pins, p.1 ≠ b)
    (keep : ∀ b o, b ≠ X.env.locals → b ∉ X.fs → b ∉ ch → s.heap.get? b = some o → H b = none → h'.get? b = some o)
    (slot : ∀ b o, b ≠ X.env.locals → b ∈ X.fs → b ∉ ch → s.heap.get? b = some o → H b = none → ∃ sl, h'.get? b = some { o with slots := sl }) (free : ∀ b o, b ∉ ch → s.heap.get? b = some o → H b = none → H' b = none)
    (there : ∀ b o, b ∉ ch → s.heap.get? b = some o → ∃ o', h'.get? b = some o')
    (tups : ∀ b xs, H b = some (.tup xs) → H' b = some (.tup xs)) (frzs : ∀ b o u, H b = some (.frz o u) → H' b = some (.frz o u)) (tbls : ∀ b ps, H b = some (.tbl ps) → ∃ more, H' b = some (.tbl (ps ++ more)))
    (ns : ∀ m, s.heap.Ns X.env.locals m → h'.Ns X.env.locals m) (hok : HOk X.prog X.w H' h') (hg : AllBare g') :
    Inv X pins σ H' { s with heap := h', gens := g', drawn := d', toks := t' } := by
  have neL : ∀ b o, X.s₀.heap.get? b = some o → b ≠ X.env.locals := fun b o e => Nat.ne_of_lt (Nat.lt_of_lt_of_le (Heap.lt_size e) I.ok.above)
  have neC : ∀ b o, X.s₀.heap.get? b = some o → b ∉ X.ex → b ∉ ch := fun b o e hx hb => by
    rcases (hch b hb).1 with z | z
    · exact hx z
    · exact absurd (Nat.lt_of_lt_of_le (Heap.lt_size e) z) (Nat.lt_irrefl _)
  have cellK : ∀ x c, X.env.cells.lookup x = some c → ∀ v, s.heap.IsCell c v → h'.IsCell c v := fun x c e v ⟨o, ho, hd⟩ => by
    have nch : c ∉ ch := fun z => (hch c z).2.2.1 x c e rfl
    by_cases hc : c ∈ X.fs
    · obtain ⟨sl, q⟩ := slot c o (I.cne x c e) hc nch ho (I.freeC x c e)
      exact ⟨_, q, hd⟩
    · exact ⟨o, keep c o (I.cne x c e) hc nch ho (I.freeC x c e), hd⟩
  refine ⟨I.ok, I.os, hg, ⟨fun b o e n hb hx => ?_, fun b o e n hb hx => ?_, fun b o e n hx => ?_, fun b o e hx => ?_, fun b xs e => tups b xs (I.base.tups b xs e), fun b o xs e => frzs b o xs (I.base.frzs b o xs e), fun b ps e => ?_⟩, ?_, fun x c e => ?_, ?_, fun x c e => ?_, fun p hp => ?_, hok, I.len⟩
  · exact keep b o (neL b o e) hb (neC b o e hx) (I.base.keep b o e n hb hx) (I.base.free b o e n hx)
  · obtain ⟨sl, e1⟩ := I.base.slot b o e n hb hx
    obtain ⟨sl', e2⟩ := slot b _ (neL b o e) hb (neC b o e hx) e1 (I.base.free b o e n hx)
    exact ⟨sl', e2⟩
  · obtain ⟨o', e1⟩ := I.base.there b o e hx
    exact free b o' (neC b o e hx) e1 (I.base.free b o e n hx)
  · obtain ⟨o', e1⟩ := I.base.there b o e hx
    exact there b o' (neC b o e hx) e1
  · obtain ⟨m1, e1⟩ := I.base.tbls b ps e
    obtain ⟨m2, e2⟩ := tbls b _ e1
    exact ⟨m1 ++ m2, by rw [e2, Array.append_assoc]⟩
  · obtain ⟨m, hn, hl⟩ := I.loc
    refine ⟨m, ns m hn, fun i x v e1 e2 e3 => ?_⟩
    obtain ⟨u, r, l⟩ := hl i x v e1 e2 e3
    refine ⟨u, r, ?_⟩
    rcases l with l | ⟨k, c, e, z⟩
    · exact .inl l
    · exact .inr ⟨k, c, e, cellK x c e _ z⟩
  · obtain ⟨v, z⟩ := I.cell x c e
    exact ⟨v, cellK x c e v z⟩
  · obtain ⟨m, ⟨o, _, _, ho, _⟩, _⟩ := I.loc
    exact free _ o (fun z => (hch _ z).2.1 rfl) ho I.free
  · obtain ⟨v, o, ho, hd⟩ := I.cell x c e
    exact free c o (fun z => (hch c z).2.2.1 x c e rfl) ho (I.freeC x c e)
  · obtain ⟨e, n, ne, nf, d⟩ := I.pin p hp
    have nch : p.1 ∉ ch := fun z => (hch p.1 z).2.2.2 p hp rfl
    exact ⟨keep p.1 p.2 ne nf nch e n, free p.1 p.2 nch e n, ne, nf, d⟩
/-- .. where the frame's own object is kept too -/
theorem Inv.un {t' : Nat} (I : Inv X pins σ H s) (u : Un X.fs [] H H' s.heap h') (hok : HOk X.prog X.w H' h') : Inv X pins σ H' { s with heap := h', toks := t' } := by
  obtain ⟨m, ⟨o, es, ep, ho, r⟩, _⟩ := id I.loc
  obtain ⟨sl, hL⟩ := u.any ho I.free (by simp)
  exact I.step (g' := s.gens) (d' := s.drawn) (ch := []) (fun _ z => nomatch z) (fun b o _ hb _ e n => u.keep b o e n hb (by simp)) (fun b o _ hb _ e n => u.slot b o e n hb (by simp)) (fun b o _ e n => u.free b o e n (by simp)) (fun b o _ e => u.there b o e (by simp)) u.tups u.frzs u.tbls (fun m' hm => by
    obtain ⟨o', es', ep', ho', r'⟩ := hm
    rw [ho] at ho'; cases ho'
    exact ⟨_, es', ep', hL, r'⟩) hok I.bare
/-- behind a call (or a comprehension's block): the slots of this frame may have changed too, the records at ch may have turned -/
theorem Inv.call {g' : Array GenState} {t' : Nat} {d' : Drawn} {ch : List Addr} (I : Inv X pins σ H s) (u : Un (frs X.stack) ch H H' s.heap h') (hok : HOk X.prog X.w H' h') (hg : AllBare g')
    (hch : ∀ b ∈ ch, (b ∈ X.ex ∨ X.s₀.heap.objs.size ≤ b) ∧ b ≠ X.env.locals ∧ (∀ x c, X.env.cells.lookup x = some c → c ≠ b) ∧ ∀ p ∈ X.pn ++ pins, p.1 ≠ b) :
    Inv X pins σ H' { s with heap := h', gens := g', drawn := d', toks := t' } := by
  obtain ⟨m, ⟨o, es, ep, ho, r⟩, _⟩ := id I.loc
  obtain ⟨sl, hL⟩ := u.any ho I.free fun z => (hch _ z).2.1 rfl
  exact I.step (ch := ch) hch (fun b o hL hb hc e n => u.keep b o e n (fun z => (List.mem_cons.mp (I.stkSub b z)).elim hL hb) hc) (fun b o _ _ hc e n => u.any e n hc) (fun b o hc e n => u.free b o e n hc) (fun b o hc e => u.there b o e hc) u.tups u.frzs u.tbls (fun m' hm => by
    obtain ⟨o', es', ep', ho', r'⟩ := hm
    rw [ho] at ho'; cases ho'
    exact ⟨_, es', ep', hL, r'⟩) hok hg
/-- an untracked record of ours (an iterator) has turned -/
theorem Inv.turned {t' : Nat} {it : Addr} (I : Inv X pins σ H s) (k : ∀ b o, b ≠ it → s.heap.get? b = some o → h'.get? b = some o) (hn : H it = none) (hL : it ≠ X.env.locals)
    (h1 : it ∈ X.ex ∨ X.s₀.heap.objs.size ≤ it) (h2 : ∀ x c, X.env.cells.lookup x = some c → c ≠ it) (h3 : ∀ p ∈ X.pn ++ pins, p.1 ≠ it) : Inv X pins σ H { s with heap := h', toks := t' } := by
  have nit : ∀ b u, H b = some u → b ≠ it := fun b u e z => by rw [z, hn] at e; cases e
  refine I.step (g' := s.gens) (d' := s.drawn) (ch := [it]) (fun b hb => ?_) (fun b o _ _ hc e _ => k b o (fun z => hc (by simp [z])) e) (fun b o _ _ hc e _ => ⟨o.slots, k b o (fun z => hc (by simp [z])) e⟩) (fun _ _ _ _ n => n)
    (fun b o hc e => ⟨o, k b o (fun z => hc (by simp [z])) e⟩) (fun _ _ e => e) (fun _ _ _ e => e) (fun b ps e => ⟨#[], by rw [e]; simp⟩) (fun m hm => ?_) (fun b u e => ?_) I.bare
  · have e : b = it := by simpa using hb
    subst e
    exact ⟨h1, hL, h2, h3⟩
  · obtain ⟨o, es, ep, ho, r⟩ := hm
    exact ⟨o, es, ep, k _ o (Ne.symm hL) ho, r⟩
  · refine (I.hok b u e).stay (fun c v hc q => k c v ?_ q) (fun _ q => q) fun _ _ q => q
    rcases hc with z | z
    · rw [z]; exact nit b u e
    · exact nit c _ z
theorem Inv.tok (I : Inv X pins σ H s) (t : Nat) : Inv X pins σ H { s with toks := t } := I.un (h' := s.heap) (t' := t) Un.refl I.hok
/-- all objects kept -/
theorem Inv.kept {t' : Nat} (I : Inv X pins σ H s) (k : ∀ b u, s.heap.get? b = some u → h'.get? b = some u) : Inv X pins σ H { s with heap := h', toks := t' } := I.un (Un.kept k) (I.hok.kept k)
/-- a new object laid and tracked -/
theorem Inv.laid {a : Addr} {o : HO} {t' : Nat} (I : Inv X pins σ H s) (k : ∀ b u, s.heap.get? b = some u → h'.get? b = some u) (hp : s.heap.objs.size ≤ a) (new : ObjOk X.prog X.w (upd H a o) h' a o) :
    Inv X pins σ (upd H a o) { s with heap := h', toks := t' } := I.un (Un.laid k hp (I.hok.fresh hp)) (I.hok.laid k hp new)
/-- an object written -/
theorem Inv.write {x e : Addr} {o : HO} {t' : Nat} (I : Inv X pins σ H s) (mu : Mut (H x)) (he : e = x ∨ H e = some (.own x)) (k : ∀ b u, b ≠ e → s.heap.get? b = some u → h'.get? b = some u) (heo : ∃ u, h'.get? e = some u)
    (new : ObjOk X.prog X.w (upd H x o) h' x o) : Inv X pins σ (upd H x o) { s with heap := h', toks := t' } := I.un (Un.write mu he k heo) (I.hok.write mu he k heo new)
/-- forgetting slots, pins -/
theorem Inv.weak {σ' : List (Option V)} (I : Inv X pins σ H s) (hl : σ'.length = σ.length) (w : ∀ (i : Nat) v, σ'[i]? = some (some v) → σ[i]? = some (some v)) : Inv X pins σ' H s :=
  ⟨I.ok, I.os, I.bare, I.base, let ⟨m, hn, hl'⟩ := I.loc; ⟨m, hn, fun i x v e1 e2 e3 => hl' i x v e1 (w i v e2) e3⟩, I.cell, I.free, I.freeC, I.pin, I.hok, hl.trans I.len⟩
theorem Inv.pins_of {pins' : List (Addr × Obj)} (I : Inv X pins σ H s) (h : ∀ p ∈ pins', s.heap.get? p.1 = some p.2 ∧ H p.1 = none ∧ p.1 ≠ X.env.locals ∧ p.1 ∉ X.fs ∧ ∀ v, p.2.data ≠ .cell v) : Inv X pins' σ H s :=
  ⟨I.ok, I.os, I.bare, I.base, I.loc, I.cell, I.free, I.freeC, fun p hp => (List.mem_append.mp hp).elim (fun z => I.pin p (List.mem_append_left _ z)) (h p), I.hok, I.len⟩

theorem nodup_ix {N : List Str} (hN : N.Nodup) {i j : Nat} {x : Str} (a : N[i]? = some x) (b : N[j]? = some x) : i = j := by
  obtain ⟨h1, e1⟩ := List.getElem?_eq_some_iff.mp a
  obtain ⟨h2, e2⟩ := List.getElem?_eq_some_iff.mp b
  exact (List.getElem_inj hN).mp (e1.trans e2.symm)

/-- a name is stored; what changed -/
theorem store_ok2 {M : Model} {A : Around} {E : Value → Shared → Prop} {i : Nat} {x : Str} {v : V} {u : Value} {Q : Unit → Shared → Prop} (I : Inv X pins σ H s) (hN : X.N.Nodup) (hi : X.N[i]? = some x) (hx : Loc X.env.scope x) (r : RelV v u)
    (h : ∀ s', Inv X pins (σ.set i (some v)) H s' → (∃ a, Heap.SameBut a s.heap s'.heap ∧ (a = X.env.locals ∨ X.env.cells.lookup x = some a)) → Q () s') (hf : X.fn x = true ∨ X.env.scope.names.lookup x = some .local := by first | exact .inl rfl | exact .inr rfl | assumption) : wpAny M A (storeName X.env x u) Q E s := by
  obtain ⟨m, hn, hl⟩ := id I.loc
  have hcls : (X.env.scope.kind == .class || (X.env.scope.kind == .module && X.env.locals != X.env.globals)) = false := by rw [I.ok.kind]; rfl
  have hiσ : i < σ.length := by rw [I.len]; exact (List.getElem?_eq_some_iff.mp hi).1
  have cne := I.cne
  have tracked : ∀ {a : Addr} {h' : Heap}, (∃ o, s.heap.get? a = some o ∧ H a = none) → Heap.SameBut a s.heap h' → HOk X.prog X.w H h' := fun {a h'} ha hs b ob e => by
    obtain ⟨_, _, hfree⟩ := ha
    refine (I.hok b ob e).stay (fun c w' hc q => (hs.2 c ?_).trans q) (fun _ q => q) fun _ _ q => q
    rintro rfl
    rcases hc with rfl | hc
    · rw [hfree] at e; cases e
    · rw [hfree] at hc; cases hc
  rcases hx with hk | hk
  · refine wpAny_storeName_local hk hn (fun h' hn' hs => ?_) hcls
    obtain ⟨oL, _, _, hoL, _⟩ := id hn
    refine h _ ⟨I.ok, I.os, I.bare, ⟨fun b o e n hb hx => ?_, fun b o e n hb hx => ?_, I.base.free, fun b o e hx => ?_, I.base.tups, I.base.frzs, I.base.tbls⟩, ⟨_, hn', fun j y v' e1 e2 e3 => ?_⟩, fun y c e => ?_, I.free, I.freeC, fun p hp => ?_, tracked ⟨oL, hoL, I.free⟩ hs, by simpa using I.len⟩ ⟨_, hs, .inl rfl⟩
    · exact (hs.2 b (Nat.ne_of_lt (Nat.lt_of_lt_of_le (Heap.lt_size e) I.ok.above))).trans (I.base.keep b o e n hb hx)
    · obtain ⟨sl, e1⟩ := I.base.slot b o e n hb hx
      exact ⟨sl, (hs.2 b (Nat.ne_of_lt (Nat.lt_of_lt_of_le (Heap.lt_size e) I.ok.above))).trans e1⟩
    · obtain ⟨o', e1⟩ := I.base.there b o e hx
      exact ⟨o', (hs.2 b (Nat.ne_of_lt (Nat.lt_of_lt_of_le (Heap.lt_size e) I.ok.above))).trans e1⟩
    · by_cases hj : j = i
      · subst hj
        rw [hi] at e1; cases e1
        rw [List.getElem?_set_self hiσ] at e2
        cases e2
        exact ⟨u, r, .inl ⟨hk, by simp⟩⟩
      · rw [List.getElem?_set_ne (Ne.symm hj)] at e2
        obtain ⟨u', r', q⟩ := hl j y v' e1 e2 e3
        refine ⟨u', r', ?_⟩
        rcases q with ⟨k, e⟩ | ⟨k, c, e, z⟩
        · refine .inl ⟨k, ?_⟩
          have : y ≠ x := fun e => hj (nodup_ix hN e1 (e ▸ hi))
          simp [this, e]
        · exact .inr ⟨k, c, e, z.sameBut hs (cne y c e)⟩
    · obtain ⟨w', z⟩ := I.cell y c e
      exact ⟨w', z.sameBut hs (cne y c e)⟩
    · obtain ⟨e, n, ne, nf, d⟩ := I.pin p hp
      exact ⟨(hs.2 p.1 ne).trans e, n, ne, nf, d⟩
  · have hfn : X.fn x = true := by
      rcases hf with z | z
      · exact z
      · rw [z] at hk; cases hk
    obtain ⟨c, hc⟩ := I.ok.has x (.inl hk)
    obtain ⟨w', z⟩ := I.cell x c hc
    refine wpAny_storeName_cell I.ok.kind hk hc z (fun h' hc' hs => ?_)
    obtain ⟨oc, hoc, hocd⟩ := id z
    refine h { s with heap := h' } ⟨I.ok, I.os, I.bare, ⟨fun b o e n hb hx => ?_, fun b o e n hb hx => ?_, I.base.free, fun b o e hx => ?_, I.base.tups, I.base.frzs, I.base.tbls⟩, ⟨m, hn.sameBut hs (Ne.symm (cne x c hc)), fun j y v' e1 e2 e3 => ?_⟩, fun y c' e => ?_, I.free, I.freeC, fun p hp => ?_, tracked ⟨oc, hoc, I.freeC x c hc⟩ hs, by simpa using I.len⟩ ⟨c, hs, .inr hc⟩
    · exact (hs.2 b (Nat.ne_of_lt (Nat.lt_of_lt_of_le (Heap.lt_size e) (I.ok.cab x c hfn hc)))).trans (I.base.keep b o e n hb hx)
    · obtain ⟨sl, e1⟩ := I.base.slot b o e n hb hx
      exact ⟨sl, (hs.2 b (Nat.ne_of_lt (Nat.lt_of_lt_of_le (Heap.lt_size e) (I.ok.cab x c hfn hc)))).trans e1⟩
    · obtain ⟨o', e1⟩ := I.base.there b o e hx
      exact ⟨o', (hs.2 b (Nat.ne_of_lt (Nat.lt_of_lt_of_le (Heap.lt_size e) (I.ok.cab x c hfn hc)))).trans e1⟩
    · by_cases hj : j = i
      · subst hj
        rw [hi] at e1; cases e1
        rw [List.getElem?_set_self hiσ] at e2
        cases e2
        exact ⟨u, r, .inr ⟨.inl hk, c, hc, hc'⟩⟩
      · rw [List.getElem?_set_ne (Ne.symm hj)] at e2
        obtain ⟨u', r', q⟩ := hl j y v' e1 e2 e3
        refine ⟨u', r', ?_⟩
        rcases q with q | ⟨k, c', e, z'⟩
        · exact .inl q
        · refine .inr ⟨k, c', e, z'.sameBut hs ?_⟩
          rintro rfl
          exact hj (nodup_ix hN e1 (I.ok.inj _ _ _ e hc ▸ hi))
    · by_cases hcc : c' = c
      · subst hcc; exact ⟨_, hc'⟩
      · obtain ⟨w2, z2⟩ := I.cell y c' e
        exact ⟨w2, z2.sameBut hs hcc⟩
    · obtain ⟨e, n, ne, nf, d⟩ := I.pin p hp
      refine ⟨(hs.2 p.1 ?_).trans e, n, ne, nf, d⟩
      intro q
      rw [q, hoc] at e
      have q' : oc = p.2 := Option.some.inj e
      exact d w' (by rw [← q']; exact hocd)
theorem store_ok {M : Model} {A : Around} {E : Value → Shared → Prop} {i : Nat} {x : Str} {v : V} {u : Value} {Q : Unit → Shared → Prop} (I : Inv X pins σ H s) (hN : X.N.Nodup) (hi : X.N[i]? = some x) (hx : Loc X.env.scope x) (r : RelV v u)
    (h : ∀ s', Inv X pins (σ.set i (some v)) H s' → Q () s') (hf : X.fn x = true ∨ X.env.scope.names.lookup x = some .local := by first | exact .inl rfl | exact .inr rfl | assumption) : wpAny M A (storeName X.env x u) Q E s :=
  store_ok2 I hN hi hx r (fun s' I' _ => h s' I') hf
/-- behind a call or a block, the state as it is -/
theorem Inv.call' {s' : Shared} {ch : List Addr} (I : Inv X pins σ H s) (ho : s'.os = s.os) (u : Un (frs X.stack) ch H H' s.heap s'.heap) (hok : HOk X.prog X.w H' s'.heap) (hg : AllBare s'.gens)
    (hch : ∀ b ∈ ch, (b ∈ X.ex ∨ X.s₀.heap.objs.size ≤ b) ∧ b ≠ X.env.locals ∧ (∀ x c, X.env.cells.lookup x = some c → c ≠ b) ∧ ∀ p ∈ X.pn ++ pins, p.1 ≠ b) : Inv X pins σ H' s' := by
  obtain ⟨h', g', d', t', o'⟩ := s'
  have e : o' = s.os := ho
  subst e
  exact I.call (g' := g') (t' := t') (d' := d') u hok hg hch
end

/-! ### the judgements -/
/-- an exception: its class, its own dict's address (where it has one), the abstract heap behind it -/
abbrev XK := Value → Option Addr → Hp → Prop
abbrev St := List (Option V)
abbrev VK := V → Hp → Prop
/-- an expression's reading; a test's; an argument list's -/
abbrev TE := St → Hp → VK → Prop
abbrev TT := St → Hp → (Bool → Hp → Prop) → Prop
abbrev TA := St → Hp → (List V → Hp → Prop) → Prop
/-- what is wanted behind a statement -/
structure Ends where
  nx : St → Hp → Prop
  rt : VK
  bk : St → Hp → Prop := fun _ _ => False
  ct : St → Hp → Prop := fun _ _ => False
abbrev TS := Ends → St → Hp → Prop

def EP (X : Cx) (pins : List (Addr × Obj)) (σ : St) (Q : VK) (u : Value) (s' : Shared) : Prop := ∃ v H', Inv X pins σ H' s' ∧ RelV v u ∧ Q v H'
def TP (X : Cx) (pins : List (Addr × Obj)) (σ : St) (Q : Bool → Hp → Prop) (b : Bool) (s' : Shared) : Prop := ∃ H', Inv X pins σ H' s' ∧ Q b H'
def AP (X : Cx) (pins : List (Addr × Obj)) (σ : St) (Q : List V → Hp → Prop) (us : List Value) (s' : Shared) : Prop := ∃ vs H', Inv X pins σ H' s' ∧ Vals vs us ∧ Q vs H'
def SP (X : Cx) (pins : List (Addr × Obj)) (D : Ends) (f : Flow) (s' : Shared) : Prop :=
  match f with
  | .next => ∃ σ' H', Inv X pins σ' H' s' ∧ D.nx σ' H'
  | .brk => ∃ σ' H', Inv X pins σ' H' s' ∧ D.bk σ' H'
  | .cont => ∃ σ' H', Inv X pins σ' H' s' ∧ D.ct σ' H'
  | .ret u => ∃ v σ' H', Inv X pins σ' H' s' ∧ RelV v u ∧ D.rt v H'

def PE (X : Cx) (e : Expr) (t : TE) : Prop :=
  ∀ (pins : List (Addr × Obj)) (s : Shared) (σ : St) (H : Hp) (Q : VK), Inv X pins σ H s → t σ H Q → wpAny (model X.prog X.w) X.A (eval e X.env) (EP X pins σ Q) X.xe s
def PT (X : Cx) (e : Expr) (t : TT) : Prop :=
  ∀ (pins : List (Addr × Obj)) (s : Shared) (σ : St) (H : Hp) (Q : Bool → Hp → Prop), Inv X pins σ H s → t σ H Q → wpAny (model X.prog X.w) X.A (isTrue e X.env (eval e X.env)) (TP X pins σ Q) X.xe s
/-- a test whatever its 'whole' is (and, or) -/
def PW (X : Cx) (e : Expr) (t : TT) : Prop :=
  ∀ (whole : Sem Value) (pins : List (Addr × Obj)) (s : Shared) (σ : St) (H : Hp) (Q : Bool → Hp → Prop), Inv X pins σ H s → t σ H Q → wpAny (model X.prog X.w) X.A (isTrue e X.env whole) (TP X pins σ Q) X.xe s
theorem PW.pt {X : Cx} {e : Expr} {t : TT} (h : PW X e t) : PT X e t := h _
/-- an argument list (no star), from the left -/
def PA (X : Cx) (es : List Expr) (t : TA) : Prop :=
  ∀ (pos : Pos) (pins : List (Addr × Obj)) (s : Shared) (σ : St) (H : Hp) (Q : List V → Hp → Prop), Inv X pins σ H s → t σ H Q → wpAny (model X.prog X.w) X.A (spliced (backTo pos (starEach es X.env))) (AP X pins σ Q) X.xe s
def PS (X : Cx) (st : Stmt) (t : TS) : Prop :=
  ∀ (pins : List (Addr × Obj)) (s : Shared) (σ : St) (H : Hp) (D : Ends), Inv X pins σ H s → t D σ H → wpAny (model X.prog X.w) X.A (exec st X.env) (SP X pins D) X.xe s
def PSs (X : Cx) (st : List Stmt) (t : TS) : Prop :=
  ∀ (pins : List (Addr × Obj)) (s : Shared) (σ : St) (H : Hp) (D : Ends), Inv X pins σ H s → t D σ H → wpAny (model X.prog X.w) X.A (execs st X.env) (SP X pins D) X.xe s
/-- weaken the end -/
theorem thn {α : Type} {t : Sem α} {Q Q' : α → Shared → Prop} {M : Model} {A : Around} {E : Value → Shared → Prop} {s : Shared} (h : wpAny M A t Q E s) (hQ : ∀ a s, Q a s → Q' a s) : wpAny M A t Q' E s := wpAny_mono h hQ fun _ _ x => x
end L2

namespace L2
open PySem PySem.Spec PyProof.Rows
section
variable {X : Cx}

/-! ### names and constants -/
def tVar (i : Nat) : TE := fun σ H Q => ∃ v, σ[i]? = some (some v) ∧ Q v H
def tC (v : V) : TE := fun _ H Q => Q v H
theorem pe_var {i : Nat} {x : Str} {pos : Pos} (hN : X.N[i]? = some x) (hv : Vis X.env.scope x) (hd : (x == ("__debug__" : Str)) = false := by decide) (hcd : (x == ("__classdict__" : Str)) = false := by decide) : PE X (.Name x pos) (tVar i) := by
  intro pins s σ H Q I h
  obtain ⟨v, e, h⟩ := h
  obtain ⟨m, hn, hl⟩ := I.loc
  obtain ⟨u, r, l⟩ := hl i x v hN e hv
  have fin : EP X pins σ Q u s := ⟨v, H, I, r, h⟩
  rcases l with ⟨hk, hm⟩ | ⟨hk, c, hc, hcell⟩
  · exact wpAny_Name (wpAny_loadName_local I.ok.kind hk hn hm fin) hd
  · rcases hk with hk | hk
    · exact wpAny_Name (wpAny_loadName_cell I.ok.kind hk hc hcell fin) hd
    · exact wpAny_Name (wpAny_loadName_free I.ok.kind hk hc hcell fin hcd) hd
theorem pe_int {i j pos} : PE X (.Constant (.int i) j pos) (tC (.int i)) := fun _ _ _ H _ I h => wpAny_Constant_int ⟨.int i, H, I.tok _, ⟨_, rfl⟩, h⟩
theorem pe_bl {b j pos} : PE X (.Constant (.bool b) j pos) (tC (.bl b)) := fun _ _ _ H _ I h => Constant_bool ⟨.bl b, H, I, rfl, h⟩
theorem pe_non {j pos} : PE X (.Constant .none j pos) (tC .non) := fun _ _ _ H _ I h => Constant_none ⟨.non, H, I, rfl, h⟩
theorem pe_str {x j pos} : PE X (.Constant (.str x) j pos) (tC (.str x)) := fun _ _ _ H _ I h => Calls.Constant_str ⟨.str x, H, I.tok _, ⟨_, rfl⟩, h⟩

/-- a global name of the def -/
def Gl (X : Cx) (x : Str) : Prop := X.env.kindOf x = some .globalImplicit
theorem ld_glob {E : Value → Shared → Prop} {pins : List (Addr × Obj)} {s : Shared} {σ : St} {H : Hp} {x : Str} {u : Value} {pos : Pos} {Q : Value → Shared → Prop} (I : Inv X pins σ H s) (hg : Gl X x) (hm : X.mg x = some u) (h : Q u s)
    (hd : (x == ("__debug__" : Str)) = false := by decide) : wpAny (model X.prog X.w) X.A (eval (.Name x pos) X.env) Q E s :=
  Calls.Name_function_global I.ok.kind hg (Calls.loadGlobal_global (by rw [I.ok.glob]; exact I.mod.glob.keeps I.bk) hm h) hd
theorem ld_blt {E : Value → Shared → Prop} {pins : List (Addr × Obj)} {s : Shared} {σ : St} {H : Hp} {x : Str} {u : Value} {pos : Pos} {Q : Value → Shared → Prop} (I : Inv X pins σ H s) (hg : Gl X x) (hm : X.mg x = none) (hv : bootBuiltins x = some u) (h : Q u s)
    (hn : x ≠ "__name__" := by decide) (hd : (x == ("__debug__" : Str)) = false := by decide) : wpAny (model X.prog X.w) X.A (eval (.Name x pos) X.env) Q E s := by
  obtain ⟨mb, h1, h2⟩ := I.mod.blt
  exact Calls.Name_function_global I.ok.kind hg (Calls.loadGlobal_builtin (by rw [I.ok.glob]; exact I.mod.glob.keeps I.bk) hm (by rw [I.ok.blt]; exact h1.keeps I.bk) ((h2 x hn).trans hv) h) hd
/-- a module's constant, a class, a function, as a value -/
theorem pe_glob {x : Str} {v : V} {u : Value} {pos : Pos} (hg : Gl X x) (hm : X.mg x = some u) (r : RelV v u) (hd : (x == ("__debug__" : Str)) = false := by decide) : PE X (.Name x pos) (tC v) :=
  fun _ _ _ H _ I h => ld_glob I hg hm ⟨v, H, I, r, h⟩ hd
theorem pe_bltn {x : Str} {v : V} {u : Value} {pos : Pos} (hg : Gl X x) (hm : X.mg x = none) (hv : bootBuiltins x = some u) (r : RelV v u) (hn : x ≠ "__name__" := by decide) (hd : (x == ("__debug__" : Str)) = false := by decide) : PE X (.Name x pos) (tC v) :=
  fun _ _ _ H _ I h => ld_blt I hg hm hv ⟨v, H, I, r, h⟩ hn hd

/-! ### arithmetic -/
variable {a b : Expr} {ta tb : TE} {pos : Pos}
/-! ### comparisons -/
def PC (X : Cx) (op : CmpOp) (a b : Expr) (t : TE) : Prop :=
  ∀ (pins : List (Addr × Obj)) (s : Shared) (σ : St) (H : Hp) (Q : VK), Inv X pins σ H s → t σ H Q →
    wpAny (model X.prog X.w) X.A (eval a X.env) (fun v s₁ => wpAny (model X.prog X.w) X.A (eval b X.env) (fun u s₂ => wpAny (model X.prog X.w) X.A (compareOp op v u) (EP X pins σ Q) X.xe s₂) X.xe s₁) X.xe s
theorem nobehind (b : Expr) {op : CmpOp} (h : op ≠ .In) (h2 : op ≠ .NotIn) : behindInMarks op b = false := by
  have e1 : (op == CmpOp.In) = false := by cases op <;> first | rfl | exact absurd rfl h
  have e2 : (op == CmpOp.NotIn) = false := by cases op <;> first | rfl | exact absurd rfl h2
  cases b <;> simp [behindInMarks, e1, e2]
/-- is None -/
def tIsN (ta : TE) : TE := fun σ H Q => ta σ H fun x H1 => Q (.bl (decide (x = .non))) H1
theorem RelV.none_iff {x : V} {v : Value} (r : RelV x v) : (v == Value.none) = decide (x = .non) := by
  cases x with
  | non => cases r; rfl
  | bl _ => cases r; rfl
  | int _ => obtain ⟨t, rfl⟩ := r; rfl
  | str _ => obtain ⟨t, rfl⟩ := r; rfl
  | byt _ => obtain ⟨t, rfl⟩ := r; rfl
  | flt _ => obtain ⟨t, rfl⟩ := r; rfl
  | ref _ => cases r; rfl
  | ty _ => cases r; rfl
theorem pc_isN {j pos'} (ha : PE X a ta) : PC X .Is a (.Constant .none j pos') (tIsN ta) := by
  intro pins s σ H Q I h
  refine thn (ha pins s σ H _ I h) fun v s1 hq0 => ?_
  obtain ⟨x, H1, I1, r1, q1⟩ := hq0
  exact Constant_none (is_none_gen ⟨.bl _, H1, I1, by rw [r1.none_iff]; rfl, q1⟩)
/-- a comparison as a value, as a test -/
def tB (t : TE) : TT := fun σ H Q => t σ H fun x H1 => ∃ c, x = .bl c ∧ Q c H1
theorem pt_cmp {op : CmpOp} {t : TE} (h : PC X op a b t) (h1 : behindInMarks op b = false := by first | exact nobehind _ (by decide) (by decide) | rfl) : PT X (.Compare a [op] [b] pos) (tB t) := by
  intro pins s σ H Q I hw
  refine wpAny_isTrue_Compare1 (thn (h pins s σ H _ I hw) fun v s1 h1 => thn h1 fun u s2 h2 => thn h2 fun c s3 hq0 => ?_) h1
  obtain ⟨x, H1, I1, r1, q1⟩ := hq0
  obtain ⟨d, rfl, q⟩ := q1
  cases r1
  exact wpAny_truthy_bool ⟨H1, I1, q⟩
/-- an expression whose value is a bool, as a test -/
theorem pt_val {e : Expr} {t : TE} (h : PE X e t) (he : ∀ whole, isTrue e X.env whole = (do let v ← whole; standAt e.pos; holding [v] (truthy v)) := by intro _; rfl) : PT X e (tB t) := by
  intro pins s σ H Q I hw
  refine isTrue_plain (thn (h pins s σ H _ I hw) fun v s1 hq0 => ?_) (he _)
  obtain ⟨x, H1, I1, r1, q1⟩ := hq0
  obtain ⟨d, rfl, q⟩ := q1
  cases r1
  exact wpAny_truthy_bool ⟨H1, I1, q⟩

/-! ### and, or, not -/
variable {tA tB' : TT} {rest : List Expr}
def tAnd (t u : TT) : TT := fun σ H Q => t σ H fun c H1 => if c = true then u σ H1 Q else Q false H1
def tOr (t u : TT) : TT := fun σ H Q => t σ H fun c H1 => if c = true then Q true H1 else u σ H1 Q
def tNot (t : TT) : TT := fun σ H Q => t σ H fun c H1 => Q (!c) H1
theorem pw_and1 (ha : PT X a tA) : PW X (.BoolOp .And [a] pos) tA := by
  intro wh pins s σ H Q I h
  refine isTrue_and (thn (ha pins s σ H Q I h) fun c s1 e => ?_)
  cases c with
  | true => exact isTrue_and_nil e
  | false => exact e
theorem pw_or1 (ha : PT X a tA) : PW X (.BoolOp .Or [a] pos) tA := by
  intro wh pins s σ H Q I h
  refine isTrue_or (thn (ha pins s σ H Q I h) fun c s1 e => ?_)
  cases c with
  | false => exact isTrue_or_nil e
  | true => exact e
theorem pw_and (ha : PT X a tA) (hb : PW X (.BoolOp .And (b :: rest) pos) tB') : PW X (.BoolOp .And (a :: b :: rest) pos) (tAnd tA tB') := by
  intro wh pins s σ H Q I h
  refine isTrue_and (thn (ha pins s σ H _ I h) fun c s1 hq0 => ?_)
  obtain ⟨H1, I1, q1⟩ := hq0
  cases c with
  | true => exact hb wh pins s1 σ H1 Q I1 q1
  | false => exact ⟨H1, I1, q1⟩
theorem pw_or (ha : PT X a tA) (hb : PW X (.BoolOp .Or (b :: rest) pos) tB') : PW X (.BoolOp .Or (a :: b :: rest) pos) (tOr tA tB') := by
  intro wh pins s σ H Q I h
  refine isTrue_or (thn (ha pins s σ H _ I h) fun c s1 hq0 => ?_)
  obtain ⟨H1, I1, q1⟩ := hq0
  cases c with
  | true => exact ⟨H1, I1, q1⟩
  | false => exact hb wh pins s1 σ H1 Q I1 q1
theorem pt_not (ha : PT X a tA) : PT X (.UnaryOp .Not a pos) (tNot tA) := by
  intro pins s σ H Q I h
  exact isTrue_not (ha pins s σ H (fun c H1 => Q (!c) H1) I h)
end
end L2

namespace L2
open PySem PySem.Spec PyProof.Rows

/-! ### a list, a tuple that is read: tracked, frozen, or an object of the module -/
def SqL (K : PySem.W.Frag) (H : Hp) (a : Addr) (xs : List V) : Prop :=
  Rd H a (.lst xs) ∨
    ∃ (o : Obj) (its : Array Value) (n : Nat), K.lookup a = some o ∧ o.cls = .type "list" ∧ o.dict = none ∧ o.data = .seq its n ∧ its.size ≤ sizeLine ∧ Vals xs its.toList
def SqT (K : PySem.W.Frag) (H : Hp) (a : Addr) (xs : List V) : Prop :=
  Rd H a (.tup xs) ∨
    ∃ (o : Obj) (its : Array Value) (n : Nat), K.lookup a = some o ∧ o.cls = .type "tuple" ∧ o.data = .seq its n ∧ its.size ≤ sizeLine ∧ Vals xs its.toList
def absV : Value → Option V
  | .none => some .non
  | .bool b => some (.bl b)
  | .int i _ => some (.int i)
  | .str x _ => some (.str x)
  | .bytes b _ => some (.byt b)
  | .float b _ => some (.flt b)
  | .ref a => some (.ref a)
  | .type n => some (.ty n)
  | _ => none
theorem RelV.abs {x : V} {u : Value} (r : RelV x u) : absV u = some x := by
  cases x with
  | non => cases r; rfl
  | bl _ => cases r; rfl
  | int _ => obtain ⟨t, rfl⟩ := r; rfl
  | str _ => obtain ⟨t, rfl⟩ := r; rfl
  | byt _ => obtain ⟨t, rfl⟩ := r; rfl
  | flt _ => obtain ⟨t, rfl⟩ := r; rfl
  | ref _ => cases r; rfl
  | ty _ => cases r; rfl
theorem RelV.inj {x y : V} {u : Value} (r : RelV x u) (q : RelV y u) : x = y := Option.some.inj (r.abs.symm.trans q.abs)
theorem Vals.inj : ∀ {xs ys : List V} {us : List Value}, Vals xs us → Vals ys us → xs = ys
  | _, _, _, .nil, .nil => rfl
  | _, _, _, .cons r t, .cons r' t' => by rw [r.inj r', Vals.inj t t']
section
variable {X : Cx} {pins : List (Addr × Obj)} {σ : St} {H : Hp} {s : Shared} {a : Addr} {xs ys : List V}
theorem SqL.of {K : PySem.W.Frag} (h : H a = some (.lst xs)) : SqL K H a xs := .inl (.inl h)
theorem Inv.list (I : Inv X pins σ H s) (h : SqL X.K H a xs) : ∃ its : List Value, Vals xs its ∧ PlainL s.heap a its.toArray ∧ xs.length ≤ sizeLine := by
  rcases h with h | ⟨o, its, n, hk, hc, hd, hs, hz, r⟩
  · obtain ⟨z, its, n, r, e⟩ := h.ok I.hok
    exact ⟨its, r, ⟨_, n, e, rfl, rfl, rfl⟩, z⟩
  · refine ⟨its.toList, r, ⟨o, n, I.kIn a o hk, hc, hd, by simpa using hs⟩, ?_⟩
    have e := r.length
    simp only [Array.length_toList] at e
    omega
theorem Inv.tuple (I : Inv X pins σ H s) (h : SqT X.K H a xs) : ∃ its : List Value, Vals xs its ∧ IsTup s.heap a its.toArray ∧ xs.length ≤ sizeLine := by
  rcases h with h | ⟨o, its, n, hk, hc, hs, hz, r⟩
  · obtain ⟨z, its, r, p⟩ := h.ok I.hok
    exact ⟨its, r, p, z⟩
  · refine ⟨its.toList, r, ⟨o, I.kIn a o hk, hc, n, by simpa using hs⟩, ?_⟩
    have e := r.length
    simp only [Array.length_toList] at e
    omega
theorem Inv.list_inj (I : Inv X pins σ H s) (h : SqL X.K H a xs) (h' : SqL X.K H a ys) : xs = ys := by
  obtain ⟨its, r, ⟨o, n, e, _, _, d⟩, _⟩ := I.list h
  obtain ⟨its', r', ⟨o', n', e', _, _, d'⟩, _⟩ := I.list h'
  rw [e] at e'; cases e'
  rw [d] at d'
  injection d' with d1 _
  have : its = its' := by simpa using congrArg Array.toList d1
  subst this
  exact r.inj r'
end

/-! ### another wish about exceptions -/
abbrev Cx.wish (X : Cx) (E : Value → Shared → Prop) : Cx := { X with xe := E }
/-- no exception leaves -/
abbrev Cx.nox (X : Cx) : Cx := X.wish fun _ _ => False
theorem Cx.Ok.wish {X : Cx} (ok : X.Ok) (E : Value → Shared → Prop) : (X.wish E).Ok :=
  ⟨ok.mod, ok.kind, ok.glob, ok.blt, ok.above, ok.inj, ok.has, ok.cab, ok.hd, ok.frames, ok.stk, ok.exf, ok.bs, ok.bsz, ok.noex, ok.exfs, ok.funs, ok.frf⟩
theorem Cx.Ok.unwish {X : Cx} {E : Value → Shared → Prop} (ok : (X.wish E).Ok) : X.Ok :=
  ⟨ok.mod, ok.kind, ok.glob, ok.blt, ok.above, ok.inj, ok.has, ok.cab, ok.hd, ok.frames, ok.stk, ok.exf, ok.bs, ok.bsz, ok.noex, ok.exfs, ok.funs, ok.frf⟩
section
variable {X : Cx} {pins : List (Addr × Obj)} {σ : St} {H : Hp} {s : Shared} {E : Value → Shared → Prop}
theorem Inv.wish (I : Inv X pins σ H s) (E : Value → Shared → Prop) : Inv (X.wish E) pins σ H s := ⟨I.ok.wish E, I.os, I.bare, I.base, I.loc, I.cell, I.free, I.freeC, I.pin, I.hok, I.len⟩
theorem Inv.unwish (I : Inv (X.wish E) pins σ H s) : Inv X pins σ H s := ⟨I.ok.unwish, I.os, I.bare, I.base, I.loc, I.cell, I.free, I.freeC, I.pin, I.hok, I.len⟩
theorem SP.unwish {D : Ends} {f : Flow} {s' : Shared} (h : SP (X.wish E) pins D f s') : SP X pins D f s' := by
  cases f with
  | next => obtain ⟨σ', H', I, q⟩ := h; exact ⟨σ', H', I.unwish, q⟩
  | brk => obtain ⟨σ', H', I, q⟩ := h; exact ⟨σ', H', I.unwish, q⟩
  | cont => obtain ⟨σ', H', I, q⟩ := h; exact ⟨σ', H', I.unwish, q⟩
  | ret u => obtain ⟨v, σ', H', I, r, q⟩ := h; exact ⟨v, σ', H', I.unwish, r, q⟩
theorem PSs.nox {st : List Stmt} {t : TS} (h : PSs X.nox st t) : PSs X st t := fun pins s σ H D I hw =>
  wpAny_mono (h pins s σ H D (I.wish _) hw) (fun _ _ q => q.unwish) fun _ _ z => False.elim z
end

/-! ### blocks and small statements -/
section
variable {X : Cx} {st : Stmt} {rest : List Stmt} {t u : TS} {e : Expr} {te : TE} {pos : Pos}
def tNext : TS := fun D σ H => D.nx σ H
def tSeq (t u : TS) : TS := fun D σ H => t { D with nx := u D } σ H
theorem pss_nil : PSs X [] tNext := fun _ _ σ H _ I h => wpAny_execs_nil ⟨σ, H, I, h⟩
theorem pss_cons (h1 : PS X st t) (h2 : PSs X rest u) : PSs X (st :: rest) (tSeq t u) := by
  intro pins s σ H D I h
  refine wpAny_execs_cons (thn (h1 pins s σ H { D with nx := u D } I h) fun f s1 q => ?_)
  cases f with
  | next =>
    obtain ⟨σ', H', I', q⟩ := q
    exact h2 pins s1 σ' H' D I' q
  | ret v => exact q
  | brk => exact q
  | cont => exact q
theorem pss_one (h1 : PS X st t) : PSs X [st] t := by
  intro pins s σ H D I h
  refine wpAny_execs_cons (thn (h1 pins s σ H D I h) fun f s1 q => ?_)
  cases f with
  | next => exact wpAny_execs_nil q
  | ret v => exact q
  | brk => exact q
  | cont => exact q
/-- in a def's body nothing is shown -/
theorem Inv.quiet {pins : List (Addr × Obj)} {σ : St} {H : Hp} {s : Shared} (I : Inv X pins σ H s) : interactive X.env = false := by simp [interactive, I.ok.kind]
/-- an expression whose value is dropped -/
def tDrop (te : TE) : TS := fun D σ H => te σ H fun _ H1 => D.nx σ H1
theorem ps_expr (he : PE X e te) (hs : swapsWith e none pos.line X.env = pure false := by rfl) : PS X (.Expr e pos) (tDrop te) := by
  intro pins s σ H D I h
  exact wpAny_Expr_any (thn (he pins s σ H _ I h) fun v s1 ⟨x, H1, I1, r1, q1⟩ => ⟨σ, H1, I1, q1⟩) I.quiet hs
def tRet (te : TE) : TS := fun D σ H => te σ H D.rt
theorem ps_ret (he : PE X e te) : PS X (.Return (some e) pos) (tRet te) := by
  intro pins s σ H D I h
  exact wpAny_Return_some (thn (he pins s σ H _ I h) fun v s1 ⟨x, H1, I1, r1, q1⟩ => ⟨x, σ, H1, I1, r1, q1⟩)
def tIfS (c : TT) (t u : TS) : TS := fun D σ H => c σ H fun b H1 => if b = true then t D σ H1 else u D σ H1
theorem ps_if {c : Expr} {a b : List Stmt} {tc : TT} (hc : PT X c tc) (ha : PSs X a t) (hb : PSs X b u) : PS X (.If c a b pos) (tIfS tc t u) := by
  intro pins s σ H D I h
  refine wpAny_If (thn (hc pins s σ H _ I h) fun d s1 hq0 => ?_)
  obtain ⟨H1, I1, q1⟩ := hq0
  cases d with
  | true => exact ha pins s1 σ H1 D I1 q1
  | false => exact hb pins s1 σ H1 D I1 q1
end

/-! ### targets -/
abbrev TG := V → St → Hp → (St → Hp → Prop) → Prop
abbrev TGs := List V → St → Hp → (St → Hp → Prop) → Prop
def PG (X : Cx) (target : Expr) (t : TG) : Prop :=
  ∀ (pins : List (Addr × Obj)) (s : Shared) (σ : St) (H : Hp) (v : V) (u : Value) (Q : St → Hp → Prop), Inv X pins σ H s → RelV v u → t v σ H Q →
    wpAny (model X.prog X.w) X.A (assign target X.env u) (fun _ s' => ∃ σ' H', Inv X pins σ' H' s' ∧ Q σ' H') X.xe s
/-- o[i] = v, by values -/
abbrev TSet := V → V → V → Hp → (Hp → Prop) → Prop
/-- a op= b, by values -/
abbrev TIp := V → V → Hp → VK → Prop
section
variable {X : Cx} {pos : Pos}
def gName (i : Nat) : TG := fun v σ H Q => Q (σ.set i (some v)) H
theorem pg_name {i : Nat} {x : Str} (hN : X.N.Nodup) (hi : X.N[i]? = some x) (hx : Loc X.env.scope x) (hf : X.fn x = true ∨ X.env.scope.names.lookup x = some .local := by first | exact .inl rfl | exact .inr rfl | assumption) : PG X (.Name x pos) (gName i) := by
  intro pins s σ H v u Q I r h
  exact wpAny_assign_Name (store_ok I hN hi hx r (fun s' I' => ⟨_, H, I', h⟩) hf)
/-- target = value -/
def tAsg (te : TE) (g : TG) : TS := fun D σ H => te σ H fun x H1 => g x σ H1 D.nx
/-- name = value -/
theorem ps_set {i : Nat} {x : Str} {e : Expr} {te : TE} {pos' : Pos} (hN : X.N.Nodup) (hi : X.N[i]? = some x) (hx : Loc X.env.scope x) (he : PE X e te) (hs : swapsWith e (some (.Name x pos')) pos.line X.env = pure false := by rfl) (hf : X.fn x = true ∨ X.env.scope.names.lookup x = some .local := by first | exact .inl rfl | exact .inr rfl | assumption) :
    PS X (.Assign [.Name x pos'] e pos) (tAsg te (gName i)) := by
  intro pins s σ H D I h
  refine wpAny_Assign_Name (thn (he pins s σ H _ I h) fun v s1 hq0 => ?_) hs
  obtain ⟨y, H1, I1, r1, q1⟩ := hq0
  exact store_ok I1 hN hi hx r1 (fun s2 I2 => ⟨_, H1, I2, q1⟩) hf
end

/-! ### while -/
section
variable {X : Cx} {pos : Pos}
end

/-! ### what a loop or a comprehension walks -/
/-- at turn i: it yields x (the heap may grow), or it stops -/
structure It where
  go : Nat → Hp → Prop
  yld : Nat → Hp → V → Hp → Prop
  stop : Nat → Hp → Prop
/-- the iterator's own objects may turn: they are not the frame's, not pinned, younger than the entry (or a comprehension's own) -/
def FpOk (X : Cx) (pins : List (Addr × Obj)) (H : Hp) (b : Addr) : Prop :=
  H b = none ∧ b ≠ X.env.locals ∧ b ∉ X.fs ∧ (b ∈ X.ex ∨ X.s₀.heap.objs.size ≤ b) ∧ (∀ x c, X.env.cells.lookup x = some c → c ≠ b) ∧ ∀ p ∈ X.pn ++ pins, p.1 ≠ b
theorem Inv.fpOk {X : Cx} {pins : List (Addr × Obj)} {σ : St} {H H' : Hp} {s : Shared} {b : Addr} (I : Inv X pins σ H s) (hb : s.heap.objs.size ≤ b) (hn : H' b = none) : FpOk X pins H' b := by
  refine ⟨hn, Nat.ne_of_gt (Nat.lt_of_lt_of_le I.lt hb), I.nofs hb, .inr (Nat.le_trans I.sz hb), fun x c e z => ?_, fun p hp z => ?_⟩
  · obtain ⟨v, q⟩ := I.cell x c e
    exact absurd (Nat.lt_of_lt_of_le q.lt (by rw [z]; exact hb)) (Nat.lt_irrefl _)
  · exact absurd (Nat.lt_of_lt_of_le (Heap.lt_size (I.pin p hp).1) (by rw [z]; exact hb)) (Nat.lt_irrefl _)
structure Turn (P : Program) (w : World) (K : PySem.W.Frag) (tg : Expr) (J : It) (fp : List Addr) (it : Addr) (tn : Nat → Heap → Prop) : Prop where
  mem : it ∈ fp
  obj : ∀ i h, tn i h → ∀ b ∈ fp, ∃ o, h.get? b = some o ∧ ∀ v, o.data ≠ .cell v
  keep : ∀ i h h', tn i h → (∀ b ∈ fp, ∀ o, h.get? b = some o → h'.get? b = some o) → tn i h'
  item : ∀ (X : Cx), X.prog = P → X.w = w → X.K = K → X.calm = true → ∀ (i : Nat) (pins : List (Addr × Obj)) (s : Shared) (σ : St) (H : Hp) (E : Value → Shared → Prop), Inv X pins σ H s → (∀ b ∈ fp, FpOk X pins H b) → tn i s.heap → J.go i H →
    wpAny (model P w) X.A (pyNext (.ref it)) (fun r s1 => ∃ u, r = some u ∧
      wpAny (model P w) X.A (letOwnedTupleGo tg (.ref it) u) (fun _ s2 => ∃ x H', Inv X pins σ H' s2 ∧ RelV x u ∧ J.yld i H x H' ∧ tn (i + 1) s2.heap ∧ ∀ b ∈ fp, H' b = none) E s1) E s
  done : ∀ (X : Cx), X.prog = P → X.w = w → X.K = K → X.calm = true → ∀ (i : Nat) (pins : List (Addr × Obj)) (s : Shared) (σ : St) (H : Hp) (E : Value → Shared → Prop), Inv X pins σ H s → (∀ b ∈ fp, FpOk X pins H b) → tn i s.heap → J.stop i H →
    wpAny (model P w) X.A (pyNext (.ref it)) (fun r s1 => r = none ∧ Inv X pins σ H s1) E s
  self : ∀ (A : Around) (i : Nat) (s : Shared) (Q : Value → Shared → Prop) (E : Value → Shared → Prop), tn i s.heap → Q (.ref it) s → wpAny (model P w) A (pyIter (.ref it)) Q E s
abbrev TI := St → Hp → (It → Hp → Prop) → Prop
/-- an iterator has come -/
def PIE (X : Cx) (pins : List (Addr × Obj)) (σ : St) (tg : Expr) (R : It → Hp → Prop) (itv : Value) (s2 : Shared) : Prop :=
  ∃ (it : Addr) (fp : List Addr) (tn : Nat → Heap → Prop) (J : It) (H' : Hp), itv = .ref it ∧ Inv X pins σ H' s2 ∧ Turn X.prog X.w X.K tg J fp it tn ∧ tn 0 s2.heap ∧ (∀ b ∈ fp, FpOk X pins H' b) ∧ R J H'
def PI (X : Cx) (tg iter : Expr) (wi : TI) : Prop :=
  ∀ (pins : List (Addr × Obj)) (s : Shared) (σ : St) (H : Hp) (R : It → Hp → Prop), Inv X pins σ H s → wi σ H R →
    wpAny (model X.prog X.w) X.A (eval iter X.env) (fun v s1 => wpAny (model X.prog X.w) X.A (pyIter v) (PIE X pins σ tg R) X.xe s1) X.xe s

/-- the step ahead of the store is nothing for an iterator that keeps no tuple -/
theorem go_of {M : Model} {A : Around} {E : Value → Shared → Prop} {s : Shared} {tg : Expr} {it : Addr} {u : Value} {o : Obj} {n : String} {vs : Array Value} {Q : Unit → Shared → Prop} (ho : s.heap.get? it = some o) (hc : o.cls = .type n) (hd : o.data = .fields vs)
    (hn : ["enumerate", "zip", "dict_itemiterator", "dict_reverseitemiterator", "odict_iterator", "itertools.zip_longest", "itertools.pairwise"].contains n = false) (hQ : Q () s) : wpAny M A (letOwnedTupleGo tg (.ref it) u) Q E s := by
  unfold letOwnedTupleGo
  cases tg <;> first
    | exact wpAny_pure hQ
    | (cases u <;> first
        | exact wpAny_pure hQ
        | (refine wpAny_bind (wpAny_load ho ?_)
           rw [hc, hd]
           show wpAny M A (if (["enumerate", "zip", "dict_itemiterator", "dict_reverseitemiterator", "odict_iterator", "itertools.zip_longest", "itertools.pairwise"].contains n && vs[0]? == some (rawInt _)) = true then _ else _) Q E s
           rw [if_neg (by intro h; rw [hn, Bool.false_and] at h; cases h)]
           exact wpAny_pure hQ))

/-- the list at a, as it stands at each turn (a loop may append to it) -/
def Itl (K : PySem.W.Frag) (a : Addr) : It :=
  ⟨fun i H => ∃ xs x, SqL K H a xs ∧ xs[i]? = some x, fun i H x H' => H' = H ∧ ∀ xs, SqL K H a xs → xs[i]? = some x, fun i H => ∃ xs, SqL K H a xs ∧ xs.length ≤ i⟩
/-- lo, lo + 1, .. (n of them) -/
def Itr (lo : Int) (n : Nat) : It := ⟨fun i _ => i < n, fun i H x H' => H' = H ∧ x = .int (lo + i), fun i _ => n ≤ i⟩
theorem turn_list {P : Program} {w : World} {K : PySem.W.Frag} {tg : Expr} (a it : Addr) : Turn P w K tg (Itl K a) [it] it (fun i h => h.IsListIter it a i) where
  mem := by simp
  obj := fun i h st b hb => by
    have e : b = it := by simpa using hb
    subst e
    obtain ⟨o, e, c, d⟩ := st
    exact ⟨o, e, fun v z => by rw [d] at z; cases z⟩
  keep := fun i h h' st k => st.at fun o e => k it (by simp) o e
  item := by
    intro X hP hw hK hc i pins s σ H E I hf st hg
    subst hP hw hK
    obtain ⟨xs, x, hq, hx⟩ := hg
    obtain ⟨its, rv, p, hz⟩ := I.list hq
    obtain ⟨u, hu, ru⟩ := rv.get hx
    obtain ⟨f0, f1, f2, f3, f4, f5⟩ := hf it (by simp)
    refine wpAny_pyNext_list_item st p.isList (x := u) (by simpa using hu) fun h' st' sb => ?_
    have I1 : Inv X pins σ H { s with heap := h' } := I.turned (t' := s.toks) (fun b o hb e => (sb.2 b hb).trans e) f0 f1 f3 f4 f5
    obtain ⟨o, e, c, d⟩ := id st'
    exact ⟨u, rfl, go_of (s := { s with heap := h' }) e c d (by decide) ⟨x, H, I1, ru, ⟨rfl, fun ys hy => by rw [I.list_inj hy hq]; exact hx⟩, st', fun b hb => (hf b hb).1⟩⟩
  done := by
    intro X hP hw hK hc i pins s σ H E I hf st hg
    subst hP hw hK
    obtain ⟨xs, hq, hx⟩ := hg
    obtain ⟨its, rv, p, hz⟩ := I.list hq
    obtain ⟨f0, f1, f2, f3, f4, f5⟩ := hf it (by simp)
    have hl := rv.length
    exact wpAny_pyNext_list_end (I.ok.hd hc) st p.isList (by simp; omega) fun h' eb => ⟨rfl, I.turned (t' := s.toks) (fun b o hb e => eb b o hb e) f0 f1 f3 f4 f5⟩
  self := fun _ _ _ _ _ st h => wpAny_pyIter_listiter st h
theorem turn_range {P : Program} {w : World} {K : PySem.W.Frag} {tg : Expr} (it : Addr) (lo : Int) (n : Nat) : Turn P w K tg (Itr lo n) [it] it (fun i h => IsRangeIter h it (lo + (i : Nat) * 1) ((n : Int) - (i : Nat)) 1) where
  mem := by simp
  obj := fun i h st b hb => by
    have e : b = it := by simpa using hb
    subst e
    exact ⟨_, st, fun v z => by
      have z' : Data.fields _ = Data.cell v := z
      cases z'⟩
  keep := fun i h h' st k => k it (by simp) _ st
  item := by
    intro X hP hw hK hc i pins s σ H E I hf st hg
    subst hP hw hK
    obtain ⟨f0, f1, f2, f3, f4, f5⟩ := hf it (by simp)
    have W := Walks.range (prog := X.prog) (w := X.w) (I.ok.hd hc) it lo 1 n
    refine W.item i s _ _ hg st fun v h' tk hv st' kk => ?_
    obtain ⟨t, rfl⟩ := hv
    have I1 : Inv X pins σ H { s with heap := h', toks := tk } := I.turned (fun b o hb e => kk b o (by simpa using hb) e) f0 f1 f3 f4 f5
    refine ⟨_, rfl, go_of (s := { s with heap := h', toks := tk }) (n := "range_iterator") st' rfl rfl (by decide) ⟨.int (lo + i), H, I1, ⟨t, ?_⟩, ⟨rfl, rfl⟩, st', fun b hb => (hf b hb).1⟩⟩
    rw [Int.mul_one]
  done := by
    intro X hP hw hK hc i pins s σ H E I hf st hg
    subst hP hw hK
    obtain ⟨f0, f1, f2, f3, f4, f5⟩ := hf it (by simp)
    exact wpAny_pyNext_range_end (I.ok.hd hc) st (by have : n ≤ i := hg; omega) fun h' eb => ⟨rfl, I.turned (t' := s.toks) (fun b o hb e => eb b o hb e) f0 f1 f3 f4 f5⟩
  self := fun _ _ _ _ _ st h => wpAny_pyIter_rangeiter st h
end L2

namespace L2
open PySem PySem.Spec PyProof.Rows
section
variable {X : Cx} {tg : Expr}
def iList (K : PySem.W.Frag) (tl : TE) : TI := fun σ H R => tl σ H fun x H1 => ∃ a, x = .ref a ∧ (∃ xs, SqL K H1 a xs) ∧ R (Itl K a) H1
theorem pi_list {l : Expr} {tl : TE} (hl : PE X l tl) : PI X tg l (iList X.K tl) := by
  intro pins s σ H R I h
  refine thn (hl pins s σ H _ I h) fun v s1 hq0 => ?_
  obtain ⟨x, H1, I1, r1, q1⟩ := hq0
  obtain ⟨a, e, ⟨xs, hq⟩, q⟩ := q1
  subst e
  cases r1
  obtain ⟨its, rv, p, hz⟩ := I1.list hq
  refine wpAny_pyIter_list p.isList ?_
  refine ⟨s1.heap.objs.size, [s1.heap.objs.size], _, _, H1, rfl, I1.kept (t' := s1.toks) fun b o e => Heap.get?_push_of_some _ e, turn_list a _, ⟨_, Heap.get?_push_size _ rfl, rfl, rfl⟩, fun b hb => ?_, q⟩
  have e : b = s1.heap.objs.size := by simpa using hb
  subst e
  exact I1.fpOk (Nat.le_refl _) (I1.hok.fresh (Nat.le_refl _))
/-- a range object just made, walked -/
theorem range_it {pins : List (Addr × Obj)} {σ : St} {H : Hp} {s : Shared} {R : It → Hp → Prop} {E : Value → Shared → Prop} {lo hi : Int} {t u v : Tok} {tk : Nat} (I : Inv X pins σ H s) (h1 : -(2 ^ 62) ≤ lo) (h2 : lo < 2 ^ 62) (h3 : -(2 ^ 62) ≤ hi) (h4 : hi < 2 ^ 62)
    (q : R (Itr lo (hi - lo).toNat) H) : wpAny (model X.prog X.w) X.A (pyIter (.ref s.heap.objs.size)) (PIE X pins σ tg R) E { s with heap := s.heap.push { cls := .type "range", data := .fields #[.int lo t, .int hi u, .int 1 v] }, toks := tk } := by
  refine wpAny_pyIter_range (IsRange.new ..) (small_one h1 h2 h3 h4) ?_
  have I1 : Inv X pins σ H { s with heap := s.heap.push { cls := .type "range", data := .fields #[.int lo t, .int hi u, .int 1 v] }, toks := tk } := I.kept fun b o e => Heap.get?_push_of_some _ e
  refine ⟨(s.heap.push { cls := .type "range", data := .fields #[.int lo t, .int hi u, .int 1 v] }).objs.size, [(s.heap.push { cls := .type "range", data := .fields #[.int lo t, .int hi u, .int 1 v] }).objs.size], _, _, H, rfl,
    I1.kept (t' := tk) fun b o e => Heap.get?_push_of_some _ e, turn_range _ lo (hi - lo).toNat, ?_, fun b hb => ?_, q⟩
  · have e1 : lo + ((0 : Nat) : Int) * 1 = lo := by simp
    have e2 : (((hi - lo).toNat : Nat) : Int) - ((0 : Nat) : Int) = Builtin.Range.rangeSize lo hi 1 := by rw [rangeSize_one]; split <;> (first | exact (Int.sub_zero _).trans (Int.toNat_of_nonneg (Int.sub_nonneg_of_le (Int.le_of_lt (by assumption)))) | exact (Int.sub_zero _).trans (congrArg Int.ofNat (Int.toNat_eq_zero.mpr (Int.sub_nonpos_of_le (Int.not_lt.mp (by assumption))))))
    show IsRangeIter _ _ (lo + ((0 : Nat) : Int) * 1) ((((hi - lo).toNat : Nat) : Int) - ((0 : Nat) : Int)) 1
    rw [e1, e2]
    exact Heap.get?_push_size _ rfl
  · have e : b = (s.heap.push { cls := .type "range", data := .fields #[.int lo t, .int hi u, .int 1 v] }).objs.size := by simpa using hb
    subst e
    exact I1.fpOk (Nat.le_refl _) (I1.hok.fresh (Nat.le_refl _))
def iRng1 (ta : TA) : TI := fun σ H R => ta σ H fun vs H1 => ∃ j : Int, vs = [.int j] ∧ -(2 ^ 62) ≤ j ∧ j < 2 ^ 62 ∧ R (Itr 0 j.toNat) H1
def iRng2 (ta : TA) : TI := fun σ H R => ta σ H fun vs H1 => ∃ i j : Int, vs = [.int i, .int j] ∧ (-(2 ^ 62) ≤ i ∧ i < 2 ^ 62 ∧ -(2 ^ 62) ≤ j ∧ j < 2 ^ 62) ∧ R (Itr i (j - i).toNat) H1
theorem pi_range1 {a : Expr} {ta : TA} {p pos : Pos} (hg : Gl X "range") (hm : X.mg "range" = none) (ha : PA X [a] ta) (hs : starEach [a] X.env = [(false, eval a X.env)] := by rfl) : PI X tg (.Call (.Name "range" p) [a] [] pos) (iRng1 ta) := by
  intro pins s σ H R I h
  refine Call_ (ld_blt I hg hm boot_range (PyProof.Rows.callWith_type1 (thn (ha pos pins s σ H _ I h) fun us s1 hq0 => ?_) hs rfl))
  obtain ⟨vs, H1, I1, r1, q1⟩ := hq0
  obtain ⟨j, e, q1, q2, q⟩ := q1
  subst e
  cases r1 with
  | cons r rr =>
    cases rr
    obtain ⟨t, rfl⟩ := r
    exact call_range_1 (range_it I1 (by omega) (by omega) q1 q2 (by simpa using q))
theorem pi_range2 {a b : Expr} {ta : TA} {p pos : Pos} (hg : Gl X "range") (hm : X.mg "range" = none) (ha : PA X [a, b] ta) (hs : starEach [a, b] X.env = [(false, eval a X.env), (false, eval b X.env)] := by rfl) (hs2 : starEach [b] X.env = [(false, eval b X.env)] := by rfl) :
    PI X tg (.Call (.Name "range" p) [a, b] [] pos) (iRng2 ta) := by
  intro pins s σ H R I h
  refine Call_ (ld_blt I hg hm boot_range (PyProof.Rows.callWith_type1 (thn (ha pos pins s σ H _ I h) fun us s1 hq0 => ?_) (by rw [hs, hs2]) (by rw [hs2]; rfl)))
  obtain ⟨vs, H1, I1, r1, q1⟩ := hq0
  obtain ⟨i, j, e, ⟨q1, q2, q3, q4⟩, q⟩ := q1
  subst e
  cases r1 with
  | cons r rr =>
    cases rr with
    | cons r' rr =>
      cases rr
      obtain ⟨t, rfl⟩ := r
      obtain ⟨t', rfl⟩ := r'
      exact call_range_2 (range_it I1 q1 q2 q3 q4 q)

/-! ### for -/
/-- W: the invariant by the turn and a measure; N: what the body is to reach -/
def tFor (wi : TI) (g : TG) (tb : TS) : TS := fun D σ H => wi σ H fun J H1 => ∃ W : Nat → Nat → St → Hp → Prop, (∃ m, W 0 m σ H1) ∧ ∀ i m σ H, W i m σ H →
  (J.stop i H ∧ D.nx σ H) ∨ (J.go i H ∧ ∃ N : St → Hp → Prop, (∀ σ' H', N σ' H' → ∃ m', m' < m ∧ W (i + 1) m' σ' H') ∧ ∀ x H', J.yld i H x H' → g x σ H' fun σ2 H2 => tb { D with nx := N, ct := N, bk := D.nx } σ2 H2)
/-- the records at fp as they stand -/
def pinsAt (fp : List Addr) (h : Heap) : List (Addr × Obj) := fp.filterMap fun b => (h.get? b).map fun o => (b, o)
theorem mem_pinsAt {fp : List Addr} {h : Heap} {b : Addr} {o : Obj} (hb : b ∈ fp) (e : h.get? b = some o) : (b, o) ∈ pinsAt fp h := List.mem_filterMap.mpr ⟨b, hb, by rw [e]; rfl⟩
theorem of_pinsAt {fp : List Addr} {h : Heap} {p : Addr × Obj} (hp : p ∈ pinsAt fp h) : p.1 ∈ fp ∧ h.get? p.1 = some p.2 := by
  obtain ⟨b, hb, e⟩ := List.mem_filterMap.mp hp
  cases q : h.get? b with
  | none => rw [q] at e; cases e
  | some o =>
    rw [q] at e
    have e' : (b, o) = p := Option.some.inj e
    subst e'
    exact ⟨hb, q⟩
theorem Inv.pinned {pins : List (Addr × Obj)} {σ : St} {H : Hp} {s : Shared} {fp : List Addr} (I : Inv X pins σ H s) (hf : ∀ b ∈ fp, FpOk X pins H b) (ho : ∀ b ∈ fp, ∃ o, s.heap.get? b = some o ∧ ∀ v, o.data ≠ .cell v) : Inv X (pins ++ pinsAt fp s.heap) σ H s :=
  I.pins_of fun p hp => (List.mem_append.mp hp).elim (fun z => I.pin p (List.mem_append_right _ z)) fun z => by
    obtain ⟨hb, e⟩ := of_pinsAt z
    obtain ⟨f0, f1, f2, _⟩ := hf p.1 hb
    obtain ⟨o, e', d⟩ := ho p.1 hb
    rw [e] at e'; cases e'
    exact ⟨e, f0, f1, f2, d⟩
theorem Inv.unpinned {pins pl : List (Addr × Obj)} {σ : St} {H : Hp} {s : Shared} (I : Inv X (pins ++ pl) σ H s) : Inv X pins σ H s := I.pins_of fun p hp => I.pin p (List.mem_append_right _ (List.mem_append_left _ hp))
theorem ps_for {iter : Expr} {body : List Stmt} {wi : TI} {g : TG} {tb : TS} {pos : Pos} (hp : PassesOwn (model X.prog X.w) X.A X.env X.xe) (hc : X.calm = true) (hi : PI X tg iter wi) (hg : PG X tg g) (hb : PSs X body tb)
    (hs : ∀ x, foldedSetIterable iter X.env x = pure x := by intro _; rfl) : PS X (.For tg iter body [] pos) (tFor wi g tb) := by
  intro pins s σ H D I h
  refine wpAny_For (thn (hi pins s σ H _ I h) fun v s1 h1 => thn h1 fun itv s2 h2 => ?_) hs
  obtain ⟨it, fp, tn, J, H2, e, I2, T, st2, f2, W, ⟨m0, w0⟩, turn⟩ := h2
  subst e
  -- what stays true of the iterator's objects through the loop
  have stat : ∀ {H' : Hp}, (∀ b ∈ fp, H' b = none) → ∀ b ∈ fp, FpOk X pins H' b := fun hn b hb => ⟨hn b hb, (f2 b hb).2⟩
  refine codeAny_forLoop_any (fun n s' => ∃ i σ' H', Inv X pins σ' H' s' ∧ tn i s'.heap ∧ (∀ b ∈ fp, H' b = none) ∧ W i n σ' H') ?_ m0 ⟨0, σ, H2, I2, st2, fun b hb => (f2 b hb).1, w0⟩
  rintro n s3 ⟨i, σ3, H3, I3, st3, fr3, w3⟩
  rcases turn i n σ3 H3 w3 with ⟨stop, qn⟩ | ⟨go, N, hN, step⟩
  · refine wpAny_passesOwn hp (thn (T.done X rfl rfl rfl hc i pins s3 σ3 H3 X.xe I3 (stat fr3) st3 stop) fun r s4 hq0 => ?_)
    obtain ⟨hr, I4⟩ := hq0
    subst hr
    exact wpAny_execs_nil ⟨σ3, H3, I4, qn⟩
  · refine wpAny_passesOwn hp (thn (T.item X rfl rfl rfl hc i pins s3 σ3 H3 X.xe I3 (stat fr3) st3 go) fun r s4 hq0 => ?_)
    obtain ⟨u, hr, h4⟩ := hq0
    subst hr
    refine wpAny_passesOwn hp (thn h4 fun _ s5 hq0 => ?_)
    obtain ⟨x, H5, I5, r5, y5, st5, fr5⟩ := hq0
    have I5' := I5.pinned (stat fr5) (T.obj _ _ st5)
    refine wpAny_passesOwn hp (thn (hg _ s5 σ3 H5 x u _ I5' r5 (step x H5 y5)) fun _ s6 hq0 => ?_)
    obtain ⟨σ6, H6, I6, q6⟩ := hq0
    refine wpAny_passesOwn hp (thn (hb _ s6 σ6 H6 _ I6 q6) fun f s7 q7 => ?_)
    have again : ∀ {σ7 : St} {H7 : Hp}, Inv X (pins ++ pinsAt fp s5.heap) σ7 H7 s7 → N σ7 H7 → ∃ m, m < n ∧ ∃ i σ' H', Inv X pins σ' H' s7 ∧ tn i s7.heap ∧ (∀ b ∈ fp, H' b = none) ∧ W i m σ' H' := fun {σ7 H7} I7 n7 => by
      obtain ⟨m', hm, w7⟩ := hN σ7 H7 n7
      refine ⟨m', hm, i + 1, σ7, H7, I7.unpinned, T.keep _ _ _ st5 fun b hb o e => (I7.pin (b, o) (List.mem_append_right _ (List.mem_append_right _ (mem_pinsAt hb e)))).1, fun b hb => ?_, w7⟩
      obtain ⟨o, e, d⟩ := T.obj _ _ st5 b hb
      exact (I7.pin (b, o) (List.mem_append_right _ (List.mem_append_right _ (mem_pinsAt hb e)))).2.1
    cases f with
    | next => obtain ⟨σ7, H7, I7, n7⟩ := q7; exact again I7 n7
    | cont => obtain ⟨σ7, H7, I7, n7⟩ := q7; exact again I7 n7
    | brk => obtain ⟨σ7, H7, I7, q7⟩ := q7; exact ⟨σ7, H7, I7.unpinned, q7⟩
    | ret v => obtain ⟨x7, σ7, H7, I7, r7, q7⟩ := q7; exact ⟨x7, σ7, H7, I7.unpinned, r7, q7⟩
end

/-! ### the forms one uses -/
/-- over a list that the body leaves as it is -/
theorem for_list {K : PySem.W.Frag} {a : Addr} {xs : List V} {g : TG} {tb : TS} {D : Ends} {σ : St} {H : Hp} (Pv : Nat → St → Hp → Prop) (h0 : Pv 0 σ H) (hl : ∀ i σ H, i ≤ xs.length → Pv i σ H → SqL K H a xs)
    (hs : ∀ i x σ H, xs[i]? = some x → Pv i σ H → g x σ H fun σ2 H2 => tb { D with nx := Pv (i + 1), ct := Pv (i + 1), bk := D.nx } σ2 H2) (hd : ∀ σ H, Pv xs.length σ H → D.nx σ H) :
    ∃ W : Nat → Nat → St → Hp → Prop, (∃ m, W 0 m σ H) ∧ ∀ i m σ H, W i m σ H →
      ((Itl K a).stop i H ∧ D.nx σ H) ∨ ((Itl K a).go i H ∧ ∃ N : St → Hp → Prop, (∀ σ' H', N σ' H' → ∃ m', m' < m ∧ W (i + 1) m' σ' H') ∧ ∀ x H', (Itl K a).yld i H x H' → g x σ H' fun σ2 H2 => tb { D with nx := N, ct := N, bk := D.nx } σ2 H2) := by
  refine ⟨fun i m σ H => m = xs.length - i ∧ i ≤ xs.length ∧ Pv i σ H, ⟨xs.length, by simp, Nat.zero_le _, h0⟩, ?_⟩
  rintro i m σ H ⟨rfl, hi, p⟩
  have q := hl i σ H hi p
  by_cases hlt : i < xs.length
  · refine .inr ⟨⟨xs, xs[i], q, by simp [hlt]⟩, Pv (i + 1), fun σ' H' p' => ⟨xs.length - (i + 1), Nat.sub_succ_lt_self _ _ hlt, rfl, hlt, p'⟩, fun x H' y => ?_⟩
    obtain ⟨e, y⟩ := y
    subst e
    exact hs i x σ _ (y xs q) p
  · have e : i = xs.length := Nat.le_antisymm hi (Nat.not_lt.mp hlt)
    subst e
    exact .inl ⟨⟨xs, q, Nat.le_refl _⟩, hd σ H p⟩
theorem for_range {lo : Int} {n : Nat} {g : TG} {tb : TS} {D : Ends} {σ : St} {H : Hp} (Pv : Nat → St → Hp → Prop) (h0 : Pv 0 σ H)
    (hs : ∀ i σ H, i < n → Pv i σ H → g (.int (lo + i)) σ H fun σ2 H2 => tb { D with nx := Pv (i + 1), ct := Pv (i + 1), bk := D.nx } σ2 H2) (hd : ∀ σ H, Pv n σ H → D.nx σ H) :
    ∃ W : Nat → Nat → St → Hp → Prop, (∃ m, W 0 m σ H) ∧ ∀ i m σ H, W i m σ H →
      ((Itr lo n).stop i H ∧ D.nx σ H) ∨ ((Itr lo n).go i H ∧ ∃ N : St → Hp → Prop, (∀ σ' H', N σ' H' → ∃ m', m' < m ∧ W (i + 1) m' σ' H') ∧ ∀ x H', (Itr lo n).yld i H x H' → g x σ H' fun σ2 H2 => tb { D with nx := N, ct := N, bk := D.nx } σ2 H2) := by
  refine ⟨fun i m σ H => m = n - i ∧ i ≤ n ∧ Pv i σ H, ⟨n, by simp, Nat.zero_le _, h0⟩, ?_⟩
  rintro i m σ H ⟨rfl, hi, p⟩
  by_cases hlt : i < n
  · refine .inr ⟨hlt, Pv (i + 1), fun σ' H' p' => ⟨n - (i + 1), Nat.sub_succ_lt_self _ _ hlt, rfl, hlt, p'⟩, fun x H' y => ?_⟩
    obtain ⟨e, y⟩ := y
    subst e y
    exact hs i σ _ hlt p
  · have e : i = n := Nat.le_antisymm hi (Nat.not_lt.mp hlt)
    subst e
    exact .inl ⟨Nat.le_refl _, hd σ H p⟩
end L2

namespace L2
open PySem PySem.Spec PyProof.Rows

abbrev R2 := V → V → Hp → VK → Prop
/-- a two-place operation on values: f is binaryOp op, inplaceOp op or compareOp op -/
def OpR (X : Cx) (f : Value → Value → Sem Value) (r : R2) : Prop :=
  ∀ (pins : List (Addr × Obj)) (s : Shared) (σ : St) (H : Hp) (x y : V) (v u : Value) (Q : VK), Inv X pins σ H s → RelV x v → RelV y u → r x y H Q →
    wpAny (model X.prog X.w) X.A (f v u) (EP X pins σ Q) X.xe s
/-- a one-place operation -/
def UnR (X : Cx) (f : Value → Sem Value) (r : V → Hp → VK → Prop) : Prop :=
  ∀ (pins : List (Addr × Obj)) (s : Shared) (σ : St) (H : Hp) (x : V) (v : Value) (Q : VK), Inv X pins σ H s → RelV x v → r x H Q →
    wpAny (model X.prog X.w) X.A (f v) (EP X pins σ Q) X.xe s
/-- a call of a value that is known (a builtin, a type) with values -/
def CallR (X : Cx) (f : Value) (r : List V → Hp → VK → Prop) : Prop :=
  ∀ (pins : List (Addr × Obj)) (s : Shared) (σ : St) (H : Hp) (xs : List V) (us : List Value) (Q : VK), Inv X pins σ H s → Vals xs us → r xs H Q →
    wpAny (model X.prog X.w) X.A (call f us) (EP X pins σ Q) X.xe s
def tOp (r : R2) (ta tb : TE) : TE := fun σ H Q => ta σ H fun x H1 => tb σ H1 fun y H2 => r x y H2 Q
def tUn (r : V → Hp → VK → Prop) (ta : TE) : TE := fun σ H Q => ta σ H fun x H1 => r x H1 Q
/-- ints in, under C, and a value out -/
def rI (C : Int → Int → Prop) (g : Int → Int → V) : R2 := fun x y H Q => ∃ i j, x = .int i ∧ y = .int j ∧ C i j ∧ Q (g i j) H
def rI0 (g : Int → Int → V) : R2 := fun x y H Q => ∃ i j, x = .int i ∧ y = .int j ∧ Q (g i j) H
def rU (g : Int → V) : V → Hp → VK → Prop := fun x H Q => ∃ i, x = .int i ∧ Q (g i) H

section
variable {X : Cx} {a b c : Expr} {ta tb tc : TE} {pos : Pos}

theorem binT (ha : PE X a ta) (hb : PE X b tb) {pins : List (Addr × Obj)} {s : Shared} {σ : St} {H : Hp} {R : V → V → Hp → Prop} (I : Inv X pins σ H s)
    (h : ta σ H fun x H1 => tb σ H1 fun y H2 => R x y H2) {Q : Value → Shared → Prop} {f : Value → Value → Sem Value}
    (hf : ∀ v u s2 x y H2, Inv X pins σ H2 s2 → RelV x v → RelV y u → R x y H2 → wpAny (model X.prog X.w) X.A (f v u) Q X.xe s2) :
    wpAny (model X.prog X.w) X.A (eval a X.env) (fun v s₁ => wpAny (model X.prog X.w) X.A (eval b X.env) (fun u s₂ => wpAny (model X.prog X.w) X.A (f v u) Q X.xe s₂) X.xe s₁) X.xe s := by
  refine thn (ha pins s σ H _ I h) fun v s1 hq0 => ?_
  obtain ⟨x, H1, I1, r1, q1⟩ := hq0
  refine thn (hb pins s1 σ H1 _ I1 q1) fun u s2 hq0 => ?_
  obtain ⟨y, H2, I2, r2, q2⟩ := hq0
  exact hf v u s2 x y H2 I2 r1 r2 q2

theorem pe_op {op : Operator} {r : R2} (ho : OpR X (binaryOp op) r) (ha : PE X a ta) (hb : PE X b tb) : PE X (.BinOp a op b pos) (tOp r ta tb) := by
  intro pins s σ H Q I h
  exact wpAny_BinOp (binT ha hb I h fun v u s2 x y H2 I2 rx ry q => ho pins s2 σ H2 x y v u Q I2 rx ry q)
theorem pe_un {op : UnaryOp} {r : V → Hp → VK → Prop} (ho : UnR X (unaryOp op) r) (ha : PE X a ta) : PE X (.UnaryOp op a pos) (tUn r ta) := by
  intro pins s σ H Q I h
  exact UnaryOp_ (thn (ha pins s σ H _ I h) fun v s1 ⟨x, H1, I1, r1, q1⟩ => ho pins s1 σ H1 x v Q I1 r1 q1)
/-! ### ints -/
theorem opI {f : Value → Value → Sem Value} {C : Int → Int → Prop} {g : Int → Int → Int}
    (rule : ∀ (i j : Int) (t u : Tok) (s : Shared) (Q : Value → Shared → Prop) (E : Value → Shared → Prop), C i j → Q (.int (g i j) s.toks) { s with toks := s.toks + 1 } → wpAny (model X.prog X.w) X.A (f (.int i t) (.int j u)) Q E s) :
    OpR X f (rI C fun i j => .int (g i j)) := by
  intro pins s σ H x y v u Q I rx ry h
  obtain ⟨i, j, rfl, rfl, hc, q⟩ := h
  obtain ⟨t, rfl⟩ := rx
  obtain ⟨t', rfl⟩ := ry
  exact rule i j t t' s _ _ hc ⟨.int (g i j), H, I.tok _, ⟨_, rfl⟩, q⟩
theorem opI0 {f : Value → Value → Sem Value} {g : Int → Int → Int}
    (rule : ∀ (i j : Int) (t u : Tok) (s : Shared) (Q : Value → Shared → Prop) (E : Value → Shared → Prop), Q (.int (g i j) s.toks) { s with toks := s.toks + 1 } → wpAny (model X.prog X.w) X.A (f (.int i t) (.int j u)) Q E s) :
    OpR X f (rI0 fun i j => .int (g i j)) := by
  intro pins s σ H x y v u Q I rx ry h
  obtain ⟨i, j, rfl, rfl, q⟩ := h
  obtain ⟨t, rfl⟩ := rx
  obtain ⟨t', rfl⟩ := ry
  exact rule i j t t' s _ _ ⟨.int (g i j), H, I.tok _, ⟨_, rfl⟩, q⟩
theorem opB0 {f : Value → Value → Sem Value} {g : Int → Int → Bool}
    (rule : ∀ (i j : Int) (t u : Tok) (s : Shared) (Q : Value → Shared → Prop) (E : Value → Shared → Prop), Q (.bool (g i j)) s → wpAny (model X.prog X.w) X.A (f (.int i t) (.int j u)) Q E s) :
    OpR X f (rI0 fun i j => .bl (g i j)) := by
  intro pins s σ H x y v u Q I rx ry h
  obtain ⟨i, j, rfl, rfl, q⟩ := h
  obtain ⟨t, rfl⟩ := rx
  obtain ⟨t', rfl⟩ := ry
  exact rule i j t t' s _ _ ⟨.bl (g i j), H, I, rfl, q⟩

def CDiv (i j : Int) : Prop := 0 < j ∧ j < 1073741824
def CMul (i j : Int) : Prop := (-(2 ^ 64) < i ∧ i < 2 ^ 64) ∨ (-(2 ^ 64) < j ∧ j < 2 ^ 64)
theorem CMul.ok {i j : Int} (h : CMul i j) : IntMulOk i j := by
  rcases h with ⟨h1, h2⟩ | ⟨h1, h2⟩
  · exact .of_left (intBits_le_64 h1 h2)
  · exact .of_right (intBits_le_64 h1 h2)
theorem op_add : OpR X (binaryOp .Add) (rI0 fun i j => .int (i + j)) := opI0 fun _ _ _ _ _ _ _ q => add_int q
theorem op_mul : OpR X (binaryOp .Mult) (rI CMul fun i j => .int (i * j)) := opI fun _ _ _ _ _ _ _ hc q => mul_int q hc.ok
/-- // by a positive divisor -/
theorem op_fdiv : OpR X (binaryOp .FloorDiv) (rI CDiv fun i j => .int (i / j)) := opI fun i j _ _ _ _ _ hc q => by
  have h1 : (0 : Int) < j := hc.1
  have h2 : j < 1073741824 := hc.2
  exact floordiv_int (by omega) (by rw [Int.fdiv_eq_ediv_of_nonneg i (by omega)]; exact q) (.inl (PyProof.noPylong_small (by omega)))
/-- % by a positive divisor of any size -/
theorem op_mod : OpR X (binaryOp .Mod) (rI (fun _ j => 0 < j) fun i j => .int (i % j)) := opI fun i j _ _ _ _ _ hc q => by
  have h1 : (0 : Int) < j := hc
  exact mod_int' (by omega) (by rw [Int.fmod_eq_emod_of_nonneg i (by omega)]; exact q)
theorem unI {f : Value → Sem Value} {g : Int → Int}
    (rule : ∀ (i : Int) (t : Tok) (s : Shared) (Q : Value → Shared → Prop) (E : Value → Shared → Prop), Q (.int (g i) s.toks) { s with toks := s.toks + 1 } → wpAny (model X.prog X.w) X.A (f (.int i t)) Q E s) :
    UnR X f (rU fun i => .int (g i)) := by
  intro pins s σ H x v Q I rx h
  obtain ⟨i, rfl, q⟩ := h
  obtain ⟨t, rfl⟩ := rx
  exact rule i t s _ _ ⟨.int (g i), H, I.tok _, ⟨_, rfl⟩, q⟩
theorem un_neg : UnR X (unaryOp .USub) (rU fun i => .int (-i)) := unI fun _ _ _ _ _ q => neg_int q
/-! ### bools among ints: n += (a < b) -/
end

/-! ### comparisons -/
/-- the scalars that == tells apart as data does -/
def scal : V → V → Bool
  | .non, .non => true | .non, .int _ => true | .int _, .non => true | .non, .bl _ => true | .bl _, .non => true | .non, .str _ => true | .str _, .non => true
  | .int _, .int _ => true | .bl _, .bl _ => true | .str _, .str _ => true | .byt _, .byt _ => true
  | .int _, .str _ => true | .str _, .int _ => true | .bl _, .str _ => true | .str _, .bl _ => true
  | _, _ => false
def rEq : R2 := fun x y H Q => scal x y = true ∧ Q (.bl (decide (x = y))) H
theorem dec_int {i j : Int} : decide (V.int i = V.int j) = (i == j) := by
  rw [Bool.eq_iff_iff]
  simp
theorem dec_bl {i j : Bool} : decide (V.bl i = V.bl j) = (i == j) := by
  rw [Bool.eq_iff_iff]
  simp
theorem dec_str {i j : Str} : decide (V.str i = V.str j) = (i == j) := by
  rw [Bool.eq_iff_iff]
  simp
theorem dec_byt {i j : Array UInt8} : decide (V.byt i = V.byt j) = (i.toList == j.toList) := by
  rw [Bool.eq_iff_iff]
  cases i
  cases j
  simp

section
variable {X : Cx} {a b c : Expr} {ta tb tc : TE} {pos : Pos}
theorem fin_bl {pins : List (Addr × Obj)} {σ : St} {H : Hp} {s : Shared} {Q : VK} {k k' : Bool} (I : Inv X pins σ H s) (q : Q (.bl k) H) (e : k = k') : EP X pins σ Q (.bool k') s := by
  subst e
  exact ⟨.bl k, H, I, rfl, q⟩
theorem op_eq : OpR X (compareOp .Eq) rEq := by
  intro pins s σ H x y v u Q I rx ry h
  obtain ⟨hs, q⟩ := h
  cases x with
  | non =>
    cases rx
    cases y with
    | non => cases ry; exact PySem.EqNone.eq_none_none (fin_bl I q (by simp))
    | bl j => cases ry; exact PySem.EqNone.eq_none_bool (fin_bl I q (by simp))
    | int j => obtain ⟨t', rfl⟩ := ry; exact PySem.EqNone.eq_none_int (fin_bl I q (by simp))
    | str j => obtain ⟨t', rfl⟩ := ry; exact PySem.EqNone.eq_none_str (fin_bl I q (by simp))
    | _ => exact absurd (show false = true from hs) Bool.false_ne_true
  | bl i =>
    cases rx
    cases y with
    | non => cases ry; exact PySem.EqNone.eq_bool_none (fin_bl I q (by simp))
    | bl j => cases ry; exact eq_bool (fin_bl I q dec_bl)
    | str j => obtain ⟨t', rfl⟩ := ry; exact PySem.EqMixed.eq_bool_str (fin_bl I q (by simp))
    | _ => exact absurd (show false = true from hs) Bool.false_ne_true
  | int i =>
    obtain ⟨t, rfl⟩ := rx
    cases y with
    | non => cases ry; exact PySem.EqNone.eq_int_none (fin_bl I q (by simp))
    | int j => obtain ⟨t', rfl⟩ := ry; exact eq_int (fin_bl I q dec_int)
    | str j => obtain ⟨t', rfl⟩ := ry; exact PySem.EqMixed.eq_int_str (fin_bl I q (by simp))
    | _ => exact absurd (show false = true from hs) Bool.false_ne_true
  | str i =>
    obtain ⟨t, rfl⟩ := rx
    cases y with
    | non => cases ry; exact PySem.EqNone.eq_str_none (fin_bl I q (by simp))
    | bl j => cases ry; exact PySem.EqMixed.eq_str_bool (fin_bl I q (by simp))
    | int j => obtain ⟨t', rfl⟩ := ry; exact PySem.EqMixed.eq_str_int (fin_bl I q (by simp))
    | str j => obtain ⟨t', rfl⟩ := ry; exact eq_str (fin_bl I q dec_str)
    | _ => exact absurd (show false = true from hs) Bool.false_ne_true
  | byt i =>
    obtain ⟨t, rfl⟩ := rx
    cases y with
    | byt j => obtain ⟨t', rfl⟩ := ry; exact PySem.W.eq_bytes (fin_bl I q dec_byt)
    | _ => exact absurd (show false = true from hs) Bool.false_ne_true
  | _ => cases y <;> exact absurd (show false = true from hs) Bool.false_ne_true
theorem op_lt : OpR X (compareOp .Lt) (rI0 fun i j => .bl (decide (i < j))) := opB0 fun _ _ _ _ _ _ _ q => lt_int q
theorem op_gt : OpR X (compareOp .Gt) (rI0 fun i j => .bl (decide (j < i))) := opB0 fun _ _ _ _ _ _ _ q => gt_int q
theorem op_notin_str : OpR X (compareOp .NotIn) (fun x y H Q => ∃ i j, x = .str i ∧ y = .str j ∧ Q (.bl (!(!(Builtin.Str.occurrences j i 0 j.length 1).isEmpty))) H) := by
  intro pins s σ H x y v u Q I rx ry h
  obtain ⟨i, j, rfl, rfl, q⟩ := h
  obtain ⟨t, rfl⟩ := rx
  obtain ⟨t', rfl⟩ := ry
  exact notIn_str (fin_bl I q rfl)
/-- two rules for one operation: by cases -/
theorem OpR.or {f : Value → Value → Sem Value} {r r' : R2} (h : OpR X f r) (h' : OpR X f r') : OpR X f (fun x y H Q => r x y H Q ∨ r' x y H Q) := by
  intro pins s σ H x y v u Q I rx ry q
  rcases q with q | q
  · exact h pins s σ H x y v u Q I rx ry q
  · exact h' pins s σ H x y v u Q I rx ry q

theorem nomark (b : Expr) {op : CmpOp} (h : op ≠ .In := by decide) (h2 : op ≠ .NotIn := by decide) : behindInMarks op b = false := by
  have e1 : (op == CmpOp.In) = false := by cases op <;> first | rfl | exact absurd rfl h
  have e2 : (op == CmpOp.NotIn) = false := by cases op <;> first | rfl | exact absurd rfl h2
  cases b <;> simp [behindInMarks, e1, e2]
/-- a reading of a value as a test -/
def tTest (t : TE) : TT := fun σ H Q => t σ H fun x H' => ∃ k, x = .bl k ∧ Q k H'
theorem pt_cmpR {op : CmpOp} {r : R2} (ho : OpR X (compareOp op) r) (ha : PE X a ta) (hb : PE X b tb) (hm : behindInMarks op b = false) : PT X (.Compare a [op] [b] pos) (tTest (tOp r ta tb)) := by
  intro pins s σ H Q I h
  refine wpAny_isTrue_Compare1 (thn (ha pins s σ H _ I h) fun v s1 ⟨x, H1, I1, r1, q1⟩ => thn (hb pins s1 σ H1 _ I1 q1) fun u s2 ⟨y, H2, I2, r2, q2⟩ =>
    thn (ho pins s2 σ H2 x y v u _ I2 r1 r2 q2) fun c s3 ⟨z, H3, I3, r3, k, e, q3⟩ => ?_) hm
  subst e
  cases r3
  exact wpAny_truthy_bool ⟨H3, I3, q3⟩
/-! ### truth -/
theorem line63 : (sizeLine : Nat) < 2 ^ 63 := by rw [sizeLine_eq]; decide
/-! ### strs and bytes -/
theorem op_add_str : OpR X (binaryOp .Add) (fun x y H Q => ∃ i j, x = .str i ∧ y = .str j ∧ i.length + j.length ≤ sizeLine ∧ Q (.str (i ++ j)) H) := by
  intro pins s σ H x y v u Q I rx ry h
  obtain ⟨i, j, rfl, rfl, hz, q⟩ := h
  obtain ⟨t, rfl⟩ := rx
  obtain ⟨t', rfl⟩ := ry
  exact add_str (fun t' tk => ⟨.str (i ++ j), H, I.tok _, ⟨_, rfl⟩, q⟩) hz
/-! ### scalar builtins, by CallR -/
theorem vals1 {x : V} {us : List Value} (r : Vals [x] us) : ∃ u, us = [u] ∧ RelV x u := by
  cases r with
  | cons r1 r2 => cases r2; exact ⟨_, rfl, r1⟩
theorem vals2 {x y : V} {us : List Value} (r : Vals [x, y] us) : ∃ u w', us = [u, w'] ∧ RelV x u ∧ RelV y w' := by
  cases r with
  | cons r1 r2 =>
    cases r2 with
    | cons r3 r4 => cases r4; exact ⟨_, _, rfl, r1, r3⟩
theorem call_abs : CallR X (.builtin "abs") (fun xs H Q => ∃ i, xs = [.int i] ∧ Q (.int (if i < 0 then -i else i)) H) := by
  intro pins s σ H xs us Q I r h
  obtain ⟨i, rfl, q⟩ := h
  obtain ⟨u, rfl, t, rfl⟩ := vals1 r
  exact call_abs_int fun u tk => ⟨.int (if i < 0 then -i else i), H, I.tok _, ⟨_, rfl⟩, q⟩
theorem call_str_int : CallR X (.type "str") (fun xs H Q => ∃ i, xs = [.int i] ∧ i.natAbs.log2 < 1920 ∧ Q (.str (toString i)) H) := by
  intro pins s σ H xs us Q I r h
  obtain ⟨i, rfl, hz, q⟩ := h
  obtain ⟨u, rfl, t, rfl⟩ := vals1 r
  exact PySem.P.str_of_int hz ⟨.str _, H, I.tok _, ⟨_, rfl⟩, q⟩
end
end L2

namespace L2
open PySem PySem.Spec PyProof.Rows

/-! ### an instance, its attributes a map -/
structure ObjM (h : Heap) (x dx C : Addr) (mA : Str → Option Value) : Prop where
  obj : h.get? x = some (PySem.W.instObj C dx)
  ns : h.Ns1 dx mA
  ne : dx ≠ x

theorem lookIn_ns {h : Heap} {dx : Addr} {mA : Str → Option Value} (n : h.Ns1 dx mA) : ∃ od, h.get? dx = some od ∧ ∀ name, PySem.W.lookIn name od = some (mA name) := by
  obtain ⟨o, es, ep, ho, hd, hk, _, hm⟩ := n
  refine ⟨o, ho, fun name => ?_⟩
  have e := hm name
  unfold nsFind findBy at e
  rw [← Array.find?_toList] at e
  unfold PySem.W.lookIn
  rw [hd]
  dsimp only
  split
  · rename_i y q
    rw [q] at e
    exact congrArg some e
  · rename_i q
    rw [q] at e
    have a : es.toList.any (·.refKey) = false := by
      rw [List.any_eq_false]
      intro y hy
      obtain ⟨z, t, hkey⟩ := hk y (Array.mem_toList_iff.mp hy)
      simp [DictEntry.refKey, hkey]
    have a' : ¬ es.toList.any (·.refKey) = true := by rw [a]; exact Bool.false_ne_true
    rw [if_neg a']
    exact congrArg some e

theorem ObjM.look {h : Heap} {x dx C : Addr} {mA : Str → Option Value} (I : ObjM h x dx C mA) : ∃ od, PySem.W.InstAt h x (PySem.W.instObj C dx) C (some od) ∧ ∀ name, PySem.W.lookIn name od = some (mA name) :=
  let ⟨od, ho, hl⟩ := lookIn_ns I.ns
  ⟨od, ⟨I.obj, rfl, rfl, ho⟩, hl⟩

section
variable {prog : Program} {w : World} {A : Around} {E : Value → Shared → Prop} {s : Shared} {K : PySem.W.Frag} {x dx C f : Addr} {mA : Str → Option Value} {name : Str} {v : Value}

end

/-! ### the attributes as a list of pairs -/
theorem RelO.some_of {v : V} {o : Option Value} (r : RelO (some v) o) : ∃ u, o = some u ∧ RelV v u := by
  cases o with
  | none => exact (show False from r).elim
  | some u => exact ⟨u, rfl, r⟩
section
variable {P : Program} {w : World} {H H' : Hp} {h h' : Heap} {a C dx : Addr} {fs fs' : List (Str × V)}
theorem ins_get (hok : HOk P w H h) (e : H a = some (.ins C dx fs)) : ∃ mA, ObjM h a dx C mA ∧ (∀ f, RelO (fs.lookup f) (mA f)) ∧ PySem.Within mA (fs.map (·.1)) ∧ fs.length ≤ 1000 ∧ H dx = some (.own a) := by
  obtain ⟨d, z, ne, ob, mA, n, r, q⟩ := (show ObjOk P w H h a (.ins C dx fs) from hok a _ e)
  exact ⟨mA, ⟨ob, n, ne⟩, r, q, z, d⟩
end

/-! ### what of the text a class must have -/
structure Cls (K : PySem.W.Frag) (C : Addr) : Prop where
  pg : PySem.W.plainGet K C Str.empty = true
  hd : PySem.W.hasDictIn K C = true
  po : PySem.W.plainOver K C = true
  sa : PySem.W.findIn K (.ref C) "__setattr__" = some (some (.builtin "object.__setattr__"))
theorem Cls.get {K : PySem.W.Frag} {C : Addr} (c : Cls K C) (f : Str) : PySem.W.plainGet K C f = true := c.pg
section
variable {X : Cx} {pins : List (Addr × Obj)} {σ : St} {H : Hp} {s : Shared} {a C dx : Addr} {fs : List (Str × V)} {f : Str} {v : V} {A : Around} {E : Value → Shared → Prop}

end

/-! ### readings and rules -/
section
variable {X : Cx} {o e value : Expr} {f : Str} {pos pos' tpos : Pos} {ta tv : TE}
end

/-! ### isinstance -/
section
variable {X : Cx} {pins : List (Addr × Obj)} {σ : St} {H : Hp} {s : Shared} {A : Around} {E : Value → Shared → Prop} {Q : Value → Shared → Prop} {c : Value} {b : Bool}
/-- the type of a value, as the fragment's deciders take it; for an instance its class -/
inductive TyOf (K : PySem.W.Frag) (H : Hp) : V → Value → Prop where
  | non : TyOf K H .non (.type "NoneType")
  | bl (x : Bool) : TyOf K H (.bl x) (.type "bool")
  | int (i : Int) : TyOf K H (.int i) (.type "int")
  | str (x : Str) : TyOf K H (.str x) (.type "str")
  | flt (x : UInt64) : TyOf K H (.flt x) (.type "float")
  | lst {a : Addr} {xs : List V} (e : H a = some (.lst xs)) : TyOf K H (.ref a) (.type "list")
  | frz {a : Addr} {o : Obj} {xs : List V} (e : H a = some (.frz o (.lst xs))) : TyOf K H (.ref a) (.type "list")
  | tup {a : Addr} {xs : List V} (e : H a = some (.tup xs)) : TyOf K H (.ref a) (.type "tuple")
  | dK {a : Addr} {kvs : List (Key × V)} (e : H a = some (.dK kvs)) : TyOf K H (.ref a) (.type "dict")
  | dT {a : Addr} {kvs : List (List Key × V)} (e : H a = some (.dT kvs)) : TyOf K H (.ref a) (.type "dict")
  | ins {a C dx : Addr} {fs : List (Str × V)} (e : H a = some (.ins C dx fs)) (cl : Cls K C) (ha : PySem.W.findIn K (.ref C) "__class__" = some (some (.builtin "object.__class__")))
      (hn : PySem.W.specialIn K (.builtin "object.__class__") "__get__" = some (some (.builtin "getset_descriptor.__get__"))) (htk : PySem.W.takesIn K (.builtin "object.__class__") = some true)
      (hm : PySem.W.mroIn K C (.type "object") = some true) : TyOf K H (.ref a) (.ref C)
/-- isinstance(x, c) for one class c, a built-in or an own one: kitOne's answer -/
theorem isinst_ok {x : V} {u t : Value} (I : Inv X pins σ H s) (rx : RelV x u) (ty : TyOf X.K H x t) (e : PySem.W.kitOne X.K t c = some b) (h : ∀ tk, Q (.bool b) { s with toks := tk }) :
    wpAny (model X.prog X.w) A (call (.builtin "isinstance") [u, c]) Q E s := by
  cases ty with
  | non => cases (show u = Value.none from rx); exact PySem.W.kia_one PySem.W.kitx_none I.kIn True.intro e (fun z => nomatch z) h
  | bl y => cases (show u = Value.bool y from rx); exact PySem.W.kia_one PySem.W.kitx_bool I.kIn True.intro e (fun z => nomatch z) h
  | int i => obtain ⟨t, q⟩ := (show ∃ t, u = Value.int i t from rx); cases q; exact PySem.W.kia_one PySem.W.kitx_int I.kIn True.intro e (fun z => nomatch z) h
  | str y => obtain ⟨t, q⟩ := (show ∃ t, u = Value.str y t from rx); cases q; exact PySem.W.kia_one PySem.W.kitx_str I.kIn True.intro e (fun z => nomatch z) h
  | flt y => obtain ⟨t, q⟩ := (show ∃ t, u = Value.float y t from rx); cases q; exact PySem.W.kia_one PySem.W.kitx_float I.kIn True.intro e (fun z => nomatch z) h
  | @lst a xs ea =>
    cases (show u = Value.ref a from rx)
    obtain ⟨_, _, n, _, h1⟩ := (show ObjOk X.prog X.w H s.heap a (.lst xs) from I.hok a _ ea)
    exact PySem.W.kia_one PySem.W.kitx_list I.kIn ⟨_, h1, rfl⟩ e (fun z => nomatch z) h
  | @frz a ob xs ea =>
    cases (show u = Value.ref a from rx)
    obtain ⟨_, _, _, n, _, h1⟩ := (show ObjOk X.prog X.w H s.heap a (.frz ob (.lst xs)) from I.hok a _ ea)
    exact PySem.W.kia_one PySem.W.kitx_list I.kIn ⟨_, h1, rfl⟩ e (fun z => nomatch z) h
  | @tup a xs ea =>
    cases (show u = Value.ref a from rx)
    obtain ⟨_, _, _, p⟩ := (show ObjOk X.prog X.w H s.heap a (.tup xs) from I.hok a _ ea)
    obtain ⟨o, h1, h2, _⟩ := p
    exact PySem.W.kia_one PySem.W.kitx_tuple I.kIn ⟨o, h1, h2⟩ e (fun z => nomatch z) h
  | @dK a kvs ea =>
    cases (show u = Value.ref a from rx)
    obtain ⟨_, _, vs, _, p⟩ := (show ObjOk X.prog X.w H s.heap a (.dK kvs) from I.hok a _ ea)
    obtain ⟨o, es, ep, h1, h2, _⟩ := p
    exact PySem.W.kia_one PySem.W.kitx_dict I.kIn ⟨o, h1, h2.1⟩ e (fun z => nomatch z) h
  | @dT a kvs ea =>
    cases (show u = Value.ref a from rx)
    obtain ⟨_, _, xs, _, o, es, ep, h1, h2, _⟩ := (show ObjOk X.prog X.w H s.heap a (.dT kvs) from I.hok a _ ea)
    exact PySem.W.kia_one PySem.W.kitx_dict I.kIn ⟨o, h1, h2.1⟩ e (fun z => nomatch z) h
  | @ins a C dx fs ea cl ha hn htk hm =>
    cases (show u = Value.ref a from rx)
    obtain ⟨mA, O, _⟩ := ins_get I.hok ea
    obtain ⟨od, J, _⟩ := O.look
    exact PySem.W.kia_one (PySem.W.kitx_own (cl.get _) cl.hd ha hn htk hm) I.kIn J e (fun z => nomatch z) h
end
end L2

namespace L2
open PySem PySem.Spec PyProof.Rows

/-! ### room -/
structure Room (k : Nat) (A : Around) : Prop where
  hd : A.handled = none
  dp : A.depth + 3 * k + 5 < recursionLimit
  un : A.units + 16 * k + 200 < cLine
theorem rm {d a b k m L : Nat} (hab : a ≤ b) (h : d + b * (k + 1) + m < L) : d + a + b * k + m < L := by
  rw [Nat.mul_succ] at h
  exact Nat.lt_of_le_of_lt (Nat.add_le_add_right (by rw [Nat.add_assoc, Nat.add_comm a]; exact Nat.add_le_add_left (Nat.add_le_add_left hab _) _) m) h
theorem Room.mono {j k : Nat} {A : Around} (r : Room k A) (h : j ≤ k) : Room j A := ⟨r.hd, by have := r.dp; exact Nat.lt_of_le_of_lt (Nat.add_le_add_right (Nat.add_le_add_left (Nat.mul_le_mul_left 3 h) _) 5) this, by have := r.un; exact Nat.lt_of_le_of_lt (Nat.add_le_add_right (Nat.add_le_add_left (Nat.mul_le_mul_left 16 h) _) 200) this⟩
theorem Room.deeper {k : Nat} {A : Around} (r : Room (k + 1) A) (env : Env) : Room k (A.deeper env) :=
  ⟨r.hd, by have := r.dp; show A.depth + 1 + 3 * k + 5 < _; exact rm (by decide) this, by have := r.un; show A.units + 3 + 16 * k + 200 < _; exact rm (by decide) this⟩
theorem Room.depth {k : Nat} {A : Around} (r : Room k A) : A.depth < recursionLimit := by have := r.dp; exact Nat.lt_of_le_of_lt (Nat.le_trans (Nat.le_add_right _ _) (Nat.le_add_right _ _)) this
theorem Room.units {k : Nat} {A : Around} (r : Room k A) : A.units + 64 < cLine := by have := r.un; exact Nat.lt_of_le_of_lt (Nat.add_le_add (Nat.le_add_right _ _) (by decide)) this
/-! ### argument lists and displays -/
def tNil : TA := fun _ H Q => Q [] H
def tCons (ta : TE) (tr : TA) : TA := fun σ H Q => ta σ H fun x H1 => tr σ H1 fun xs H2 => Q (x :: xs) H2
section
variable {X : Cx} {e : Expr} {es : List Expr} {te : TE} {t : TA} {pos : Pos}
theorem pa_nil : PA X [] tNil := fun _ _ _ _ H Q I h => Calls.spliced_nil ⟨[], H, I, .nil, h⟩
theorem pa_cons (ha : PE X e te) (hr : PA X es t) (hs : starEach (e :: es) X.env = (false, eval e X.env) :: starEach es X.env := by rfl) : PA X (e :: es) (tCons te t) := by
  intro pos pins s σ H Q I h
  rw [hs]
  show wpAny _ _ (spliced ((false, eval e X.env) :: backTo pos (starEach es X.env))) _ _ s
  refine Calls.spliced_cons (thn (ha pins s σ H _ I h) fun u s1 hq0 => ?_)
  obtain ⟨x, H1, I1, r1, q1⟩ := hq0
  exact thn (hr pos pins s1 σ H1 _ I1 q1) fun us s2 ⟨xs, H2, I2, r2, q2⟩ => ⟨x :: xs, H2, I2, .cons r1 r2, q2⟩

def tLst (t : TA) : TE := fun σ H Q => t σ H fun xs H1 => xs.length ≤ sizeLine ∧ ∀ p, H1 p = none → Q (.ref p) (upd H1 p (.lst xs))
theorem pe_lst (h : PA X es t) : PE X (.List es pos) (tLst t) := by
  intro pins s σ H Q I hq
  refine wpAny_List_spliced (thn (h pos pins s σ H _ I hq) fun us s1 ⟨xs, H1, I1, r, z, q⟩ => ⟨by rw [← r.length]; exact z, ?_⟩)
  have hf : H1 s1.heap.objs.size = none := I1.hok.fresh (Nat.le_refl _)
  refine ⟨.ref s1.heap.objs.size, upd H1 s1.heap.objs.size (.lst xs), I1.laid (t' := s1.toks) (fun b u e => Heap.get?_push_of_some _ e) (Nat.le_refl _) ?_, rfl, q _ hf⟩
  exact ⟨z, us, 0, r, Heap.get?_push_size _ rfl⟩
end

/-! ### what a def promises -/
/-- a def's promise: the bound arguments in the parameters' order, the heap, the wanted end, the wanted exception -/
abbrev Sp := List V → Hp → VK → XK → Prop
/-- how an exception lies behind a call (file 08 gives it): the callers' frames, abstract heap and state ahead of the call, the wish, the exception, the state -/
abbrev CXT := List Env → Hp → Shared → XK → Value → Shared → Prop

/-- the state at a call -/
structure Env0 (P : Program) (w : World) (K : PySem.W.Frag) (mg : Str → Option Value) (base : Heap) (A : Around) (outer : List Env) (s : Shared) (H : Hp) : Prop where
  frames : A.frames = some outer
  mod : Mod K mg base
  bs : ∀ b o, base.get? b = some o → s.heap.get? b = some o ∧ H b = none
  bsz : base.objs.size ≤ s.heap.objs.size
  funs : s.heap.FunFrames base outer
  frf : ∀ b ∈ frs outer, H b = none
  hok : HOk P w H s.heap
  bare : AllBare s.gens
/-- a call's end -/
def CE (outer : List Env) (P : Program) (w : World) (H : Hp) (s : Shared) (Q : VK) (u : Value) (s' : Shared) : Prop :=
  ∃ v H', s'.os = s.os ∧ AllBare s'.gens ∧ Un (frs outer) [] H H' s.heap s'.heap ∧ HOk P w H' s'.heap ∧ RelV v u ∧ Q v H'
def CR (CX : CXT) (outer : List Env) (P : Program) (w : World) (H : Hp) (s : Shared) (Q : VK) (E : XK) (r : Result) (s' : Shared) : Prop :=
  match r with
  | .ok (.ret u) => CE outer P w H s Q u s'
  | .ok _ => False
  | .error e => CX outer H s E e s'
structure FnOk (P : Program) (w : World) (K : PySem.W.Frag) (mg : Str → Option Value) (base : Heap) (CX : CXT) (k : Nat) (f : Addr) (fd : FuncData) (ps : List Str) (sp : Sp) : Prop where
  len : ∀ vs H Q E, sp vs H Q E → vs.length = ps.length
  run : ∀ (A : Around) (outer : List Env) (s : Shared) (H : Hp) (args : Args) (us : List Value) (vs : List V) (Q : VK) (E : XK), Room k A → Env0 P w K mg base A outer s H → BindsTo s fd args (ps.zip us) → Vals vs us → sp vs H Q E →
    codeAny (model P w) A (.call (.ref f) args) (CR CX outer P w H s Q E) s
section
variable {X : Cx} {pins : List (Addr × Obj)} {σ : St} {H : Hp} {s s' : Shared}
/-- from a body: what a callee wants -/
theorem Inv.env0 (I : Inv X pins σ H s) : Env0 X.prog X.w X.K X.mg X.base X.A X.stack s H :=
  ⟨I.ok.frames, I.ok.mod, I.bs, Nat.le_trans I.ok.bsz I.sz, I.stack, I.stkFree, I.hok, I.bare⟩
/-- behind a call -/
theorem Inv.after {Q : VK} {u : Value} (I : Inv X pins σ H s) (h : CE X.stack X.prog X.w H s Q u s') : EP X pins σ Q u s' := by
  obtain ⟨v, H', os, bare, un, hok, r, q⟩ := h
  obtain ⟨hh, g, d, t, os'⟩ := s'
  obtain rfl : os' = s.os := os
  exact ⟨v, H', I.call (h' := hh) (g' := g) (d' := d) (t' := t) (ch := []) un hok bare (fun b z => absurd z (by simp)), r, q⟩
end

/-! ### calls -/
/-- f(..): the written arguments, then the defaults dvs; E: what is wanted of an exception -/
def tCall (sp : Sp) (dvs : List V) (E : XK) (t : TA) : TE := fun σ H Q => t σ H fun vs H1 => sp (vs ++ dvs) H1 Q E
/-- how the parameters are bound: us the positional arguments, kw the keywords' values by name, ds the defaults that fill up -/
def Binds (K : PySem.W.Frag) (fd : FuncData) (ps : List Str) (ds : List Value) : Prop :=
  ∀ (s : Shared) (us : List Value), K.In s.heap → (us ++ ds).length = ps.length → BindsTo s fd ⟨us, []⟩ (ps.zip (us ++ ds))
/-- every parameter is given -/
theorem Binds.all {K : PySem.W.Frag} {fd : FuncData} {ps : List Str} (h : ∀ us : List Value, us.length = ps.length → bindArgs fd ⟨us, []⟩ = pure (ps.zip us)) : Binds K fd ps [] := fun s us _ hl => by
  rw [List.append_nil] at hl ⊢
  exact .of_eq (h us hl)

/-- an exception of a callee reaches what this body wants of exceptions -/
def Passes (CX : CXT) (X : Cx) (E : XK) : Prop := ∀ (pins : List (Addr × Obj)) (σ : St) (H : Hp) (s : Shared) (e : Value) (s' : Shared), Inv X pins σ H s → CX X.stack H s E e s' → X.xe e s'

section
variable {X : Cx} {CX : CXT} {k : Nat} {f C : Addr} {fd : FuncData} {ps : List Str} {sp : Sp} {dvs : List V} {ds : List Value} {E : XK} {x m : Str} {p pos apos : Pos} {e o : Expr} {es : List Expr} {ta : TE} {t : TA}

/-- the callee runs -/
theorem run_fn {pins : List (Addr × Obj)} {σ : St} {H : Hp} {s : Shared} {Q : VK} {us : List Value} {vs : List V} (F : FnOk X.prog X.w X.K X.mg X.base CX k f fd ps sp) (hr : Room k X.A) (hb : Binds X.K fd ps ds) (hd : Vals dvs ds) (hx : Passes CX X E)
    (I : Inv X pins σ H s) (r : Vals vs us) (h : sp (vs ++ dvs) H Q E) : wpAny (model X.prog X.w) X.A (call (.ref f) us) (EP X pins σ Q) X.xe s := by
  have r2 : Vals (vs ++ dvs) (us ++ ds) := r.append hd
  have hl : (us ++ ds).length = ps.length := by rw [← r2.length]; exact F.len _ _ _ _ h
  refine wpAny_call (codeAny_mono (F.run X.A X.stack s H ⟨us, []⟩ (us ++ ds) (vs ++ dvs) Q E hr I.env0 (hb s us I.kIn hl) r2 h) fun r s' hq => ?_)
  cases r with
  | error e => exact hx pins σ H s e s' I hq
  | ok fl =>
    cases fl with
    | ret u => exact I.after hq
    | next => exact False.elim hq
    | brk => exact False.elim hq
    | cont => exact False.elim hq

theorem pe_call (F : FnOk X.prog X.w X.K X.mg X.base CX k f fd ps sp) (hr : Room k X.A) (hg : Gl X x) (hm : X.mg x = some (.ref f)) (hk : PySem.W.keepIn X.K (.ref f) = true) (hb : Binds X.K fd ps ds) (hd : Vals dvs ds) (hx : Passes CX X E)
    (ha : PA X (e :: es) t) (hdb : (x == ("__debug__" : Str)) = false := by decide) (he : starEach (e :: es) X.env = (false, eval e X.env) :: starEach es X.env := by rfl) (hpl : (backTo pos (starEach es X.env)).any (·.1) = false := by rfl) :
    PE X (.Call (.Name x p) (e :: es) [] pos) (tCall sp dvs E t) := by
  intro pins s σ H Q I h
  refine wpAny_Call_Name_kw (ld_glob I hg hm ?_ hdb)
  refine PySem.W.callWith_K (h₀ := X.base) I.ok.mod.kin hk (thn (ha pos pins s σ H _ I h) fun us s1 ⟨vs, H1, I1, r, q⟩ => ⟨I1.kIn, ?_⟩) he hpl
  exact run_fn F hr hb hd hx I1 r q
theorem pe_call0 (F : FnOk X.prog X.w X.K X.mg X.base CX k f fd ps sp) (hr : Room k X.A) (hg : Gl X x) (hm : X.mg x = some (.ref f)) (hk : PySem.W.keepIn X.K (.ref f) = true) (hb : Binds X.K fd ps ds) (hd : Vals dvs ds) (hx : Passes CX X E)
    (hdb : (x == ("__debug__" : Str)) = false := by decide) : PE X (.Call (.Name x p) [] [] pos) (tCall sp dvs E tNil) := by
  intro pins s σ H Q I h
  refine wpAny_Call_Name_kw (ld_glob I hg hm ?_ hdb)
  exact PySem.W.callWith_K0 I.kIn hk (run_fn (us := []) F hr hb hd hx I .nil h)

end

/-! ### keywords -/
section
variable {X : Cx} {CX : CXT} {k : Nat} {f C : Addr} {fd : FuncData} {ps ks : List Str} {sp : Sp} {E : XK} {x m : Str} {p pos apos kpos : Pos} {e o : Expr} {es : List Expr} {kws : List Keyword} {te ta : TE} {t tk : TA} {nm : Option Str}
variable {g : List Value → List Value → List Value} {gV : List V → List V → List V}
end

/-! ### a def's body keeps its promise -/
/-- names: the parameters first -/
structure FnScope (N P : List Str) (sc : Scope) : Prop where
  kind : sc.kind = .function
  co : sc.isCoroutine = false
  gen : sc.isGenerator = false
  nd : N.Nodup
  pre : N.take P.length = P
  par : ∀ x ∈ P, sc.names.lookup x = some .local ∨ sc.names.lookup x = some .cell
  nofree : ∀ y ∈ sc.names, y.2 ≠ .free

theorem bindL_out {kindOf : Str → Option NameKind} {x : Str} : ∀ {binds : List (Str × Value)} {m : Str → Option Value}, (∀ v, (x, v) ∉ binds) → bindL kindOf binds m x = m x
  | [], _, _ => rfl
  | (n, v) :: r, m, h => by
    unfold bindL
    rw [bindL_out fun w hw => h w (List.mem_cons_of_mem _ hw)]
    split
    · have : x ≠ n := by rintro rfl; exact h v List.mem_cons_self
      simp [this]
    · rfl
theorem bindC_out {kindOf : Str → Option NameKind} {x : Str} : ∀ {binds : List (Str × Value)} {m : Str → Option Value}, (∀ v, (x, v) ∉ binds) → bindC kindOf binds m x = m x
  | [], _, _ => rfl
  | (n, v) :: r, m, h => by
    unfold bindC
    rw [bindC_out fun w hw => h w (List.mem_cons_of_mem _ hw)]
    split
    · rfl
    · have : x ≠ n := by rintro rfl; exact h v List.mem_cons_self
      simp [this]
theorem bindL_get {kindOf : Str → Option NameKind} {x : Str} {v : Value} : ∀ {P : List Str} {vs : List Value} {i : Nat} {m : Str → Option Value}, P.Nodup → P[i]? = some x → vs[i]? = some v → kindOf x = some .local →
    bindL kindOf (P.zip vs) m x = some v
  | [], _, _, _, _, h, _, _ => by simp at h
  | _ :: _, [], _, _, _, _, h, _ => by simp at h
  | p :: P, w :: vs, 0, m, nd, h1, h2, hk => by
    simp at h1 h2; subst h1; subst h2
    show bindL kindOf ((p, w) :: P.zip vs) m p = _
    unfold bindL
    rw [bindL_out fun v hv => (List.nodup_cons.mp nd).1 (List.of_mem_zip hv).1, if_pos hk]
    simp
  | p :: P, w :: vs, i + 1, m, nd, h1, h2, hk => by
    show bindL kindOf ((p, w) :: P.zip vs) m x = _
    unfold bindL
    exact bindL_get (i := i) (List.nodup_cons.mp nd).2 (by simpa using h1) (by simpa using h2) hk
theorem bindC_get {kindOf : Str → Option NameKind} {x : Str} {v : Value} : ∀ {P : List Str} {vs : List Value} {i : Nat} {m : Str → Option Value}, P.Nodup → P[i]? = some x → vs[i]? = some v → kindOf x ≠ some .local →
    bindC kindOf (P.zip vs) m x = some v
  | [], _, _, _, _, h, _, _ => by simp at h
  | _ :: _, [], _, _, _, _, h, _ => by simp at h
  | p :: P, w :: vs, 0, m, nd, h1, h2, hk => by
    simp at h1 h2; subst h1; subst h2
    show bindC kindOf ((p, w) :: P.zip vs) m p = _
    unfold bindC
    rw [bindC_out fun v hv => (List.nodup_cons.mp nd).1 (List.of_mem_zip hv).1, if_neg hk]
    simp
  | p :: P, w :: vs, i + 1, m, nd, h1, h2, hk => by
    show bindC kindOf ((p, w) :: P.zip vs) m x = _
    unfold bindC
    exact bindC_get (i := i) (List.nodup_cons.mp nd).2 (by simpa using h1) (by simpa using h2) hk

/-- the names' values at the entry -/
def start (N : List Str) (vs : List V) : St := vs.map some ++ List.replicate (N.length - vs.length) none

/-- the context of a def's body, at its entry; an exception leaves the frame, then lies as CX says -/
def cxOf (CX : CXT) (P : Program) (w : World) (K : PySem.W.Frag) (mg : Str → Option Value) (base : Heap) (N : List Str) (qual : Str) (scope : Scope) (f : Addr) (cd : Value) (A : Around) (outer : List Env) (s : Shared) (H : Hp) (E : XK) : Cx where
  prog := P
  w := w
  K := K
  mg := mg
  base := base
  A := A.deeper (envOfC qual scope s.heap.objs.size f cd)
  N := N
  s₀ := s
  H₀ := H
  env := envOfC qual scope s.heap.objs.size f cd
  outer := outer
  stack := envOfC qual scope s.heap.objs.size f cd :: outer
  ex := []
  calm := true
  fn := fun _ => true
  pn := []
  xe := fun e s' => wpAny (model P w) (A.deeper (envOfC qual scope s.heap.objs.size f cd)) (leaving (envOfC qual scope s.heap.objs.size f cd) e) (fun _ s'' => CX outer H s E e s'') (fun e' s'' => CX outer H s E e' s'') s'

theorem cell_has {sc : Scope} {n : Nat} {x : Str} (h : sc.names.lookup x = some .cell) : ∃ c, (cellsFrom n sc.names []).lookup x = some c := by
  have q := PySem.W.cellsFrom_some sc.names n [] (.inl h)
  exact Option.isSome_iff_exists.mp q

theorem inv_start {CX : CXT} {P : Program} {w : World} {K : PySem.W.Frag} {mg : Str → Option Value} {base : Heap} {N ps : List Str} {qual : Str} {scope : Scope} {f : Addr} {cd : Value} {A : Around} {outer : List Env} {s s1 : Shared} {H : Hp} {E : XK} {us : List Value} {vs : List V}
    (S : FnScope N ps scope) (hd : A.handled = none) (e0 : Env0 P w K mg base A outer s H) (hl : vs.length = ps.length) (r : Vals vs us)
    (x : InCallC s s.heap.objs.size (bindL (envOfC qual scope s.heap.objs.size f cd).kindOf (ps.zip us) fun _ => none) (cellsFrom (s.heap.objs.size + 1) scope.names []) (bindC (envOfC qual scope s.heap.objs.size f cd).kindOf (ps.zip us) fun _ => none) s1) :
    Inv (cxOf CX P w K mg base N qual scope f cd A outer s H E) [] (start N vs) H s1 := by
  have hpl : ps.length ≤ N.length := by have := congrArg List.length S.pre; rw [List.length_take] at this; omega
  obtain ⟨h1, tk, rfl, hk⟩ := x.done
  have noA : ∀ b : Addr, b ∉ (cxOf CX P w K mg base N qual scope f cd A outer s H E).ex := fun b z => absurd (show b ∈ ([] : List Addr) from z) (by simp)
  refine ⟨⟨e0.mod, S.kind, rfl, rfl, Nat.le_refl _, fun y z c h1 h2 => ?_, fun y hy => ?_, fun y c _ h => ?_, fun _ => hd, Around.frames_deeper e0.frames, .inr ⟨rfl, rfl⟩, fun b z => absurd z (noA b), e0.bs, e0.bsz, fun b _ _ => noA b, fun b z => absurd z (noA b), e0.funs, e0.frf⟩,
    rfl, e0.bare, Un.kept hk, ⟨_, x.toInCall.ns, fun i y v h1 h2 h3 => ?_⟩, fun y c h => ⟨_, x.cell y c h⟩, e0.hok.fresh (Nat.le_refl _), fun y c h => ?_, fun p hp => absurd (show p ∈ ([] : List (Addr × Obj)) from hp) (by simp), e0.hok.kept hk, ?_⟩
  · exact name_of_addr x.apart (PySem.mem_of_lookup h1) (PySem.mem_of_lookup h2)
  · have hy : scope.names.lookup y = some .cell ∨ scope.names.lookup y = some .free := hy
    rcases hy with hy | hy
    · exact cell_has hy
    · exact absurd rfl (S.nofree _ (PySem.mem_of_lookup hy))
  · exact Nat.le_of_lt (x.above y c (PySem.mem_of_lookup h))
  · have hi : i < vs.length := by
      unfold start at h2
      by_cases hi : i < vs.length
      · exact hi
      · rw [List.getElem?_append_right (by simpa using hi)] at h2
        rw [List.getElem?_replicate] at h2
        split at h2 <;> cases h2
    have ha : vs[i]? = some v := by
      unfold start at h2
      rw [List.getElem?_append_left (by simpa using hi), List.getElem?_map] at h2
      cases e : vs[i]? with
      | none => rw [e] at h2; cases h2
      | some a => rw [e] at h2; cases h2; rfl
    obtain ⟨u, hu, rv⟩ := r.get ha
    have hp : ps[i]? = some y := by
      rw [← S.pre, List.getElem?_take_of_lt (by omega)]; exact h1
    have ndP : ps.Nodup := by rw [← S.pre]; exact S.nd.sublist (List.take_sublist _ _)
    refine ⟨u, rv, ?_⟩
    rcases S.par y (List.mem_of_getElem? hp) with k | k
    · exact .inl ⟨k, bindL_get ndP hp hu k⟩
    · obtain ⟨c, e⟩ := cell_has (n := s.heap.objs.size + 1) k
      refine .inr ⟨.inl k, c, e, ?_⟩
      have q := x.cell y c e
      rw [bindC_get ndP hp hu (by show scope.names.lookup y ≠ _; rw [k]; decide)] at q
      exact q
  · exact e0.hok.fresh (Nat.le_of_lt (x.above y c (PySem.mem_of_lookup h)))
  · unfold start
    show _ = N.length
    rw [List.length_append, List.length_map, List.length_replicate]
    omega

/-- THE RULE: a def (or a method) of the text, by its body. The body's reading t is chosen for each entry; it is run at the parameters' values -/
theorem fn_of {CX : CXT} {P : Program} {w : World} {K : PySem.W.Frag} {mg : Str → Option Value} {base : Heap} {k : Nat} {f : Addr} {name qual : Str} {params : Arguments} {body : List Stmt} {scope : Scope} {dV kV doc pm cdv ct oc : Value} {an od : Option Addr}
    {osl : Array (Option Value)} {N ps : List Str} {sp : Sp} (lk : K.lookup f = some ⟨oc, od, .func (PySem.W.fnOf name qual params body scope dV kV doc pm an cdv ct), osl⟩) (hcd : PySem.W.codeIn K cdv qual = true) (S : FnScope N ps scope)
    (len : ∀ vs H Q E, sp vs H Q E → vs.length = ps.length)
    (hbody : ∀ (A : Around) (outer : List Env) (s : Shared) (H : Hp) (vs : List V) (Q : VK) (E : XK), Room k (A.deeper (envOfC qual scope s.heap.objs.size f cdv)) → sp vs H Q E →
      ∃ t, PSs (cxOf CX P w K mg base N qual scope f cdv A outer s H E) body t ∧ t { nx := fun _ H' => Q .non H', rt := Q } (start N vs) H) :
    FnOk P w K mg base CX (k + 1) f (PySem.W.fnOf name qual params body scope dV kV doc pm an cdv ct) ps sp := by
  refine ⟨len, fun A outer s H args us vs Q E hr e0 hb r hsp => ?_⟩
  have hl := len _ _ _ _ hsp
  have KX : K.In s.heap := e0.mod.kin.keeps fun b o e => (e0.bs b o e).1
  have lim : s.heap.NoLimit := e0.mod.nolimit.keeps fun b o e => (e0.bs b o e).1
  have hkind : ∀ y ∈ ps.zip us, scope.names.lookup y.1 = some .local ∨ (scope.names.lookup y.1 = some .cell ∧ ((cellsFrom (s.heap.objs.size + 1) scope.names []).lookup y.1).isSome = true) := fun ⟨n, v⟩ hy => by
    rcases S.par n (List.of_mem_zip hy).1 with q | q
    · exact .inl q
    · exact .inr ⟨q, PySem.W.cellsFrom_some _ _ _ (.inl q)⟩
  refine codeAny_call_function hr.depth (KX _ _ lk) rfl S.co S.gen rfl (PySem.W.codeRec_of KX hcd) (hb _ _ _ _ ?_)
  refine wpAny_newFunctionEnv_cells S.kind hkind fun env he s1 x => ?_
  subst he
  refine ⟨lim.keeps x.toInCall.keep, codeAny_func ?_⟩
  obtain ⟨t, ht, hq⟩ := hbody A outer s H vs Q E (hr.deeper _) hsp
  have I : Inv (cxOf CX P w K mg base N qual scope f cdv A outer s H E) [] (start N vs) H s1 := inv_start S hr.hd e0 hl r x
  refine wpAny_mono (ht [] s1 (start N vs) H _ I hq) (fun fl s' hs => ?_) fun e s' hs => hs
  have fin : ∀ {σ' : St} {H' : Hp} {v : V} {u : Value}, Inv (cxOf CX P w K mg base N qual scope f cdv A outer s H E) [] σ' H' s' → RelV v u → Q v H' → CE outer P w H s Q u s' :=
    fun {σ' H' v u} J rv q => ⟨v, H', J.os, J.bare, J.base, J.hok, rv, q⟩
  cases fl with
  | ret u =>
    obtain ⟨v, σ', H', J, rv, q⟩ := hs
    exact fin J rv q
  | next =>
    obtain ⟨σ', H', J, q⟩ := hs
    exact fin (v := V.non) (u := Value.none) J rfl q
  | brk =>
    obtain ⟨_, _, _, q⟩ := hs
    exact False.elim q
  | cont =>
    obtain ⟨_, _, _, q⟩ := hs
    exact False.elim q
end L2

namespace L2
open PySem PySem.Spec PyProof.Rows
section
variable {X : Cx} {x : Str} {p pos : Pos} {e : Expr} {es : List Expr} {t : TA} {id T : String} {r : List V → Hp → VK → Prop}

def tCB (r : List V → Hp → VK → Prop) (t : TA) : TE := fun σ H Q => t σ H fun vs H1 => r vs H1 Q
/-- f(e, ..), f a built-in function -/
theorem pe_callB (hc : CallR X (.builtin id) r) (hg : Gl X x) (hm : X.mg x = none) (hv : bootBuiltins x = some (.builtin id)) (ha : PA X (e :: es) t) (hn : x ≠ "__name__" := by decide) (hdb : (x == ("__debug__" : Str)) = false := by decide)
    (he : starEach (e :: es) X.env = (false, eval e X.env) :: starEach es X.env := by rfl) (hpl : (backTo pos (starEach es X.env)).any (·.1) = false := by rfl) : PE X (.Call (.Name x p) (e :: es) [] pos) (tCB r t) := by
  intro pins s σ H Q I h
  refine wpAny_Call_Name_kw (ld_blt I hg hm hv ?_ hn hdb)
  exact PyProof.Rows.callWith_builtin1 (thn (ha pos pins s σ H _ I h) fun us s1 ⟨vs, H1, I1, r1, q1⟩ => hc pins s1 σ H1 vs us Q I1 r1 q1) he hpl
/-- T(e, ..), T a built-in type -/
theorem pe_callTy (hc : CallR X (.type T) r) (hg : Gl X x) (hm : X.mg x = none) (hv : bootBuiltins x = some (.type T)) (ha : PA X (e :: es) t) (hn : x ≠ "__name__" := by decide) (hdb : (x == ("__debug__" : Str)) = false := by decide)
    (he : starEach (e :: es) X.env = (false, eval e X.env) :: starEach es X.env := by rfl) (hpl : (backTo pos (starEach es X.env)).any (·.1) = false := by rfl) : PE X (.Call (.Name x p) (e :: es) [] pos) (tCB r t) := by
  intro pins s σ H Q I h
  refine wpAny_Call_Name_kw (ld_blt I hg hm hv ?_ hn hdb)
  exact PyProof.Rows.callWith_type1 (thn (ha pos pins s σ H _ I h) fun us s1 ⟨vs, H1, I1, r1, q1⟩ => hc pins s1 σ H1 vs us Q I1 r1 q1) he hpl
end
end L2

namespace HT
open PySem PyProof.Rows

section
open PySem.SeqAt
open PySem.AutoSeq1 (wpAny_loadPart')
open PySem.MeetsSeq PySem.MeetsSeq2 PySem.MeetsSeq3

end

section
variable {prog : Program} {w : World} {A : Around} {E : Value → Shared → Prop} {s : Shared}

/-! ### t[a:b], not the whole -/
end
end HT

namespace L2
open PySem PySem.Spec PyProof.Rows

/-! ### the parts of a slice -/
abbrev TO := St → Hp → (Option Int → Hp → Prop) → Prop
/-- a slice's part (left out, or an int) -/
def PO (X : Cx) (e : Option Expr) (t : TO) : Prop :=
  ∀ (pins : List (Addr × Obj)) (s : Shared) (σ : St) (H : Hp) (Q : Option Int → Hp → Prop), Inv X pins σ H s → t σ H Q →
    wpAny (model X.prog X.w) X.A (evalPart e X.env) (fun u s' => ∃ o H', Inv X pins σ H' s' ∧ IsPart u o ∧ Q o H') X.xe s
def tNoPart : TO := fun _ H Q => Q none H
def tPart (t : TE) : TO := fun σ H Q => t σ H fun x H1 => ∃ i, x = .int i ∧ Q (some i) H1

theorem intsAre_of {ns : List Int} : ∀ {us : List Value}, Vals (ns.map V.int) us → IntsAre us ns := by
  induction ns with
  | nil => intro us r; rw [List.map_nil] at r; cases r; exact .nil
  | cons n ns ih =>
    intro us r
    rw [List.map_cons] at r
    cases r with
    | cons r1 r2 =>
      obtain ⟨t, e⟩ := r1
      subst e
      exact .cons n t (ih r2)

section
variable {X : Cx} {e : Expr} {te : TE} {lo hi : Option Expr} {tl th : TO} {pos p2 : Pos}

theorem po_none : PO X none tNoPart := by
  intro pins s σ H Q I h
  rw [evalPart_none]
  exact wpAny_pure ⟨none, H, I, .none, h⟩
theorem po_some (h : PE X e te) : PO X (some e) (tPart te) := by
  intro pins s σ H Q I hw
  rw [evalPart_some]
  refine thn (h pins s σ H _ I hw) fun u s1 hq0 => ?_
  obtain ⟨x, H1, I1, r1, q1⟩ := hq0
  obtain ⟨i, rfl, q⟩ := q1
  obtain ⟨t, rfl⟩ := r1
  exact ⟨some i, H1, I1, .int i t, q⟩

/-- what a slice of a value is, by values: the slice object stands at sl -/
def SlR (X : Cx) (r : V → Option Int → Option Int → Hp → VK → Prop) : Prop :=
  ∀ (pins : List (Addr × Obj)) (s : Shared) (σ : St) (H : Hp) (x : V) (v vl vu : Value) (lo hi : Option Int) (sl : Addr) (Q : VK), Inv X pins σ H s → RelV x v → s.heap.IsSliceOf sl vl vu .none → IsPart vl lo → IsPart vu hi → r x lo hi H Q →
    ∃ T id, typeLookup (.type T) "__getitem__" = pure (some (.builtin id)) ∧ s.TypeIs v T ∧ wpAny (model X.prog X.w) X.A (getItem v (.ref sl)) (EP X pins σ Q) X.xe s
def tSl (r : V → Option Int → Option Int → Hp → VK → Prop) (te : TE) (tl th : TO) : TE := fun σ H Q => te σ H fun x H1 => tl σ H1 fun l H2 => th σ H2 fun u H3 => r x l u H3 Q
/-- a[lo:hi], any a -/
theorem pe_slice {r : V → Option Int → Option Int → Hp → VK → Prop} (hr : SlR X r) (he : PE X e te) (hl : PO X lo tl) (hu : PO X hi th) : PE X (.Subscript e (.Slice lo hi none p2) pos) (tSl r te tl th) := by
  intro pins s σ H Q I h
  refine Subscript_ (thn (he pins s σ H _ I h) fun v s1 hq0 => ?_)
  obtain ⟨x, H1, I1, r1, q1⟩ := hq0
  refine wpAny_Slice (thn (hl pins s1 σ H1 _ I1 q1) fun vl s2 ⟨l, H2, I2, pl, q2⟩ => thn (hu pins s2 σ H2 _ I2 q2) fun vu s3 hq0 => ?_)
  obtain ⟨u, H3, I3, pu, q3⟩ := hq0
  rw [evalPart_none]
  refine wpAny_pure ?_
  have I4 : Inv X pins σ H3 { s3 with heap := s3.heap.push { cls := .type "slice", data := .fields #[vl, vu, .none] } } := I3.kept (t' := s3.toks) fun b ob q => Heap.get?_push_of_some _ q
  obtain ⟨T, id, hT, ht, hg⟩ := hr pins { s3 with heap := s3.heap.push { cls := .type "slice", data := .fields #[vl, vu, .none] } } σ H3 x v vl vu l u s3.heap.objs.size Q I4 r1 (Heap.IsSliceOf.new ..) pl pu q3
  show wpAny (model X.prog X.w) X.A (subscriptTail e (.Slice lo hi none p2) v (.ref s3.heap.objs.size)) (EP X pins σ Q) X.xe { s3 with heap := s3.heap.push { cls := .type "slice", data := .fields #[vl, vu, .none] } }
  exact tail_any (ops := [.ref s3.heap.objs.size, v]) ht hT hg (by with_unfolding_all rfl)

/-! ### t < u, t + u -/
end
end L2

namespace L2
open PySem PySem.Spec PyProof.Rows

/-! ### places -/
/-- the place that an index of any sign means -/
def ixN (n : Nat) (i : Int) : Option Nat := if 0 ≤ i then (if i < n then some i.toNat else none) else if -(n : Int) ≤ i then some (i + n).toNat else none
def atI {α : Type} (xs : List α) (i : Int) : Option α := (ixN xs.length i).bind fun j => xs[j]?
theorem ixN_seq {n : Nat} {i : Int} {j : Nat} (h : ixN n i = some j) : seqIndex? i n = some j ∧ j < n ∧ -(n : Int) ≤ i ∧ i < n := by
  unfold ixN at h
  by_cases h0 : 0 ≤ i
  · rw [if_pos h0] at h
    by_cases h1 : i < n
    · rw [if_pos h1] at h
      have e : i.toNat = j := Option.some.inj h
      exact ⟨by rw [seqIndex_of h0 h1, e], by rw [← e]; exact (Int.toNat_lt h0).mpr h1, Int.le_trans (Int.neg_nonpos_of_nonneg (Int.natCast_nonneg n)) h0, h1⟩
    · rw [if_neg h1] at h; cases h
  · rw [if_neg h0] at h
    by_cases h1 : -(n : Int) ≤ i
    · rw [if_pos h1] at h
      have e : (i + n).toNat = j := Option.some.inj h
      exact ⟨by rw [seqIndex_neg (Int.not_le.mp h0) h1, e], by omega, h1, Int.lt_of_lt_of_le (Int.not_le.mp h0) (Int.natCast_nonneg n)⟩
    · rw [if_neg h1] at h; cases h
theorem atI_get {α : Type} {xs : List α} {i : Int} {v : α} (h : atI xs i = some v) : ∃ j, seqIndex? i xs.length = some j ∧ xs[j]? = some v ∧ j < xs.length ∧ -(xs.length : Int) ≤ i ∧ i < xs.length := by
  unfold atI at h
  cases e : ixN xs.length i with
  | none => rw [e] at h; cases h
  | some j =>
    rw [e] at h
    obtain ⟨h1, h2, h3, h4⟩ := ixN_seq e
    exact ⟨j, h1, h, h2, h3, h4⟩
theorem atI_nat {α : Type} {xs : List α} {j : Nat} {v : α} (h : xs[j]? = some v) : atI xs (j : Int) = some v := by
  have hj : j < xs.length := (List.getElem?_eq_some_iff.mp h).1
  have e : ixN xs.length (j : Int) = some j := by
    unfold ixN
    rw [if_pos (by omega), if_pos (by omega)]; simp
  unfold atI; rw [e]; exact h
/-! ### what may be subscripted -/
/-- what stands as an index of a plain subscript -/
def PlainIx (b : Expr) : Prop := ∀ o i, subscripted b false o i = operate [o, i] (getItem o i)
/-- a subscript by values -/
def IxR (X : Cx) (r : R2) : Prop :=
  ∀ (value slice : Expr) (pins : List (Addr × Obj)) (s : Shared) (σ : St) (H : Hp) (x y : V) (v u : Value) (Q : VK), Inv X pins σ H s → RelV x v → RelV y u → r x y H Q →
    subscripted slice false v u = operate [v, u] (getItem v u) → wpAny (model X.prog X.w) X.A (subscriptTail value slice v u) (EP X pins σ Q) X.xe s
/-- a call of a builtin's method by values: the receiver, the arguments -/
def MtR (X : Cx) (id : String) (r : V → List V → Hp → VK → Prop) : Prop :=
  ∀ (pins : List (Addr × Obj)) (s : Shared) (σ : St) (H : Hp) (x : V) (xs : List V) (v : Value) (us : List Value) (Q : VK), Inv X pins σ H s → RelV x v → Vals xs us → r x xs H Q →
    wpAny (model X.prog X.w) X.A (call (.builtin id) (v :: us)) (EP X pins σ Q) X.xe s
section
variable {X : Cx} {a b : Expr} {ta tb : TE} {pos : Pos}
/-- a[b] -/
theorem pe_ix {r : R2} (hr : IxR X r) (ha : PE X a ta) (hb : PE X b tb) (hs : PlainIx b) : PE X (.Subscript a b pos) (tOp r ta tb) := by
  intro pins s σ H Q I h
  exact Subscript_ (binT ha hb I h fun v u s2 x y H2 I2 rx ry q => hr a b pins s2 σ H2 x y v u Q I2 rx ry q (hs _ _))

def rIxL (K : PySem.W.Frag) : R2 := fun x y H Q => ∃ p xs i v, x = .ref p ∧ y = .int i ∧ SqL K H p xs ∧ atI xs i = some v ∧ Q v H
def rIxS : R2 := fun x y H Q => ∃ z i c, x = .str z ∧ y = .int i ∧ z.length ≤ sizeLine ∧ atI z.cps.toList i = some c ∧ Q (.str ⟨#[c]⟩) H
theorem ix_list : IxR X (rIxL X.K) := by
  intro value slice pins s σ H x y v u Q I rx ry h hs
  obtain ⟨p, xs, i, z, rfl, rfl, hq, he, q⟩ := h
  cases rx
  obtain ⟨t, rfl⟩ := ry
  obtain ⟨its, r, pl, hz⟩ := I.list hq
  obtain ⟨j, h1, h2, h3, h4, h5⟩ := atI_get he
  obtain ⟨w, ew, rw'⟩ := r.get h2
  have hl := r.length
  have hn := line63
  have fin : EP X pins σ Q w s := ⟨z, H, I, rw', q⟩
  by_cases h0 : 0 ≤ i
  · have hj : i.toNat = j := by
      rw [seqIndex_of h0 h5] at h1
      exact Option.some.inj h1
    exact item_listR pl.isList h0 (by omega) (by rw [hj]; simpa using ew) fin hs
  · have hj : (i + (its.toArray.size : Int)).toNat = j := by
      rw [seqIndex_neg (by omega) h4] at h1
      rw [List.size_toArray, ← hl]
      exact Option.some.inj h1
    exact subscriptTail_builtinR (x := w) pl.isList.typeIs slot_list_getitem.lookup
      (wpAny_getItem_list_neg (Q := fun r s' => r = w ∧ EP X pins σ Q r s') pl.isList (by omega) (by rw [List.size_toArray] <;> omega) (by omega) (by rw [hj]; simpa using ew) ⟨rfl, fin⟩) hs
theorem ix_str : IxR X rIxS := by
  intro value slice pins s σ H x y v u Q I rx ry h hs
  obtain ⟨z, i, c, rfl, rfl, hz, he, q⟩ := h
  obtain ⟨t, rfl⟩ := rx
  obtain ⟨t', rfl⟩ := ry
  obtain ⟨j, h1, h2, h3, h4, h5⟩ := atI_get he
  have hl : z.cps.toList.length = z.length := by simp [Str.length]
  rw [hl] at h1 h4 h5
  have hn := line63
  exact tail_any (typeIs_str s z t) slot_str_getitem.lookup (getItem_str (c := c) (by
    have e1 : decide (i < -(2 ^ 63 : Int)) = false := decide_eq_false (by omega)
    have e2 : decide (i ≥ 2 ^ 63) = false := decide_eq_false (by omega)
    rw [e1, e2, Bool.or_false]) (by rw [h1]; simpa using h2) ⟨.str ⟨#[c]⟩, H, I.tok _, ⟨_, rfl⟩, q⟩) hs
/-! ### xs[i] = v, any sign -/
/-! ### slices -/
/-! ### in, not in: flat items -/
/-! ### len, list(x), tuple(x) of any list or tuple that is read -/
theorem call_len_seq : CallR X (.builtin "len") (fun xs H Q => ∃ p ys, xs = [.ref p] ∧ (SqL X.K H p ys ∨ SqT X.K H p ys) ∧ Q (.int ys.length) H) := by
  intro pins s σ H xs us Q I r h
  obtain ⟨p, ys, rfl, hq, q⟩ := h
  obtain ⟨u, rfl, rx⟩ := vals1 r
  cases rx
  have hn := line63
  rcases hq with hq | hq
  · obtain ⟨its, r', pl, hz⟩ := I.list hq
    have hlen := r'.length
    exact Calls.call_len_list pl.isList (by simp only [List.size_toArray] <;> omega) ⟨.int ys.length, H, I.tok _, ⟨s.toks + 1, by rw [List.size_toArray, hlen]⟩, q⟩
  · obtain ⟨its, r', pl, hz⟩ := I.tuple hq
    have hlen := r'.length
    exact len_tuple pl (by simp only [List.size_toArray] <;> omega) ⟨.int ys.length, H, I.tok _, ⟨s.toks + 1, by rw [List.size_toArray, hlen]⟩, q⟩
theorem call_len_str : CallR X (.builtin "len") (fun xs H Q => ∃ z, xs = [.str z] ∧ z.length ≤ sizeLine ∧ Q (.int z.length) H) := by
  intro pins s σ H xs us Q I r h
  obtain ⟨z, rfl, hz, q⟩ := h
  obtain ⟨u, rfl, t, rfl⟩ := vals1 r
  have hn := line63
  exact len_str (by omega) ⟨.int z.length, H, I.tok _, ⟨_, rfl⟩, q⟩
/-! ### the call of a builtin's method: o.m(..) -/
/-- the value is of that builtin type -/
def tyV (K : PySem.W.Frag) (T : String) (x : V) (H : Hp) : Prop := match x with
  | .str _ => T = "str"
  | .int _ => T = "int"
  | .ref p => (T = "list" ∧ ∃ xs, SqL K H p xs) ∨ (T = "tuple" ∧ ∃ o, K.lookup p = some o ∧ o.cls = .type "tuple" ∧ o.dict = none) ∨
      (T = "dict" ∧ ((∃ kvs, H p = some (.dK kvs)) ∨ ∃ kvs, H p = some (.dT kvs))) ∨ (T = "set" ∧ ∃ S n, H p = some (.set S n))
  | _ => False
theorem tyV_is {pins : List (Addr × Obj)} {σ : St} {H : Hp} {s : Shared} {T : String} {x : V} {v : Value} (I : Inv X pins σ H s) (r : RelV x v) (ty : tyV X.K T x H) :
    s.TypeIs v T ∧ ∀ a, v = .ref a → ∃ ob, s.heap.get? a = some ob ∧ ob.dict = none := by
  cases x with
  | str z =>
    obtain ⟨t, rfl⟩ := r
    cases (show T = "str" from ty)
    exact ⟨typeIs_str s z t, fun _ e => nomatch e⟩
  | int i =>
    obtain ⟨t, rfl⟩ := r
    cases (show T = "int" from ty)
    exact ⟨typeIs_int s i t, fun _ e => nomatch e⟩
  | ref p =>
    cases r
    rcases ty with ⟨rfl, xs, hq⟩ | ⟨rfl, o, hk, hc, hd⟩ | ⟨rfl, hk⟩ | ⟨rfl, S, n, hk⟩
    · obtain ⟨its, _, pl, _⟩ := I.list hq
      refine ⟨pl.isList.typeIs, fun a e => ?_⟩
      cases e
      obtain ⟨o, n, e, c, hd, _⟩ := pl
      exact ⟨o, e, hd⟩
    · refine ⟨⟨o, I.kIn p o hk, hc⟩, fun a e => ?_⟩
      cases e
      exact ⟨o, I.kIn _ o hk, hd⟩
    · have z : ∃ o, s.heap.get? p = some o ∧ o.ExactDict := by
        rcases hk with ⟨kvs, hk⟩ | ⟨kvs, hk⟩
        · obtain ⟨_, _, _, _, o, _, _, e, ex, _⟩ := I.hok p _ hk
          exact ⟨o, e, ex⟩
        · obtain ⟨_, _, _, _, o, _, _, e, ex, _⟩ := I.hok p _ hk
          exact ⟨o, e, ex⟩
      obtain ⟨o, e, ex⟩ := z
      refine ⟨⟨o, e, ex.1⟩, fun a e2 => ?_⟩
      cases e2
      exact ⟨o, e, ex.2.1⟩
    · obtain ⟨o, _, _, _, e, ex, _⟩ := I.hok p _ hk
      refine ⟨⟨o, e, ex.1⟩, fun a e2 => ?_⟩
      cases e2
      exact ⟨o, e, ex.2.1⟩
  | _ => exact False.elim ty
def tBM (K : PySem.W.Frag) (T : String) (r : V → List V → Hp → VK → Prop) (to : TE) (t : TA) : TE := fun σ H Q => to σ H fun x H1 => tyV K T x H1 ∧ t σ H1 fun xs H2 => r x xs H2 Q
variable {o e : Expr} {es : List Expr} {to : TE} {t : TA} {name : Str} {apos cpos : Pos} {T id : String} {r : V → List V → Hp → VK → Prop}
theorem pe_bm (pa : PlainAttrs T) (slot : Slot T name id) (hty : typeOf (.builtin id) = pure (.type "method_descriptor")) (hm : MtR X id r) (ho : PE X o to) (ha : PA X (e :: es) t)
    (hbase : attributeBase o name X.env (eval o X.env) = eval o X.env := by rfl)
    (hfew : ((backTo cpos (starEach (e :: es) X.env)).all (fun x => !x.1) && (backToKw cpos (keywordEach [] X.env)).all (fun x => x.1.isSome)
      && decide ((e :: es).length + ([] : List Keyword).length + (if ([] : List Keyword).isEmpty then 0 else 1) < 30)) = true := by rfl)
    (hline : (apos.endLine == cpos.line) = true := by rfl) (hs : starEach (e :: es) X.env = (false, eval e X.env) :: starEach es X.env := by rfl) (hplain : (backTo cpos (starEach es X.env)).any (·.1) = false := by rfl) :
    PE X (.Call (.Attribute o name apos) (e :: es) [] cpos) (tBM X.K T r to t) := by
  intro pins s σ H Q I h
  refine wpAny_Call_method_late hbase hfew hline rfl (thn (ho pins s σ H _ I h) fun v s1 hq0 => ?_)
  obtain ⟨x, H1, I1, r1, ty, q1⟩ := hq0
  obtain ⟨h1, h2⟩ := tyV_is I1 r1 ty
  refine ⟨T, id, pa, slot, hty, h1, h2, ?_⟩
  have hA := ha cpos pins s1 σ H1 _ I1 q1
  rw [hs] at hA ⊢
  refine Calls.callWith_builtin (by show (false || (backTo cpos (starEach es X.env)).any (·.1)) = false; rw [hplain] <;> rfl) (Calls.evalArgs_plain ?_)
  exact thn hA fun us s2 ⟨vs, H2, I2, r2, q2⟩ => hm pins s2 σ H2 x vs v us Q I2 r1 r2 q2
/- xs.append(e), list.index on a module's tuple .. are MtR facts of 06m -/
end
end L2

namespace L2
open PySem PySem.Spec PyProof.Rows

def MtM (X : Cx) (id : String) (r : V → List V → Hp → VK → Prop) : Prop :=
  ∀ (pins : List (Addr × Obj)) (s : Shared) (σ : St) (H : Hp) (x : V) (xs : List V) (v : Value) (us : List Value) (Q : VK), Inv X pins σ H s → RelV x v → Vals xs us → r x xs H Q →
    wpAny (model X.prog X.w) X.A (call (.builtin id) (v :: us)) (EP X pins σ Q) X.xe s

/-! ### lists of values -/
theorem Vals.one : ∀ {x : V} {us : List Value}, Vals [x] us → ∃ u, us = [u] ∧ RelV x u
  | _, _, .cons r .nil => ⟨_, rfl, r⟩
theorem Vals.eraseIdx : ∀ {xs : List V} {us : List Value} (i : Nat), Vals xs us → Vals (xs.eraseIdx i) (us.eraseIdx i)
  | _, _, _, .nil => .nil
  | _, _, 0, .cons _ t => t
  | _, _, i + 1, .cons r t => .cons r (Vals.eraseIdx i t)
theorem len_erase {α : Type} : ∀ (l : List α) (i : Nat), (l.eraseIdx i).length ≤ l.length
  | [], _ => Nat.le_refl _
  | _ :: _, 0 => Nat.le_succ _
  | _ :: r, i + 1 => Nat.succ_le_succ (len_erase r i)
section
variable {X : Cx} {pins : List (Addr × Obj)} {σ : St} {H : Hp} {s : Shared} {l b : Addr} {xs ys zs : List V}

/-! ### the two steps: a tracked list is rewritten, a new list is laid -/
theorem Inv.lset {its its' : List Value} {n : Nat} {f : Array Value → Array Value} {t' : Nat} (I : Inv X pins σ H s) (hH : H l = some (.lst xs))
    (e : s.heap.get? l = some { cls := .type "list", data := .seq its.toArray n }) (hf : f its.toArray = its'.toArray) (hv : Vals ys its') (hz : ys.length ≤ sizeLine) :
    Inv X pins σ (upd H l (.lst ys)) { s with heap := s.heap.update l (Obj.mapSeq f), toks := t' } := by
  have q := PySem.IsL.update e f
  rw [hf] at q
  refine I.write (x := l) (e := l) (by rw [hH]; exact trivial) (.inl rfl) (fun b' u hb hu => (Heap.get?_update_other s.heap (Obj.mapSeq f) (Ne.symm hb)).trans hu) ⟨_, q⟩ ?_
  exact ⟨hz, its', _, hv, q⟩
theorem Inv.lnew {its : List Value} {t' : Nat} (I : Inv X pins σ H s) (hv : Vals ys its) (hz : ys.length ≤ sizeLine) :
    Inv X pins σ (upd H s.heap.objs.size (.lst ys)) { s with heap := s.heap.push { cls := .type "list", data := .seq its.toArray }, toks := t' } :=
  I.laid (fun _ _ q => Heap.get?_push_of_some _ q) (Nat.le_refl _) ⟨hz, its, 0, hv, Heap.get?_push_size _ rfl⟩
theorem Inv.fresh (I : Inv X pins σ H s) : H s.heap.objs.size = none := I.hok.fresh (Nat.le_refl _)
theorem Inv.lstM (I : Inv X pins σ H s) (hH : H l = some (.lst xs)) : xs.length ≤ sizeLine ∧ ∃ (its : List Value) (n : Nat), Vals xs its ∧ xs.length = its.length ∧ s.heap.get? l = some { cls := .type "list", data := .seq its.toArray n } := by
  obtain ⟨z, its, n, r, e⟩ := I.hok l _ hH
  exact ⟨z, its, n, r, r.length, e⟩

end

section
variable {X : Cx}

/-! ### methods -/
def rAppend : V → List V → Hp → VK → Prop := fun x vs H Q => ∃ l xs y, x = .ref l ∧ vs = [y] ∧ H l = some (.lst xs) ∧ xs.length < sizeLine ∧ Q .non (upd H l (.lst (xs ++ [y])))
theorem mt_append : MtM X "list.append" rAppend := by
  intro pins s σ H x vs v us Q I rx rv h
  obtain ⟨l, xs, y, rfl, rfl, hH, hz, q⟩ := h
  cases rx
  obtain ⟨u, rfl, ru⟩ := rv.one
  obtain ⟨z, its, n, r, hl, e⟩ := I.lstM hH
  refine call_meets F.slot_list_append ⟨_, e, rfl⟩ F.entry_list_append (F.args_list_append_2 _ _) (PySem.list_append l its.toArray n u (by rw [List.size_toArray]; omega)) ⟨e, ?_⟩
  refine ⟨.non, _, I.lset (its' := its ++ [u]) hH e (by simp) (r.append (.cons ru .nil)) ?_, rfl, q⟩
  rw [List.length_append, List.length_singleton]
  omega

def rPopAt : V → List V → Hp → VK → Prop := fun x vs H Q => ∃ l xs i k y, x = .ref l ∧ vs = [.int i] ∧ H l = some (.lst xs) ∧ -(2 ^ 63) ≤ i ∧ i < 2 ^ 63 ∧ seqIndex? i xs.length = some k ∧ xs[k]? = some y ∧ Q y (upd H l (.lst (xs.eraseIdx k)))
theorem mt_popAt : MtM X "list.pop" rPopAt := by
  intro pins s σ H x vs v us Q I rx rv h
  obtain ⟨l, xs, i, k, y, rfl, rfl, hH, h1, h2, hk, hy, q⟩ := h
  cases rx
  obtain ⟨u, rfl, ru⟩ := rv.one
  obtain ⟨t, rfl⟩ := ru
  obtain ⟨z, its, n, r, hl, e⟩ := I.lstM hH
  obtain ⟨w, hw, rw'⟩ := r.get hy
  refine call_meets F.slot_list_pop ⟨_, e, rfl⟩ F.entry_list_pop (F.args_list_pop_2 _ _)
    (MeetsSeq.list_pop_at l its.toArray n i t k w (fitsIndex_both h1 h2) (by rw [List.size_toArray, ← hl]; exact hk) (by rw [← Array.getElem?_toList]; exact hw) (by rw [List.size_toArray]; omega)) ⟨e, ?_⟩
  refine ⟨y, _, I.lset (its' := its.eraseIdx k) hH e ?_ (r.eraseIdx k) ?_, rw', q⟩
  · show its.toArray.eraseIdxIfInBounds k = (its.eraseIdx k).toArray
    rw [List.eraseIdxIfInBounds_toArray]
  · have := len_erase xs k
    omega

/-! ### list + list, list += list, list * int -/
def rCat : R2 := fun x y H Q => ∃ l b xs zs, x = .ref l ∧ y = .ref b ∧ H l = some (.lst xs) ∧ H b = some (.lst zs) ∧ xs.length + zs.length ≤ sizeLine ∧ ∀ p, H p = none → Q (.ref p) (upd H p (.lst (xs ++ zs)))
theorem op_cat : OpR X (binaryOp .Add) rCat := by
  intro pins s σ H x y v u Q I rx ry h
  obtain ⟨l, b, xs, zs, rfl, rfl, hH, hB, hz, q⟩ := h
  cases rx
  cases ry
  obtain ⟨z, its, n, r, hl, e⟩ := I.lstM hH
  obtain ⟨z2, its2, n2, r2, hl2, e2⟩ := I.lstM hB
  refine PySem.P.add_list e e2 ?_ (by rw [List.size_toArray, List.size_toArray]; omega)
  have ea : its.toArray ++ its2.toArray = (its ++ its2).toArray := by simp
  rw [ea]
  exact ⟨.ref _, _, I.lnew (t' := s.toks) (r.append r2) (by rw [List.length_append]; omega), rfl, q _ I.fresh⟩
/-! ### del xs[i] -/
end

/-! ### xs[a:b] = ys -/
section
variable {prog : Program} {w : World} {A : Around} {E : Value → Shared → Prop} {s : Shared}
end

section
variable {X : Cx}
end
end L2

namespace Att
open PySem PySem.W PySem.Calls PyProof.Rows

/-! ### the script -/
theorem ints_of_wellAll {P : Params} {h : Heap} : ∀ (ns : List Int) (vs : List Value), WellAll P h vs (ns.map WData.int) → IntsAre vs ns := by
  intro ns
  induction ns with
  | nil =>
    intro vs w
    rw [List.map_nil] at w
    cases w
    exact .nil
  | cons n ns ih =>
    intro vs w
    rw [List.map_cons] at w
    cases w with
    | cons a b =>
      cases a
      exact .cons _ _ (ih _ b)

theorem script_of {l : OpenLaw} {n : Nat} (hn : l.most = some n) {P : Params} {h : Heap} {args : List WData} {vals : List Value}
    (hpre : l.row.toRowW.claim.pre args = true) (hwl : WellAll P h vals args) :
    ∃ a vs ns, vals = [Value.ref a] ∧ args = [WData.list (ns.map WData.int)] ∧ h.get? a = some { cls := .type "list", data := .seq vs.toArray } ∧ IntsAre vs ns ∧ ns.length ≤ n := by
  have hsh : WShape.hasAll [] args [.list .int] = true := (pre_splitW hpre).1
  have hc : l.pre.holds [] { args := args } = true := (pre_splitW hpre).2
  obtain ⟨d, r, rfl, h1, h2⟩ := hasAllW_cons hsh
  obtain rfl := hasAllW_nil h2
  obtain ⟨xs, rfl, h3⟩ := hasW_list h1
  obtain ⟨ns, rfl⟩ := items_int h3
  have hlen : ns.length ≤ n := by
    unfold OpenLaw.pre at hc
    have h4 : (WTm.not (.lt (.lit (.int (n : Int))) (.len (.arg 0)))).holds [] { args := [.list (ns.map .int)] } = true := by
      have h4 := (holds_andW hc).1
      rw [hn] at h4
      exact h4
    have h5 := condW_of h4 (w_not (w_lt w_lit (w_len_list (w_arg rfl))))
    rw [List.length_map] at h5
    refine Nat.le_of_not_lt fun q => ?_
    have q' : (n : Int) < ((ns.length : Nat) : Int) := by omega
    first
      | (rw [decide_eq_true q'] at h5; exact absurd h5 (by decide))
      | (simp at h5; omega)
  cases hwl with
  | cons w1 w2 =>
    cases w2
    cases w1 with
    | list ho hall => exact ⟨_, _, ns, rfl, rfl, ho, ints_of_wellAll ns _ hall, hlen⟩

theorem post_true (l : OpenLaw) (args : List WData) : l.row.toRowW.claim.post args (.bool true) args = true :=
  postW_of (r := l.row.toRowW) (X := (true == true))
    (show WShape.has [] (.bool true) .bool = true by first | rfl | decide | simp [WShape.has, WShape.arms, WShape.armsAll])
    (show (WTm.eq .res (.lit (.bool true))).value [] { args := args, res := some (.bool true), after := args } = some (.bool (true == true)) from w_eq_bool (w_res rfl) w_lit) rfl

/-! ### the attachment: holds_open's last premise (the goal 'hc' behind k_head) from a wpAny of the law's body -/
/-- the same from a codeAny of the CALL (for a layer whose function contracts speak of calls) -/
theorem attach_call {l : OpenLaw} {n : Nat} {q : Program} {loose : List Str} {XP : (Str → Option Value) → Heap → Prop} {YP : World → Heap → Prop} {d : DefRec}
    (hn : l.most = some n) (hdf : d.params.defaults = [])
    (call : ∀ (w : World) (s₀ s₁ : Shared) (mg mb : Str → Option Value) (fa : Addr) (o : Obj) (pm cd doc : Value) (a : Addr) (vs : List Value) (ns : List Int),
      Ground q loose [] XP w s₀ mg mb s₁.heap → YP w s₁.heap →
      s₁.heap.get? fa = some o → o.data = .func (docDef d.name d.params d.body d.scope pm cd doc) → s₁.heap.CodeRec cd d.name → mg d.name = some (.ref fa) →
      s₁.heap.get? a = some { cls := .type "list", data := .seq vs.toArray } → IntsAre vs ns → ns.length ≤ n → s₁.gens = #[] →
      codeAny (model l.prog w) callerA (.call (.ref fa) ⟨[.ref a], []⟩) (fun r s' => r = .ok (.ret (.bool true)) ∧ OldK s₁.heap s'.heap ∧ s'.os = s₁.os ∧ AllBare s'.gens) s₁) :
    WalkO q loose XP YP l.row.toRowW d [] (fun f vs => PySem.call f vs) := by
  intro w s₀ s₁ mg mb G Y fa o pm cd doc dV kV ho hd hcd hD hmg hg args vals as hpre hlay hrd hwl hlo
  obtain rfl : dV = .none := Dflts.none hD hdf
  obtain rfl : kV = .none := Dflts.noKw hD
  obtain ⟨a, vs, ns, rfl, rfl, hobj, hints, hlen⟩ := script_of hn hpre hwl
  refine enter_call (codeAny_mono (call w s₀ s₁ mg mb fa o pm cd doc a vs ns G Y ho (fd_plain hd) hcd hmg hobj hints hlen hg) fun r s' hq => ?_)
  obtain ⟨rfl, h2, h3, h4⟩ := hq
  exact ⟨.inl ⟨.bool true, .bool true, [], rfl, fun _ => rfl, .bool true, post_true l _, fun _ => ⟨List.Pairwise.nil, fun _ hm => (nomatch hm)⟩⟩, h2, h3, h4⟩

/-! ### rules over ANY heap (no ledger) from facts about the written part K: the library's own take a ledger (News) for what they write -/
section
variable {prog : Program} {w : World} {A : Around} {E : Value → Shared → Prop} {s : Shared} {K : Frag}

/-! the whole heap as the ledger: makes every rule that writes through a ledger a rule over any heap -/
end
end Att

namespace L2
open PySem PySem.Spec PyProof.Rows

theorem vals_ints : ∀ {vs : List Value} {ns : List Int}, IntsAre vs ns → Vals (ns.map V.int) vs
  | _, _, .nil => .nil
  | _, _, .cons n t h => .cons ⟨t, rfl⟩ (vals_ints h)

/-- nothing is tracked but the script, known to the object (or it is an object of the module) -/
def Only (H : Hp) : Prop := ∀ b, H b = none ∨ ∃ o xs, H b = some (.frz o (.lst xs))

/-- THE HEAD: the law's promise, at the heap behind the top. F, the promise of the law's def, may use that base is part of the heap (so K.In base, base.Ns mainGlobals mg stand in Mod) -/
theorem law_call {P : Program} {w : World} {K : PySem.W.Frag} {mg mb : Str → Option Value} {CX : CXT} {k : Nat} {fa a : Addr} {fd : FuncData} {x : Str} {sp : Sp} {s₁ : Shared} {vs : List Value} {ns : List Int}
    (KX : K.In s₁.heap) (hns : s₁.heap.Ns mainGlobals mg) (hb : s₁.heap.Ns builtinsNs mb) (hbb : ∀ x : Str, x ≠ "__name__" → mb x = bootBuiltins x) (hlim : s₁.heap.NoLimit) (hg : s₁.gens = #[])
    (ha : s₁.heap.get? a = some { cls := .type "list", data := .seq vs.toArray }) (hi : IntsAre vs ns) (hl : ns.length ≤ sizeLine) (hr : Room k callerA)
    (F : ∀ base : Heap, K.In base → base.Ns mainGlobals mg → FnOk P w K mg base CX k fa fd [x] sp) (hbind : ∀ (s : Shared) (u : Value), BindsTo s fd ⟨[u], []⟩ [(x, u)])
    (hsp : ∀ H : Hp, Only H → SqL K H a (ns.map V.int) → sp [.ref a] H (fun v _ => v = .bl true) fun _ _ _ => False)
    (hCX : ∀ H e s', CX [] H s₁ (fun _ _ _ => False) e s' → False) :
    codeAny (model P w) callerA (.call (.ref fa) ⟨[.ref a], []⟩) (fun r s' => r = .ok (.ret (.bool true)) ∧ OldK s₁.heap s'.heap ∧ s'.os = s₁.os ∧ AllBare s'.gens) s₁ := by
  have rv := vals_ints hi
  have lenV := hi.length
  -- from an abstract heap in which nothing but the script may be tracked
  have core : ∀ H : Hp, Only H → SqL K H a (ns.map V.int) → HOk P w H s₁.heap → (∀ b, H b ≠ none → b = a) → (H a ≠ none → K.lookup a = none) →
      codeAny (model P w) callerA (.call (.ref fa) ⟨[.ref a], []⟩) (fun r s' => r = .ok (.ret (.bool true)) ∧ OldK s₁.heap s'.heap ∧ s'.os = s₁.os ∧ AllBare s'.gens) s₁ := by
    intro H hO hS hok hA hK
    have base_of : ∀ {b : Addr} {o : Obj}, s₁.heap.get? b = some o → H b = none → (hidT s₁.heap H).get? b = some o := fun e n => hidT_get e n
    have noA : ∀ {b : Addr} {o : Obj} {es : Array DictEntry} {ep : Nat}, s₁.heap.get? b = some o → o.data = .dict es ep → H b = none := fun {b o es ep} e d => by
      cases q : H b with
      | none => rfl
      | some u =>
        have e' : b = a := hA b (by rw [q]; simp)
        subst e'
        rw [ha] at e; cases e
        have d' : Data.seq vs.toArray _ = Data.dict es ep := d
        cases d'
    have nsK : ∀ {b : Addr} {m : Str → Option Value}, s₁.heap.Ns b m → (hidT s₁.heap H).Ns b m := fun {b m} ⟨o, es, ep, e, d, r⟩ => ⟨o, es, ep, base_of e (noA e d), d, r⟩
    have hKb : K.In (hidT s₁.heap H) := fun b o e => base_of (KX b o e) (by
      cases q : H b with
      | none => rfl
      | some u =>
        have e' : b = a := hA b (by rw [q]; simp)
        subst e'
        rw [hK (by rw [q]; simp)] at e; cases e)
    have hM : Mod K mg (hidT s₁.heap H) := ⟨hKb, nsK hns, ⟨mb, nsK hb, hbb⟩, let ⟨mc, h1, h2⟩ := hlim; ⟨mc, nsK h1, h2⟩⟩
    have e0 : Env0 P w K mg (hidT s₁.heap H) callerA [] s₁ H := ⟨rfl, hM, fun b o e => of_hidT e, Nat.le_of_eq (hidT_size _ _), trivial, fun b hb => absurd (show b ∈ ([] : List Addr) from hb) (by simp), hok, .of_eq hg⟩
    refine codeAny_mono ((F _ hKb (nsK hns)).run callerA [] s₁ H ⟨[.ref a], []⟩ [.ref a] [.ref a] _ _ hr e0 (hbind s₁ (.ref a)) (.cons rfl .nil) (hsp H hO hS)) fun r s' h => ?_
    cases r with
    | error e => exact (hCX H e s' h).elim
    | ok fl =>
      cases fl with
      | next => exact False.elim h
      | brk => exact False.elim h
      | cont => exact False.elim h
      | ret u =>
        obtain ⟨v, H', os, bare, un, hok', r', q⟩ := h
        have q' : v = .bl true := q
        subst q'
        obtain rfl : u = Value.bool true := r'
        refine ⟨rfl, OldK.of_keep fun b o e => ?_, os, bare⟩
        cases q : H b with
        | none => exact un.keep b o e q (by intro z; exact absurd (show b ∈ ([] : List Addr) from z) (by simp)) (by simp)
        | some u =>
          rcases hO b with z | ⟨ob, xs, z⟩
          · rw [q] at z; cases z
          · have z2 := un.frzs b ob _ z
            obtain ⟨e1, _⟩ := hok b _ z
            obtain ⟨e2, _⟩ := hok' b _ z2
            rw [e] at e1; cases e1
            exact e2
  cases hk : K.lookup a with
  | some o =>
    -- the script is one of the module's own objects
    have e := KX a o hk
    rw [ha] at e
    cases e
    refine core (fun _ => none) (fun _ => .inl rfl) (.inr ⟨_, vs.toArray, _, hk, rfl, rfl, rfl, by rw [List.size_toArray, lenV]; exact hl, by simpa using rv⟩) (fun b u z => by have z' : (none : Option HO) = some u := z; cases z') (fun b z => absurd rfl z) fun z => absurd rfl z
  | none =>
    refine core (fun b => if b = a then some (.frz { cls := .type "list", data := .seq vs.toArray } (.lst (ns.map V.int))) else none) (fun b => ?_) (.inl (.inr ⟨{ cls := .type "list", data := .seq vs.toArray }, if_pos rfl⟩)) (fun b u z => ?_) (fun b z => ?_) fun _ => hk
    · by_cases hb : b = a
      · exact .inr ⟨_, _, if_pos hb⟩
      · exact .inl (if_neg hb)
    · by_cases hb : b = a
      · have z' := (if_pos hb).symm.trans z
        cases z'
        subst hb
        exact ⟨ha, by rw [List.length_map]; exact hl, vs, _, rv, ha⟩
      · have z' := (if_neg hb).symm.trans z
        cases z'
    · by_cases hb : b = a
      · exact hb
      · exact absurd (if_neg hb) z
end L2

namespace L2
open PySem PySem.Spec PyProof.Rows

abbrev KOf {K : PySem.W.Frag} {h : Heap} (_ : K.In h) : PySem.W.Frag := K

/-- the goal that k_head leaves (case hc), from the law's promise. F gives the function object fd (K's own) once, then the promise over every base -/
theorem walk_of {l : PySem.W.OpenLaw} {n k : Nat} {q : Program} {loose : List Str} {XP : (Str → Option Value) → Heap → Prop} {YP : World → Heap → Prop} {d : DefRec} {K : Params → PySem.W.Frag} {CX : World → CXT} {sp : World → Sp} {x : Str}
    (hn : l.most = some n) (hn2 : n ≤ sizeLine) (hdf : d.params.defaults = []) (hr : Room k callerA)
    (hY : ∀ (w : World) (h : Heap), YP w h → (K w.params).In h)
    (F : ∀ (w : World) (mg : Str → Option Value) (fa : Addr) (h : Heap), (K w.params).In h → h.Ns mainGlobals mg → mg d.name = some (.ref fa) →
      ∃ fd : FuncData, (∀ (s : Shared) (u : Value), BindsTo s fd ⟨[u], []⟩ [(x, u)]) ∧
        ∀ base : Heap, (K w.params).In base → base.Ns mainGlobals mg → FnOk l.prog w (K w.params) mg base (CX w) k fa fd [x] (sp w))
    (hsp : ∀ (w : World) (H : Hp) (a : Addr) (ns : List Int), ns.length ≤ n → Only H → SqL (K w.params) H a (ns.map V.int) → sp w [.ref a] H (fun v _ => v = .bl true) fun _ _ _ => False)
    (hCX : ∀ (w : World) (H : Hp) (s : Shared) (e : Value) (s' : Shared), CX w [] H s (fun _ _ _ => False) e s' → False) :
    PySem.W.WalkO q loose XP YP l.row.toRowW d [] (fun f vs => PySem.call f vs) := by
  refine Att.attach_call hn hdf fun w s₀ s₁ mg mb fa o pm cd doc a vs ns G Y ho hd hcd hmg hobj hints hlen hg => ?_
  have KX := hY w _ Y
  obtain ⟨fd, hb, hF⟩ := F w mg fa _ KX G.T.g hmg
  exact law_call KX G.T.g G.T.b G.T.builtins G.T.nolimit hg hobj hints (Nat.le_trans hlen hn2) hr hF hb (fun H hO hS => hsp w H a ns hlen hO hS) fun H e s' => hCX w H s₁ e s'
end L2

/- THE LAST THEOREM (shape; LID, My.* are yours):
   My.Adr: a structure of the addresses that your layer names (classes, functions); My.Txt K t: a structure (Prop) of the equations over K;
   My.txt_mk : {K} {implicit addresses ..} (e1 : nsIn K mainGlobals "law" = some (some (.ref f))) (e2 : K.lookup f = some ⟨oc, od, .func (fnOf "law" "law" params body scope dV kV doc pm an cdv ct), sl⟩) (e3 : codeIn K cdv "law" = true) .. : ∃ t, My.Txt K t

set_option maxRecDepth 100000 in
set_option maxHeartbeats 0 in
theorem PySem.Challenge.cw_LID_holds : PySem.Challenge.rw_LID.Holds := by
  w_on; o_law; k_head; (case hw => w_witness2)
  k_fill
  refine L2.walk_of (l := PySem.Challenge.rw_LID) (n := 63) (k := 40) (x := "script") (CX := fun w => ..) (sp := fun _ => My.sp_law) rfl (by decide) rfl ⟨rfl, by decide, by decide⟩ (fun w h Y => PySem.W.kIn_of Y) ?F ?S ?C
  case F =>
    intro w mg fa h KX G hmg
    have T : ∃ t, My.Txt (L2.KOf KX) t := by
      dsimp only [L2.KOf]                          -- K must stand as «<heap const> w.params» for k_is
      refine' My.txt_mk ?e1 ?e2 ?e3 ..
      (case e1 => PySem.W.k_is)                    -- in the order: a name -> its address -> its object -> its parts
      (case e2 => PySem.W.k_is)
      ..
    obtain ⟨t, T⟩ := T
    have e0 := hmg.symm.trans (PySem.W.mg_of KX G T.law)
    cases e0                                       -- fa is the law's own address
    exact ⟨_, fun s u => .of_eq rfl, fun base kb nb => My.law_fn T kb nb⟩     -- if «.of_eq rfl» comes too early: refine' ⟨_, ?b, fun base kb nb => My.law_fn T kb nb⟩; exact fun s u => .of_eq rfl
  case S => exact fun w H a ns hl hO hS => ..
  case C => exact ..
(the tactic k_is has no namespace: write k_is) -/

/-! SHORT WORDS over the layer: a def of the text, its body, what a loop and a test want. -/
namespace L2
open PySem PySem.Spec PyProof.Rows

/-! ### the text by places -/
def defArgs (s : Stmt) : Arguments := match s with
  | .FunctionDef _ a _ _ _ _ _ _ _ _ => a
  | _ => { posonlyargs := [], args := [], vararg := none, kwonlyargs := [], kw_defaults := [], kwarg := none, defaults := [] }
def defBody (s : Stmt) : List Stmt := match s with
  | .FunctionDef _ _ b _ _ _ _ _ _ _ => b
  | _ => []
def defScope (s : Stmt) : Scope := match s with
  | .FunctionDef _ _ _ _ _ _ sc _ _ _ => sc
  | _ => { kind := .function, names := [], isGenerator := false, isCoroutine := false }

/-! ### no exception leaves a def -/
abbrev CX0 : CXT := fun _ _ _ _ _ _ => False
abbrev E0 : XK := fun _ _ _ => False
theorem pass0 {X : Cx} : Passes CX0 X E0 := fun _ _ _ _ _ _ _ h => h.elim

/-! ### a def (or method) of the text as it stands behind the top -/
structure Fun (K : PySem.W.Frag) (x qual : Str) (st : Stmt) (f : Addr) (fd : FuncData) : Prop where
  ex : ∃ (oc : Value) (od : Option Addr) (kV doc pm : Value) (an : Option Addr) (cdv ct : Value) (osl : Array (Option Value)),
    fd = PySem.W.fnOf x qual (defArgs st) (defBody st) (defScope st) .none kV doc pm an cdv ct ∧ K.lookup f = some ⟨oc, od, .func fd, osl⟩ ∧ PySem.W.codeIn K cdv qual = true
  kp : PySem.W.keepIn K (.ref f) = true
section
variable {P : Program} {w : World} {K : PySem.W.Frag} {mg : Str → Option Value} {base : Heap}
/-- THE RULE for a def: its body as a term of rules, and the reading of that term -/
theorem Fun.ok {x qual : Str} {st : Stmt} {f : Addr} {fd : FuncData} {N ps : List Str} {k : Nat} {sp : Sp} (F : Fun K x qual st f fd) (S : FnScope N ps (defScope st)) (len : ∀ vs H Q E, sp vs H Q E → vs.length = ps.length)
    (hbody : ∀ (cdv : Value) (A : Around) (outer : List Env) (s : Shared) (H : Hp) (vs : List V) (Q : VK) (E : XK), Room k (A.deeper (envOfC qual (defScope st) s.heap.objs.size f cdv)) → sp vs H Q E →
      ∃ t, PSs (cxOf CX0 P w K mg base N qual (defScope st) f cdv A outer s H E).nox (defBody st) t ∧ t { nx := fun _ H' => Q .non H', rt := Q } (start N vs) H) : FnOk P w K mg base CX0 (k + 1) f fd ps sp := by
  obtain ⟨oc, od, kV, doc, pm, an, cdv, ct, osl, rfl, lk, hcd⟩ := F.ex
  refine fn_of lk hcd S len fun A outer s H vs Q E hr hsp => ?_
  obtain ⟨t, h, q⟩ := hbody cdv A outer s H vs Q E hr hsp
  exact ⟨t, h.nox, q⟩
/-- how its arguments bind (no defaults): h is «fun _ _ _ _ _ _ us hl => match us, hl with | [_, _], _ => rfl», one _ a parameter -/
theorem Fun.binds {x qual : Str} {st : Stmt} {f : Addr} {fd : FuncData} {ps : List Str} (F : Fun K x qual st f fd)
    (h : ∀ (kV doc pm : Value) (an : Option Addr) (cdv ct : Value) (us : List Value), us.length = ps.length → bindArgs (PySem.W.fnOf x qual (defArgs st) (defBody st) (defScope st) .none kV doc pm an cdv ct) ⟨us, []⟩ = pure (ps.zip us)) : Binds K fd ps [] := by
  obtain ⟨oc, od, kV, doc, pm, an, cdv, ct, osl, rfl, lk, hcd⟩ := F.ex
  exact .all (h kV doc pm an cdv ct)
theorem fun_mk {x qual : Str} {st : Stmt} {f : Addr} {oc : Value} {od an : Option Addr} {osl : Array (Option Value)} {kV doc pm cdv ct : Value} (l : K.lookup f = some ⟨oc, od, .func (PySem.W.fnOf x qual (defArgs st) (defBody st) (defScope st) .none kV doc pm an cdv ct), osl⟩)
    (c : PySem.W.codeIn K cdv qual = true) (k : PySem.W.keepIn K (.ref f) = true) : Fun K x qual st f (PySem.W.fnOf x qual (defArgs st) (defBody st) (defScope st) .none kV doc pm an cdv ct) := ⟨⟨oc, od, kV, doc, pm, an, cdv, ct, osl, rfl, l, c⟩, k⟩
end
theorem hu_of {A : Around} {k : Nat} (hr : Room k A) : A.units + 1 < cLine := Nat.lt_of_le_of_lt (Nat.add_le_add_left (by decide : 1 ≤ 64) _) hr.units
theorem small1000 {n : Nat} (h : n ≤ 1000) : n < sizeLine := Nat.lt_of_le_of_lt h (by decide)

/-! ### expressions in short: the name that stands in the i-th slot -/
section
variable {X : Cx}
theorem pv (i : Nat) {x : Str} {pos : Pos} (hN : X.N[i]? = some x := by rfl) (hv : Vis X.env.scope x := by first | exact Or.inl rfl | exact Or.inr (Or.inl rfl) | exact Or.inr (Or.inr rfl)) (hd : (x == ("__debug__" : Str)) = false := by decide)
    (hcd : (x == ("__classdict__" : Str)) = false := by decide) : PE X (.Name x pos) (tVar i) := pe_var hN hv hd hcd
end

/-! ### tests -/
theorem iteF {A B : Prop} (h : B) : if false = true then A else B := by
  rw [if_neg Bool.false_ne_true]
  exact h
theorem iteT {A B : Prop} (h : A) : if true = true then A else B := by
  rw [if_pos rfl]
  exact h
/-! ### heaps -/
/-- all that was tracked is as it was -/
def Same (H H' : Hp) : Prop := ∀ b o, H b = some o → H' b = some o
theorem Same.refl (H : Hp) : Same H H := fun _ _ h => h
theorem Same.trans {H H1 H2 : Hp} (a : Same H H1) (b : Same H1 H2) : Same H H2 := fun c o h => b c o (a c o h)
theorem Same.free {H H' : Hp} (e : Same H H') {l : Addr} (h : H' l = Option.none) : H l = Option.none := by
  cases q : H l with
  | none => rfl
  | some o =>
    rw [e l o q] at h
    cases h
theorem Same.seq {K : PySem.W.Frag} {H H' : Hp} {a : Addr} {xs : List V} (e : Same H H') (h : SqL K H a xs) : SqL K H' a xs := by
  rcases h with (h | ⟨o, h⟩) | h
  · exact .inl (.inl (e _ _ h))
  · exact .inl (.inr ⟨o, e _ _ h⟩)
  · exact .inr h

end L2

set_option linter.all false
set_option maxRecDepth 100000
set_option maxHeartbeats 4000000

namespace Fs
/-- the ints from lo up to below hi -/
def upTo (lo hi : Int) : List Int := (List.range (hi - lo).toNat).map fun k => lo + (k : Nat)
theorem length_upTo (lo hi : Int) : (upTo lo hi).length = (hi - lo).toNat := by simp [upTo]
theorem get_upTo {lo hi : Int} {k : Nat} (h : k < (hi - lo).toNat) : (upTo lo hi)[k]? = some (lo + (k : Nat)) := by
  simp [upTo, h]
theorem mem_upTo {lo hi x : Int} : x ∈ upTo lo hi ↔ lo ≤ x ∧ x < hi := by
  simp only [upTo, List.mem_map, List.mem_range]
  constructor
  · rintro ⟨k, hk, rfl⟩
    omega
  · rintro ⟨h1, h2⟩
    exact ⟨(x - lo).toNat, by omega, by omega⟩
theorem sorted_upTo (lo hi : Int) : (upTo lo hi).Pairwise (· < ·) := by
  unfold upTo
  rw [List.pairwise_map]
  refine List.Pairwise.imp (fun {a b} h => ?_) (List.pairwise_lt_range (n := (hi - lo).toNat))
  omega
theorem sorted_eq : ∀ {l1 l2 : List Int}, l1.Perm l2 → l1.Pairwise (· ≤ ·) → l2.Pairwise (· ≤ ·) → l1 = l2
  | [], l2, p, _, _ => by simpa using p.symm.eq_nil
  | a :: l1, [], p, _, _ => by simpa using p.eq_nil
  | a :: l1, b :: l2, p, h1, h2 => by
    have ha : a ∈ b :: l2 := p.mem_iff.mp (by simp)
    have hb : b ∈ a :: l1 := p.mem_iff.mpr (by simp)
    rw [List.pairwise_cons] at h1 h2
    have e : a = b := by
      rcases List.mem_cons.mp ha with e | ha
      · exact e
      · rcases List.mem_cons.mp hb with e | hb
        · exact e.symm
        · exact Int.le_antisymm (h1.1 b hb) (h2.1 a ha)
    subst e
    rw [sorted_eq (List.Perm.cons_inv p) h1.2 h2.2]
theorem erase_perm : ∀ (l : List Int) (j : Nat), j < l.length → ([l.getD j 0] ++ l.eraseIdx j).Perm l
  | [], _, h => absurd h (Nat.not_lt_zero _)
  | x :: l, 0, _ => List.Perm.refl _
  | x :: l, j + 1, h => by
    have ih := erase_perm l j (by simpa using h)
    show (l.getD j 0 :: x :: l.eraseIdx j).Perm (x :: l)
    exact (List.Perm.swap _ _ _).trans (ih.cons x)
/-- a plain pile -/
structure Plain (xs : List Int) : Prop where
  pos : 1 ≤ xs.length
  perm : xs.Perm (upTo 1 (xs.length + 1))
def absI (i : Int) : Int := if i < 0 then -i else i
/-- a burnt pile -/
structure Burnt (xs : List Int) : Prop where
  pl : Plain (xs.map absI)
theorem Plain.mem {xs : List Int} (p : Plain xs) {x : Int} (h : x ∈ xs) : 1 ≤ x ∧ x ≤ xs.length := by
  have := mem_upTo.mp (p.perm.mem_iff.mp h)
  omega
theorem Plain.abs {xs : List Int} (p : Plain xs) : xs.map absI = xs := by
  have : ∀ x ∈ xs, absI x = x := fun x h => by
    have := p.mem h
    unfold absI
    rw [if_neg (by omega)]
  exact (List.map_congr_left this).trans (List.map_id _)
theorem Plain.burnt {xs : List Int} (p : Plain xs) : Burnt xs := ⟨by rw [p.abs]; exact p⟩
theorem Burnt.mem {xs : List Int} (p : Burnt xs) {x : Int} (h : x ∈ xs) : -(xs.length : Int) ≤ x ∧ x ≤ xs.length ∧ x ≠ 0 := by
  have h1 := p.pl.mem (x := absI x) (List.mem_map.mpr ⟨x, h, rfl⟩)
  rw [List.length_map] at h1
  unfold absI at h1
  split at h1 <;> omega
/-- what sorted(xs) != list(range(1, n + 1)) asks -/
theorem Plain.sorted {xs ms : List Int} (p : Plain xs) (h : ms.Perm xs) (hs : ms.Pairwise (· ≤ ·)) : ms = upTo 1 (xs.length + 1) :=
  sorted_eq (h.trans p.perm) hs ((sorted_upTo _ _).imp fun h => Int.le_of_lt h)
end Fs


/-! LIST COMPREHENSIONS over the layer: the block as a context of its own. -/
namespace L2
open PySem PySem.Spec PyProof.Rows

theorem closure_ex {sc : Scope} {env : Env} (h : ∀ x ∈ sc.names, x.2 = NameKind.free → ∃ c, env.cells.lookup x.1 = some c) :
    ∃ cl : List (Str × Addr), closureFor sc env = pure cl ∧ (∀ x c, cl.lookup x = some c → env.cells.lookup x = some c) ∧ ∀ x, (x, NameKind.free) ∈ sc.names → (cl.lookup x).isSome = true := by
  have key : ∀ (f : Str × NameKind → List (Str × Addr) → Sem (ForInStep (List (Str × Addr)))) (hf : ∀ n k cs, f (n, k) cs = if (k == NameKind.free) = true then (cellOf env n >>= fun a => pure (ForInStep.yield ((n, a) :: cs))) else pure (ForInStep.yield cs))
      (names : List (Str × NameKind)) (cs : List (Str × Addr)), (∀ x ∈ names, x.2 = NameKind.free → ∃ c, env.cells.lookup x.1 = some c) → (∀ x c, cs.lookup x = some c → env.cells.lookup x = some c) →
      ∃ cl, (forIn names cs f : Sem _) = pure cl ∧ (∀ x c, cl.lookup x = some c → env.cells.lookup x = some c) ∧ (∀ x, (cs.lookup x).isSome = true → (cl.lookup x).isSome = true) ∧ ∀ x, (x, NameKind.free) ∈ names → (cl.lookup x).isSome = true := by
    intro f hf names
    induction names with
    | nil => intro cs _ h2; exact ⟨cs, rfl, h2, fun _ q => q, fun x q => nomatch q⟩
    | cons a r ih =>
      intro cs h1 h2
      obtain ⟨n, k⟩ := a
      rw [List.forIn_cons, hf]
      by_cases hk : k = .free
      · subst hk
        obtain ⟨c, hc⟩ := h1 (n, .free) List.mem_cons_self rfl
        have hc' : env.cells.lookup n = some c := hc
        have e : cellOf env n = pure c := by unfold cellOf; rw [hc']
        rw [if_pos (show (NameKind.free == NameKind.free) = true from rfl), e]
        simp only [pure_bind]
        obtain ⟨cl, e1, e2, e3, e4⟩ := ih ((n, c) :: cs) (fun x hx => h1 x (List.mem_cons_of_mem _ hx)) (fun x c' q => by
          rw [List.lookup_cons] at q
          cases hx : x == n with
          | true => rw [hx] at q; cases q; rw [eq_of_beq hx]; exact hc'
          | false => rw [hx] at q; exact h2 x c' q)
        refine ⟨cl, e1, e2, fun x q => e3 x ?_, fun x q => ?_⟩
        · rw [List.lookup_cons]
          cases hx : x == n with
          | true => rfl
          | false => exact q
        · rcases List.mem_cons.mp q with z | z
          · cases z; exact e3 n (by rw [List.lookup_cons, beq_self_eq_true]; rfl)
          · exact e4 x z
      · have hb : (k == NameKind.free) = false := by simpa using hk
        rw [if_neg (by rw [hb]; exact Bool.false_ne_true)]
        simp only [pure_bind]
        obtain ⟨cl, e1, e2, e3, e4⟩ := ih cs (fun x hx => h1 x (List.mem_cons_of_mem _ hx)) h2
        refine ⟨cl, e1, e2, e3, fun x q => ?_⟩
        rcases List.mem_cons.mp q with z | z
        · cases z; exact absurd rfl hk
        · exact e4 x z
  obtain ⟨cl, e1, e2, _, e4⟩ := key (fun x r => match x with | (name, kind) => if (kind == NameKind.free) = true then (cellOf env name >>= fun a => pure (ForInStep.yield ((name, a) :: r))) else pure (ForInStep.yield r)) (fun _ _ _ => rfl) sc.names [] h (fun x c q => nomatch q)
  refine ⟨cl, ?_, e2, e4⟩
  unfold closureFor
  show (forIn sc.names [] _ >>= fun cs => pure cs) = pure cl
  first
  | (rw [e1]; rfl)
  | (refine Eq.trans (congrArg (· >>= fun cs => pure cs) (Eq.trans (congrArg (forIn sc.names []) (funext fun x => funext fun r => ?_)) e1)) rfl; obtain ⟨n, k⟩ := x; rfl)

/-- a name of the block as it is called behind relabel -/
theorem relabel_lookup {env : Env} : ∀ (names : List (Str × NameKind)) (x : Str) (k : NameKind),
    (names.map fun (n, k) => if (k == NameKind.free && env.scope.kind == .function && env.kindOf n == some .cell) then (n, NameKind.cell) else (n, k)).lookup x = some k →
    ∃ k', names.lookup x = some k' ∧ (k = k' ∨ (k' = .free ∧ k = .cell))
  | [], _, _, h => nomatch h
  | (n, k0) :: r, x, k, h => by
    have ih := relabel_lookup (env := env) r x k
    rw [List.map_cons, List.lookup_cons] at h
    rw [List.lookup_cons]
    by_cases hc : (k0 == NameKind.free && env.scope.kind == .function && env.kindOf n == some .cell) = true
    · simp only [hc, if_true] at h
      cases hx : x == n with
      | true =>
        rw [hx] at h
        cases h
        refine ⟨k0, rfl, .inr ⟨?_, rfl⟩⟩
        simp only [Bool.and_eq_true] at hc
        exact eq_of_beq hc.1.1
      | false => rw [hx] at h; exact ih h
    · simp only [if_neg hc] at h
      cases hx : x == n with
      | true =>
        rw [hx] at h
        cases h
        exact ⟨k0, rfl, .inl rfl⟩
      | false => rw [hx] at h; exact ih h

/-- the block's context -/
def Cx.block (X : Cx) (sc : Scope) (cl : List (Str × Addr)) (Nc : List Str) (s : Shared) (H : Hp) (fp : List Addr) : Cx :=
  { X with N := Nc, s₀ := s, H₀ := H, env := compEnvC sc cl s.heap.objs.size X.env, outer := X.stack, ex := fp, fn := fun _ => false, pn := [], xe := fun _ _ => False }

/-- which of the block's names are the def's own (its slot there), which the block's -/
structure CapOk (X : Cx) (sc : Scope) (Nc : List Str) (cap : List (Option Nat)) : Prop where
  len : cap.length = Nc.length
  ok : ∀ (j i : Nat), cap[j]? = some (some i) → ∃ x, Nc[j]? = some x ∧ X.N[i]? = some x ∧ X.env.scope.names.lookup x = some .cell ∧ sc.names.lookup x = some .free
theorem cap_nil {X : Cx} {sc : Scope} : CapOk X sc [] [] := ⟨rfl, fun _ _ e => by simp at e⟩
theorem cap_own {X : Cx} {sc : Scope} {Nc : List Str} {cap : List (Option Nat)} {x : Str} (h : CapOk X sc Nc cap) : CapOk X sc (x :: Nc) (none :: cap) := by
  refine ⟨by simp [h.len], fun j i e => ?_⟩
  cases j with
  | zero => simp at e
  | succ j => obtain ⟨y, e1, e2⟩ := h.ok j i (by simpa using e); exact ⟨y, by simpa using e1, e2⟩
theorem CapOk.frees {X : Cx} {sc : Scope} {Nc : List Str} {cap : List (Option Nat)} (h : CapOk X sc Nc cap) (hfr : (sc.names.all fun x => !(x.2 == NameKind.free) || (Nc.zip cap).any fun p => p.1 == x.1 && p.2.isSome) = true) :
    ∀ x ∈ sc.names, x.2 = NameKind.free → X.env.scope.names.lookup x.1 = some .cell := fun x hx hf => by
  have h1 := List.all_eq_true.mp hfr x hx
  rw [hf] at h1
  have h2 : ((Nc.zip cap).any fun p => p.1 == x.1 && p.2.isSome) = true := by simpa using h1
  obtain ⟨p, hp, hq⟩ := List.any_eq_true.mp h2
  rw [Bool.and_eq_true] at hq
  obtain ⟨j, hj⟩ := List.mem_iff_getElem?.mp hp
  rw [List.getElem?_zip_eq_some] at hj
  obtain ⟨i, hi⟩ := Option.isSome_iff_exists.mp hq.2
  obtain ⟨y, e1, _, e3, _⟩ := h.ok j i (by rw [hj.2, hi])
  rw [hj.1] at e1
  cases e1
  rw [← eq_of_beq hq.1]
  exact e3
/-- the block's slots at the start of a turn -/
def capSt (cap : List (Option Nat)) (σ : St) : St := cap.map fun o => o.bind fun i => (σ[i]?).join

/-- the target leaves the def's own names as they are -/
def GKeep (cap : List (Option Nat)) (g : TG) : Prop := ∀ (x : V) (σ0 : St) (H : Hp) (Q : St → Hp → Prop), g x σ0 H Q → g x σ0 H fun σ' H' => Q σ' H' ∧ ∀ (j k : Nat), cap[j]? = some (some k) → σ'[j]? = σ0[j]?
theorem keep_name {cap : List (Option Nat)} {i : Nat} (h : cap[i]? = some none := by rfl) : GKeep cap (gName i) := fun x σ0 H Q q => ⟨q, fun j k e => by
  refine List.getElem?_set_ne fun z => ?_
  subst z
  rw [h] at e
  cases e⟩
/-- the tests of a clause -/
def PIf (X : Cx) (ifs : List Expr) (tt : TT) : Prop :=
  ∀ (pins : List (Addr × Obj)) (s : Shared) (σ : St) (H : Hp) (Q : Bool → Hp → Prop), Inv X pins σ H s → tt σ H Q →
    wpAny (model X.prog X.w) X.A (forIn ifs true fun c r => if r = true then do let ok ← isTrue c X.env (eval c X.env); pure (ForInStep.yield ok) else pure (ForInStep.yield r)) (TP X pins σ Q) X.xe s
def tTrue : TT := fun _ H Q => Q true H
theorem pif_nil {X : Cx} : PIf X [] tTrue := fun _ _ _ H _ I h => wpAny_tests_nil ⟨H, I, h⟩
section
variable {prog : Program} {w : World} {A : Around} {R : Result → Shared → Prop} {s : Shared}
theorem comp_loop {elt target iter : Expr} {ifs : List Expr} {scope : Scope} {pos : Pos} {it acc : Value} {env : Env} (I : Nat → Shared → Prop)
    (turn : ∀ n s, I n s → wpAny (model prog w) A (pyNext it) (fun r s₁ => match r with
      | none => R (.ok .next) s₁
      | some v => wpAny (model prog w) A (letOwnedTupleGo target it v) (fun _ s₁ => wpAny (model prog w) A (assign target env v) (fun _ s₂ =>
          wpAny (model prog w) A (forIn ifs true fun c r => if r = true then do let ok ← isTrue c env (eval c env); pure (ForInStep.yield ok) else pure (ForInStep.yield r)) (fun ok s₃ =>
            if ok = true then wpAny (model prog w) A (eval elt env) (fun x s₄ =>
              wpAny (model prog w) A (call (.builtin "list.append") [acc, x]) (fun _ s₅ => ∃ m, m < n ∧ I m s₅) (fun _ _ => False) s₄) (fun _ _ => False) s₃
            else ∃ m, m < n ∧ I m s₃) (fun _ _ => False) s₂) (fun _ _ => False) s₁) (fun _ _ => False) s₁) (fun _ _ => False) s)
    (n : Nat) (h : I n s) :
    codeAny (model prog w) A (.compLoop (.ListComp elt [⟨target, iter, ifs, 0⟩] scope pos) 0 it acc env) R s := by
  refine codeAny_loop rfl I (fun n s hI => ?_) n h
  show wpAny _ A ((compTurn (.ListComp elt [⟨target, iter, ifs, 0⟩] scope pos) 0 it acc env).onRaise (fun x => do noteFrame x env; theTreesLotGoes x)) _ _ s
  refine wpAny_noted ?_
  rw [compTurn_list]
  refine wpAny_bind (wpAny_standAt (wpAny_bind (wpAny_mono (turn n s hI) (fun r s₁ h₁ => ?_) fun _ _ h' => h'.elim)))
  cases r with
  | none => exact wpAny_pure h₁
  | some v =>
    refine wpAny_bind (wpAny_mono h₁ (fun _ s₁ h₁ => ?_) fun _ _ h' => h'.elim)
    refine wpAny_bind (wpAny_mono h₁ (fun _ s₂ h₂ => wpAny_bind (wpAny_mono h₂ (fun ok s₃ h₃ => ?_) fun _ _ h' => h'.elim)) fun _ _ h' => h'.elim)
    cases ok with
    | false => exact wpAny_pure ⟨rfl, h₃⟩
    | true =>
      exact wpAny_bind (wpAny_bind (wpAny_mono h₃ (fun x s₄ h₄ => wpAny_bind (wpAny_mono h₄ (fun _ s₅ h₅ => wpAny_pure (wpAny_pure ⟨rfl, h₅⟩)) fun _ _ h' => h'.elim)) fun _ _ h' => h'.elim))
end

section
variable {X : Cx} {tg iter elt : Expr} {ifs : List Expr} {sc : Scope} {pos : Pos} {wi : TI} {g : TG} {tt : TT} {te : TE} {Nc : List Str} {cap : List (Option Nat)}

/-- what the walk of a comprehension wants (tComp's inner part) -/
def CompW (cap : List (Option Nat)) (σ : St) (J : It) (H1 : Hp) (g : TG) (tt : TT) (te : TE) (Q : VK) : Prop := ∀ acc, H1 acc = none →
  ∃ W : Nat → Nat → List V → Hp → Prop, (∃ m, W 0 m [] (upd H1 acc (.lst []))) ∧ ∀ i m ys H2, W i m ys H2 → H2 acc = some (.lst ys) ∧
    ((J.stop i H2 ∧ Q (.ref acc) H2) ∨ (J.go i H2 ∧ ys.length < sizeLine ∧ ∀ x H3, J.yld i H2 x H3 → g x (capSt cap σ) H3 fun σ2 H4 => tt σ2 H4 fun b H5 =>
      if b = true then te σ2 H5 fun y H6 => H6 acc = some (.lst ys) ∧ ∃ m', m' < m ∧ W (i + 1) m' (ys ++ [y]) (upd H6 acc (.lst (ys ++ [y]))) else ∃ m', m' < m ∧ W (i + 1) m' ys H5))
/-- [elt for tg in iter if ..]: acc is the new list; W the word by the turn, a measure, the items so far -/
def tComp (cap : List (Option Nat)) (wi : TI) (g : TG) (tt : TT) (te : TE) : TE := fun σ H Q => wi σ H fun J H1 => CompW cap σ J H1 g tt te Q

/-- the block's run, for whatever is wanted behind it -/
theorem comp_block {pins : List (Addr × Obj)} {σ : St} {s2 : Shared} {H2 : Hp} {cl : List (Str × Addr)} {it : Addr} {fp : List Addr} {tn : Nat → Heap → Prop} {J : It} {Q : VK} {RR : Value → Addr → Result → Shared → Prop} {E : Value → Shared → Prop}
    (hc : X.calm = true) (cp : CapOk X sc Nc cap) (hk : GKeep cap g)
    (hg : ∀ cl s H fp, PG (X.block sc cl Nc s H fp) tg g) (ht : ∀ cl s H fp, PIf (X.block sc cl Nc s H fp) ifs tt) (he : ∀ cl s H fp, PE (X.block sc cl Nc s H fp) elt te)
    (hcell : ∀ x ∈ sc.names, x.2 ≠ NameKind.cell) (hkind : sc.kind = .function)
    (hcl1 : ∀ x c, cl.lookup x = some c → X.env.cells.lookup x = some c) (hcl2 : ∀ x, (x, NameKind.free) ∈ sc.names → (cl.lookup x).isSome = true)
    (I2 : Inv X pins σ H2 s2) (T : Turn X.prog X.w X.K tg J fp it tn) (st2 : tn 0 s2.heap) (f2 : ∀ b ∈ fp, FpOk X pins H2 b)
    (h : CompW cap σ J H2 g tt te Q)
    (hRR : ∀ (acc C : Addr) (s' : Shared) (H' : Hp) (oC : Obj) (m : Str → Option Value), Inv X pins σ H' s' → s'.heap.get? C = some oC → s'.heap.Ns C m → H' C = none → X.s₀.heap.objs.size ≤ C → C ≠ X.env.locals → C ∉ X.fs →
      (∀ x c, X.env.cells.lookup x = some c → c ≠ C) → (∀ p ∈ X.pn ++ pins, p.1 ≠ C) → Q (.ref acc) H' → RR (.ref acc) C (.ok .next) s') :
    wpAny (model X.prog X.w) X.A (newList []) (fun acc s₃ => wpAny (model X.prog X.w) X.A (newFunctionEnv sc X.env.globals cl [] X.env.qual none .none (some X.env)) (fun cenv s₄ =>
      codeAny (model X.prog X.w) X.A (.compStart (.ListComp elt [⟨tg, iter, ifs, 0⟩] sc pos) 0 (.ref it) acc { cenv with scope := relabel sc X.env }) (RR acc cenv.locals) s₄) E s₃) E s2 := by
  refine wpAny_newObj_type (wpAny_newFunctionEnv hcell (by intro y hy; simp at hy) (fun h₁ hns₁ hsb₁ => ?_) hkind)
  dsimp only at hns₁ hsb₁ ⊢
  -- the new list
  have I3 : Inv X pins σ (upd H2 s2.heap.objs.size (.lst [])) { s2 with heap := s2.heap.push { cls := .type "list", dict := none, data := .seq ([] : List Value).toArray } } :=
    I2.lnew (ys := []) (its := []) (t' := s2.toks) .nil (Nat.zero_le _)
  have facc : H2 s2.heap.objs.size = none := I2.fresh
  obtain ⟨W, ⟨m0, w0⟩, turn⟩ := h s2.heap.objs.size facc
  have fpold : ∀ b ∈ fp, b < s2.heap.objs.size := fun b hb => by
    obtain ⟨o, e, _⟩ := T.obj _ _ st2 b hb
    exact Heap.lt_size e
  generalize hs3 : ({ s2 with heap := s2.heap.push { cls := .type "list", dict := none, data := .seq ([] : List Value).toArray } } : Shared) = s3 at I3
  have hh3 : s3.heap = s2.heap.push { cls := .type "list", dict := none, data := .seq ([] : List Value).toArray } := by rw [← hs3]
  rw [← hh3] at hns₁ hsb₁ ⊢
  have h3sz : s3.heap.objs.size = s2.heap.objs.size + 1 := by rw [hh3, Heap.size_push]
  generalize hacc : s2.heap.objs.size = acc at *
  generalize hH3 : upd H2 acc (.lst []) = H3 at *
  have f3 : ∀ b ∈ fp, FpOk X pins H3 b := fun b hb => by
    obtain ⟨f0, fr⟩ := f2 b hb
    refine ⟨?_, fr⟩
    rw [← hH3, upd_ne (Nat.ne_of_lt (fpold b hb))]
    exact f0
  have old : ∀ b o, s3.heap.get? b = some o → h₁.get? b = some o := fun b o e => hsb₁.extBut b o (Nat.ne_of_lt (Heap.lt_size e)) (Heap.get?_push_of_some _ e)
  -- the block's context
  have okB : (X.block sc cl Nc s3 H3 fp).Ok := by
    refine ⟨I3.ok.mod, hkind, I3.ok.glob, I3.ok.blt, Nat.le_refl _, fun x y c e1 e2 => I3.ok.inj x y c (hcl1 x c e1) (hcl1 y c e2), fun x hx => ?_, fun x c hf => ?_, I3.ok.hd, I3.ok.frames, .inl rfl, fun b hb => ?_, I3.bs, Nat.le_trans I3.ok.bsz I3.sz, fun b o e hb => ?_, fun b hb hm => ?_, I3.stack, I3.stkFree⟩
    · have key : ∀ k, (relabel sc X.env).names.lookup x = some k → (k = .cell ∨ k = .free) → ∃ c, cl.lookup x = some c := fun k e hk => by
        obtain ⟨k', e', z⟩ := relabel_lookup (env := X.env) sc.names x k e
        have mem := PySem.mem_of_lookup e'
        have hf : k' = .free := by
          rcases z with z | z
          · subst z
            rcases hk with hk | hk
            · exact absurd hk (hcell _ mem)
            · exact hk
          · exact z.1
        subst hf
        exact Option.isSome_iff_exists.mp (hcl2 x mem)
      rcases hx with hx | hx
      · exact key _ hx (.inl rfl)
      · exact key _ hx (.inr rfl)
    · exact absurd (show false = true from hf) Bool.false_ne_true
    · obtain ⟨_, _, _, _, fc, _⟩ := f3 b hb
      refine ⟨Nat.ne_of_lt (show b < s3.heap.objs.size by rw [h3sz]; exact Nat.lt_succ_of_lt (fpold b hb)), fun x c e => fc x c (hcl1 x c e)⟩
    · obtain ⟨_, _, _, fx, _, _⟩ := f3 b hb
      rcases fx with z | z
      · exact I3.ok.noex b o e z
      · exact absurd (Nat.lt_of_lt_of_le (Heap.lt_size e) (Nat.le_trans I3.ok.bsz z)) (Nat.lt_irrefl _)
    · obtain ⟨_, fl, ff, _, _, _⟩ := f3 b hb
      rcases List.mem_cons.mp (I3.stkSub b hm) with z | z
      · exact fl z
      · exact ff z
  have h1eq' : ({ s2 with heap := h₁, toks := s2.toks + ([] : List (Str × Value)).length } : Shared) = { s3 with heap := h₁ } := by rw [← hs3]; rfl
  have IB : Inv (X.block sc cl Nc s3 H3 fp) [] (capSt cap σ) H3 { s3 with heap := h₁ } := by
    refine ⟨okB, rfl, I3.bare, Un.kept old, ⟨_, hns₁, fun j x v e1 e2 e3 => ?_⟩, fun x c e => ?_, I3.fresh, fun x c e => I3.freeC x c (hcl1 x c e), fun p hp => absurd hp (by simp [Cx.block]), I3.hok.kept old, ?_⟩
    · have e1 : Nc[j]? = some x := e1
      have ej : ∃ o : Option Nat, cap[j]? = some o ∧ (o.bind fun i => (σ[i]?).join) = some v := by
        unfold capSt at e2
        rw [List.getElem?_map] at e2
        cases q : cap[j]? with
        | none => rw [q] at e2; cases e2
        | some o => rw [q] at e2; exact ⟨o, rfl, Option.some.inj e2⟩
      obtain ⟨o, ej, ev⟩ := ej
      cases o with
      | none => cases ev
      | some i =>
        obtain ⟨y, c1, c2, c3, c4⟩ := cp.ok j i ej
        rw [e1] at c1; cases c1
        have eσ : σ[i]? = some (some v) := by
          have ev : (σ[i]?).join = some v := ev
          cases q : σ[i]? with
          | none => rw [q] at ev; cases ev
          | some z => rw [q] at ev; have ev : z = some v := ev; rw [ev]
        obtain ⟨m, hn, hl⟩ := I3.loc
        obtain ⟨u, r, l⟩ := hl i x v c2 eσ (.inr (.inl c3))
        refine ⟨u, r, .inr ?_⟩
        rcases l with ⟨k, _⟩ | ⟨_, c, e, z⟩
        · exact absurd (show some NameKind.cell = some NameKind.local from c3.symm.trans k) (by decide)
        · obtain ⟨c', ec'⟩ := Option.isSome_iff_exists.mp (hcl2 x (PySem.mem_of_lookup c4))
          have : c' = c := Option.some.inj ((hcl1 x c' ec').symm.trans e)
          subst this
          refine ⟨?_, c', ec', ?_⟩
          · rcases e3 with q | q | q
            · obtain ⟨k', ek', z'⟩ := relabel_lookup (env := X.env) sc.names x .local q
              rw [c4] at ek'
              cases ek'
              rcases z' with z' | z'
              · cases z'
              · cases z'.2
            · exact .inl q
            · exact .inr q
          · obtain ⟨o, ho, hd⟩ := z
            exact ⟨o, old _ _ ho, hd⟩
    · obtain ⟨v, o, ho, hd⟩ := I3.cell x c (hcl1 x c e)
      exact ⟨v, o, old _ _ ho, hd⟩
    · show (capSt cap σ).length = Nc.length
      unfold capSt
      rw [List.length_map, cp.len]
  have stat : ∀ {H' : Hp}, (∀ b ∈ fp, H' b = none) → ∀ b ∈ fp, FpOk (X.block sc cl Nc s3 H3 fp) [] H' b := fun hn b hb => by
    obtain ⟨_, _, _, _, fc, _⟩ := f3 b hb
    refine ⟨hn b hb, (okB.exf b hb).1, okB.exfs b hb, .inl hb, fun x c e => fc x c (hcl1 x c e), fun p hp => absurd hp (by simp [Cx.block])⟩
  have loop : codeAny (model X.prog X.w) X.A (.compLoop (.ListComp elt [⟨tg, iter, ifs, 0⟩] sc pos) 0 (.ref it) (.ref acc) (compEnvC sc cl s3.heap.objs.size X.env)) (RR (.ref acc) s3.heap.objs.size) { s3 with heap := h₁ } := by
    refine comp_loop (fun n s' => ∃ i ys H', Inv (X.block sc cl Nc s3 H3 fp) [] (capSt cap σ) H' s' ∧ tn i s'.heap ∧ (∀ b ∈ fp, H' b = none) ∧ W i n ys H') ?_ m0
      ⟨0, [], H3, IB, T.keep _ _ _ st2 (fun b hb o e => old b o (by rw [hh3]; exact Heap.get?_push_of_some _ e)), fun b hb => (f3 b hb).1, w0⟩
    rintro n s' ⟨i, ys, H', I', st', fr', w'⟩
    obtain ⟨ea, tr⟩ := turn i n ys H' w'
    rcases tr with ⟨stop, q⟩ | ⟨go, hlen, step⟩
    · refine thn (T.done (X.block sc cl Nc s3 H3 fp) rfl rfl rfl hc i [] s' _ H' _ I' (stat fr') st' stop) fun r s4 hq0 => ?_
      obtain ⟨hr, I4⟩ := hq0
      subst hr
      obtain ⟨m, ns, _⟩ := I4.loc
      obtain ⟨oC, _, _, hoC, _⟩ := id ns
      have IX : Inv X pins σ H' s4 := I3.call' (ch := fp) I4.os I4.base I4.hok I4.bare fun b hb => by
        obtain ⟨_, fl, _, fx, fc, fpn⟩ := f3 b hb
        exact ⟨fx, fl, fc, fpn⟩
      refine hRR acc _ s4 H' oC m IX hoC ns I4.free I3.sz (Nat.ne_of_gt I3.lt) (I3.nofs (Nat.le_refl _)) (fun x c e z => ?_) (fun p hp z => ?_) q
      · obtain ⟨v, k⟩ := I3.cell x c e
        exact absurd k.lt (by rw [z]; exact Nat.lt_irrefl _)
      · exact absurd (Heap.lt_size (I3.pin p hp).1) (by rw [z]; exact Nat.lt_irrefl _)
    · refine thn (T.item (X.block sc cl Nc s3 H3 fp) rfl rfl rfl hc i [] s' _ H' _ I' (stat fr') st' go) fun r s4 hq0 => ?_
      obtain ⟨u, hr, h4⟩ := hq0
      subst hr
      refine thn h4 fun _ s5 hq0 => ?_
      obtain ⟨x, H5, I5, r5, y5, st5, fr5⟩ := hq0
      have I5' := I5.pinned (stat fr5) (T.obj _ _ st5)
      refine thn (hg cl s3 H3 fp _ s5 _ H5 x u _ I5' r5 (hk x _ H5 _ (step x H5 y5))) fun _ s6 hq0 => ?_
      obtain ⟨σ6, H6, I6, q6, k6⟩ := hq0
      have again : ∀ {m' : Nat} {ys' : List V} {H7 : Hp} {s7 : Shared}, Inv (X.block sc cl Nc s3 H3 fp) ([] ++ pinsAt fp s5.heap) σ6 H7 s7 → W (i + 1) m' ys' H7 →
          ∃ i ys H', Inv (X.block sc cl Nc s3 H3 fp) [] (capSt cap σ) H' s7 ∧ tn i s7.heap ∧ (∀ b ∈ fp, H' b = none) ∧ W i m' ys H' := fun {m' ys' H7 s7} I7 w7 => by
        refine ⟨i + 1, ys', H7, I7.unpinned.weak (I'.len.trans I7.len.symm) (fun j v e => ?_), T.keep _ _ _ st5 fun b hb o e => (I7.pin (b, o) (List.mem_append_right _ (List.mem_append_right _ (mem_pinsAt hb e)))).1, fun b hb => ?_, w7⟩
        · have e' := e
          unfold capSt at e'
          rw [List.getElem?_map] at e'
          cases q : cap[j]? with
          | none => rw [q] at e'; cases e'
          | some o =>
            rw [q] at e'
            cases o with
            | none => cases (Option.some.inj e')
            | some k => rw [k6 j k q]; exact e
        · obtain ⟨o, e, d⟩ := T.obj _ _ st5 b hb
          exact (I7.pin (b, o) (List.mem_append_right _ (List.mem_append_right _ (mem_pinsAt hb e)))).2.1
      refine thn (ht cl s3 H3 fp _ s6 σ6 H6 _ I6 q6) fun b s7 hq0 => ?_
      obtain ⟨H7, I7, q7⟩ := hq0
      cases b with
      | false =>
        have q7 : ∃ m', m' < n ∧ W (i + 1) m' ys H7 := q7
        obtain ⟨m', hm, w7⟩ := q7
        exact ⟨m', hm, again I7 w7⟩
      | true =>
        refine thn (he cl s3 H3 fp _ s7 σ6 H7 _ I7 q7) fun y s8 hq0 => ?_
        obtain ⟨yv, H8, I8, r8, ea8, m', hm, w8⟩ := hq0
        refine thn (mt_append (X := X.block sc cl Nc s3 H3 fp) _ s8 σ6 H8 (.ref acc) [yv] (.ref acc) [y] (fun v Hq => Hq = upd H8 acc (.lst (ys ++ [yv]))) I8 rfl (.cons r8 .nil) ⟨acc, ys, yv, rfl, rfl, ea8, hlen, rfl⟩) fun _ s9 hq0 => ?_
        obtain ⟨v9, H9, I9, r9, e9⟩ := hq0
        subst e9
        exact ⟨m', hm, again I9 w8⟩
  show codeAny _ _ (.compStart (.ListComp elt [⟨tg, iter, ifs, 0⟩] sc pos) 0 (.ref it) (.ref acc) (compEnvC sc cl s3.heap.objs.size X.env)) (RR (.ref acc) s3.heap.objs.size) _
  rw [h1eq']
  exact codeAny_compStart_list loop (T.self X.A 0 _ _ _ (T.keep _ _ _ st2 (fun b hb o e => old b o (by rw [hh3]; exact Heap.get?_push_of_some _ e))) loop)

/-- [elt for tg in iter if ..] as an expression -/
theorem pe_comp (hc : X.calm = true) (hi : PI X tg iter wi) (cp : CapOk X sc Nc cap) (hk : GKeep cap g)
    (hg : ∀ cl s H fp, PG (X.block sc cl Nc s H fp) tg g) (ht : ∀ cl s H fp, PIf (X.block sc cl Nc s H fp) ifs tt) (he : ∀ cl s H fp, PE (X.block sc cl Nc s H fp) elt te)
    (hfr : (sc.names.all fun x => !(x.2 == NameKind.free) || (Nc.zip cap).any fun p => p.1 == x.1 && p.2.isSome) = true := by decide +kernel) (hcell : ∀ x ∈ sc.names, x.2 ≠ NameKind.cell := by decide +kernel) (hkind : sc.kind = .function := by rfl)
    (hnames : ∀ x ∈ sc.names, x.2 = NameKind.local → sc.names.lookup x.1 = some .local := by decide +kernel)
    (hs : ∀ x, foldedSetIterable iter X.env x = pure x := by intro _; rfl) : PE X (.ListComp elt [⟨tg, iter, ifs, 0⟩] sc pos) (tComp cap wi g tt te) := by
  intro pins s σ H Q I h
  obtain ⟨cl, hclos, hcl1, hcl2⟩ := closure_ex (sc := sc) (env := X.env) fun x hx hf => I.ok.has x.1 (.inl (cp.frees hfr x hx hf))
  rw [eval_ListComp]
  refine wpAny_comprehension_free (use := none) rfl hs hclos hkind hnames (thn (hi pins s σ H _ I h) fun v s1 h1 => thn h1 fun itv s2 h2 => ?_)
  obtain ⟨it, fp, tn, J, H2, e, I2, T, st2, f2, h2⟩ := h2
  subst e
  refine comp_block (Q := Q) (RR := fun acc C => compPost (model X.prog X.w) X.A X.xe none (EP X pins σ Q) acc C) hc cp hk hg ht he hcell hkind hcl1 hcl2 I2 T st2 f2 h2 ?_
  intro acc C s' H' oC m IX hoC ns hn hz hl hf hcc hpp q
  refine ⟨m, ns, fun h' sb => ⟨.ref acc, H', ?_, rfl, q⟩⟩
  exact IX.turned (t' := s'.toks) (fun b o hb e => sb.extBut b o hb e) hn hl (.inr hz) hcc hpp

end
end L2


/-! CALLS over the layer: sorted, list(range(a, b)), list(reversed(xs)), == and != of lists, index, isinstance. -/
namespace L2
open PySem PySem.Spec PyProof.Rows

theorem vals_of_get : ∀ {xs : List V} {us : List Value}, xs.length = us.length → (∀ (j : Nat) x u, xs[j]? = some x → us[j]? = some u → RelV x u) → Vals xs us
  | [], [], _, _ => .nil
  | [], _ :: _, h, _ => by simp at h
  | _ :: _, [], h, _ => by simp at h
  | x :: xs, u :: us, h, k => .cons (k 0 x u rfl rfl) (vals_of_get (by simpa using h) fun j y v e1 e2 => k (j + 1) y v (by simpa using e1) (by simpa using e2))

theorem bt_list : bootBuiltins "list" = some (.type "list") := by decide +kernel
theorem bt_range : bootBuiltins "range" = some (.type "range") := by decide +kernel
theorem bt_int : bootBuiltins "int" = some (.type "int") := by decide +kernel
theorem bt_str : bootBuiltins "str" = some (.type "str") := by decide +kernel
theorem bt_len : bootBuiltins "len" = some (.builtin "len") := by decide +kernel
theorem bt_abs : bootBuiltins "abs" = some (.builtin "abs") := by decide +kernel
theorem bt_sorted : bootBuiltins "sorted" = some (.builtin "sorted") := by decide +kernel
theorem bt_isinstance : bootBuiltins "isinstance" = some (.builtin "isinstance") := by decide +kernel

section
variable {X : Cx}
/-- sorted(xs) of fewer than 64 ints -/
theorem call_sorted : CallR X (.builtin "sorted") (fun xs H Q => ∃ (p : Addr) (ns : List Int), xs = [.ref p] ∧ SqL X.K H p (ns.map V.int) ∧ ns.length < 64 ∧ ∀ (l : Addr) (ms : List Int), H l = none → ms.Perm ns → ms.Pairwise (· ≤ ·) → Q (.ref l) (upd H l (.lst (ms.map V.int)))) := by
  intro pins s σ H xs us Q I r h
  obtain ⟨p, ns, rfl, hq, hl, q⟩ := h
  obtain ⟨u, rfl, rx⟩ := vals1 r
  cases rx
  obtain ⟨its, r', pl, hz⟩ := I.list hq
  have hlen : ns.length = its.length := by have := r'.length; simpa using this
  refine sorted_ints pl.isList (intsAre_of r') (by omega) fun out ms a1 a2 a3 => ?_
  obtain ⟨e, he⟩ := sortedAll_at s.heap its out
  refine ⟨.ref (s.heap.objs.size + 1), _, I.laid (t' := s.toks) (fun b o => sortedAll_old) (Nat.le_succ _) (show ObjOk X.prog X.w _ _ _ (.lst (ms.map V.int)) from ⟨?_, out.toList, e, vals_ints a1, ?_⟩), rfl, q _ ms (I.hok.fresh (Nat.le_succ _)) a2 a3⟩
  · have := a2.length_eq
    rw [List.length_map] at hz ⊢
    omega
  · exact he

/-- range(a, b), kept as an object -/
theorem call_rng2 : CallR X (.type "range") (fun xs H Q => ∃ i j, xs = [.int i, .int j] ∧ ∀ r, H r = none → Q (.ref r) (upd H r (.rng i j))) := by
  intro pins s σ H xs us Q I r h
  obtain ⟨i, j, rfl, q⟩ := h
  obtain ⟨u, u', rfl, ⟨t, rfl⟩, ⟨t', rfl⟩⟩ := vals2 r
  refine call_range_2 ⟨.ref s.heap.objs.size, _, I.laid (o := .rng i j) (fun b o e => Heap.get?_push_of_some _ e) (Nat.le_refl _) ?_, rfl, q _ I.fresh⟩
  exact ⟨t, t', s.toks, Heap.get?_push_size _ rfl⟩

/-- list(r) of a range object -/
theorem rng_size (lo hi : Int) : Builtin.Range.rangeSize lo hi 1 = (((hi - lo).toNat : Nat) : Int) := by
  rw [rangeSize_one]
  split
  · exact (Int.toNat_of_nonneg (Int.sub_nonneg_of_le (Int.le_of_lt ‹_›))).symm
  · exact (congrArg Int.ofNat (Int.toNat_eq_zero.mpr (Int.sub_nonpos_of_le (Int.not_lt.mp ‹_›)))).symm
theorem call_list_rng (hc : X.calm = true) : CallR X (.type "list") (fun xs H Q => ∃ p lo hi, xs = [.ref p] ∧ H p = some (.rng lo hi) ∧ -(2 ^ 20) ≤ lo ∧ hi ≤ 2 ^ 20 ∧ lo ≤ 2 ^ 20 ∧ -(2 ^ 20) ≤ hi ∧ ∀ l, H l = none → Q (.ref l) (upd H l (.lst ((Fs.upTo lo hi).map V.int)))) := by
  intro pins s σ H xs us Q I r h
  obtain ⟨p, lo, hi, rfl, hp, h1, h2, h3, h4, q⟩ := h
  obtain ⟨u, rfl, rx⟩ := vals1 r
  cases rx
  obtain ⟨t, u, v, e⟩ := I.hok p _ hp
  have hsn : (hi - lo).toNat ≤ 2 ^ 22 := Int.toNat_le.mpr (Int.le_trans (Int.sub_le_sub h2 h1) (by decide))
  have hsl : (hi - lo).toNat ≤ sizeLine := by rw [sizeLine_eq]; exact Nat.le_trans hsn (by decide)
  refine call_list_range (n := (hi - lo).toNat) (I.ok.hd hc) e (small_one (Int.le_trans (by decide) h1) (Int.lt_of_le_of_lt h3 (by decide)) (Int.le_trans (by decide) h4) (Int.lt_of_le_of_lt h2 (by decide))) (rng_size lo hi) (Nat.le_trans hsn (by decide)) fun h' tk acc' c' kp e' it => ?_
  refine ⟨.ref s.heap.objs.size, _, I.laid (t' := tk) kp (Nat.le_refl _) (show ObjOk X.prog X.w _ _ _ (.lst ((Fs.upTo lo hi).map V.int)) from ⟨?_, acc'.toList, c', vals_of_get ?_ fun j x u e1 e2 => ?_, by simpa using e'⟩), rfl, q _ I.fresh⟩
  · rw [List.length_map, Fs.length_upTo]; exact hsl
  · rw [List.length_map, Fs.length_upTo]; simp [it.1]
  · have hj : j < (hi - lo).toNat := by
      have := (List.getElem?_eq_some_iff.mp e1).1
      rwa [List.length_map, Fs.length_upTo] at this
    rw [List.getElem?_map, Fs.get_upTo hj] at e1
    cases e1
    obtain ⟨t, rfl⟩ := it.2 j u (by simpa using e2)
    exact ⟨t, by rw [Int.mul_one]⟩

end

section
variable {prog : Program} {w : World} {A : Around} {E : Value → Shared → Prop} {s : Shared}
end

section
variable {X : Cx} {e : Expr} {te : TE} {p p2 pos pos2 : Pos}
/-! ### == and != of lists of ints -/
def rNeL (K : PySem.W.Frag) : R2 := fun x y H Q => ∃ (a b : Addr) (ns ms : List Int), x = .ref a ∧ y = .ref b ∧ SqL K H a (ns.map V.int) ∧ SqL K H b (ms.map V.int) ∧ Q (.bl (!decide (ns = ms))) H
theorem op_neL (hu : X.A.units + 64 < cLine) : OpR X (compareOp .NotEq) (rNeL X.K) := by
  intro pins s σ H x y v u Q I rx ry h
  obtain ⟨a, b, ns, ms, rfl, rfl, h1, h2, q⟩ := h
  cases rx
  cases ry
  obtain ⟨its, r1, p1, _⟩ := I.list h1
  obtain ⟨its2, r2, p2, _⟩ := I.list h2
  exact PySem.W.ke_ne_ints p1.isList p2.isList (intsAre_of r1) (intsAre_of r2) hu ⟨.bl _, H, I, rfl, q⟩

/-! ### == and != of lists of lists of ints -/
/-- the lists at ps hold the ints nss -/
abbrev Rows (K : PySem.W.Frag) (H : Hp) : List V → List (List Int) → Prop := Paired fun v ns => ∃ p, v = .ref p ∧ SqL K H p (ns.map V.int)
/-! ### isinstance -/
theorem call_isinst : CallR X (.builtin "isinstance") (fun xs H Q => ∃ x t c b, xs = [x, .ty c] ∧ TyOf X.K H x t ∧ PySem.W.kitOne X.K t (.type c) = some b ∧ Q (.bl b) H) := by
  intro pins s σ H xs us Q I r h
  obtain ⟨x, t, c, b, rfl, ty, e, q⟩ := h
  obtain ⟨u, u', rfl, rx, rc⟩ := vals2 r
  have rc : u' = Value.type c := rc
  subst rc
  exact isinst_ok I rx ty e fun tk => ⟨.bl b, H, I.tok tk, rfl, q⟩

end
end L2


/-! SMALL THINGS that the readings want. -/
namespace L2
open PySem PySem.Spec PyProof.Rows
theorem iteD {c A B : Prop} [Decidable c] (h : ¬ c) (k : B) : if decide c = true then A else B := by
  rw [decide_eq_false h]
  exact iteF k
theorem iteDT {c A B : Prop} [Decidable c] (h : c) (k : A) : if decide c = true then A else B := by
  rw [decide_eq_true h]
  exact iteT k
theorem ite2D {c A B : Prop} [Decidable c] (h1 : c → A) (h2 : ¬ c → B) : if decide c = true then A else B := by
  by_cases h : c
  · exact iteDT h (h1 h)
  · exact iteD h (h2 h)
theorem Same.up {H H' : Hp} (s : Same H H') {l : Addr} {o : HO} (hl : H l = Option.none) : Same H (upd H' l o) := fun b u e => by
  rw [upd_ne (ne_of_none e hl)]
  exact s b u e
theorem Same.new {H : Hp} {l : Addr} {o : HO} (hl : H l = Option.none) : Same H (upd H l o) := (Same.refl H).up hl
theorem atI_int {xs : List V} {k : Int} {v : V} (h0 : 0 ≤ k) (h : xs[k.toNat]? = some v) : atI xs k = some v := by
  have := atI_nat h
  rwa [Int.toNat_of_nonneg h0] at this
theorem seq_at {n : Nat} {i : Int} (h0 : 0 ≤ i) (h1 : i < n) : seqIndex? i n = some i.toNat := (ixN_seq (by unfold ixN; rw [if_pos h0, if_pos h1])).1
theorem get_ints {xs : List Int} {j : Nat} (h : j < xs.length) : (xs.map V.int)[j]? = some (.int (xs.getD j 0)) := by
  rw [List.getElem?_map, List.getElem?_eq_getElem h, List.getD_eq_getElem?_getD, List.getElem?_eq_getElem h]
  rfl
theorem map_get {xs : List Int} {j : Nat} {y : V} (h : (xs.map V.int)[j]? = some y) : ∃ x, y = .int x ∧ xs[j]? = some x := by
  rw [List.getElem?_map] at h
  cases e : xs[j]? with
  | none => rw [e] at h; cases h
  | some x => rw [e] at h; exact ⟨x, (Option.some.inj h).symm, rfl⟩
theorem len_map (xs : List Int) : (xs.map V.int).length = xs.length := List.length_map _
theorem erase_map : ∀ (xs : List Int) (j : Nat), (xs.map V.int).eraseIdx j = (xs.eraseIdx j).map V.int
  | [], _ => rfl
  | _ :: _, 0 => rfl
  | x :: xs, j + 1 => by
    show V.int x :: (xs.map V.int).eraseIdx j = V.int x :: (xs.eraseIdx j).map V.int
    rw [erase_map xs j]
theorem small12 {n : Nat} (h : n ≤ 1000) : n ≤ sizeLine := Nat.le_of_lt (small1000 h)
def rLen (K : PySem.W.Frag) : List V → Hp → VK → Prop := fun xs H Q => ∃ p ys, xs = [.ref p] ∧ (SqL K H p ys ∨ SqT K H p ys) ∧ Q (.int ys.length) H
theorem len_K {X : Cx} {K : PySem.W.Frag} (e : X.K = K := by rfl) : CallR X (.builtin "len") (rLen K) := by subst e; exact call_len_seq
theorem ix_K {X : Cx} {K : PySem.W.Frag} (e : X.K = K := by rfl) : IxR X (rIxL K) := by subst e; exact ix_list
theorem kit_same (K : PySem.W.Frag) (T : String) : PySem.W.kitOne K (.type T) (.type T) = some true := by
  unfold PySem.W.kitOne
  rw [if_pos (by simp)]
theorem pe_globI {X : Cx} {x : Str} {i : Int} {pos : Pos} (hg : Gl X x) (hm : ∃ t, X.mg x = some (.int i t)) (hd : (x == ("__debug__" : Str)) = false := by decide) : PE X (.Name x pos) (tC (.int i)) := by
  obtain ⟨t, h⟩ := hm
  exact pe_glob hg h ⟨_, rfl⟩ hd
theorem seq_gen {t u : TS} {D : Ends} {σ : St} {H : Hp} (h : ∀ R : St → Hp → Prop, R = u D → t { D with nx := R } σ H) : tSeq t u D σ H := h _ rfl
section
variable {K : PySem.W.Frag} {cap : List (Option Nat)} {σ : St} {H1 : Hp} {g : TG} {te : TE} {Q : VK}
/-- over a list that stays: each item by a relation -/
theorem comp_listR {a : Addr} {xs : List V} (φ : V → V → Prop) (h : SqL K H1 a xs) (hl : xs.length ≤ 1000)
    (step : ∀ (x : V) (i : Nat) (H2 : Hp) (R : VK), xs[i]? = some x → Same H1 H2 → (∀ y H5, φ x y → Same H2 H5 → R y H5) → g x (capSt cap σ) H2 fun σ2 H3 => te σ2 H3 R)
    (fin : ∀ (p : Addr) (H' : Hp) (ys : List V), H1 p = none → Same H1 H' → H' p = some (.lst ys) → Paired φ xs ys → Q (.ref p) H') : CompW cap σ (Itl K a) H1 g tTrue te Q := by
  intro acc hacc
  refine ⟨fun i m ys H2 => m = xs.length - i ∧ i ≤ xs.length ∧ Paired φ (xs.take i) ys ∧ Same H1 H2 ∧ H2 acc = some (.lst ys), ⟨xs.length, by simp, Nat.zero_le _, .nil, Same.new hacc, upd_same⟩, ?_⟩
  rintro i m ys H2 ⟨rfl, hi, pr, s2, e2⟩
  refine ⟨e2, ?_⟩
  have hly := pr.length
  rw [List.length_take] at hly
  by_cases hlt : i < xs.length
  · refine .inr ⟨⟨xs, xs[i], s2.seq h, by simp [hlt]⟩, small1000 (by rw [← hly]; exact Nat.le_trans (Nat.min_le_right _ _) hl), fun x H3 y => ?_⟩
    obtain ⟨e, y⟩ := y
    subst e
    have hx := y xs (s2.seq h)
    simp only [tTrue, if_true]
    refine step x i _ _ hx s2 fun z H5 hz s5 => ⟨s5 _ _ e2, xs.length - (i + 1), Nat.sub_succ_lt_self _ _ hlt, rfl, hlt, ?_, (s2.trans s5).up hacc, upd_same⟩
    rw [List.take_add_one, hx]
    exact Paired.snoc pr hz
  · refine .inl ⟨⟨xs, s2.seq h, Nat.not_lt.mp hlt⟩, fin acc H2 ys hacc s2 e2 ?_⟩
    rwa [List.take_of_length_le (Nat.not_lt.mp hlt)] at pr
theorem paired_map {α β : Type} {f : α → β} : ∀ {xs : List α} {ys : List β}, Paired (fun x y => y = f x) xs ys → ys = xs.map f
  | _, _, .nil => rfl
  | _, _, .cons e t => by rw [List.map_cons, ← paired_map t, e]
theorem comp_list {a : Addr} {xs : List V} (f : V → V) (h : SqL K H1 a xs) (hl : xs.length ≤ 1000)
    (step : ∀ (x : V) (i : Nat) (H2 : Hp) (R : VK), xs[i]? = some x → Same H1 H2 → (∀ H5, Same H2 H5 → R (f x) H5) → g x (capSt cap σ) H2 fun σ2 H3 => te σ2 H3 R)
    (fin : ∀ (p : Addr) (H' : Hp), H1 p = none → Same H1 H' → H' p = some (.lst (xs.map f)) → Q (.ref p) H') : CompW cap σ (Itl K a) H1 g tTrue te Q :=
  comp_listR (fun x y => y = f x) h hl (fun x i H2 R e s k => step x i H2 R e s fun H5 s5 => k _ H5 rfl s5) fun p H' ys h1 h2 h3 h4 => by
    rw [paired_map h4] at h3
    exact fin p H' h1 h2 h3
end
end L2


/-! ITERATORS over the layer: zip of two lists. -/
namespace L2
open PySem PySem.Spec PyProof.Rows

section
variable {X : Cx} {es2 : List Expr} {kk : Nat} {tp : Pos}
end
section
variable {K : PySem.W.Frag} {cap : List (Option Nat)} {σ : St} {H1 : Hp} {tt : TT} {te : TE} {Q : VK}
end
end L2


/-! ITERATORS over the layer: ranges with a step, downwards, reversed; list(reversed(range(a, b))); xs.index(k). -/
namespace L2
open PySem PySem.Spec PyProof.Rows

section
variable {X : Cx} {tg : Expr}
end

section
variable {prog : Program} {w : World} {A : Around} {E : Value → Shared → Prop} {s : Shared}
end

section
variable {X : Cx} {tg : Expr}
/-! ### xs.index(k) of ints -/
end
end L2


/-! list(reversed(range(a, b))) over the layer. -/
namespace L2
open PySem PySem.Spec PyProof.Rows
section
variable {prog : Program} {w : World} {A : Around} {E : Value → Shared → Prop} {s : Shared}
end
section
variable {X : Cx}
end
end L2


/-! METHODS of lists within a comprehension: the kit said. -/
namespace L2
open PySem PySem.Spec PyProof.Rows
section
variable {X : Cx} {K : PySem.W.Frag} {o e : Expr} {es : List Expr} {to : TE} {t : TA} {name : Str} {apos cpos : Pos} {T id : String} {r : V → List V → Hp → VK → Prop}
end
end L2


namespace L2
open PySem PySem.Spec PyProof.Rows
/-! ### lists of pairs as tables -/
section
variable {κ : Type} [DecidableEq κ]
def valV (kvs : List (κ × V)) (k : κ) : Option V := (kvs.find? fun kv => decide (kv.1 = k)).map (·.2)
/-- in its place, or at the end -/
def putK (kvs : List (κ × V)) (k : κ) (v : V) : List (κ × V) :=
  if (kvs.any fun kv => decide (kv.1 = k)) = true then kvs.map (fun kv => if kv.1 = k then (kv.1, v) else kv) else kvs ++ [(k, v)]
theorem valV_pos {p : κ × V} {r : List (κ × V)} {k : κ} (e : p.1 = k) : valV (p :: r) k = some p.2 := by simp [valV, List.find?_cons, e]
theorem valV_neg {p : κ × V} {r : List (κ × V)} {k : κ} (e : ¬ p.1 = k) : valV (p :: r) k = valV r k := by simp [valV, List.find?_cons, e]
theorem valV_any (k : κ) : ∀ kvs : List (κ × V), (kvs.any fun kv => decide (kv.1 = k)) = (valV kvs k).isSome
  | [] => rfl
  | p :: r => by
    rw [List.any_cons]
    by_cases e : p.1 = k
    · simp only [valV_pos e, decide_eq_true e, Bool.true_or, Option.isSome_some]
    · rw [valV_neg e, decide_eq_false e, Bool.false_or]; exact valV_any k r
theorem valV_map (k j : κ) (y : V) : ∀ kvs : List (κ × V), valV (kvs.map fun kv => if kv.1 = k then (kv.1, y) else kv) j = (valV kvs j).map fun x => if j = k then y else x
  | [] => rfl
  | p :: r => by
    have ih := valV_map k j y r
    rw [List.map_cons]
    by_cases h : p.1 = k
    · rw [if_pos h]
      by_cases e : p.1 = j
      · rw [valV_pos (p := (p.1, y)) e, valV_pos e, Option.map_some, if_pos (e.symm.trans h)]
      · rw [valV_neg (p := (p.1, y)) e, valV_neg e, ih]
    · rw [if_neg h]
      by_cases e : p.1 = j
      · rw [valV_pos (p := p) e, valV_pos e, Option.map_some, if_neg (fun z => h (e.trans z))]
      · rw [valV_neg (p := p) e, valV_neg e, ih]
theorem valV_snoc (k j : κ) (y : V) : ∀ kvs : List (κ × V), valV kvs k = none → valV (kvs ++ [(k, y)]) j = if j = k then some y else valV kvs j
  | [], _ => by
    by_cases e : k = j
    · rw [if_pos e.symm]; exact valV_pos (p := (k, y)) e
    · rw [if_neg (fun z => e z.symm)]; exact valV_neg (p := (k, y)) e
  | p :: r, hn => by
    rw [List.cons_append]
    have hk : ¬ p.1 = k := fun z => by rw [valV_pos z] at hn; cases hn
    rw [valV_neg hk] at hn
    have ih := valV_snoc k j y r hn
    by_cases e : p.1 = j
    · rw [valV_pos e, valV_pos e, if_neg (fun z => hk (e.trans z))]
    · rw [valV_neg e, valV_neg e, ih]
theorem valV_put (kvs : List (κ × V)) (k j : κ) (y : V) : valV (putK kvs k y) j = if j = k then some y else valV kvs j := by
  unfold putK
  by_cases a : (kvs.any fun kv => decide (kv.1 = k)) = true
  · rw [if_pos a, valV_map]
    rw [valV_any] at a
    by_cases e : j = k
    · obtain ⟨x, hx⟩ := Option.isSome_iff_exists.mp a
      rw [if_pos e, e, hx, Option.map_some, if_pos rfl]
    · rw [if_neg e]
      cases valV kvs j with
      | none => rfl
      | some x => rw [Option.map_some, if_neg e]
  · rw [if_neg a]
    refine valV_snoc k j y kvs ?_
    rw [valV_any] at a
    cases q : valV kvs k with
    | none => rfl
    | some x => rw [q] at a; exact (a rfl).elim
theorem length_putK (kvs : List (κ × V)) (k : κ) (v : V) : (putK kvs k v).length ≤ kvs.length + 1 := by
  unfold putK
  split
  · rw [List.length_map]; omega
  · rw [List.length_append, List.length_cons, List.length_nil]; omega
theorem RelO.isSome_eq {o : Option V} {u : Option Value} (r : RelO o u) : o.isSome = u.isSome := by
  cases o with
  | none => cases u with
    | none => rfl
    | some _ => exact (show False from r).elim
  | some _ => cases u with
    | none => exact (show False from r).elim
    | some _ => rfl
/-- raw tables of the same keys -/
theorem KV.val {kvs : List (κ × V)} {vs : List (κ × Value)} (r : KV kvs vs) (k : κ) : RelO (valV kvs k) (valueAt vs k) := by
  unfold KV at r
  induction r with
  | nil => exact True.intro
  | @cons p q ps qs h t ih =>
    obtain ⟨h1, h2⟩ := h
    by_cases e : p.1 = k
    · have e' : q.1 = k := h1.symm.trans e
      have b : valueAt (q :: qs) k = some q.2 := by simp [valueAt, List.find?_cons, e']
      rw [valV_pos e, b]; exact h2
    · have e' : ¬ q.1 = k := fun z => e (h1.trans z)
      have b : valueAt (q :: qs) k = valueAt qs k := by simp [valueAt, List.find?_cons, e']
      rw [valV_neg e, b]; exact ih
theorem KV.any {kvs : List (κ × V)} {vs : List (κ × Value)} (r : KV kvs vs) (k : κ) : (kvs.any fun kv => decide (kv.1 = k)) = vs.any fun kv => decide (kv.1 = k) := by
  unfold KV at r
  induction r with
  | nil => rfl
  | cons h t ih => rw [List.any_cons, List.any_cons, ih, h.1]
theorem KV.repl {kvs : List (κ × V)} {vs : List (κ × Value)} (r : KV kvs vs) (k : κ) {y : V} {u : Value} (ry : RelV y u) :
    KV (kvs.map fun kv => if kv.1 = k then (kv.1, y) else kv) (vs.map fun kv => if kv.1 = k then (kv.1, u) else kv) := by
  unfold KV at r ⊢
  induction r with
  | nil => exact .nil
  | @cons p q ps qs h t ih =>
    rw [List.map_cons, List.map_cons]
    refine .cons ?_ ih
    obtain ⟨h1, h2⟩ := h
    by_cases e : p.1 = k
    · rw [if_pos e, if_pos (h1.symm.trans e)]; exact ⟨h1, ry⟩
    · rw [if_neg e, if_neg (fun z => e (h1.trans z))]; exact ⟨h1, h2⟩
theorem KV.put {kvs : List (κ × V)} {vs : List (κ × Value)} (r : KV kvs vs) (k : κ) {y : V} {u : Value} (ry : RelV y u) : KV (putK kvs k y) (stored vs k u) := by
  unfold putK stored
  rw [r.any k]
  by_cases e : (vs.any fun kv => decide (kv.1 = k)) = true
  · rw [if_pos e, if_pos e]; exact r.repl k ry
  · rw [if_neg e, if_neg e]; exact Paired.snoc r ⟨rfl, ry⟩
theorem KV.length {kvs : List (κ × V)} {vs : List (κ × Value)} (r : KV kvs vs) : kvs.length = vs.length := Paired.length r
end


/-! ### a tracked dict, its keys ints and texts or tuples of these -/
theorem kV_is {P : Program} {w : World} {k : Key} {u : Value} (r : RelV (kV k) u) : (mixKind P w).is k u = true := by
  cases k with
  | inl i => obtain ⟨t, e⟩ := (show ∃ t, u = Value.int i t from r); subst e; exact mixKind_int P w i t
  | inr x => obtain ⟨t, e⟩ := (show ∃ t, u = Value.str x t from r); subst e; exact mixKind_str P w x t
theorem items_are {P : Program} {w : World} : ∀ {ks : List Key} {us : List Value}, Vals (ks.map kV) us → ItemsAre (mixKind P w) ks us
  | [], _, r => by rw [List.map_nil] at r; cases r; exact .nil
  | k :: ks, _, r => by
    rw [List.map_cons] at r
    cases r with
    | cons h t => exact .cons (kV_is h) (items_are t)

/-- raw entries of a dict with tuple keys -/
abbrev KT (H : Hp) : List (List Key × V) → List (List Key × Addr × Value) → Prop := Paired fun p q => p.1 = q.1 ∧ H q.2.1 = some (.tup (p.1.map kV)) ∧ RelV p.2 q.2.2
theorem KT.val {H : Hp} {kvs : List (List Key × V)} {xs : List (List Key × Addr × Value)} (r : KT H kvs xs) (k : List Key) : RelO (valV kvs k) ((atKey xs k).map (·.2)) := by
  induction r with
  | nil => exact True.intro
  | @cons p q ps qs h t ih =>
    obtain ⟨h1, _, h2⟩ := h
    by_cases e : p.1 = k
    · have e' : q.1 = k := h1.symm.trans e
      have b : atKey (q :: qs) k = some q.2 := by simp [atKey, List.find?_cons, e']
      rw [valV_pos e, b]; exact h2
    · have e' : ¬ q.1 = k := fun z => e (h1.trans z)
      have b : atKey (q :: qs) k = atKey qs k := by simp [atKey, List.find?_cons, e']
      rw [valV_neg e, b]; exact ih
theorem KT.repl {H : Hp} {kvs : List (List Key × V)} {xs : List (List Key × Addr × Value)} (r : KT H kvs xs) (k : List Key) {y : V} {u : Value} (ry : RelV y u) :
    KT H (kvs.map fun kv => if kv.1 = k then (kv.1, y) else kv) (xs.map (putAt k u)) := by
  induction r with
  | nil => exact .nil
  | @cons p q ps qs h t ih =>
    rw [List.map_cons, List.map_cons]
    refine .cons ?_ ih
    obtain ⟨h1, h2, h3⟩ := h
    unfold putAt
    by_cases e : p.1 = k
    · rw [if_pos e, if_pos (h1.symm.trans e)]; exact ⟨h1, h2, ry⟩
    · rw [if_neg e, if_neg (fun z => e (h1.trans z))]; exact ⟨h1, h2, h3⟩
theorem KT.put {H : Hp} {kvs : List (List Key × V)} {xs : List (List Key × Addr × Value)} (r : KT H kvs xs) (k : List Key) {b : Addr} {y : V} {u : Value} (hb : H b = some (.tup (k.map kV))) (ry : RelV y u) :
    KT H (putK kvs k y) (storedH xs k b u) := by
  have e : (kvs.any fun kv => decide (kv.1 = k)) = (atKey xs k).isSome := by
    rw [valV_any, (r.val k).isSome_eq, Option.isSome_map]
  unfold putK storedH
  rw [e]
  by_cases q : (atKey xs k).isSome = true
  · rw [if_pos q, if_pos q]; exact r.repl k ry
  · rw [if_neg q, if_neg q]; exact Paired.snoc r ⟨rfl, hb, ry⟩
theorem KT.keeps {H H' : Hp} {kvs : List (List Key × V)} {xs : List (List Key × Addr × Value)} (r : KT H kvs xs) (ht : ∀ b ys, H b = some (.tup ys) → H' b = some (.tup ys)) : KT H' kvs xs :=
  Paired.mapP r fun _ _ z => ⟨z.1, ht _ _ z.2.1, z.2.2⟩

section
variable {P : Program} {w : World} {H : Hp} {h : Heap} {a : Addr}
theorem rd_of {u : HO} (ok : HOk P w H h) (e : Rd H a u) : ObjOk P w H h a u := e.ok ok
theorem dk_rd {kvs : List (Key × V)} (ok : HOk P w H h) (e : Rd H a (.dK kvs)) : kvs.length ≤ sizeLine ∧ (a == sysModules) = false ∧ ∃ vs, KV kvs vs ∧ h.DictOf (mixKind P w) a vs :=
  show ObjOk P w H h a (.dK kvs) from rd_of ok e
theorem dk_of {kvs : List (Key × V)} (ok : HOk P w H h) (e : H a = some (.dK kvs)) : kvs.length ≤ sizeLine ∧ (a == sysModules) = false ∧ ∃ vs, KV kvs vs ∧ h.DictOf (mixKind P w) a vs := dk_rd ok (.inl e)
/-- a tracked tuple of ints and texts is a key -/
theorem key_of {ks : List Key} (ok : HOk P w H h) (e : H a = some (.tup (ks.map kV))) : (tupleKind (mixKind P w)).is h ks a := by
  obtain ⟨_, its, r, o, h1, h2, n, h3⟩ := (show ObjOk P w H h a (.tup (ks.map kV)) from ok a _ e)
  exact ⟨o, its.toArray, n, h1, h2, h3, by simpa using items_are r⟩
theorem dt_rd {kvs : List (List Key × V)} (ok : HOk P w H h) (e : Rd H a (.dT kvs)) : kvs.length ≤ sizeLine ∧ (a == sysModules) = false ∧
    ∃ xs, KT H kvs xs ∧ h.DictOfH (tupleKind (mixKind P w)) a xs := by
  obtain ⟨z, y, xs, r, o, es, ep, h1, h2, h3, h4, h5⟩ := (show ObjOk P w H h a (.dT kvs) from rd_of ok e)
  refine ⟨z, y, xs, r, o, es, ep, h1, h2, h3, h4, fun x hx => ?_, h5⟩
  have all : ∀ {l : List (List Key × V)} {m : List (List Key × Addr × Value)}, KT H l m → ∀ x ∈ m, (tupleKind (mixKind P w)).is h x.1 x.2.1 := by
    intro l m q
    induction q with
    | nil => intro x hx; exact nomatch hx
    | @cons p q ps qs hq t ih =>
      intro x hx
      rcases List.mem_cons.mp hx with e | hx
      · subst e
        exact key_of ok (by rw [← hq.1]; exact hq.2.1)
      · exact ih x hx
  exact all r x hx
theorem dt_of {kvs : List (List Key × V)} (ok : HOk P w H h) (e : H a = some (.dT kvs)) : kvs.length ≤ sizeLine ∧ (a == sysModules) = false ∧
    ∃ xs, KT H kvs xs ∧ h.DictOfH (tupleKind (mixKind P w)) a xs := dt_rd ok (.inl e)
end

/-- what the dict at a holds at the key y -/
def DGet (H : Hp) (a : Addr) (y : V) (r : Option V) : Prop :=
  (∃ kvs k, Rd H a (.dK kvs) ∧ y = kV k ∧ r = valV kvs k) ∨ ∃ kvs k b, Rd H a (.dT kvs) ∧ y = .ref b ∧ H b = some (.tup (k.map kV)) ∧ r = valV kvs k
/-- the heap behind a[y] = v -/
def DPut (H : Hp) (a : Addr) (y v : V) (H' : Hp) : Prop :=
  (∃ kvs k, H a = some (.dK kvs) ∧ y = kV k ∧ kvs.length < sizeLine ∧ H' = upd H a (.dK (putK kvs k v))) ∨
  ∃ kvs k b, H a = some (.dT kvs) ∧ y = .ref b ∧ H b = some (.tup (k.map kV)) ∧ kvs.length < sizeLine ∧ H' = upd H a (.dT (putK kvs k v))
theorem DGet.k {H : Hp} {a : Addr} {kvs : List (Key × V)} {k : Key} (e : H a = some (.dK kvs)) : DGet H a (kV k) (valV kvs k) := .inl ⟨kvs, k, .inl e, rfl, rfl⟩
theorem DPut.k {H : Hp} {a : Addr} {kvs : List (Key × V)} {k : Key} {v : V} (e : H a = some (.dK kvs)) (hl : kvs.length < sizeLine) : DPut H a (kV k) v (upd H a (.dK (putK kvs k v))) := .inl ⟨kvs, k, e, rfl, hl, rfl⟩
section
variable {X : Cx} {pins : List (Addr × Obj)} {σ : St} {H : Hp} {s : Shared} {a : Addr} {y v : V} {u r : Value} {o : Option V} {A : Around} {E : Value → Shared → Prop}

theorem Inv.big (I : Inv X pins σ H s) : sysModules < s.heap.objs.size := by
  have h : mainGlobals < s.heap.objs.size := (I.mod.glob.keeps I.bk).lt
  exact Nat.lt_trans (by decide) h

/-- d[y], there -/
theorem d_getItem {Q : Value → Shared → Prop} (hu : A.units + 1 < cLine) (I : Inv X pins σ H s) (g : DGet H a y (some v)) (ry : RelV y u) (h : ∀ w' s', Inv X pins σ H s' → RelV v w' → Q w' s') :
    wpAny (model X.prog X.w) A (getItem (.ref a) u) Q E s := by
  rcases g with ⟨kvs, k, e, ey, l⟩ | ⟨kvs, k, b, e, ey, eb, l⟩
  · subst ey
    obtain ⟨z, hd, vs, rel, dd⟩ := dk_rd I.hok e
    obtain ⟨w', hw, rw'⟩ := RelO.some_of (v := v) (o := valueAt vs k) (by rw [l]; exact rel.val k)
    exact wpAny_getItem_of (kV_is ry) dd.mapOf hw (h w' _ (I.tok _) rw')
  · subst ey
    cases (show u = Value.ref b from ry)
    obtain ⟨z, hd, xs, rel, dd⟩ := dt_rd I.hok e
    obtain ⟨w', hw, rw'⟩ := RelO.some_of (v := v) (o := (atKey xs k).map (·.2)) (by rw [l]; exact rel.val k)
    obtain ⟨p, hp, hp2⟩ := Option.map_eq_some_iff.mp hw
    refine wpAny_getItem_heap (tupleKind_room_in1 hu) (key_of I.hok eb) dd hp ?_
    rw [hp2]
    exact h w' _ (I.tok _) rw'
theorem d_notIn {Q : Value → Shared → Prop} (hu : A.units + 1 < cLine) (I : Inv X pins σ H s) (g : DGet H a y o) (ry : RelV y u) (h : ∀ s', Inv X pins σ H s' → Q (.bool (!o.isSome)) s') :
    wpAny (model X.prog X.w) A (compareOp .NotIn u (.ref a)) Q E s := by
  rcases g with ⟨kvs, k, e, ey, l⟩ | ⟨kvs, k, b, e, ey, eb, l⟩
  · subst ey
    obtain ⟨z, hd, vs, rel, dd⟩ := dk_rd I.hok e
    refine wpAny_notIn_of (kV_is ry) hd dd.mapOf ?_
    rw [← (rel.val k).isSome_eq, ← l]
    exact h _ (I.tok _)
  · subst ey
    cases (show u = Value.ref b from ry)
    obtain ⟨z, hd, xs, rel, dd⟩ := dt_rd I.hok e
    refine wpAny_notIn_heap (tupleKind_room_in1 hu) (key_of I.hok eb) hd dd ?_
    have q := (rel.val k).isSome_eq
    rw [Option.isSome_map] at q
    rw [← q, ← l]
    exact h _ (I.tok _)
/-- a dict's object is replaced -/
theorem d_write {h' : Heap} {t' : Nat} {ob : HO} (I : Inv X pins σ H s) (mu : Mut (H a)) (hs : Heap.SameBut a s.heap h') (he : ∃ q, h'.get? a = some q) (new : ObjOk X.prog X.w (upd H a ob) h' a ob) :
    Inv X pins σ (upd H a ob) { s with heap := h', toks := t' } :=
  I.write (x := a) (e := a) mu (.inl rfl) (fun b q hb z => (hs.2 b hb).trans z) he new
theorem dk_new {P : Program} {w : World} {H' : Hp} {h' : Heap} {kvs : List (Key × V)} {vs : List (Key × Value)} (z : kvs.length ≤ sizeLine) (hd : (a == sysModules) = false) (rel : KV kvs vs) (dd : h'.DictOf (mixKind P w) a vs) :
    ObjOk P w H' h' a (.dK kvs) := ⟨z, hd, vs, rel, dd⟩
/-- d[y] = v -/
theorem d_setItem {H' : Hp} {Q : Unit → Shared → Prop} (hu : A.units + 1 < cLine) (I : Inv X pins σ H s) (g : DPut H a y v H') (ry : RelV y u) (rv : RelV v r) (h : ∀ s', Inv X pins σ H' s' → Q () s') :
    wpAny (model X.prog X.w) A (setItem (.ref a) u r) Q E s := by
  rcases g with ⟨kvs, k, e, ey, l, eH⟩ | ⟨kvs, k, b, e, ey, eb, l, eH⟩
  · subst ey eH
    obtain ⟨z, hd, vs, rel, dd⟩ := dk_of I.hok e
    have hz : vs.length ≤ sizeLine := by rw [← rel.length]; exact z
    have hl : (putK kvs k v).length ≤ sizeLine := by have := length_putK kvs k v; omega
    refine wpAny_setItem_pairs (hsz := hz) (kV_is ry) dd fun h' dd' hs => h _ ?_
    have he : ∃ q, h'.get? a = some q := let ⟨q, _, _, hq, _⟩ := dd'; ⟨q, hq⟩
    exact d_write I (by rw [e]; exact True.intro) hs he (dk_new hl hd (rel.put k rv) dd')
  · subst ey eH
    cases (show u = Value.ref b from ry)
    obtain ⟨z, hd, xs, rel, dd⟩ := dt_of I.hok e
    have hz : xs.length ≤ sizeLine := by rw [← Paired.length rel]; exact z
    have hl : (putK kvs k v).length ≤ sizeLine := by have := length_putK kvs k v; omega
    refine wpAny_setItem_heap (hsz := hz) (tupleKind_room_in1 hu) (key_of I.hok eb) dd fun h' dd' hs => h _ ?_
    obtain ⟨q, es, ep, hq, h2, h3, h4, _, h5⟩ := dd'
    refine d_write I (by rw [e]; exact True.intro) hs ⟨q, hq⟩ ⟨hl, hd, _, (rel.put k eb rv).keeps fun c ys ec => ?_, q, es, ep, hq, h2, h3, h4, h5⟩
    rw [upd_ne (ne_of ec e (fun z => nomatch z))]
    exact ec
end

section
variable {X : Cx} {pins : List (Addr × Obj)} {σ : St} {H : Hp} {s : Shared} {a : Addr} {kvs : List (Key × V)} {k : Key} {u : Value} {A : Around} {E : Value → Shared → Prop}
end


/-! ### readings and rules -/
/-- the element of a subscription, not a slice -/
def NoSl (i : Expr) : Prop := ∀ ov iv, subscripted i false ov iv = operate [ov, iv] (getItem ov iv)
theorem subD_of {prog : Program} {w : World} {A : Around} {E : Value → Shared → Prop} {s : Shared} {env : Env} {value slice : Expr} {pos : Pos} {T id : String} {Q : Value → Shared → Prop}
    (hl : typeLookup (.type T) "__getitem__" = pure (some (.builtin id))) (hs : NoSl slice)
    (h : wpAny (model prog w) A (eval value env) (fun o s₁ => wpAny (model prog w) A (eval slice env) (fun i s₂ => s₂.TypeIs o T ∧ wpAny (model prog w) A (getItem o i) Q E s₂) E s₁) E s) :
    wpAny (model prog w) A (eval (.Subscript value slice pos) env) Q E s := by
  refine Subscript_ (wpAny_mono h (fun o s₁ h₁ => wpAny_mono h₁ (fun i s₂ h₂ => ?_) fun _ _ x => x) fun _ _ x => x)
  obtain ⟨hT, h₂⟩ := h₂
  unfold subscriptTail
  refine wpAny_bind ?_
  rw [getitemInPython_of_ne hT.not_modules]
  refine wpAny_bind (wpAny_specialOf hT hl ?_)
  have fin : wpAny (model prog w) A (subscripted slice false o i) (fun r s₃ => wpAny (model prog w) A (letTemporaryGo value o r >>= fun _ => pure r) Q E s₃) E s₂ := by
    rw [hs o i]
    exact wpAny_operating (wpAny_mono h₂ (fun r s₃ h₃ => wpAny_bind (wpAny_letTemporaryGo (wpAny_pure h₃))) fun _ _ x => x)
  first
    | exact wpAny_pure (wpAny_bind fin)
    | exact wpAny_bind (wpAny_pure (wpAny_bind fin))
    | exact wpAny_bind fin

theorem dict_typeIs {X : Cx} {pins : List (Addr × Obj)} {σ : St} {H : Hp} {s : Shared} {a : Addr} {y : V} {o : Option V} (I : Inv X pins σ H s) (g : DGet H a y o) : s.TypeIs (.ref a) "dict" := by
  rcases g with ⟨kvs, k, e, _, _⟩ | ⟨kvs, k, b, e, _, _, _⟩
  · obtain ⟨_, _, vs, _, dd⟩ := dk_rd I.hok e
    exact dd.typeIs
  · obtain ⟨_, _, xs, _, dd⟩ := dt_rd I.hok e
    exact dd.typeIs
/-- d[y] -/
def tDGet (td ty : TE) : TE := fun σ H Q => td σ H fun x H1 => ty σ H1 fun y H2 => ∃ a v, x = .ref a ∧ DGet H2 a y (some v) ∧ Q v H2
def tDNotIn (ty td : TE) : TE := fun σ H Q => ty σ H fun y H1 => td σ H1 fun x H2 => ∃ a o, x = .ref a ∧ DGet H2 a y o ∧ Q (.bl (!o.isSome)) H2
/-- d[y] = v -/
def sDPut (td ty tv : TE) : TS := fun D σ H => tv σ H fun v H1 => td σ H1 fun x H2 => ty σ H2 fun y H3 => ∃ a H4, x = .ref a ∧ DPut H3 a y v H4 ∧ D.nx σ H4
section
variable {X : Cx} {o i e value : Expr} {pos pos' tpos : Pos} {td ty tv : TE}
theorem pe_dget (hu : X.A.units + 1 < cLine) (ho : PE X o td) (hi : PE X i ty) (hs : NoSl i) : PE X (.Subscript o i pos) (tDGet td ty) := by
  intro pins s σ H Q I h
  refine subD_of PySem.F.slot_dict_getitem.lookup hs (thn (ho pins s σ H _ I h) fun u s1 ⟨x, H1, I1, rx, q1⟩ => thn (hi pins s1 σ H1 _ I1 q1) fun iv s2 hq0 => ?_)
  obtain ⟨y, H2, I2, ry, a, v, ex, g, q2⟩ := hq0
  subst ex
  obtain rfl : u = Value.ref a := rx
  exact ⟨dict_typeIs I2 g, d_getItem hu I2 g ry fun w' s3 I3 rw' => ⟨v, H2, I3, rw', q2⟩⟩
theorem pc_dnotin (hu : X.A.units + 1 < cLine) (hi : PE X i ty) (ho : PE X o td) : PC X .NotIn i o (tDNotIn ty td) := by
  intro pins s σ H Q I h
  refine thn (hi pins s σ H _ I h) fun iv s1 ⟨y, H1, I1, ry, q1⟩ => thn (ho pins s1 σ H1 _ I1 q1) fun u s2 hq0 => ?_
  obtain ⟨x, H2, I2, rx, a, ov, ex, g, q2⟩ := hq0
  subst ex
  obtain rfl : u = Value.ref a := rx
  exact d_notIn hu I2 g ry fun s3 I3 => ⟨.bl (!ov.isSome), H2, I3, rfl, q2⟩
theorem ps_dput (hu : X.A.units + 1 < cLine) (ho : PE X o td) (hi : PE X i ty) (hv : PE X value tv) (hs : swapsWith value (some (.Subscript o i pos')) pos.line X.env = pure false) :
    PS X (.Assign [.Subscript o i pos'] value pos) (sDPut td ty tv) := by
  intro pins s σ H D I h
  refine wpAny_Assign_Subscript (thn (hv pins s σ H _ I h) fun r s1 ⟨v, H1, I1, rv, q1⟩ => thn (ho pins s1 σ H1 _ I1 q1) fun u s2 ⟨x, H2, I2, rx, q2⟩ => thn (hi pins s2 σ H2 _ I2 q2) fun iv s3 hq0 => ?_) hs
  obtain ⟨y, H3, I3, ry, a, H4, ex, g, q3⟩ := hq0
  subst ex
  obtain rfl : u = Value.ref a := rx
  exact d_setItem hu I3 g ry rv fun s4 I4 => ⟨σ, H4, I4, q3⟩
end


/-! ### displays -/
theorem dk_empty {P : Program} {w : World} {H : Hp} (h : Heap) (hb : sysModules < h.objs.size) : ObjOk P w H (h.push { cls := .type "dict", data := .dict #[] }) h.objs.size (.dK []) :=
  ⟨Nat.zero_le _, beq_eq_false_iff_ne.mpr (Ne.symm (Nat.ne_of_lt hb)), [], .nil, Heap.DictOf.new h⟩
/-- {}, to be a dict of the kind that is wanted -/
def tDNewK : TE := fun _ H Q => ∀ p, H p = none → Q (.ref p) (upd H p (.dK []))
section
variable {X : Cx} {pos : Pos}
theorem pe_dnewK : PE X (.Dict [] [] pos) tDNewK := fun pins s σ H Q I h =>
  wpAny_Dict_empty ⟨.ref s.heap.objs.size, _, I.laid (a := s.heap.objs.size) (o := .dK []) (t' := s.toks) (fun _ _ q => Heap.get?_push_of_some _ q) (Nat.le_refl _) (dk_empty s.heap I.big), rfl, h _ (I.hok.fresh (Nat.le_refl _))⟩
end

abbrev VV : List (V × V) → List (Value × Value) → Prop := Paired fun p q => RelV p.1 q.1 ∧ RelV p.2 q.2
/-! ### methods -/
section
variable {X : Cx} {pins : List (Addr × Obj)} {σ : St} {H : Hp} {s : Shared} {a : Addr} {y d : V} {u r : Value} {o : Option V} {A : Around} {E : Value → Shared → Prop}
end

section
variable {X : Cx} {o e f : Expr} {apos cpos : Pos} {td ty tx : TE}
end

/-! ### dict(d): a copy -/
section
variable {X : Cx} {pins : List (Addr × Obj)} {σ : St} {H : Hp} {s : Shared} {a : Addr} {kvs : List (Key × V)} {A : Around} {E : Value → Shared → Prop}
end


section
variable {X : Cx} {pins : List (Addr × Obj)} {σ : St} {H : Hp} {s : Shared} {a : Addr} {y : V} {u : Value} {A : Around} {E : Value → Shared → Prop}
end
/-! ### a dict's pairs: keys that differ -/
section
variable {κ : Type} [DecidableEq κ]
end
end L2


/-! DICTS whose keys are tuples: a display of one pair, a walk over the keys; tuple(range(..)), max(xs). -/
namespace L2
open PySem PySem.Spec PyProof.Rows
section
variable {X : Cx} {k v : Expr} {tk tv : TE} {pos : Pos}
end

/-! ### a walk over the keys -/
section
variable {prog : Program} {w : World} {A : Around} {E : Value → Shared → Prop} {s : Shared}
end

section
variable {X : Cx} {tg : Expr}
end

/-! ### tuple(range(a, b)), max(xs) -/
section
variable {prog : Program} {w : World} {A : Around} {E : Value → Shared → Prop} {s : Shared}
end
section
variable {X : Cx}
end

/-! ### loops over the keys -/
section
variable {cap : List (Option Nat)} {σ : St} {H1 : Hp} {g : TG} {te : TE} {Q : VK}
end
end L2


/-! EXCEPTIONS of the program's own classes: raised, passing frames. -/
namespace L2
open PySem PySem.Spec PyProof.Rows

theorem ObjOk.there {P : Program} {w : World} {H : Hp} {h : Heap} {a : Addr} {o : HO} (x : ObjOk P w H h a o) : ∃ ob, h.get? a = some ob := by
  cases o with
  | lst xs => obtain ⟨_, _, _, _, e⟩ := x; exact ⟨_, e⟩
  | tup xs => obtain ⟨_, _, _, o, e, _⟩ := x; exact ⟨_, e⟩
  | dK kvs => obtain ⟨_, _, _, _, o, _, _, e, _⟩ := x; exact ⟨_, e⟩
  | dT kvs => obtain ⟨_, _, _, _, o, _, _, e, _⟩ := x; exact ⟨_, e⟩
  | set S n => obtain ⟨o, _, _, _, e, _⟩ := x; exact ⟨_, e⟩
  | ins C dx fs => obtain ⟨_, _, _, e, _⟩ := x; exact ⟨_, e⟩
  | own y => exact x
  | xd fs => obtain ⟨_, ⟨_, _, _, e, _⟩, _⟩ := x; exact ⟨_, e⟩
  | rng lo hi => obtain ⟨_, _, _, e⟩ := x; exact ⟨_, e⟩
  | frz ob u => obtain ⟨e, _⟩ := x; exact ⟨_, e⟩
  | tbl ps => exact ⟨_, (show h.get? a = some _ from x)⟩
  | met f y => exact ⟨_, (show h.get? a = some _ from x)⟩
  | ext φ => obtain ⟨_, e, _⟩ := x; exact e

/-- what lies in B: all that stood at g (the frames l aside), and all that is tracked -/
structure InB (B : Heap) (l : List Addr) (H' : Hp) (g : Heap) : Prop where
  old : ∀ b o, g.get? b = some o → b ∉ l → ∃ o', B.get? b = some o'
  trk : ∀ b u, H' b = some u → ∃ o', B.get? b = some o'
theorem fly_step {P : Program} {w : World} {B g h1 h2 : Heap} {l : List Env} {H H' : Hp} (u : Un (frs l) [] H H' g h1) (ok : HOk P w H' h1) (ib : InB B (frs l) H' g) (k1 : B.StaysIn h1) (k2 : B.StaysIn h2)
    (fr : h1.FunFrames B l) (up : h1.UpToSlots h2) : Un (frs l) [] H H' g h2 ∧ HOk P w H' h2 := by
  have same : ∀ b o, h1.get? b = some o → (∃ o', B.get? b = some o') → h2.get? b = some o := fun b o e ⟨o', q⟩ => by
    have z := k1 b o' q
    rw [e] at z
    cases z
    exact k2 b o q
  refine ⟨⟨fun b o e n hf hx => same b o (u.keep b o e n hf hx) (ib.old b o e hf), fun b o e n hf hx => ?_, u.free, fun b o e hx => ?_, u.tups, u.frzs, u.tbls⟩, fun a o e => ?_⟩
  · obtain ⟨sl, e1⟩ := u.slot b o e n hf hx
    obtain ⟨_, o1, q1, q2⟩ := fr.mem hf
    rw [e1] at q1
    cases q1
    obtain ⟨sl', e2⟩ := up b _ e1 q2
    exact ⟨sl', e2⟩
  · obtain ⟨o1, e1⟩ := u.there b o e hx
    by_cases hf : b ∈ frs l
    · obtain ⟨_, o2, q1, q2⟩ := fr.mem hf
      obtain ⟨sl', e2⟩ := up b _ q1 q2
      exact ⟨_, e2⟩
    · exact ⟨o1, same b o1 e1 (ib.old b o e hf)⟩
  · refine (ok a o e).stay (fun b v hb q => same b v q ?_) (fun _ q => q) fun _ _ q => q
    rcases hb with z | z
    · rw [z]; exact ib.trk a o e
    · exact ib.trk b _ z

/-- how an exception lies behind a call: it flies -/
def CXX (P : Program) (w : World) : CXT := fun outer H s E e s' => ∃ ea cls H', e = .ref ea ∧ s'.os = s.os ∧ AllBare s'.gens ∧ Un (frs outer) [] H H' s.heap s'.heap ∧ HOk P w H' s'.heap ∧ H' ea = none ∧
  (∃ B t, Heap.FlyingW B outer ea cls (.ref t) s'.heap ∧ InB B (frs outer) H' s.heap) ∧ E cls none H'
/-- an exception of a callee reaches what is wanted here; E by the names' values -/
def PassS (CX : CXT) (X : Cx) (E : St → XK) : Prop := ∀ (pins : List (Addr × Obj)) (σ : St) (H : Hp) (s : Shared) (e : Value) (s' : Shared), Inv X pins σ H s → CX X.stack H s (E σ) e s' → X.xe e s'

section
variable {P : Program} {w : World} {K : PySem.W.Frag} {mg : Str → Option Value} {base : Heap} {N : List Str} {qual : Str} {sc : Scope} {f : Addr} {cd : Value} {A : Around} {outer : List Env} {s₀ : Shared} {H₀ : Hp} {E : XK}
theorem old_of {X : Cx} {pins : List (Addr × Obj)} {σ : St} {H H' : Hp} {s : Shared} {B : Heap} (hx : X.ex = []) (I : Inv X pins σ H s) (ib : InB B (frs X.stack) H' s.heap) : ∀ b o, X.s₀.heap.get? b = some o → b ∉ frs X.outer → ∃ o', B.get? b = some o' := fun b o e hf => by
  obtain ⟨o1, e1⟩ := I.base.there b o e (by rw [hx]; simp)
  refine ib.old b o1 e1 fun z => ?_
  rcases List.mem_cons.mp (I.stkSub b z) with q | q
  · rw [q] at e
    exact absurd (Heap.lt_size e) (Nat.not_lt.mpr I.ok.above)
  · exact hf q
/-- through the frame of a body -/
theorem pass_leave : PassS (CXX P w) (cxOf (CXX P w) P w K mg base N qual sc f cd A outer s₀ H₀ E) (fun _ => E) := by
  rintro pins σ H s e s' I ⟨ea, cls, H', rfl, os, bare, un, hok, en, ⟨B, t, fl, ib⟩, q⟩
  show wpAny _ _ (leaving _ _) _ _ s'
  refine wpAny_leaves_onW I.ok.frames rfl fl fun h' fl' up => ?_
  obtain ⟨un', hok'⟩ := fly_step un hok ib fl.1 fl'.1 fl.2.2.1 up
  have J := I.call' (s' := { s' with heap := h' }) os un' hok' bare (fun b z => absurd z (by simp))
  exact ⟨ea, cls, H', rfl, J.os, bare, J.base, J.hok, en, ⟨B, t, fl', old_of rfl I ib, ib.trk⟩, q⟩
/-- an exception that was just made leaves -/
theorem raise_leave {pins : List (Addr × Obj)} {σ : St} {H : Hp} {s : Shared} {h' : Heap} {ea : Addr} {cls : Value} {vs : List Value} (I : Inv (cxOf (CXX P w) P w K mg base N qual sc f cd A outer s₀ H₀ E) pins σ H s)
    (m : Heap.MadeExcOf s.heap h' ea cls vs) (q : E cls none H) : (cxOf (CXX P w) P w K mg base N qual sc f cd A outer s₀ H₀ E).xe (.ref ea) { s with heap := h' } := by
  have ib : InB (PySem.W.hideAll s.heap (frs (cxOf (CXX P w) P w K mg base N qual sc f cd A outer s₀ H₀ E).stack)) (frs (cxOf (CXX P w) P w K mg base N qual sc f cd A outer s₀ H₀ E).stack) H s.heap := by
    refine ⟨fun b o e hf => ⟨o, PySem.W.hideAll_get _ e hf⟩, fun b u e => ?_⟩
    obtain ⟨ob, eb⟩ := (I.hok b u e).there
    refine ⟨ob, PySem.W.hideAll_get _ eb fun z => ?_⟩
    rw [I.stkFree b z] at e
    cases e
  have fr := PySem.W.funFrames_hide (as := frs (cxOf (CXX P w) P w K mg base N qual sc f cd A outer s₀ H₀ E).stack) I.stack fun env he a hf => List.mem_filterMap.mpr ⟨env, he, hf⟩
  show wpAny _ _ (leaving _ _) _ _ { s with heap := h' }
  refine wpAny_leaves_madeW (h := s.heap) I.ok.frames rfl (fun b o z => PySem.W.of_hideAll _ z) fr m fun h'' t fl _ _ up => ?_
  have refl : Un (frs (cxOf (CXX P w) P w K mg base N qual sc f cd A outer s₀ H₀ E).stack) [] H H s.heap s.heap := Un.kept fun b o z => z
  obtain ⟨un', hok'⟩ := fly_step refl I.hok ib (fun b o z => PySem.W.of_hideAll _ z) fl.1 fr ((Heap.UpToSlots.of_keeps m.keeps).trans up)
  have J := I.call' (s' := { s with heap := h'' }) rfl un' hok' I.bare (fun b z => absurd z (by simp))
  refine ⟨ea, cls, H, rfl, J.os, I.bare, J.base, J.hok, ?_, ⟨_, t, fl, old_of rfl I ib, ib.trk⟩, q⟩
  cases e : H ea with
  | none => rfl
  | some u =>
    obtain ⟨ob, eb⟩ := (I.hok ea u e).there
    rw [m.new] at eb
    cases eb
end

/-- an own class under ValueError, as the kit has it -/
def vmro : List Value := [.type "ValueError", .type "Exception", .type "BaseException", .type "object"]
structure ExcC (K : PySem.W.Frag) (C : Addr) : Prop where
  ok : PySem.W.excIn K C vmro "ValueError.__new__" = true
  kp : PySem.W.keepIn K (.ref C) = true
theorem exc_obj {K : PySem.W.Frag} {C : Addr} {h : Heap} (X : K.In h) (q : PySem.W.excIn K C vmro "ValueError.__new__" = true) :
    ∃ nm qn N bs bm hdct sn sub ab col dd k0 k1 k2 k3 k5 mN, h.get? C = some (excClassObj nm qn C N bs bm hdct sn sub ab col dd k0 k1 k2 k3 k5 "ValueError.__new__") ∧ h.Ns N mN ∧ mN "__init__" = none ∧ OwnTail h vmro bm := by
  unfold PySem.W.excIn at q
  split at q
  · rename_i dd cd sl ho
    split at q
    · rename_i C' bm k0 k1 k2 k3 n k5 hm hs
      simp only [Bool.and_eq_true, beq_iff_eq, Bool.not_eq_true'] at q
      obtain ⟨⟨⟨⟨⟨rfl, rfl⟩, nodel⟩, tail⟩, nsok⟩, noinit⟩ := q
      obtain ⟨nm, bs, mro, ns, qn, hd, sn, sub, ab, col, del⟩ := cd
      dsimp only at hm nodel nsok noinit
      subst hm nodel
      obtain ⟨l⟩ := sl
      simp only at hs
      subst hs
      exact ⟨nm, qn, ns, bs, bm, hd, sn, sub, ab, col, dd, k0, k1, k2, k3, k5, _, X _ _ ho, .of_isNs (PySem.W.isNs_of_in X nsok), PySem.W.nsMap_none_of_in X nsok noinit, PySem.W.tail_of_in X tail⟩
    · cases q
  · cases q

/-- raise C(..) in a body -/
def tRaise (C : Addr) (ta : TA) (E : XK) : TS := fun _ σ H => ta σ H fun vs H1 => vs.length ≤ 1000 ∧ E (.ref C) none H1
section
variable {P : Program} {w : World} {K : PySem.W.Frag} {mg : Str → Option Value} {base : Heap} {N : List Str} {qual : Str} {sc : Scope} {f : Addr} {cd : Value} {A : Around} {outer : List Env} {s₀ : Shared} {H₀ : Hp} {E : XK}
theorem ps_raise {x : Str} {C : Addr} {e₀ : Expr} {rest : List Expr} {np cpos pos : Pos} {ta : TA} (hc : ExcC K C) (hh : A.handled = none) (hg : Gl (cxOf (CXX P w) P w K mg base N qual sc f cd A outer s₀ H₀ E) x) (hm : mg x = some (.ref C))
    (ha : PA (cxOf (CXX P w) P w K mg base N qual sc f cd A outer s₀ H₀ E) (e₀ :: rest) ta)
    (he : starEach (e₀ :: rest) (cxOf (CXX P w) P w K mg base N qual sc f cd A outer s₀ H₀ E).env = (false, eval e₀ (cxOf (CXX P w) P w K mg base N qual sc f cd A outer s₀ H₀ E).env) :: starEach rest (cxOf (CXX P w) P w K mg base N qual sc f cd A outer s₀ H₀ E).env := by rfl)
    (hpl : (backTo cpos (starEach rest (cxOf (CXX P w) P w K mg base N qual sc f cd A outer s₀ H₀ E).env)).any (·.1) = false := by rfl) (hd : (x == ("__debug__" : Str)) = false := by decide) :
    PS (cxOf (CXX P w) P w K mg base N qual sc f cd A outer s₀ H₀ E) (.Raise (some (.Call (.Name x np) (e₀ :: rest) [] cpos)) none pos) (tRaise C ta E) := by
  intro pins s σ H D I h
  obtain ⟨nm, qn, N', bs, bm, hdct, sn, sub, ab, col, dd, k0, k1, k2, k3, k5, mN, hC, hN, hni, T⟩ := exc_obj I.ok.mod.kin hc.ok
  have hany : (backTo cpos (starEach (e₀ :: rest) (cxOf (CXX P w) P w K mg base N qual sc f cd A outer s₀ H₀ E).env)).any (·.1) = false := by
    rw [he]
    show (false || (backTo cpos (starEach rest (cxOf (CXX P w) P w K mg base N qual sc f cd A outer s₀ H₀ E).env)).any (·.1)) = false
    rw [hpl]
    rfl
  refine wpAny_Raise_call_subT (C := C) (nm := nm) (q := qn) (N := N') (bs := bs) (bm := bm) (hdct := hdct) (sn := sn) (sub := sub) (ab := ab) (col := col) (dd := dd) (k0 := k0) (k1 := k1) (k2 := k2) (k3 := k3) (k5 := k5)
    PySem.F.excBase_ValueError (mN := mN) (T.hasType PySem.F.excBase_ValueError.hasBase) hh hany hni (ld_glob I hg hm ⟨rfl, ?_⟩ hd)
  have hA := ha cpos pins s σ H _ I h
  rw [he] at hA ⊢
  refine Calls.evalArgs_plain (wpAny_mono hA (fun us s2 hq0 => ?_) fun _ _ z => z)
  obtain ⟨vs, H1, I1, r, hl, q⟩ := hq0
  exact ⟨rfl, by show us.length ≤ sizeLine; rw [← r.length]; exact Nat.le_of_lt (small1000 hl), I1.bk _ _ hC, hN.keeps I1.bk, T.keeps I1.bk, fun h' e m => raise_leave I1 m q⟩
end

/-! ### calls of defs that may raise -/
def tCallS (sp : Sp) (dvs : List V) (E : St → XK) (t : TA) : TE := fun σ H Q => t σ H fun vs H1 => sp (vs ++ dvs) H1 Q (E σ)
section
variable {X : Cx} {CX : CXT} {k : Nat} {f C : Addr} {fd : FuncData} {ps ks : List Str} {sp : Sp} {dvs : List V} {ds : List Value} {E : St → XK} {x m : Str} {p pos apos : Pos} {e o : Expr} {es : List Expr} {kws : List Keyword} {ta : TE} {t tk : TA}
/-- an exception of this call, at these names' values -/
def PassAt (CX : CXT) (X : Cx) (σ : St) (E : XK) : Prop := ∀ (pins : List (Addr × Obj)) (H : Hp) (s : Shared) (e : Value) (s' : Shared), Inv X pins σ H s → CX X.stack H s E e s' → X.xe e s'
theorem PassS.at (h : PassS CX X E) (σ : St) : PassAt CX X σ (E σ) := fun pins H s e s' I z => h pins σ H s e s' I z
theorem run_fnS {E : XK} {pins : List (Addr × Obj)} {σ : St} {H : Hp} {s : Shared} {Q : VK} {us : List Value} {vs : List V} (F : FnOk X.prog X.w X.K X.mg X.base CX k f fd ps sp) (hr : Room k X.A) (hb : Binds X.K fd ps ds) (hd : Vals dvs ds) (hx : PassAt CX X σ E)
    (I : Inv X pins σ H s) (r : Vals vs us) (h : sp (vs ++ dvs) H Q E) : wpAny (model X.prog X.w) X.A (call (.ref f) us) (EP X pins σ Q) X.xe s := by
  have r2 : Vals (vs ++ dvs) (us ++ ds) := r.append hd
  have hl : (us ++ ds).length = ps.length := by rw [← r2.length]; exact F.len _ _ _ _ h
  refine wpAny_call (codeAny_mono (F.run X.A X.stack s H ⟨us, []⟩ (us ++ ds) (vs ++ dvs) Q E hr I.env0 (hb s us I.kIn hl) r2 h) fun r s' hq => ?_)
  match r, hq with
  | .error e, hq => exact hx pins H s e s' I hq
  | .ok (.ret u), hq => exact I.after hq
theorem pe_callS (F : FnOk X.prog X.w X.K X.mg X.base CX k f fd ps sp) (hr : Room k X.A) (hg : Gl X x) (hm : X.mg x = some (.ref f)) (hk : PySem.W.keepIn X.K (.ref f) = true) (hb : Binds X.K fd ps ds) (hd : Vals dvs ds) (hx : PassS CX X E)
    (ha : PA X (e :: es) t) (hdb : (x == ("__debug__" : Str)) = false := by decide) (he : starEach (e :: es) X.env = (false, eval e X.env) :: starEach es X.env := by rfl) (hpl : (backTo pos (starEach es X.env)).any (·.1) = false := by rfl) :
    PE X (.Call (.Name x p) (e :: es) [] pos) (tCallS sp dvs E t) := by
  intro pins s σ H Q I h
  refine wpAny_Call_Name_kw (ld_glob I hg hm ?_ hdb)
  exact PySem.W.callWith_K (h₀ := X.base) I.ok.mod.kin hk (thn (ha pos pins s σ H _ I h) fun us s1 ⟨vs, H1, I1, r, q⟩ => ⟨I1.kIn, run_fnS F hr hb hd (hx.at σ) I1 r q⟩) he hpl
end
section
variable {P : Program} {w : World} {K : PySem.W.Frag} {mg : Str → Option Value} {base : Heap}
/-- the rule for a def that may raise -/
theorem Fun.okX {x qual : Str} {st : Stmt} {f : Addr} {fd : FuncData} {N ps : List Str} {k : Nat} {sp : Sp} (F : Fun K x qual st f fd) (S : FnScope N ps (defScope st)) (len : ∀ vs H Q E, sp vs H Q E → vs.length = ps.length)
    (hbody : ∀ (cdv : Value) (A : Around) (outer : List Env) (s : Shared) (H : Hp) (vs : List V) (Q : VK) (E : XK), Room k (A.deeper (envOfC qual (defScope st) s.heap.objs.size f cdv)) → sp vs H Q E →
      ∃ t, PSs (cxOf (CXX P w) P w K mg base N qual (defScope st) f cdv A outer s H E) (defBody st) t ∧ t { nx := fun _ H' => Q .non H', rt := Q } (start N vs) H) : FnOk P w K mg base (CXX P w) (k + 1) f fd ps sp := by
  obtain ⟨oc, od, kV, doc, pm, an, cdv, ct, osl, rfl, lk, hcd⟩ := F.ex
  exact fn_of lk hcd S len fun A outer s H vs Q E hr hsp => hbody cdv A outer s H vs Q E hr hsp
end
end L2


/-! TRY with one clause of an own class; what runs within its suite. -/
namespace L2
open PySem PySem.Spec PyProof.Rows

abbrev Cx.tr (X : Cx) (pn : List (Addr × Obj)) (E : Value → Shared → Prop) : Cx := { X with pn := pn, xe := E }
abbrev Cx.suite (X : Cx) (pn : List (Addr × Obj)) (e : Addr) (E : Value → Shared → Prop) : Cx := { X with A := X.A.mark (some (.ref e)), calm := false, pn := pn, xe := E }
section
variable {X : Cx} {pins pins' pn : List (Addr × Obj)} {σ : St} {H : Hp} {s : Shared} {E E' : Value → Shared → Prop} {ea : Addr}
theorem Cx.Ok.tr (ok : X.Ok) (pn : List (Addr × Obj)) (E : Value → Shared → Prop) : (X.tr pn E).Ok :=
  ⟨ok.mod, ok.kind, ok.glob, ok.blt, ok.above, ok.inj, ok.has, ok.cab, ok.hd, ok.frames, ok.stk, ok.exf, ok.bs, ok.bsz, ok.noex, ok.exfs, ok.funs, ok.frf⟩
theorem Cx.Ok.suite (ok : X.Ok) (pn : List (Addr × Obj)) (ea : Addr) (E : Value → Shared → Prop) : (X.suite pn ea E).Ok :=
  ⟨ok.mod, ok.kind, ok.glob, ok.blt, ok.above, ok.inj, ok.has, ok.cab, (fun z => nomatch z), ok.frames, ok.stk, ok.exf, ok.bs, ok.bsz, ok.noex, ok.exfs, ok.funs, ok.frf⟩
theorem Inv.tr (I : Inv X pins σ H s) (E : Value → Shared → Prop) : Inv (X.tr (X.pn ++ pins) E) [] σ H s :=
  ⟨I.ok.tr _ _, I.os, I.bare, I.base, I.loc, I.cell, I.free, I.freeC, fun p hp => I.pin p (by simpa using hp), I.hok, I.len⟩
theorem Inv.untr (I : Inv (X.tr (X.pn ++ pins) E) pins' σ H s) (ok : X.Ok) : Inv X pins σ H s :=
  ⟨ok, I.os, I.bare, I.base, I.loc, I.cell, I.free, I.freeC, fun p hp => I.pin p (List.mem_append_left _ hp), I.hok, I.len⟩
theorem Inv.suite (I : Inv (X.tr pn E) pins' σ H s) (ok : X.Ok) (ea : Addr) (E' : Value → Shared → Prop) : Inv (X.suite pn ea E') [] σ H s :=
  ⟨ok.suite _ _ _, I.os, I.bare, I.base, I.loc, I.cell, I.free, I.freeC, fun p hp => I.pin p (List.mem_append_left _ (by simpa using hp)), I.hok, I.len⟩
theorem Inv.unsuite (I : Inv (X.suite (X.pn ++ pins) ea E) pins' σ H s) (ok : X.Ok) : Inv X pins σ H s :=
  ⟨ok, I.os, I.bare, I.base, I.loc, I.cell, I.free, I.freeC, fun p hp => I.pin p (List.mem_append_left _ hp), I.hok, I.len⟩
theorem SP.untr {D : Ends} {f : Flow} (ok : X.Ok) (h : SP (X.tr (X.pn ++ pins) E) [] D f s) : SP X pins D f s := by
  match f, h with
  | .next, ⟨σ', H', I, q⟩ => exact ⟨σ', H', I.untr ok, q⟩
  | .brk, ⟨σ', H', I, q⟩ => exact ⟨σ', H', I.untr ok, q⟩
  | .cont, ⟨σ', H', I, q⟩ => exact ⟨σ', H', I.untr ok, q⟩
  | .ret u, ⟨v, σ', H', I, r, q⟩ => exact ⟨v, σ', H', I.untr ok, r, q⟩

/-- an object that was not tracked is tracked from now on -/
def IsExc (e : Addr) (cls : Value) : Heap → Prop := fun h => ∃ o, h.get? e = some o ∧ o.cls = cls
theorem Inv.track {e : Addr} {φ : Heap → Prop} (I : Inv X pins σ H s) (hn : H e = none) (h0 : X.s₀.heap.get? e = none) (hL : e ≠ X.env.locals) (hc : ∀ x c, X.env.cells.lookup x = some c → c ≠ e) (hp : ∀ p ∈ X.pn ++ pins, p.1 ≠ e)
    (ok : ObjOk X.prog X.w (upd H e (.ext φ)) s.heap e (.ext φ)) : Inv X pins σ (upd H e (.ext φ)) s := by
  have keep : ∀ b u, H b = some u → upd H e (.ext φ) b = some u := fun b u q => by rw [upd_ne (ne_of_none q hn)]; exact q
  refine ⟨I.ok, I.os, I.bare, ⟨I.base.keep, I.base.slot, fun b o q n hx => ?_, I.base.there, fun b xs q => keep b _ (I.base.tups b xs q), fun b o u q => keep b _ (I.base.frzs b o u q), fun b ps q => ?_⟩, I.loc, I.cell, ?_, fun x c q => ?_, fun p hm => ?_, fun b u q => ?_, I.len⟩
  · have hb : b ≠ e := fun z => by rw [z, h0] at q; cases q
    rw [upd_ne hb]
    exact I.base.free b o q n hx
  · obtain ⟨more, q'⟩ := I.base.tbls b ps q
    exact ⟨more, keep b _ q'⟩
  · rw [upd_ne hL.symm]; exact I.free
  · rw [upd_ne (hc x c q)]; exact I.freeC x c q
  · obtain ⟨z1, z2, z3⟩ := I.pin p hm
    exact ⟨z1, by rw [upd_ne (hp p hm)]; exact z2, z3⟩
  · by_cases hb : b = e
    · subst hb
      rw [upd_same] at q
      cases q
      exact ok
    · rw [upd_ne hb] at q
      exact (I.hok b u q).stay (fun c v _ z => z) (fun c z => keep c _ z) fun c xs z => keep c _ z
/-- a local name goes -/
theorem Inv.goes {i : Nat} {x : Str} {m : Str → Option Value} {h' : Heap} {v : Option Value} {t' : Nat} (I : Inv X pins σ H s) (hN : X.N.Nodup) (hi : X.N[i]? = some x) (hn : s.heap.Ns X.env.locals m)
    (hl : ∀ (i : Nat) (x : Str) (v : V), X.N[i]? = some x → σ[i]? = some (some v) → Vis X.env.scope x → ∃ u, RelV v u ∧ Look X.env s.heap m x u)
    (hn' : h'.Ns X.env.locals (fun y => if y = x then v else m y)) (hs : Heap.SameBut X.env.locals s.heap h') : Inv X pins (σ.set i none) H { s with heap := h', toks := t' } := by
  have cne := I.cne
  obtain ⟨oL, _, _, hoL, _⟩ := id hn
  have lt : ∀ b o, X.s₀.heap.get? b = some o → b ≠ X.env.locals := fun b o e => Nat.ne_of_lt (Nat.lt_of_lt_of_le (Heap.lt_size e) I.ok.above)
  refine ⟨I.ok, I.os, I.bare, ⟨fun b o e n hb hx => (hs.2 b (lt b o e)).trans (I.base.keep b o e n hb hx), fun b o e n hb hx => ?_, I.base.free, fun b o e hx => ?_, I.base.tups, I.base.frzs, I.base.tbls⟩, ⟨_, hn', fun j y v' e1 e2 e3 => ?_⟩, fun y c e => ?_, I.free, I.freeC, fun p hp => ?_, fun b u e => ?_, by simpa using I.len⟩
  · obtain ⟨sl, q⟩ := I.base.slot b o e n hb hx
    exact ⟨sl, (hs.2 b (lt b o e)).trans q⟩
  · obtain ⟨o', q⟩ := I.base.there b o e hx
    exact ⟨o', (hs.2 b (lt b o e)).trans q⟩
  · by_cases hj : j = i
    · subst hj
      by_cases hlt : j < σ.length
      · rw [List.getElem?_set_self hlt] at e2
        cases e2
      · rw [List.getElem?_eq_none (by simpa using hlt)] at e2
        cases e2
    · rw [List.getElem?_set_ne (Ne.symm hj)] at e2
      obtain ⟨u', r', q⟩ := hl j y v' e1 e2 e3
      refine ⟨u', r', ?_⟩
      rcases q with ⟨k, e⟩ | ⟨k, c, e, z⟩
      · refine .inl ⟨k, ?_⟩
        have ny : y ≠ x := fun z => hj (nodup_ix hN e1 (z ▸ hi))
        simp [ny, e]
      · exact .inr ⟨k, c, e, z.sameBut hs (cne y c e)⟩
  · obtain ⟨w', z⟩ := I.cell y c e
    exact ⟨w', z.sameBut hs (cne y c e)⟩
  · obtain ⟨e, n, ne, nf, d⟩ := I.pin p hp
    exact ⟨(hs.2 p.1 ne).trans e, n, ne, nf, d⟩
  · refine (I.hok b u e).stay (fun c w' hc q => (hs.2 c ?_).trans q) (fun _ q => q) fun _ _ q => q
    intro z
    rw [z] at hc
    rcases hc with hc | hc
    · rw [← hc, I.free] at e; cases e
    · rw [I.free] at hc; cases hc
end

/-! ### the class of a clause -/
section
variable {M : Model} {A : Around} {E : Value → Shared → Prop} {h : Heap} {g : Array GenState} {d : Drawn} {t : Nat} {os : OsState} {K : PySem.W.Frag} {C C0 e : Addr} {oe : Obj} {Q : Bool → Shared → Prop}
theorem exc_match (X : K.In h) (q : ExcC K C) (q0 : ExcC K C0) (hs : PySem.W.mroIn K C (.ref C0) = some true) (he : h.get? e = some oe) (hcls : oe.cls = .ref C) (hq : Q true ⟨h, g, d, t, os⟩) : wpAny M A (excMatches (.ref e) (.ref C0)) Q E ⟨h, g, d, t, os⟩ := by
  obtain ⟨nm, qn, N, bs, bm, hdct, sn, sub, ab, col, dd, k0, k1, k2, k3, k5, mN, hC, hN, hni, T⟩ := exc_obj X q.ok
  obtain ⟨nm', qn', N', bs', bm', hdct', sn', sub', ab', col', dd', k0', k1', k2', k3', k5', mN', hC', hN', hni', T'⟩ := exc_obj X q0.ok
  have hcB : (Value.ref C0 :: bm').contains (.type "BaseException") = true := by rw [List.contains_cons, T'.hasType PySem.F.excBase_ValueError.hasBase, Bool.or_true]
  have hcC : (Value.ref C :: bm).contains (.ref C0) = true := by
    unfold PySem.W.mroIn PySem.W.clsIn at hs
    have hk := q.ok
    unfold PySem.W.excIn at hk
    cases hl : K.lookup C with
    | none => rw [hl] at hk; cases hk
    | some ob =>
      have z := X _ _ hl
      rw [hC] at z
      cases z
      rw [hl] at hs
      simpa [excClassObj] using hs
  have f := tc_notTuple
  unfold excMatches
  repeat (first | (with_reducible refine wpAny_loadPart_at he ?_; rw [hcls]) | with_reducible refine wpAny_loadPart_at hC' ?_ | (with_reducible refine wpAny_isSubtype_exc hC' ?_; rw [hcB]) | (with_reducible refine wpAny_isSubtype_exc hC ?_; rw [hcC]) | wp_step)
  exact hq
end

/-! ### try: .. except C as n: .. -/
/-- tb: the body's reading by what is wanted of exceptions; C0: the clause's class; i: the name's slot; th: the suite's reading -/
def tTryAs (K : PySem.W.Frag) (C0 : Addr) (i : Nat) (tb : (Value → St → Hp → Prop) → TS) (th : TS) : TS := fun D σ H =>
  tb (fun cls σ' H' => ∃ C, cls = .ref C ∧ ExcC K C ∧ PySem.W.mroIn K C (.ref C0) = some true ∧ ∀ ea, H' ea = none →
    th { nx := fun σ2 H2 => D.nx (σ2.set i none) H2, rt := D.rt, bk := fun σ2 H2 => D.bk (σ2.set i none) H2, ct := fun σ2 H2 => D.ct (σ2.set i none) H2 } (σ'.set i (some (.ref ea))) (upd H' ea (.ext (IsExc ea (.ref C))))) D σ H
section
variable {X : Cx} {body : List Stmt} {x n : Str} {np hp pos : Pos} {b₀ : Stmt} {suite : List Stmt} {C0 : Addr} {i : Nat} {tb : (Value → St → Hp → Prop) → TS} {th : TS}
theorem ps_try_as (hex : X.ex = []) (hst : X.stack = X.env :: X.outer) (hfr : X.env.frame = some X.env.locals)
    (hb : ∀ (pn : List (Addr × Obj)) (xe : Value → Shared → Prop) (R : Value → St → Hp → Prop), PassS (CXX X.prog X.w) (X.tr pn xe) (fun σ cls _ H => R cls σ H) → PSs (X.tr pn xe) body (tb R))
    (hg : Gl X x) (hm : X.mg x = some (.ref C0)) (h0 : ExcC X.K C0) (hN : X.N.Nodup) (hi : X.N[i]? = some n) (hl : X.env.scope.names.lookup n = some .local)
    (hs : ∀ (pn : List (Addr × Obj)) (ea : Addr), PSs (X.suite pn ea fun _ _ => False) (b₀ :: suite) th) (hd : (x == ("__debug__" : Str)) = false := by decide) :
    PS X (.Try body [.ExceptHandler (some (.Name x np)) (some n) (b₀ :: suite) hp] [] [] pos) (tTryAs X.K C0 i tb th) := by
  intro pins s σ H D I h
  refine wpAny_Try_except ?_
  refine wpAny_mono (hb (X.pn ++ pins) (fun e s₁ => wpAny (model X.prog X.w) X.A (noteFrame e X.env) (fun _ s₂ => wpAny (model X.prog X.w) X.A (setFlight e none) (fun _ s₃ =>
    wpAny (model X.prog X.w) X.A (handleBy e X.env [.ExceptHandler (some (.Name x np)) (some n) (b₀ :: suite) hp]) (SP X pins D) X.xe s₃) X.xe s₂) X.xe s₁) _ ?_ [] s σ H D (I.tr _) h) (fun f s₁ q => ?_) fun e s₁ q => q
  · rintro pins' σ' H1 s1 e s2 I1 ⟨ea, cls, H', rfl, os, bare, un, hok, en, ⟨B, t, fl, ib⟩, C, rfl, hC, hsub, hq⟩
    show wpAny _ _ (noteFrame _ _) _ _ s2
    have fl0 : Heap.FlyingW B (X.env :: X.outer) ea (.ref C) (.ref t) s2.heap := by rw [← hst]; exact fl
    refine wpAny_looks_onW (by rw [I.ok.frames, hst]) hfr fl0 fun h4 held up4 => ?_
    refine wpAny_landsW held fun h5 fl5 up5 => ?_
    rw [← hst] at fl5
    have st5 := fly_step un hok ib fl.1 fl5.1 fl.2.2.1 (up4.trans up5)
    have J5 := I1.call' (s' := { s2 with heap := h5 }) os st5.1 st5.2 bare (fun b z => absurd z (by simp))
    refine wpAny_handleBy_cons (codeAny_handlers_test ?_) (by intro z; cases z)
    refine Calls.Name_function_global I.ok.kind hg (Calls.loadGlobal_global (by rw [I.ok.glob]; exact J5.mod.glob.keeps J5.bk) hm ?_) hd
    obtain ⟨ob, hob, hobc⟩ := fl5.there
    refine exc_match J5.kIn hC h0 hsub hob hobc ?_
    refine codeAny_handlers_suite_as ?_
    refine lands_againW fl5 fun h6 fl6 up6 => ?_
    have st6 := fly_step un hok ib fl.1 fl6.1 fl.2.2.1 ((up4.trans up5).trans up6)
    have J6 := I1.call' (s' := { s2 with heap := h6 }) os st6.1 st6.2 bare (fun b z => absurd z (by simp))
    obtain ⟨oe, vs, hoe, hoec, hoed, _⟩ := fl.first
    have nofr : ea ∉ frs X.stack := fun z => by
      obtain ⟨_, o1, q1, q2⟩ := fl.2.2.1.mem z
      rw [hoe] at q1
      cases q1
      exact q2 _ hoed
    have new1 : s1.heap.get? ea = none := by
      cases q : s1.heap.get? ea with
      | none => rfl
      | some o =>
        obtain ⟨o', z⟩ := ib.old ea o q nofr
        rw [fl.2.1] at z
        cases z
    have new0 : X.s₀.heap.get? ea = none := by
      cases q : X.s₀.heap.get? ea with
      | none => rfl
      | some o =>
        obtain ⟨o', z⟩ := I1.base.there ea o q (by show ea ∉ X.ex; rw [hex]; simp)
        rw [new1] at z
        cases z
    obtain ⟨ob6, hob6, hobc6⟩ := fl6.there
    have J7 := J6.track (e := ea) (φ := IsExc ea (.ref C)) en new0 (fun z => by
        obtain ⟨m, ⟨o, es, ep, ho, _⟩, _⟩ := I1.loc
        rw [← z, new1] at ho
        cases ho) (fun y c hc z => by
        obtain ⟨v, o, ho, _⟩ := I1.cell y c hc
        rw [z, new1] at ho
        cases ho) (fun p hp z => by
        have := (I1.pin p hp).1
        rw [z, new1] at this
        cases this) ⟨⟨ob6, hob6, hobc6⟩, ⟨ob6, hob6⟩, fun h1 h2 ⟨o, z1, z2⟩ k => ⟨o, k o z1, z2⟩⟩
    refine store_ok (X := X.tr (X.pn ++ pins) _) J7 hN hi (Or.inl hl) (v := .ref ea) rfl (fun s7 J8 => ?_) (.inr hl)
    refine wpAny_mono (hs (X.pn ++ pins) ea [] s7 _ _ _ (J8.suite I.ok ea _) (hq ea en)) (fun f s8 q => ?_) fun e' s8 z => False.elim z
    have hcls : (X.env.scope.kind == .class || (X.env.scope.kind == .module && X.env.locals != X.env.globals)) = false := by rw [I.ok.kind]; rfl
    match f, q with
    | .next, ⟨σ8, H8, J9, q9⟩ =>
      have K9 := J9.unsuite I.ok
      obtain ⟨m, hn, hl9⟩ := id K9.loc
      exact wpAny_nameGoes_keeps hl hn hcls fun h' v hn' hs' => ⟨_, H8, K9.goes hN hi hn hl9 hn' hs', q9⟩
    | .brk, ⟨σ8, H8, J9, q9⟩ =>
      have K9 := J9.unsuite I.ok
      obtain ⟨m, hn, hl9⟩ := id K9.loc
      exact wpAny_nameGoes_keeps hl hn hcls fun h' v hn' hs' => ⟨_, H8, K9.goes hN hi hn hl9 hn' hs', q9⟩
    | .cont, ⟨σ8, H8, J9, q9⟩ =>
      have K9 := J9.unsuite I.ok
      obtain ⟨m, hn, hl9⟩ := id K9.loc
      exact wpAny_nameGoes_keeps hl hn hcls fun h' v hn' hs' => ⟨_, H8, K9.goes hN hi hn hl9 hn' hs', q9⟩
    | .ret u, ⟨v8, σ8, H8, J9, r9, q9⟩ =>
      have K9 := J9.unsuite I.ok
      obtain ⟨m, hn, hl9⟩ := id K9.loc
      exact wpAny_nameGoes_keeps hl hn hcls fun h' v hn' hs' => ⟨v8, _, H8, K9.goes hN hi hn hl9 hn' hs', r9, q9⟩
  · have q := q.untr I.ok
    match f, q with
    | .next, q => exact wpAny_execs_nil q
    | .brk, q => exact q
    | .cont, q => exact q
    | .ret u, q => exact q
end

/-! ### a def called within a suite -/
structure RoomH (k : Nat) (A : Around) : Prop where
  dp : A.depth + 3 * k + 5 < recursionLimit
  un : A.units + 16 * k + 200 < cLine
theorem Room.toH {k : Nat} {A : Around} (r : Room k A) (v : Option Value) : RoomH k (A.mark v) := ⟨r.dp, r.un⟩
structure FnOkH (P : Program) (w : World) (K : PySem.W.Frag) (mg : Str → Option Value) (base : Heap) (k : Nat) (f : Addr) (fd : FuncData) (ps : List Str) (sp : Sp) : Prop where
  len : ∀ vs H Q E, sp vs H Q E → vs.length = ps.length
  run : ∀ (A : Around) (outer : List Env) (s : Shared) (H : Hp) (args : Args) (us : List Value) (vs : List V) (Q : VK) (E : XK), RoomH k A → Env0 P w K mg base A outer s H → BindsTo s fd args (ps.zip us) → Vals vs us → sp vs H Q E →
    codeAny (model P w) A (.call (.ref f) args) (CR CX0 outer P w H s Q E) s

def cxH (P : Program) (w : World) (K : PySem.W.Frag) (mg : Str → Option Value) (base : Heap) (N : List Str) (qual : Str) (scope : Scope) (f : Addr) (cd : Value) (A : Around) (outer : List Env) (s : Shared) (H : Hp) : Cx :=
  { cxOf CX0 P w K mg base N qual scope f cd A outer s H E0 with calm := false, xe := fun _ _ => False }
section
variable {P : Program} {w : World} {K : PySem.W.Frag} {mg : Str → Option Value} {base : Heap}
theorem Fun.okH {x qual : Str} {st : Stmt} {f : Addr} {fd : FuncData} {N ps : List Str} {k : Nat} {sp : Sp} (F : Fun K x qual st f fd) (S : FnScope N ps (defScope st)) (len : ∀ vs H Q E, sp vs H Q E → vs.length = ps.length)
    (hbody : ∀ (cdv : Value) (A : Around) (outer : List Env) (s : Shared) (H : Hp) (vs : List V) (Q : VK) (E : XK), RoomH k (A.deeper (envOfC qual (defScope st) s.heap.objs.size f cdv)) → sp vs H Q E →
      ∃ t, PSs (cxH P w K mg base N qual (defScope st) f cdv A outer s H) (defBody st) t ∧ t { nx := fun _ H' => Q .non H', rt := Q } (start N vs) H) : FnOkH P w K mg base (k + 1) f fd ps sp := by
  obtain ⟨oc, od, kV, doc, pm, an, cdv, ct, osl, rfl, lk, hcd⟩ := F.ex
  refine ⟨len, fun A outer s H args us vs Q E hr e0 hb r hsp => ?_⟩
  have inK : K.In s.heap := e0.mod.kin.keeps fun b o q => (e0.bs b o q).1
  have noLim : s.heap.NoLimit := e0.mod.nolimit.keeps fun b o q => (e0.bs b o q).1
  have kinds : ∀ y ∈ ps.zip us, (defScope st).names.lookup y.1 = some .local ∨ ((defScope st).names.lookup y.1 = some .cell ∧ ((cellsFrom (s.heap.objs.size + 1) (defScope st).names []).lookup y.1).isSome = true) := fun y hy => by
    have hm := (List.of_mem_zip (a := y.1) (b := y.2) hy).1
    rcases S.par y.1 hm with z | z
    · exact .inl z
    · exact .inr ⟨z, PySem.W.cellsFrom_some _ _ _ (.inl z)⟩
  refine codeAny_call_function (by have := hr.dp; omega) (inK _ _ lk) rfl S.co S.gen rfl (PySem.W.codeRec_of inK hcd) (hb _ _ _ _ ?_)
  refine wpAny_newFunctionEnv_cells S.kind kinds fun env he s1 x => ?_
  subst he
  refine ⟨noLim.keeps x.toInCall.keep, codeAny_func ?_⟩
  have room : RoomH k (A.deeper (envOfC qual (defScope st) s.heap.objs.size f cdv)) := ⟨by have := hr.dp; show A.depth + 1 + 3 * k + 5 < _; omega, by have := hr.un; show A.units + 3 + 16 * k + 200 < _; omega⟩
  obtain ⟨t, ht, hq⟩ := hbody cdv A outer s H vs Q E room hsp
  have e1 : Env0 P w K mg base { A with handled := none } outer s H := ⟨e0.frames, e0.mod, e0.bs, e0.bsz, e0.funs, e0.frf, e0.hok, e0.bare⟩
  have I0 : Inv (cxOf CX0 P w K mg base N qual (defScope st) f cdv { A with handled := none } outer s H E0) [] (start N vs) H s1 := inv_start S rfl e1 (len _ _ _ _ hsp) r x
  have I : Inv (cxH P w K mg base N qual (defScope st) f cdv A outer s H) [] (start N vs) H s1 :=
    ⟨⟨I0.ok.mod, I0.ok.kind, I0.ok.glob, I0.ok.blt, I0.ok.above, I0.ok.inj, I0.ok.has, I0.ok.cab, (fun z => nomatch z), Around.frames_deeper e0.frames, I0.ok.stk, I0.ok.exf, I0.ok.bs, I0.ok.bsz, I0.ok.noex, I0.ok.exfs, I0.ok.funs, I0.ok.frf⟩,
      I0.os, I0.bare, I0.base, I0.loc, I0.cell, I0.free, I0.freeC, I0.pin, I0.hok, I0.len⟩
  refine wpAny_mono (ht [] s1 (start N vs) H _ I hq) (fun fl s' hs => ?_) fun e s' z => False.elim z
  cases fl with
  | ret u =>
    obtain ⟨v, σ', H', J, rv, q⟩ := hs
    exact ⟨v, H', J.os, J.bare, J.base, J.hok, rv, q⟩
  | next =>
    obtain ⟨σ', H', J, q⟩ := hs
    exact ⟨.non, H', J.os, J.bare, J.base, J.hok, rfl, q⟩
  | brk =>
    obtain ⟨σ', H', J, q⟩ := hs
    exact False.elim q
  | cont =>
    obtain ⟨σ', H', J, q⟩ := hs
    exact False.elim q
end
section
variable {X : Cx} {k : Nat} {f : Addr} {fd : FuncData} {ps : List Str} {sp : Sp} {x : Str} {p pos : Pos} {e : Expr} {es : List Expr} {t : TA}
theorem pe_callH (F : FnOkH X.prog X.w X.K X.mg X.base k f fd ps sp) (hr : RoomH k X.A) (hg : Gl X x) (hm : X.mg x = some (.ref f)) (hk : PySem.W.keepIn X.K (.ref f) = true) (hb : Binds X.K fd ps []) (ha : PA X (e :: es) t)
    (hdb : (x == ("__debug__" : Str)) = false := by decide) (he : starEach (e :: es) X.env = (false, eval e X.env) :: starEach es X.env := by rfl) (hpl : (backTo pos (starEach es X.env)).any (·.1) = false := by rfl) :
    PE X (.Call (.Name x p) (e :: es) [] pos) (tCall sp [] E0 t) := by
  intro pins s σ H Q I h
  refine wpAny_Call_Name_kw (ld_glob I hg hm ?_ hdb)
  refine PySem.W.callWith_K (h₀ := X.base) I.ok.mod.kin hk (thn (ha pos pins s σ H _ I h) fun us s1 ⟨vs, H1, I1, r, q⟩ => ⟨I1.kIn, ?_⟩) he hpl
  have r2 : Vals (vs ++ []) (us ++ []) := r.append .nil
  have hl : (us ++ []).length = ps.length := by rw [← r2.length]; exact F.len _ _ _ _ q
  refine wpAny_call (codeAny_mono (F.run X.A X.stack s1 H1 ⟨us, []⟩ (us ++ []) (vs ++ []) Q E0 hr I1.env0 (hb s1 us I1.kIn hl) r2 q) fun r s' hq => ?_)
  match r, hq with
  | .error e, hq => exact False.elim hq
  | .ok (.ret u), hq => exact I1.after hq
end
end L2


/-! ISINSTANCE of an exception of an own class; f-strings whose words are free; objects whose methods may raise. -/
namespace L2
open PySem PySem.Spec PyProof.Rows

/-- what else the kit has of such a class -/
structure ExcF (K : PySem.W.Frag) (C : Addr) : Prop extends ExcC K C where
  ga : PySem.W.findIn K (.ref C) "__getattribute__" = some (some (.builtin "BaseException.__getattribute__"))
  gn : PySem.W.findIn K (.ref C) "__getattr__" = some none
  gc : PySem.W.findIn K (.ref C) "__class__" = some (some (.builtin "object.__class__"))

section
variable {prog : Program} {w : World} {A : Around} {E : Value → Shared → Prop} {h : Heap} {g : Array GenState} {d : Drawn} {t : Nat} {os : OsState} {K : PySem.W.Frag} {C a : Addr} {o : Obj}
theorem exc_sub {T : String} {M : Model} {Q : Bool → Shared → Prop} (X : K.In h) (F : ExcC K C) (ht : vmro.contains (.type T) = true) (hq : Q true ⟨h, g, d, t, os⟩) : wpAny M A (isSubtype (.ref C) (.type T)) Q E ⟨h, g, d, t, os⟩ := by
  obtain ⟨nm, qn, N, bs, bm, hdct, sn, sub, ab, col, dd, k0, k1, k2, k3, k5, mN, hC, hN, hni, T'⟩ := exc_obj X F.ok
  have hcB : (Value.ref C :: bm).contains (.type T) = true := by rw [List.contains_cons, T'.hasType ht, Bool.or_true]
  refine wpAny_isSubtype_exc hC ?_
  rw [hcB]
  exact hq
theorem exc_cls_get {R : Result → Shared → Prop} (X : K.In h) (F : ExcF K C) (hx : h.get? a = some o) (hc : o.cls = .ref C) (hq : R (.ok (.ret (.ref C))) ⟨h, g, d, t, os⟩) :
    codeAny (model prog w) A (.call (.builtin "getset_descriptor.__get__") ⟨[.builtin "object.__class__", .ref a, .ref C], []⟩) R ⟨h, g, d, t, os⟩ := by
  have hT5 : (⟨h, g, d, t, os⟩ : Shared).TypeIs (.builtin "object.__class__") "getset_descriptor" := PySem.F.typeOf_object_class
  have ho : (".".intercalate ("object.__class__".cutAt '.').dropLast) = "object" := PySem.F.owner_object_class
  refine codeAny_call_builtin PySem.F.slot_gs_get.plain PySem.F.entry_gs_get (PySem.F.slot_gs_get.check _ _ _ _ _ _ _ _ hT5 (PySem.F.args_gs_get _ _ _) ?_)
  repeat (any_goals (first | assumption | (with_reducible refine wpAny_loadPart_at hx ?_; rw [hc]) | (rw [ho]; with_reducible refine exc_sub X F.toExcC (by decide) ?_) | wp_step))
  refine ⟨Code.quiet_builtin _ (by decide +kernel), codeAny_builtin PySem.F.entry_object_class ?_⟩
  repeat (any_goals (first | assumption | (with_reducible refine wpAny_loadPart_at hx ?_; rw [hc]) | wp_step))
theorem exc_cls_entry {tk : Tok} {Q : Fin → Shared → Prop} (X : K.In h) (F : ExcF K C) (hx : h.get? a = some o) (hc : o.cls = .ref C) (hq : Q (.done (.ret (.ref C))) ⟨h, g, d, t, os⟩) :
    wpAny (model prog w) A (Builtin.«object.__getattribute__» ⟨[.ref a, .str "__class__" tk], []⟩) Q E ⟨h, g, d, t, os⟩ := by
  have hT5 : (⟨h, g, d, t, os⟩ : Shared).TypeIs (.builtin "object.__class__") "getset_descriptor" := PySem.F.typeOf_object_class
  have f5 := PySem.F.typeOf_object_class
  have f6 := PySem.F.slot_gs_get.lookup
  have f7 := PySem.F.slot_gs_set.lookup
  have L := PySem.W.looks_findIn (M := model prog w) X F.gc
  repeat (any_goals (first | assumption | (with_reducible refine wpAny_loadPart_at hx ?_; rw [hc]) | with_reducible refine L.at ?_ | wp_step))
  refine exc_cls_get X F hx hc ?_
  repeat (any_goals (first | assumption | wp_step))
theorem exc_cls_check {M : Model} {nameV : Value} {Q : Unit → Shared → Prop} (X : K.In h) (F : ExcF K C) (hx : h.get? a = some o) (hc : o.cls = .ref C) (hq : Q () ⟨h, g, d, t, os⟩) : wpAny M A (checkBuiltinCall "BaseException.__getattribute__" ⟨[.ref a, nameV], []⟩) Q E ⟨h, g, d, t, os⟩ := by
  have hk : builtinKind "BaseException.__getattribute__" = some .slot := by decide +kernel
  have hsplit : splitId "BaseException.__getattribute__" = some ("BaseException", "__getattribute__") := by decide +kernel
  have ha := PySem.F.args_bexc_ga (.ref a) nameV
  simp only [checkBuiltinCall, hk, hsplit]
  refine wpAny_bind ?_
  unfold isInstance
  repeat (first | (with_reducible refine wpAny_loadPart_at hx ?_; rw [hc]) | with_reducible refine exc_sub X F.toExcC (by decide) ?_ | wp_step)
  exact hq
theorem exc_cls_by {tk : Tok} {Q : Value → Shared → Prop} (X : K.In h) (F : ExcF K C) (hx : h.get? a = some o) (hc : o.cls = .ref C) (hq : Q (.ref C) ⟨h, g, d, t, os⟩) :
    wpAny (model prog w) A (getAttrBy (.ref a) (.str "__class__" tk) false) Q E ⟨h, g, d, t, os⟩ := by
  have f3 := PySem.F.excAttr_ValueError.ga.bind (.ref a)
  have hx2 : (Value.builtin "BaseException.__getattribute__" == Value.builtin "object.__getattribute__") = false := by decide +kernel
  have hx1 : (onTheHeap (Value.ref C) && Value.builtin "BaseException.__getattribute__" == Value.builtin "object.__getattribute__") = false := by rw [hx2]; rfl
  have L1 := PySem.W.looks_findIn (M := model prog w) X F.ga
  have L2 := PySem.W.looks_findIn (M := model prog w) X F.gn
  repeat (any_goals (first | assumption | (with_reducible refine wpAny_loadPart_at hx ?_; rw [hc]) | with_reducible refine L1.at ?_ | with_reducible refine L2.at ?_ | wp_step))
  refine codeAny_call_builtin PySem.F.excAttr_ValueError.ga.plain PySem.F.entry_bexc_ga (exc_cls_check X F hx hc (exc_cls_entry X F hx hc ?_))
  repeat (any_goals (first | assumption | wp_step))
theorem exc_cls_attr {Q : Option Value → Shared → Prop} (X : K.In h) (F : ExcF K C) (hx : h.get? a = some o) (hc : o.cls = .ref C) (hq : Q (some (.ref C)) ⟨h, g, d, t + 1, os⟩) : wpAny (model prog w) A (getAttr? (.ref a) "__class__") Q E ⟨h, g, d, t, os⟩ := by
  unfold getAttr? getAttrBy?
  repeat (any_goals (first | assumption | with_reducible apply exc_cls_by X F hx hc | wp_step))
end
theorem kitx_exc {K : PySem.W.Frag} {e C : Addr} (F : ExcF K C) : PySem.W.KitX K (.ref e) (.ref C) (IsExc e (.ref C)) where
  ty := fun M h _ ⟨o, h1, h2⟩ => h2 ▸ (PySem.W.Looks.ld h1).andThen .now
  it := fun M h X _ => by
    obtain ⟨nm, qn, N, bs, bm, hdct, sn, sub, ab, col, dd, k0, k1, k2, k3, k5, mN, hC, hN, hni, T'⟩ := exc_obj X F.ok
    intro A' Q' E' s' k q
    unfold isType loadHead
    exact wpAny_bind (wpAny_loadPart (k _ _ hC) (wpAny_pure q))
  ne := fun h tp dd its n sl X htp => by
    obtain ⟨nm, qn, N, bs, bm, hdct, sn, sub, ab, col, dd, k0, k1, k2, k3, k5, mN, hC, hN, hni, T'⟩ := exc_obj X F.ok
    refine Bool.eq_false_iff.mpr fun q => ?_
    have e : C = tp := Value.ref.inj (beq_iff_eq.mp q)
    subst e
    have z := congrArg Obj.cls (Option.some.inj (hC.symm.trans htp))
    exact absurd (Value.type.inj z) (by decide)
  ca := fun {_ _ _ _ _ s} X p k => by
    obtain ⟨h, g, d, t, os⟩ := s
    obtain ⟨o, h1, h2⟩ := p
    exact exc_cls_attr X F h1 h2 k

section
variable {X : Cx} {H : Hp} {e C C0 : Addr}
/-- isinstance(e, C0) of a tracked exception -/
theorem call_isexc : CallR X (.builtin "isinstance") (fun xs H Q => ∃ e C c b, xs = [.ref e, c] ∧ H e = some (.ext (IsExc e (.ref C))) ∧ ExcF X.K C ∧
    ((∃ C0, c = .ref C0 ∧ PySem.W.kitOne X.K (.ref C) (.ref C0) = some b) ∨ ∃ T, c = .ty T ∧ PySem.W.kitOne X.K (.ref C) (.type T) = some b) ∧ Q (.bl b) H) := by
  intro pins s σ H xs us Q I r h
  obtain ⟨e, C, c, b, rfl, he, F, hc, q⟩ := h
  obtain ⟨u, u', rfl, rx, rc⟩ := vals2 r
  cases rx
  have ok := I.hok e _ he
  have k : ∃ c', u' = c' ∧ PySem.W.kitOne X.K (.ref C) c' = some b := by
    rcases hc with ⟨C0, rfl, z⟩ | ⟨T, rfl, z⟩
    · exact ⟨_, rc, z⟩
    · exact ⟨_, rc, z⟩
  obtain ⟨c', rfl, z⟩ := k
  exact PySem.W.kia_one (kitx_exc (e := e) F) I.kIn ok.1 z (by intro q; cases q) fun tk => ⟨.bl b, H, I.tok tk, rfl, q⟩
end

/-! ### methods and making, where an exception may fly -/
section
variable {X : Cx} {CX : CXT} {k : Nat} {f C : Addr} {fd : FuncData} {ps : List Str} {sp : Sp} {dvs : List V} {ds : List Value} {E : St → XK} {x m : Str} {p pos apos : Pos} {e o : Expr} {es : List Expr} {ta : TE} {t : TA}
end

/-! ### f-strings whose words nobody asks for -/
/-- what may stand in a field -/
def Fmt : V → Prop
  | .int n => n.natAbs < 10 ^ 500
  | .str x => x.length ≤ 1000
  | _ => False
abbrev TF := St → Hp → (Hp → Prop) → Prop
def fNil : TF := fun _ H Q => Q H
def fVal (ta : TE) (t : TF) : TF := fun σ H Q => ta σ H fun v H1 => Fmt v ∧ t σ H1 Q
def tFs (t : TF) : TE := fun σ H Q => t σ H fun H1 => ∀ x, Q (.str x) H1
def PF (X : Cx) (es : List Expr) (t : TF) : Prop :=
  ∀ (pins : List (Addr × Obj)) (s : Shared) (σ : St) (H : Hp) (acc : Str) (Q : VK), Inv X pins σ H s → acc.length + 2000 * es.length ≤ 100000 → t σ H (fun H1 => ∀ x, Q (.str x) H1) → wpAny (model X.prog X.w) X.A (joinParts acc (evalEach es X.env)) (EP X pins σ Q) X.xe s
section
variable {X : Cx} {e : Expr} {es : List Expr} {ta : TE} {t : TF} {x : Str} {j : Nat} {pos : Pos}
theorem len100 {n : Nat} (h : n ≤ 100000) : n ≤ sizeLine := Nat.le_trans h (by decide)
theorem room2000 {k a b n : Nat} (e : k = a + b) (hb : b ≤ 2000) (h : a + 2000 * (n + 1) ≤ 100000) : k + 2000 * n ≤ 100000 := by
  rw [e]
  rw [Nat.mul_succ] at h
  exact Nat.le_trans (by rw [Nat.add_assoc, Nat.add_comm b]; exact Nat.add_le_add_left (Nat.add_le_add_left hb _) _) h
theorem pf_nil : PF X [] fNil := fun pins s σ H acc Q I hl h => joinParts_nil ⟨.str acc, H, I.tok _, ⟨_, rfl⟩, h acc⟩ (len100 (by simpa using hl))
theorem pf_str (hx : x.length ≤ 2000) (hr : PF X es t) : PF X (.Constant (.str x) j pos :: es) t := fun pins s σ H acc Q I hl h => by
  show wpAny _ _ (joinParts acc (eval (.Constant (.str x) j pos) X.env :: evalEach es X.env)) _ _ s
  have e1 : (acc ++ x).length = acc.length + x.length := strLen_append _ _
  simp only [List.length_cons] at hl
  have l := room2000 e1 hx hl
  exact joinParts_cons (Calls.Constant_str ⟨len100 (Nat.le_trans (Nat.le_add_right _ _) l), hr pins _ σ H (acc ++ x) Q (I.tok _) l h⟩)
theorem pf_val (he : PE X e ta) (hr : PF X es t) : PF X (.FormattedValue e (-1) none pos :: es) (fVal ta t) := fun pins s σ H acc Q I hl h => by
  show wpAny _ _ (joinParts acc (eval (.FormattedValue e (-1) none pos) X.env :: evalEach es X.env)) _ _ s
  simp only [List.length_cons] at hl
  refine joinParts_cons (PyProof.Rows.FormattedValue_plain (thn (he pins s σ H _ I h) fun u s1 hq0 => ?_))
  obtain ⟨v, H1, I1, r, f, q⟩ := hq0
  cases v with
  | int n =>
    obtain ⟨tk, rfl⟩ := r
    have f : n.natAbs < 10 ^ 500 := f
    have hd : n.natAbs.log2 < 1920 := by
      by_cases z : n.natAbs = 0
      · rw [z]; decide
      · exact (Nat.log2_lt z).mpr (Nat.lt_trans f (by decide))
    have hlen : (Str.ofString (toString n)).length ≤ 2000 := by
      have e := int_text_length_le (k := 1920) (by decide) hd
      rw [PySem.ofString_length]; omega
    have e1 : (acc ++ Str.ofString (toString n)).length = acc.length + (Str.ofString (toString n)).length := strLen_append _ _
    have l := room2000 e1 hlen hl
    exact PyProof.Rows.formatField_int_small hd ⟨len100 (Nat.le_trans (Nat.le_add_right _ _) l), hr pins _ σ H1 _ Q (I1.tok _) l q⟩
  | str y =>
    obtain ⟨tk, rfl⟩ := r
    have f : y.length ≤ 1000 := f
    have e1 : (acc ++ y).length = acc.length + y.length := strLen_append _ _
    have l := room2000 e1 (Nat.le_trans f (by decide)) hl
    exact PyProof.Rows.formatField_str (fun t' tk => ⟨len100 (Nat.le_trans (Nat.le_add_right _ _) l), hr pins _ σ H1 _ Q (I1.tok _) l q⟩) (len100 (Nat.le_trans f (by decide)))
  | _ => exact False.elim f
theorem pe_fs {e2 : Expr} (h : PF X (e :: e2 :: es) t) (hl : 2000 * (e :: e2 :: es).length ≤ 100000 := by decide) : PE X (.JoinedStr (e :: e2 :: es) pos) (tFs t) := fun pins s σ H Q I q =>
  PyProof.Rows.JoinedStr_many (h pins s σ H Str.empty Q I (by rw [show Str.empty.length = 0 from rfl]; omega) q)
end
end L2


/-! insert, list(range(a, b, -1)), == of lists of bools. -/
namespace L2
open PySem PySem.Spec PyProof.Rows
theorem bt_ValueError : bootBuiltins "ValueError" = some (.type "ValueError") := by decide +kernel
section
variable {X : Cx}
/-! == of lists of bools -/
def bools (bs : List Bool) : PyData := .list (bs.map PyData.bool)
theorem bools_lay : ∀ bs : List Bool, PyData.canLayAll0 (bs.map PyData.bool) = true ∧ PyData.depthAll (bs.map PyData.bool) = 0
  | [] => ⟨rfl, rfl⟩
  | b :: r => by
    obtain ⟨h1, h2⟩ := bools_lay r
    simp [PyData.canLayAll0, PyData.canLay0, PyData.depthAll, PyData.depth, h1, h2]
theorem bools_shaped (bs : List Bool) : SeqAt.shaped (bools bs) = true := by
  obtain ⟨h1, h2⟩ := bools_lay bs
  simp [SeqAt.shaped, bools, PyData.canLay0, PyData.depth, h1, h2]
theorem bools_eqvAll : ∀ bs cs : List Bool, PyData.eqvAll (bs.map PyData.bool) (cs.map PyData.bool) = decide (bs = cs)
  | [], [] => by simp [PyData.eqvAll]
  | [], _ :: _ => by simp [PyData.eqvAll]
  | _ :: _, [] => by simp [PyData.eqvAll]
  | a :: r, b :: t => by
    simp only [List.map_cons, PyData.eqvAll, PyData.eqv, bools_eqvAll r t]
    cases a <;> cases b <;> by_cases h' : r = t <;> simp [h']
theorem readsBools {h : Heap} : ∀ {bs : List Bool} {its : List Value}, Vals (bs.map V.bl) its → ∃ as, ReadsAll h its (bs.map PyData.bool) as
  | [], _, .nil => ⟨_, .nil⟩
  | b :: r, _, .cons e q => by
    cases e
    obtain ⟨as, z⟩ := readsBools (h := h) q
    exact ⟨_, .cons (.bool b) z⟩
end
section
variable {K : PySem.W.Frag} {cap : List (Option Nat)} {σ : St} {H1 : Hp} {tt : TT} {te : TE} {Q : VK}
end
theorem fmtN {n : Nat} (h : n ≤ 1000) : Fmt (.int (n : Int)) := Nat.lt_of_le_of_lt h (by decide)
theorem fmtI {n : Int} (h1 : -(10 ^ 60) ≤ n) (h2 : n ≤ 10 ^ 60) : Fmt (.int n) := by
  show n.natAbs < 10 ^ 500
  have : n.natAbs ≤ 10 ^ 60 := by
    rcases Int.natAbs_eq n with e | e
    · exact Int.ofNat_le.mp (e ▸ h2)
    · exact Int.ofNat_le.mp (Int.neg_le_neg_iff.mp (e ▸ h1))
  exact Nat.lt_of_le_of_lt this (by decide)
def nth {α : Type} : α → List α → Nat → α
  | a, _, 0 => a
  | a, [], _ + 1 => a
  | _, b :: r, n + 1 => nth b r n
section
variable {K : PySem.W.Frag} {x qual : Str} {st : Stmt} {f : Addr} {fd : FuncData} {p1 p2 p3 p4 p5 : Str}
theorem uncons {n : Nat} {us : List Value} (h : us.length = n + 1) : ∃ a r, us = a :: r ∧ r.length = n := by
  cases us with
  | nil => cases h
  | cons a r => exact ⟨a, r, rfl, Nat.succ.inj h⟩
theorem binds1 (F : Fun K x qual st f fd) (h : ∀ (kV doc pm : Value) (an : Option Addr) (cdv ct u1 : Value), bindArgs (PySem.W.fnOf x qual (defArgs st) (defBody st) (defScope st) .none kV doc pm an cdv ct) ⟨[u1], []⟩ = pure [(p1, u1)]) : Binds K fd [p1] [] :=
  F.binds fun kV doc pm an cdv ct us hl => by
    obtain ⟨u1, r1, rfl, l1⟩ := uncons hl
    cases List.eq_nil_of_length_eq_zero l1
    exact h kV doc pm an cdv ct u1
theorem binds2 (F : Fun K x qual st f fd) (h : ∀ (kV doc pm : Value) (an : Option Addr) (cdv ct u1 u2 : Value), bindArgs (PySem.W.fnOf x qual (defArgs st) (defBody st) (defScope st) .none kV doc pm an cdv ct) ⟨[u1, u2], []⟩ = pure [(p1, u1), (p2, u2)]) : Binds K fd [p1, p2] [] :=
  F.binds fun kV doc pm an cdv ct us hl => by
    obtain ⟨u1, r1, rfl, l1⟩ := uncons hl
    obtain ⟨u2, r2, rfl, l2⟩ := uncons l1
    cases List.eq_nil_of_length_eq_zero l2
    exact h kV doc pm an cdv ct u1 u2
theorem binds3 (F : Fun K x qual st f fd) (h : ∀ (kV doc pm : Value) (an : Option Addr) (cdv ct u1 u2 u3 : Value), bindArgs (PySem.W.fnOf x qual (defArgs st) (defBody st) (defScope st) .none kV doc pm an cdv ct) ⟨[u1, u2, u3], []⟩ = pure [(p1, u1), (p2, u2), (p3, u3)]) : Binds K fd [p1, p2, p3] [] :=
  F.binds fun kV doc pm an cdv ct us hl => by
    obtain ⟨u1, r1, rfl, l1⟩ := uncons hl
    obtain ⟨u2, r2, rfl, l2⟩ := uncons l1
    obtain ⟨u3, r3, rfl, l3⟩ := uncons l2
    cases List.eq_nil_of_length_eq_zero l3
    exact h kV doc pm an cdv ct u1 u2 u3
end
end L2


/-! TEXTS: join, split, slices; a try whose body raises nothing. -/
namespace L2
open PySem PySem.Spec PyProof.Rows
section
variable {X : Cx}
theorem carried_strs : ∀ {ws : List Str} {us : List Value}, Vals (ws.map V.str) us → CarriedAll us ((ws.map id).map PyData.str)
  | [], _, .nil => .nil
  | _ :: _, _, .cons ⟨_, e⟩ r => by subst e; exact .cons (.str _ _) (carried_strs r)
def rJoin (K : PySem.W.Frag) : V → List V → Hp → VK → Prop := fun x xs H Q => ∃ (z : Str) (p : Addr) (ws : List Str), x = .str z ∧ xs = [.ref p] ∧ SqL K H p (ws.map V.str) ∧ (∀ w ∈ ws, w.length ≤ 8) ∧ ws.length ≤ 1000 ∧ z.length ≤ 8 ∧ Q (.str (Str.join z ws)) H
theorem mt_join : MtR X "str.join" (rJoin X.K) := by
  intro pins s σ H x xs v us Q I rx rs h
  obtain ⟨z, p, ws, rfl, rfl, hq, h8, hl, hz, q⟩ := h
  obtain ⟨t, rfl⟩ := rx
  obtain ⟨u, rfl, rfl⟩ := vals1 rs
  obtain ⟨its, r', pl, hz'⟩ := I.list hq
  refine join_madeW (l := ws) (g := id) 8 pl.isList (carried_strs r') h8 (by omega) (by omega) fun t' k => ?_
  refine ⟨.str _, H, I.tok _, ⟨_, rfl⟩, ?_⟩
  show Q (.str (Builtin.Str.glued z (ws.map id))) H
  rw [StrLaws.glued_eq_join, List.map_id]
  exact q
theorem mt_joinK {K : PySem.W.Frag} (e : X.K = K := by rfl) : MtR X "str.join" (rJoin K) := by subst e; exact mt_join
theorem vals_strs : ∀ (ws : List Str) (k : Nat), Vals (ws.map V.str) (strsFrom k ws)
  | [], _ => .nil
  | _ :: r, k => .cons ⟨_, rfl⟩ (vals_strs r (k + 1))
/-- a new list -/
theorem Inv.newL {pins : List (Addr × Obj)} {σ : St} {H : Hp} {s : Shared} {ys : List V} {its : List Value} {t' : Nat} {Q : VK} (I : Inv X pins σ H s) (hv : Vals ys its) (hz : ys.length ≤ sizeLine) (q : ∀ p, H p = none → Q (.ref p) (upd H p (.lst ys))) :
    EP X pins σ Q (.ref s.heap.objs.size) { s with heap := s.heap.push { cls := .type "list", data := .seq its.toArray }, toks := t' } :=
  ⟨.ref s.heap.objs.size, _, I.laid (t' := t') (o := .lst ys) (fun b ob z => Heap.get?_push_of_some _ z) (Nat.le_refl _) ⟨hz, _, 0, hv, Heap.get?_push_size _ rfl⟩, rfl, q _ (I.hok.fresh (Nat.le_refl _))⟩
theorem mt_split : MtR X "str.split" (fun x xs H Q => ∃ (z y : Str), x = .str z ∧ xs = [.str y] ∧ (y.length == 0) = false ∧ z.length ≤ 1000 ∧ ∀ p, H p = none → Q (.ref p) (upd H p (.lst ((Txt.split z y).map V.str)))) := by
  intro pins s σ H x xs v us Q I rx rs h
  obtain ⟨z, y, rfl, rfl, hy, hl, q⟩ := h
  obtain ⟨t, rfl⟩ := rx
  obtain ⟨u, rfl, t2, rfl⟩ := vals1 rs
  have hn : (Builtin.Str.partsBetween z (Builtin.Str.occurrences z y 0 z.length (z.length + 1)) y.length).length ≤ sizeLine := by
    have a := len_partsBetween z (Builtin.Str.occurrences z y 0 z.length (z.length + 1)) y.length
    have b := StrLaws.occ_length_le z y 0 z.length (z.length + 1)
    have c : 2000 ≤ sizeLine := by decide
    omega
  have hx : z.length ≤ sizeLine := Nat.le_trans hl (by decide)
  unfold Txt.split at q
  cases h1 : (decide (z.length < y.length) || decide (Builtin.Str.strKind z < Builtin.Str.strKind y)) with
  | true =>
    rw [if_pos h1] at q
    exact call_meets PySem.F.slot_str_split (typeIs_str _ _ _) PySem.F.entry_str_split (PySem.F.args_str_split_2 _ _) (meets_str_split_cannot_occur z y t t2 h1) (I.newL (ys := [.str z]) (its := [.str z t]) (t' := s.toks) (.cons ⟨_, rfl⟩ .nil) (by show 1 ≤ sizeLine; decide) q)
  | false =>
    rw [if_neg (by rw [h1]; decide)] at q
    cases h2 : (Builtin.Str.occurrences z y 0 z.length (z.length + 1)).isEmpty with
    | true =>
      rw [if_pos h2] at q
      exact call_meets PySem.F.slot_str_split (typeIs_str _ _ _) PySem.F.entry_str_split (PySem.F.args_str_split_2 _ _) (meets_str_split_not_found z y t t2 h1 hy h2) (I.newL (ys := [.str z]) (its := [.str z t]) (t' := s.toks) (.cons ⟨_, rfl⟩ .nil) (by show 1 ≤ sizeLine; decide) q)
    | false =>
      rw [if_neg (by rw [h2]; decide)] at q
      exact call_meets PySem.F.slot_str_split (typeIs_str _ _ _) PySem.F.entry_str_split (PySem.F.args_str_split_2 _ _) (meets_str_split_sep z y t t2 h1 hy h2 hx hn) (I.newL (vals_strs _ _) (by rw [List.length_map]; exact hn) q)
def rSlS : V → Option Int → Option Int → Hp → VK → Prop := fun x lo hi H Q => ∃ z : Str, x = .str z ∧ z.length ≤ sizeLine ∧ Q (.str (Txt.slice z lo hi)) H
theorem part_of {v : Value} {o : Option Int} (p : IsPart v o) : ∃ l : Option (Int × Tok), v = partValue l ∧ l.map (·.1) = o := by
  cases p with
  | none => exact ⟨none, rfl, rfl⟩
  | int i t => exact ⟨some (i, t), rfl, rfl⟩
theorem sl_str : SlR X rSlS := by
  intro pins s σ H x v vl vu lo hi sl Q I rx hs pl pu h
  obtain ⟨z, rfl, hz, q⟩ := h
  obtain ⟨t, rfl⟩ := rx
  obtain ⟨l, rfl, rfl⟩ := part_of pl
  obtain ⟨u, rfl, rfl⟩ := part_of pu
  refine ⟨"str", _, PySem.F.slot_str_getitem.lookup, typeIs_str _ _ _, wpAny_getItem_str_slice (l := l) (u := u) (st := none) hs rfl (post_val_or_str ⟨Nat.le_trans (Txt.slice_le z (l.map (·.1)) (u.map (·.1))) hz, fun t' k => ?_⟩)⟩
  exact ⟨.str _, H, I.tok _, ⟨_, rfl⟩, q⟩
end

/-! ### the words of a text -/
abbrev spc : Str := ⟨#[32]⟩
theorem ofS_spc : Str.ofString " " = spc := by decide +kernel
def cpl (x : Str) : List Nat := x.cps.toList
theorem cpl_inj {x y : Str} (h : cpl x = cpl y) : x = y := Str.ext' (Array.toList_inj.mp h)
theorem cpl_app (x y : Str) : cpl (x ++ y) = cpl x ++ cpl y := by unfold cpl; rw [Str.cps_append, Array.toList_append]
theorem cpl_join (a : Str) : ∀ r : List Str, cpl (Str.join spc (a :: r)) = cpl a ++ r.flatMap fun w => 32 :: cpl w
  | [] => by simp [Str.join, cpl]
  | b :: r => by
    show cpl (a ++ spc ++ Str.join spc (b :: r)) = _
    rw [cpl_app, cpl_app, cpl_join b r, List.flatMap_cons]
    simp [cpl, spc]
/-- as the law writes it: a space ahead of each word, the first sign cut off -/
theorem join_drop (ws : List Str) : cpl (Str.join spc ws) = (ws.flatMap fun w => 32 :: cpl w).drop 1 := by
  cases ws with
  | nil => simp [Str.join, cpl, Str.empty]
  | cons a r => rw [cpl_join, List.flatMap_cons]; rfl
/-! ### the words of cakes -/
def wordOf (c : Int) : Str := Str.ofString (toString c)
def cakesW : List Int := [1, 2, 3, 4, 5, 6, 7, 8, 9, 10, 11, 12, -1, -2, -3, -4, -5, -6, -7, -8, -9, -10, -11, -12]
theorem cakesW_mem {c : Int} (h0 : c ≠ 0) (h1 : -12 ≤ c) (h2 : c ≤ 12) : c ∈ cakesW := by
  have : c = 1 ∨ c = 2 ∨ c = 3 ∨ c = 4 ∨ c = 5 ∨ c = 6 ∨ c = 7 ∨ c = 8 ∨ c = 9 ∨ c = 10 ∨ c = 11 ∨ c = 12 ∨ c = -1 ∨ c = -2 ∨ c = -3 ∨ c = -4 ∨ c = -5 ∨ c = -6 ∨ c = -7 ∨ c = -8 ∨ c = -9 ∨ c = -10 ∨ c = -11 ∨ c = -12 := by omega
  unfold cakesW
  simp only [List.mem_cons, List.not_mem_nil, or_false]
  exact this
theorem word_len : ∀ c ∈ cakesW, (wordOf c).length ≤ 8 := by decide +kernel
theorem word_log : ∀ c ∈ cakesW, c.natAbs.log2 < 1920 := by decide +kernel
def knownBy : Nat → Str → Option V
  | 0, _ => none
  | n + 1, w => if w = wordOf (-((n : Int) + 1)) then some (.int (-((n : Int) + 1))) else if w = wordOf ((n : Int) + 1) then some (.int ((n : Int) + 1)) else knownBy n w
theorem knownBy_succ (n : Nat) (w : Str) : knownBy (n + 1) w = if w = wordOf (-((n : Int) + 1)) then some (.int (-((n : Int) + 1))) else if w = wordOf ((n : Int) + 1) then some (.int ((n : Int) + 1)) else knownBy n w := rfl
theorem known_all : ∀ c ∈ cakesW, knownBy 12 (wordOf c) = some (.int c) := by decide +kernel
theorem known_some : ∀ {n : Nat} {w : Str} {v : V}, knownBy n w = some v → ∃ c : Int, v = .int c ∧ w = wordOf c ∧ c ≠ 0 ∧ -(n : Int) ≤ c ∧ c ≤ n
  | 0, _, _, h => nomatch h
  | n + 1, w, v, h => by
    unfold knownBy at h
    split at h
    · rename_i e
      cases h
      exact ⟨_, rfl, e, by omega, by omega, by omega⟩
    · split at h
      · rename_i e
        cases h
        exact ⟨_, rfl, e, by omega, by omega, by omega⟩
      · obtain ⟨c, h1, h2, h3, h4, h5⟩ := known_some h
        exact ⟨c, h1, h2, h3, by omega, by omega⟩
end L2


/-! WHAT RUNS ends in one way: two promises of one run hold together. -/
namespace L2
open PySem PySem.Spec PyProof.Rows
theorem runs_det {M : Model} {Γ : PySem.Ctx} {p : Pos} {t : Sem Fin} {fs : List Frame} {s s' : Shared} {e : End} (h : Runs M Γ p t fs s e s') : ∀ {e2 : End} {s2 : Shared}, Runs M Γ p t fs s e2 s2 → e = e2 ∧ s' = s2 := by
  induction h with
  | done => intro _ _ h2; cases h2; exact ⟨rfl, rfl⟩
  | raise => intro _ _ h2; cases h2; exact ⟨rfl, rfl⟩
  | again _ _ ih => intro _ _ h2; cases h2 with | again _ x => exact ih x
  | rule _ ih => intro _ _ h2; cases h2 with | rule x => exact ih x
  | «at» _ ih => intro _ _ h2; cases h2 with | «at» x => exact ih x
  | load ho _ ih => intro _ _ h2; cases h2 with | load ho' x => rw [ho] at ho'; cases ho'; exact ih x
  | update _ _ ih => intro _ _ h2; cases h2 with | update _ x => exact ih x
  | loadIfAlive _ ih => intro _ _ h2; cases h2 with | loadIfAlive x => exact ih x
  | point _ ih => intro _ _ h2; cases h2 with | point x => exact ih x
  | alloc _ ih => intro _ _ h2; cases h2 with | alloc x => exact ih x
  | fresh _ ih => intro _ _ h2; cases h2 with | fresh x => exact ih x
  | ask _ ih => intro _ _ h2; cases h2 with | ask x => exact ih x
  | choose _ _ ih => intro _ _ h2; cases h2 with | choose _ x => exact ih x
  | os _ ih => intro _ _ h2; cases h2 with | os x => exact ih x
  | handled _ ih => intro _ _ h2; cases h2 with | handled x => exact ih x
  | genState ho _ ih => intro _ _ h2; cases h2 with | genState ho' x => rw [ho] at ho'; cases ho'; exact ih x
  | stack _ ih => intro _ _ h2; cases h2 with | stack x => exact ih x
  | thread _ ih => intro _ _ h2; cases h2 with | thread x => exact ih x
  | newGen _ ih => intro _ _ h2; cases h2 with | newGen x => exact ih x
  | call _ _ ih1 ih2 =>
    intro _ _ h2
    cases h2 with
    | call a b => obtain ⟨e1, e2⟩ := ih1 a; cases e1; subst e2; exact ih2 b
    | callSusp a => exact nomatch (ih1 a).1
  | callSusp _ ih =>
    intro _ _ h2
    cases h2 with
    | call a b => exact nomatch (ih a).1
    | callSusp a => obtain ⟨e1, e2⟩ := ih a; cases e1; subst e2; exact ⟨rfl, rfl⟩
  | yield => intro _ _ h2; cases h2; exact ⟨rfl, rfl⟩
  | resumeFresh hg _ _ _ ih1 ih2 =>
    intro _ _ h2
    cases h2 with
    | resumeFresh hg' a _ b => rw [hg] at hg'; cases hg'; obtain ⟨e1, e2⟩ := ih1 a; subst e1 e2; exact ih2 b
    | resumeSuspended hg' _ _ _ => rw [hg] at hg'; cases hg'
    | resumeJustStarted hg' hv _ => exact absurd rfl hv
    | resumeRunning hg' _ => rw [hg] at hg'; cases hg'
    | resumeFinished hg' _ => rw [hg] at hg'; cases hg'
  | resumeSuspended hg _ _ _ ih1 ih2 =>
    intro _ _ h2
    cases h2 with
    | resumeFresh hg' a _ b => rw [hg] at hg'; cases hg'
    | resumeSuspended hg' a _ b => rw [hg] at hg'; cases hg'; obtain ⟨e1, e2⟩ := ih1 a; subst e1 e2; exact ih2 b
    | resumeJustStarted hg' hv _ => rw [hg] at hg'; cases hg'
    | resumeThrowFresh hg' _ => rw [hg] at hg'; cases hg'
    | resumeRunning hg' _ => rw [hg] at hg'; cases hg'
    | resumeFinished hg' _ => rw [hg] at hg'; cases hg'
  | resumeJustStarted hg hv _ ih =>
    intro _ _ h2
    cases h2 with
    | resumeFresh hg' a _ b => exact absurd rfl hv
    | resumeSuspended hg' a _ b => rw [hg] at hg'; cases hg'
    | resumeJustStarted hg' _ x => exact ih x
    | resumeRunning hg' _ => rw [hg] at hg'; cases hg'
    | resumeFinished hg' _ => rw [hg] at hg'; cases hg'
  | resumeThrowFresh hg _ ih =>
    intro _ _ h2
    cases h2 with
    | resumeSuspended hg' a _ b => rw [hg] at hg'; cases hg'
    | resumeThrowFresh hg' x => exact ih x
    | resumeRunning hg' _ => rw [hg] at hg'; cases hg'
    | resumeFinished hg' _ => rw [hg] at hg'; cases hg'
  | resumeRunning hg _ ih =>
    intro _ _ h2
    cases h2 with
    | resumeFresh hg' a _ b => rw [hg] at hg'; cases hg'
    | resumeSuspended hg' a _ b => rw [hg] at hg'; cases hg'
    | resumeJustStarted hg' _ _ => rw [hg] at hg'; cases hg'
    | resumeThrowFresh hg' _ => rw [hg] at hg'; cases hg'
    | resumeRunning hg' x => exact ih x
    | resumeFinished hg' _ => rw [hg] at hg'; cases hg'
  | resumeFinished hg _ ih =>
    intro _ _ h2
    cases h2 with
    | resumeFresh hg' a _ b => rw [hg] at hg'; cases hg'
    | resumeSuspended hg' a _ b => rw [hg] at hg'; cases hg'
    | resumeJustStarted hg' _ _ => rw [hg] at hg'; cases hg'
    | resumeThrowFresh hg' _ => rw [hg] at hg'; cases hg'
    | resumeRunning hg' _ => rw [hg] at hg'; cases hg'
    | resumeFinished hg' x => exact ih x
  | segRet _ _ ih1 ih2 =>
    intro _ _ h2
    cases h2 with
    | segRet a b => obtain ⟨e1, e2⟩ := ih1 a; cases e1; subst e2; exact ih2 b
    | segSuspOut _ a => exact nomatch (ih1 a).1
    | segSuspGen _ a _ _ => exact nomatch (ih1 a).1
  | segGen _ _ ih1 ih2 =>
    intro _ _ h2
    cases h2 with
    | segGen a b => obtain ⟨e1, e2⟩ := ih1 a; cases e1; subst e2; exact ih2 b
    | segSuspOut _ a => exact nomatch (ih1 a).1
    | segSuspGen _ a _ _ => exact nomatch (ih1 a).1
  | segSuspOut hs _ ih =>
    intro _ _ h2
    cases h2 with
    | segRet a b => exact nomatch (ih a).1
    | segGen a b => exact nomatch (ih a).1
    | segSuspOut _ a => obtain ⟨e1, e2⟩ := ih a; cases e1; subst e2; exact ⟨rfl, rfl⟩
    | segSuspGen hs' _ _ _ => rw [hs] at hs'; cases hs'
  | segSuspGen hs _ _ _ ih1 ih2 =>
    intro _ _ h2
    cases h2 with
    | segRet a b => exact nomatch (ih1 a).1
    | segGen a b => exact nomatch (ih1 a).1
    | segSuspOut hs' _ => rw [hs] at hs'; cases hs'
    | segSuspGen hs' a _ b => rw [hs] at hs'; cases hs'; obtain ⟨e1, e2⟩ := ih1 a; cases e1; subst e2; exact ih2 b
theorem wakes_det {M : Model} {Γ : PySem.Ctx} {p : Pos} {g : Nat} {r : Resume} {s s1 s2 : Shared} {a b : GenResult} (h : Wakes M Γ p g r s a s1) (h' : Wakes M Γ p g r s b s2) : a = b ∧ s1 = s2 := by
  unfold Wakes at h h'
  generalize s.gens[g]? = o at h h'
  match o, h, h' with
  | some (.fresh c), h, h' =>
    match r, h, h' with
    | .throw x, h, h' => exact ⟨h.1.trans h'.1.symm, h.2.trans h'.2.symm⟩
    | .send v, h, h' =>
      by_cases hv : v = .none
      · subst hv
        obtain ⟨e1, t1, x1, _, q1, q2⟩ := h
        obtain ⟨e2, t2, x2, _, q3, q4⟩ := h'
        obtain ⟨z1, z2⟩ := runs_det x1 x2
        subst z1 z2
        exact ⟨q1.trans q3.symm, q2.trans q4.symm⟩
      · cases v <;> first | exact absurd rfl hv | exact ⟨h.1.trans h'.1.symm, h.2.trans h'.2.symm⟩
  | some (.suspended ..), h, h' =>
    obtain ⟨e1, t1, x1, _, q1, q2⟩ := h
    obtain ⟨e2, t2, x2, _, q3, q4⟩ := h'
    obtain ⟨z1, z2⟩ := runs_det x1 x2
    subst z1 z2
    exact ⟨q1.trans q3.symm, q2.trans q4.symm⟩
  | some .running, h, h' => exact ⟨h.1.trans h'.1.symm, h.2.trans h'.2.symm⟩
  | some .finished, h, h' => exact ⟨h.1.trans h'.1.symm, h.2.trans h'.2.symm⟩
/-- what holds of each end holds of the one end -/
theorem wp_both {M : Model} {Γ : PySem.Ctx} {α : Type} {Q Q' : α → Pos → Shared → Prop} {E E' : Value → Pos → Shared → Prop} : ∀ (t : Sem α) (p : Pos) (s : Shared), Sem.wp M Γ t Q E p s → Sem.wp M Γ t Q' E' p s →
    Sem.wp M Γ t (fun a p s => Q a p s ∧ Q' a p s) (fun a p s => E a p s ∧ E' a p s) p s := by
  intro t
  induction t with
  | pure a => intro p s h h'; exact ⟨h, h'⟩
  | raise e => intro p s h h'; exact ⟨h, h'⟩
  | unsupported _ => intro p s h h'; exact h
  | finish _ => intro p s h h'; exact h
  | rule _ k ih => intro p s h h'; exact ih () p s h h'
  | «at» p' k ih => intro p s h h'; exact ih () p' s h h'
  | load a _ k ih => intro p s h h'; obtain ⟨o, e, h⟩ := h; obtain ⟨o', e', h'⟩ := h'; rw [e] at e'; cases e'; exact ⟨o, e, ih o p s h h'⟩
  | update a _ f k ih => intro p s h h'; exact ⟨h.1, ih () p _ h.2 h'.2⟩
  | loadIfAlive a k ih => intro p s h h'; exact ih _ p s h h'
  | point _ k ih => intro p s h h'; exact ih () p s h h'
  | register _ _ => intro p s h h'; exact h
  | alloc o k ih => intro p s h h'; exact ih _ p _ h h'
  | fresh k ih => intro p s h h'; exact ih _ p _ h h'
  | ask k ih => intro p s h h'; exact ih _ p s h h'
  | choose src n k ih => intro p s h h'; exact ⟨h.1, ih _ p _ h.2 h'.2⟩
  | os q _ k ih => intro p s h h'; exact ih _ p _ h h'
  | call c hd g l k ih =>
    intro p s h h'
    obtain ⟨r, s1, e, h⟩ := h
    obtain ⟨r', s1', e', h'⟩ := h'
    obtain ⟨z1, z2⟩ := runs_det e e'
    cases z1
    subst z2
    exact ⟨r, s1, e, ih r p s1 h h'⟩
  | handled own k ih => intro p s h h'; exact ih _ p s h h'
  | genState g k ih => intro p s h h'; obtain ⟨o, e, h⟩ := h; obtain ⟨o', e', h'⟩ := h'; rw [e] at e'; cases e'; exact ⟨o, e, ih _ p s h h'⟩
  | newGen c k ih => intro p s h h'; exact ih _ p _ h h'
  | resume g r l k ih =>
    intro p s h h'
    obtain ⟨r1, s1, e, h⟩ := h
    obtain ⟨r1', s1', e', h'⟩ := h'
    obtain ⟨z1, z2⟩ := wakes_det e e'
    subst z1 z2
    exact ⟨r1, s1, e, ih r1 p s1 h h'⟩
  | yield _ _ _ _ => intro p s h h'; exact h
  | stack k ih => intro p s h h'; exact ih _ p s h h'
  | fork => intro p s h h'; exact h
  | thread k ih => intro p s h h'; exact ih _ p s h h'
  | await => intro p s h h'; exact h
theorem wpAny_both {M : Model} {A : Around} {α : Type} {t : Sem α} {Q Q' : α → Shared → Prop} {E E' : Value → Shared → Prop} {s : Shared} (h : wpAny M A t Q E s) (h' : wpAny M A t Q' E' s) : wpAny M A t (fun a s => Q a s ∧ Q' a s) (fun a s => E a s ∧ E' a s) s :=
  fun Γ p hΓ => wp_both t p s (h Γ p hΓ) (h' Γ p hΓ)
end L2

namespace L2
open PySem PySem.Spec PyProof.Rows
/-- an exception's place for what was handled when it came is empty -/
def F2 (e : Addr) (h : Heap) : Prop := ∃ o vs, h.get? e = some o ∧ o.data = .fields vs ∧ vs[2]? = some Value.none
theorem F2.up {h : Heap} {e b : Addr} {i : Nat} {x : Value} (f : F2 e h) (hi : i ≠ 2) : F2 e (h.update b (Obj.mapFields (·.setIfInBounds i x))) := by
  obtain ⟨o, vs, ho, hd, h2⟩ := f
  by_cases hb : b = e
  · subst hb
    have hd' := Obj.data_mapFields hd (·.setIfInBounds i x)
    exact ⟨_, _, Heap.get?_update_self _ ho (Obj.isFreed_of_fields hd'), hd', by rw [Array.getElem?_setIfInBounds_ne hi]; exact h2⟩
  · exact ⟨o, vs, by rw [Heap.get?_update_other _ _ hb]; exact ho, hd, h2⟩
theorem F2.push {h : Heap} {e : Addr} {o : Obj} (f : F2 e h) : F2 e (h.push o) := by
  obtain ⟨ob, vs, ho, r⟩ := f
  exact ⟨ob, vs, Heap.get?_push_of_some _ ho, r⟩
section
variable {M : Model} {A : Around} {E : Value → Shared → Prop} {s : Shared} {base : Heap} {env : Env} {outer : List Env} {L e : Addr}
theorem entry_F2 {head : Value} {hadNext : Bool} (hfr : A.frames = some (env :: outer)) (hl : s.heap.FunFrames base (env :: outer)) (hf : env.frame = some L) (f : F2 e s.heap) :
    wpAny M A (do let a ← frameOf env; let pl ← entryPlaceOf L hadNext; let b ← EntryCells.newEntry head a .none (rawInt L) .none pl; setField (.ref e) 1 b) (fun _ s' => F2 e s'.heap) E s := by
  obtain ⟨oe, vs, he, hd, h2⟩ := f
  have out : e ∉ (env :: outer).filterMap (·.frame) := fun hm => by
    obtain ⟨_, o, ho, nf⟩ := hl.mem hm
    rw [he] at ho
    cases ho
    exact nf vs hd
  refine wpAny_bind (wpAny_frameOf_fun hfr hl hf fun g hs => wpAny_bind (wpAny_entryPlaceOf fun pl hpl => ?_))
  unfold EntryCells.newEntry newFields
  have f1 : F2 e g := ⟨oe, vs, (hs.2.1 e out).trans he, hd, h2⟩
  refine wpAny_bind (wpAny_newObj_type ?_ (hpl.sizeOk5 _ _ _ _ _))
  have two : 2 < vs.size := (Array.getElem?_eq_some_iff.mp h2).1
  exact wpAny_setField (Heap.get?_push_of_some _ ((hs.2.1 e out).trans he)) hd (by omega) (f1.push.up (by decide))
theorem flight_F2 {cls a0 fl : Value} (ht : s.heap.TracedAtW base e cls a0 fl) (f : F2 e s.heap) : wpAny M A (setFlight (.ref e) none) (fun _ s' => F2 e s'.heap) E s := by
  obtain ⟨oe, vs, T, oT, ts, he, _, hd, h1, _, _, hT, hdT, h3⟩ := ht
  unfold setFlight
  refine wpAny_bind (wpAny_field he hd h1 ?_)
  rw [if_pos (show (Value.ref T != Value.none) = true from by simp)]
  exact wpAny_setField hT hdT (Array.getElem?_eq_some_iff.mp h3).1 (f.up (by decide))
theorem note_F2 {cls a0 : Value} (hfr : A.frames = some (env :: outer)) (hl : s.heap.FunFrames base (env :: outer)) (hf : env.frame = some L) (ht : s.heap.TracedW base e cls a0) (f : F2 e s.heap) :
    wpAny M A (noteFrame (.ref e) env) (fun _ s' => F2 e s'.heap) E s := by
  obtain ⟨oe, vs, T, oT, ts, he, _, hd, h1, _, ne, hT, hdT, h3⟩ := ht
  unfold noteFrame
  simp only [hf]
  refine wpAny_bind (wpAny_field he hd h1 ?_)
  rw [if_pos (show (Value.ref T != Value.none) = true from by simp)]
  refine wpAny_bind (wpAny_field hT hdT h3 ?_)
  rw [if_neg (show ¬ ((Value.none == rawInt L) = true) from by simp [rawInt])]
  refine wpAny_bind (wpAny_setField hT hdT (Array.getElem?_eq_some_iff.mp h3).1 ?_)
  refine entry_F2 hfr (hl.of_keeps fun b o hb nf => ⟨o, ?_, rfl⟩) hf (f.up (by decide))
  have nb : T ≠ b := fun z => by
    rw [← z, hT] at hb
    cases hb
    exact nf ts hdT
  rw [Heap.get?_update_other _ _ nb]
  exact hb
/-- the stations of an exception, with that place -/
theorem leaves2 {cls a0 : Value} {Q : Unit → Shared → Prop} (hfr : A.frames = some (env :: outer)) (hf : env.frame = some L) (fl : Heap.FlyingW base (env :: outer) e cls a0 s.heap) (f : F2 e s.heap)
    (hQ : ∀ h', Heap.FlyingW base outer e cls a0 h' → s.heap.UpToSlots h' → F2 e h' → Q () { s with heap := h' }) : wpAny M A (leaving env (.ref e)) Q E s := by
  have two : wpAny M A (leaving env (.ref e)) (fun _ s' => F2 e s'.heap) E s := by
    unfold leaving
    refine wpAny_bind (wpAny_mono (wpAny_both (wpAny_noteFrame_onW (E := E) (Q := fun _ s' => ∃ h', s' = { s with heap := h' } ∧ Heap.NotedW base (env :: outer) e cls a0 (rawInt L) s.heap h') hfr fl.2.2.1 hf fl.2.2.2 fl.1 fl.2.1 fun h' N => ⟨h', rfl, N⟩)
      (note_F2 (E := E) hfr fl.2.2.1 hf fl.2.2.2 f)) (fun _ s' q => ?_) fun _ _ q => q.1)
    obtain ⟨⟨h', rfl, N⟩, f'⟩ := q
    exact flight_F2 N.2.2.1 f'
  refine wpAny_mono (wpAny_both (wpAny_leaves_onW (E := E) (Q := fun _ s' => ∃ h', s' = { s with heap := h' } ∧ Heap.FlyingW base outer e cls a0 h' ∧ s.heap.UpToSlots h') hfr hf fl fun h' F U => ⟨h', rfl, F, U⟩) two) (fun _ s' q => ?_) fun _ _ q => q.1
  obtain ⟨⟨h', rfl, F, U⟩, f'⟩ := q
  exact hQ h' F U f'
theorem looks2 {cls a0 : Value} {Q : Unit → Shared → Prop} (hfr : A.frames = some (env :: outer)) (hf : env.frame = some L) (fl : Heap.FlyingW base (env :: outer) e cls a0 s.heap) (f : F2 e s.heap)
    (hQ : ∀ h', Heap.HeldW base (env :: outer) e cls a0 L h' → s.heap.UpToSlots h' → F2 e h' → Q () { s with heap := h' }) : wpAny M A (noteFrame (.ref e) env) Q E s := by
  refine wpAny_mono (wpAny_both (wpAny_looks_onW (E := E) (Q := fun _ s' => ∃ h', s' = { s with heap := h' } ∧ Heap.HeldW base (env :: outer) e cls a0 L h' ∧ s.heap.UpToSlots h') hfr hf fl fun h' F U => ⟨h', rfl, F, U⟩) (note_F2 (E := E) hfr fl.2.2.1 hf fl.2.2.2 f)) (fun _ s' q => ?_) fun _ _ q => q.1
  obtain ⟨⟨h', rfl, F, U⟩, f'⟩ := q
  exact hQ h' F U f'
theorem lands2 {l : List Env} {cls a0 : Value} {Q : Unit → Shared → Prop} (hh : Heap.HeldW base l e cls a0 L s.heap) (f : F2 e s.heap)
    (hQ : ∀ h', Heap.FlyingW base l e cls a0 h' → s.heap.UpToSlots h' → F2 e h' → Q () { s with heap := h' }) : wpAny M A (setFlight (.ref e) none) Q E s := by
  refine wpAny_mono (wpAny_both (wpAny_landsW (E := E) (Q := fun _ s' => ∃ h', s' = { s with heap := h' } ∧ Heap.FlyingW base l e cls a0 h' ∧ s.heap.UpToSlots h') hh fun h' F U => ⟨h', rfl, F, U⟩) (flight_F2 (E := E) hh.2.2.2 f)) (fun _ s' q => ?_) fun _ _ q => q.1
  obtain ⟨⟨h', rfl, F, U⟩, f'⟩ := q
  exact hQ h' F U f'
theorem again2 {l : List Env} {cls a0 : Value} {Q : Unit → Shared → Prop} (fl : Heap.FlyingW base l e cls a0 s.heap) (f : F2 e s.heap)
    (hQ : ∀ h', Heap.FlyingW base l e cls a0 h' → s.heap.UpToSlots h' → F2 e h' → Q () { s with heap := h' }) : wpAny M A (setFlight (.ref e) none) Q E s := by
  refine wpAny_mono (wpAny_both (lands_againW (E := E) (Q := fun _ s' => ∃ h', s' = { s with heap := h' } ∧ Heap.FlyingW base l e cls a0 h' ∧ s.heap.UpToSlots h') fl fun h' F U => ⟨h', rfl, F, U⟩) (flight_F2 (E := E) fl.2.2.2.at f)) (fun _ s' q => ?_) fun _ _ q => q.1
  obtain ⟨⟨h', rfl, F, U⟩, f'⟩ := q
  exact hQ h' F U f'
/-- a new exception leaves its frame: whatever its other places hold -/
theorem leaves_new {oe : Obj} {vs : Array Value} {a0 : Value} {Q : Unit → Shared → Prop} (hfr : A.frames = some (env :: outer)) (hf : env.frame = some L) (hkb : base.StaysIn s.heap) (hl : s.heap.FunFrames base (env :: outer))
    (he : s.heap.get? e = some oe) (hen : base.get? e = none) (hd : oe.data = .fields vs) (h1 : vs[1]? = some .none) (h0 : vs[0]? = some a0)
    (hQ : ∀ h', Heap.FlyingW base outer e oe.cls a0 h' → s.heap.UpToSlots h' → (vs[2]? = some .none → F2 e h') → Q () { s with heap := h' }) : wpAny M A (leaving env (.ref e)) Q E s := by
  have one := wpAny_leaving_firstW (M := M) (A := A) (E := E) (Q := fun _ s' => ∃ h', s' = { s with heap := h' } ∧ Heap.LeftW base (env :: outer) e oe.cls a0 s.heap h') hfr hl hf he hkb hen hd h1 h0 fun h' L => ⟨h', rfl, L⟩
  have fin : ∀ h', Heap.LeftW base (env :: outer) e oe.cls a0 s.heap h' → Heap.FlyingW base outer e oe.cls a0 h' ∧ s.heap.UpToSlots h' := fun h' L => by
    obtain ⟨k1, ⟨_, _, k2⟩, k3, k4⟩ := L
    exact ⟨⟨k1, hen, k2, k3⟩, k4⟩
  by_cases h2 : vs[2]? = some .none
  · have two : wpAny M A (leaving env (.ref e)) (fun _ s' => F2 e s'.heap) E s := by
      unfold leaving noteFrame
      simp only [hf]
      refine wpAny_bind (wpAny_bind (wpAny_field he hd h1 ?_))
      rw [if_neg (by decide)]
      refine wpAny_mono (wpAny_both (wpAny_entryW (E := E) (Q := fun _ s' => ∃ h', s' = { s with heap := h' } ∧ Heap.NotedW base (env :: outer) e oe.cls a0 (rawInt L) s.heap h') hfr hl hf he hkb hen hd (Array.getElem?_eq_some_iff.mp h1).1 h0 fun h' N => ⟨h', rfl, N⟩)
        (entry_F2 (E := E) hfr hl hf ⟨oe, vs, he, hd, h2⟩)) (fun _ s' q => ?_) fun _ _ q => q.1
      obtain ⟨⟨h', rfl, N⟩, f'⟩ := q
      exact flight_F2 N.2.2.1 f'
    refine wpAny_mono (wpAny_both one two) (fun _ s' q => ?_) fun _ _ q => q.1
    obtain ⟨⟨h', rfl, L⟩, f'⟩ := q
    exact hQ h' (fin h' L).1 (fin h' L).2 fun _ => f'
  · refine wpAny_mono one (fun _ s' q => ?_) fun _ _ q => q
    obtain ⟨h', rfl, L⟩ := q
    exact hQ h' (fin h' L).1 (fin h' L).2 fun z => absurd z h2
end
end L2


/-! RAISE .. FROM NONE in the suite of an except clause. -/
namespace L2
open PySem PySem.Spec PyProof.Rows
theorem entry_unchain : entryFor table "proto.unchain" = some Builtin.«proto.unchain» := entryFor_of_tree (by kernel_rfl)
section
variable {prog : Program} {w : World} {A : Around} {E : Value → Shared → Prop} {s : Shared}
theorem raiseNew_in {α : Type} {e h : Addr} {oe : Obj} {vs : Array Value} {Q : α → Shared → Prop} (hh : A.handled = some (.ref h)) (f : F2 h s.heap) (ne : h ≠ e) (he : s.heap.get? e = some oe) (hd : oe.data = .fields vs) (h2 : 2 < vs.size)
    (hE : E (.ref e) { s with heap := s.heap.update e (Obj.mapFields (·.setIfInBounds 2 (.ref h))) }) : wpAny (model prog w) A (raiseNew (.ref e) : Sem α) Q E s := by
  unfold raiseNew
  refine wpAny_bind (wpAny_bind (wpAny_handled ?_))
  rw [hh]
  refine wpAny_pure ?_
  simp only
  rw [if_pos (show (Value.ref h != Value.ref e) = true by simp [ne])]
  obtain ⟨o, us, ho, hod, hu⟩ := f
  refine wpAny_bind (wpAny_holding (wpAny_runValue (codeAny_builtin entry_unchain ?_)))
  unfold Builtin.«proto.unchain»
  simp only
  refine wpAny_bind (wpAny_field ho hod hu ?_)
  rw [if_pos (by rfl)]
  refine wpAny_pure ?_
  refine wpAny_bind (wpAny_setField (a := e) (x := .ref h) he hd h2 ?_)
  exact wpAny_throw hE
variable {nm q : Str} {C N : Addr} {bs bm : List Value} {hdct : Bool} {sn : List Str} {sub : List Value} {ab : Bool} {col : Option Bool} {dd : Option Addr} {k0 k1 k2 k3 k5 : Option Value} {newId : String}
theorem raiseStmt_from {env : Env} {x c : Sem Value} {h : Addr} {Q : Flow → Shared → Prop} (hbase : bm.contains (.type "BaseException") = true) (hh : A.handled = some (.ref h)) (hc : ∀ (s : Shared) (Q : Value → Shared → Prop), Q .none s → wpAny (model prog w) A c Q E s)
    (hx : wpAny (model prog w) A x (fun v s₁ => ∃ e t, v = .ref e ∧ s₁.heap.get? C = some (excClassObj nm q C N bs bm hdct sn sub ab col dd k0 k1 k2 k3 k5 newId) ∧
      s₁.heap.get? e = some { cls := .ref C, data := .fields #[.ref t, .none, .none, .none, .bool false, .none] } ∧ F2 h s₁.heap ∧ h ≠ e ∧ C ≠ e ∧
      E (.ref e) { s₁ with heap := ((s₁.heap.update e (Obj.mapFields (·.setIfInBounds 3 .none))).update e (Obj.mapFields (·.setIfInBounds 4 (.bool true)))).update e (Obj.mapFields (·.setIfInBounds 2 (.ref h))) }) E s) :
    wpAny (model prog w) A (raiseStmt env (some x) (some c)) Q E s := by
  have hcB : (Value.ref C :: bm).contains (.type "BaseException") = true := by rw [List.contains_cons, hbase, Bool.or_true]
  unfold raiseStmt
  refine wpAny_bind (wpAny_mono hx (fun v s₁ h₁ => ?_) fun _ _ x => x)
  obtain ⟨e, t, rfl, hC, he, f, ne, nC, hE⟩ := h₁
  refine wpAny_bind (wpAny_holding (hc _ _ (wpAny_bind (wpAny_pure ?_))))
  simp only
  obtain ⟨hp, g, d, tk, os⟩ := s₁
  repeat (first | with_reducible refine wpAny_loadPart_at he ?_ | with_reducible refine wpAny_loadPart_at hC ?_ | (with_reducible refine wpAny_isSubtype_exc hC ?_; rw [hcB]) | wp_step)
  have d1 := Obj.data_mapFields (o := { cls := Value.ref C, data := .fields #[.ref t, .none, .none, .none, .bool false, .none] }) rfl (·.setIfInBounds 3 Value.none)
  have e1 := Heap.get?_update_self (Obj.mapFields (·.setIfInBounds 3 Value.none)) he (Obj.isFreed_of_fields d1)
  have d2 := Obj.data_mapFields d1 (·.setIfInBounds 4 (Value.bool true))
  have e2 := Heap.get?_update_self (Obj.mapFields (·.setIfInBounds 4 (Value.bool true))) e1 (Obj.isFreed_of_fields d2)
  exact raiseNew_in hh ((f.up (by decide)).up (by decide)) ne e2 d2 (by simp) hE
end
end L2
namespace L2
open PySem PySem.Spec PyProof.Rows
/-- exceptions that came while nothing was handled -/
def CXF (P : Program) (w : World) : CXT := fun outer H s E e s' => CXX P w outer H s E e s' ∧ ∀ ea, e = .ref ea → F2 ea s'.heap
section
variable {CX : CXT} {P : Program} {w : World} {K : PySem.W.Frag} {mg : Str → Option Value} {base : Heap} {N : List Str} {qual : Str} {sc : Scope} {f : Addr} {cd : Value} {A : Around} {outer : List Env} {s₀ : Shared} {H₀ : Hp} {E : XK}
/-- a new exception goes out of a body -/
theorem new_leave {pins : List (Addr × Obj)} {σ : St} {H : Hp} {s : Shared} {h' : Heap} {ea t : Addr} {oe : Obj} {vs : Array Value} {Ee : Value → Shared → Prop} (I : Inv (cxOf CX P w K mg base N qual sc f cd A outer s₀ H₀ E) pins σ H s)
    (keep : ∀ b o, s.heap.get? b = some o → h'.get? b = some o) (new : s.heap.get? ea = none) (he : h'.get? ea = some oe) (hd : oe.data = .fields vs) (h1 : vs[1]? = some .none) (h0 : vs[0]? = some (.ref t)) (q : E oe.cls none H) :
    wpAny (model P w) (cxOf CX P w K mg base N qual sc f cd A outer s₀ H₀ E).A (leaving (cxOf CX P w K mg base N qual sc f cd A outer s₀ H₀ E).env (.ref ea)) (fun _ s'' => CXX P w outer H₀ s₀ E (.ref ea) s'' ∧ (vs[2]? = some .none → F2 ea s''.heap)) Ee { s with heap := h' } := by
  have ib : InB (PySem.W.hideAll s.heap (frs (cxOf CX P w K mg base N qual sc f cd A outer s₀ H₀ E).stack)) (frs (cxOf CX P w K mg base N qual sc f cd A outer s₀ H₀ E).stack) H s.heap := by
    refine ⟨fun b o e hf => ⟨o, PySem.W.hideAll_get _ e hf⟩, fun b u e => ?_⟩
    obtain ⟨ob, eb⟩ := (I.hok b u e).there
    refine ⟨ob, PySem.W.hideAll_get _ eb fun z => ?_⟩
    rw [I.stkFree b z] at e
    cases e
  have fr := PySem.W.funFrames_hide (as := frs (cxOf CX P w K mg base N qual sc f cd A outer s₀ H₀ E).stack) I.stack fun env he a hf => List.mem_filterMap.mpr ⟨env, he, hf⟩
  have st : ∀ b o, (PySem.W.hideAll s.heap (frs (cxOf CX P w K mg base N qual sc f cd A outer s₀ H₀ E).stack)).get? b = some o → s.heap.get? b = some o := fun b o z => PySem.W.of_hideAll _ z
  have bn : (PySem.W.hideAll s.heap (frs (cxOf CX P w K mg base N qual sc f cd A outer s₀ H₀ E).stack)).get? ea = none := by
    cases z : (PySem.W.hideAll s.heap (frs (cxOf CX P w K mg base N qual sc f cd A outer s₀ H₀ E).stack)).get? ea with
    | none => rfl
    | some o => rw [st ea o z] at new; cases new
  refine leaves_new (base := PySem.W.hideAll s.heap (frs (cxOf CX P w K mg base N qual sc f cd A outer s₀ H₀ E).stack)) (L := s₀.heap.objs.size) (oe := oe) (vs := vs) I.ok.frames rfl (fun b o z => keep b o (st b o z)) (fr.of_keeps fun b o hb _ => ⟨o, keep b o hb, rfl⟩) he bn hd h1 h0 fun h'' fl up f2 => ?_
  have refl : Un (frs (cxOf CX P w K mg base N qual sc f cd A outer s₀ H₀ E).stack) [] H H s.heap s.heap := Un.kept fun b o z => z
  obtain ⟨un', hok'⟩ := fly_step refl I.hok ib (fun b o z => PySem.W.of_hideAll _ z) fl.1 fr ((Heap.UpToSlots.of_keeps keep).trans up)
  have J := I.call' (s' := { s with heap := h'' }) rfl un' hok' I.bare (fun b z => absurd z (by simp))
  refine ⟨⟨ea, oe.cls, H, rfl, J.os, I.bare, J.base, J.hok, ?_, ⟨_, t, fl, old_of rfl I ib, ib.trk⟩, q⟩, f2⟩
  cases e : H ea with
  | none => rfl
  | some u =>
    obtain ⟨ob, eb⟩ := (I.hok ea u e).there
    rw [new] at eb
    cases eb
theorem raise_leaveF {pins : List (Addr × Obj)} {σ : St} {H : Hp} {s : Shared} {h' : Heap} {ea : Addr} {cls : Value} {vs : List Value} (I : Inv (cxOf (CXF P w) P w K mg base N qual sc f cd A outer s₀ H₀ E) pins σ H s)
    (m : Heap.MadeExcOf s.heap h' ea cls vs) (q : E cls none H) : (cxOf (CXF P w) P w K mg base N qual sc f cd A outer s₀ H₀ E).xe (.ref ea) { s with heap := h' } := by
  obtain ⟨t, he, _, _⟩ := m.there
  refine wpAny_mono (new_leave I m.keeps m.new he rfl rfl rfl q) (fun _ s'' z => ⟨z.1, fun a e => ?_⟩) fun _ _ z => z
  cases e
  exact z.2 rfl
theorem pass_leaveF : PassS (CXF P w) (cxOf (CXF P w) P w K mg base N qual sc f cd A outer s₀ H₀ E) (fun _ => E) := by
  rintro pins σ H s e s' I ⟨⟨ea, cls, H', rfl, os, bare, un, hok, en, ⟨B, t, fl, ib⟩, q⟩, f2⟩
  show wpAny _ _ (leaving _ _) _ _ s'
  refine leaves2 I.ok.frames rfl fl (f2 ea rfl) fun h' fl' up f' => ?_
  obtain ⟨un', hok'⟩ := fly_step un hok ib fl.1 fl'.1 fl.2.2.1 up
  have J := I.call' (s' := { s' with heap := h' }) os un' hok' bare (fun b z => absurd z (by simp))
  refine ⟨⟨ea, cls, H', rfl, J.os, bare, J.base, J.hok, en, ⟨B, t, fl', old_of rfl I ib, ib.trk⟩, q⟩, fun a e => ?_⟩
  cases e
  exact f'
end
section
variable {P : Program} {w : World} {K : PySem.W.Frag} {mg : Str → Option Value} {base : Heap}
theorem Fun.okF {x qual : Str} {st : Stmt} {f : Addr} {fd : FuncData} {N ps : List Str} {k : Nat} {sp : Sp} (F : Fun K x qual st f fd) (S : FnScope N ps (defScope st)) (len : ∀ vs H Q E, sp vs H Q E → vs.length = ps.length)
    (hbody : ∀ (cdv : Value) (A : Around) (outer : List Env) (s : Shared) (H : Hp) (vs : List V) (Q : VK) (E : XK), Room k (A.deeper (envOfC qual (defScope st) s.heap.objs.size f cdv)) → sp vs H Q E →
      ∃ t, PSs (cxOf (CXF P w) P w K mg base N qual (defScope st) f cdv A outer s H E) (defBody st) t ∧ t { nx := fun _ H' => Q .non H', rt := Q } (start N vs) H) : FnOk P w K mg base (CXF P w) (k + 1) f fd ps sp := by
  obtain ⟨oc, od, kV, doc, pm, an, cdv, ct, osl, rfl, lk, hcd⟩ := F.ex
  exact fn_of lk hcd S len fun A outer s H vs Q E hr hsp => hbody cdv A outer s H vs Q E hr hsp
end
end L2
namespace L2
open PySem PySem.Spec PyProof.Rows
/-- what `from None` makes of a new exception while h is handled -/
def fromNone (h : Addr) (e : Addr) (g : Heap) : Heap := ((g.update e (Obj.mapFields (·.setIfInBounds 3 .none))).update e (Obj.mapFields (·.setIfInBounds 4 (.bool true)))).update e (Obj.mapFields (·.setIfInBounds 2 (.ref h)))
theorem fromNone_at {h e t : Addr} {g : Heap} {cls : Value} (he : g.get? e = some { cls := cls, data := .fields #[.ref t, .none, .none, .none, .bool false, .none] }) :
    ∃ oe, (fromNone h e g).get? e = some oe ∧ oe.cls = cls ∧ oe.data = .fields #[.ref t, .none, .ref h, .none, .bool true, .none] := by
  have d1 := Obj.data_mapFields (o := { cls := cls, data := .fields #[.ref t, .none, .none, .none, .bool false, .none] }) rfl (·.setIfInBounds 3 Value.none)
  have e1 := Heap.get?_update_self (Obj.mapFields (·.setIfInBounds 3 Value.none)) he (Obj.isFreed_of_fields d1)
  have d2 := Obj.data_mapFields d1 (·.setIfInBounds 4 (Value.bool true))
  have e2 := Heap.get?_update_self (Obj.mapFields (·.setIfInBounds 4 (Value.bool true))) e1 (Obj.isFreed_of_fields d2)
  have d3 := Obj.data_mapFields d2 (·.setIfInBounds 2 (Value.ref h))
  have e3 := Heap.get?_update_self (Obj.mapFields (·.setIfInBounds 2 (Value.ref h))) e2 (Obj.isFreed_of_fields d3)
  exact ⟨_, e3, by rw [Obj.cls_mapFields, Obj.cls_mapFields, Obj.cls_mapFields], d3⟩
theorem fromNone_other {h e b : Addr} {g : Heap} (n : e ≠ b) : (fromNone h e g).get? b = g.get? b := by
  unfold fromNone
  rw [Heap.get?_update_other _ _ n, Heap.get?_update_other _ _ n, Heap.get?_update_other _ _ n]
section
variable {prog : Program} {w : World} {A : Around} {E : Value → Shared → Prop} {s : Shared} {env : Env}
variable {nm q : Str} {C N : Addr} {bs bm bmB : List Value} {hdct : Bool} {sn : List Str} {sub : List Value} {ab : Bool} {col : Option Bool} {dd : Option Addr} {k0 k1 k2 k3 k5 : Option Value} {B newId initId : String}
theorem exec_raise_from (F : ExcBaseFacts B newId initId bmB) {mN : Str → Option Value} {x : Str} {np cpos pos p2 : Pos} {k : Nat} {args : List Expr} {h : Addr} {Q : Flow → Shared → Prop}
    (hbase : bm.contains (.type "BaseException") = true) (hh : A.handled = some (.ref h)) (hplain : (backTo cpos (starEach args env)).any (·.1) = false) (hni : mN "__init__" = none)
    (hx : wpAny (model prog w) A (eval (.Name x np) env) (fun f s₁ => f = .ref C ∧ wpAny (model prog w) A (evalArgs (.ref C) true (backTo cpos (starEach args env)) [])
      (fun a s₂ => a.kw = [] ∧ a.pos.length ≤ sizeLine ∧ s₂.heap.get? C = some (excClassObj nm q C N bs bm hdct sn sub ab col dd k0 k1 k2 k3 k5 newId) ∧ s₂.heap.Ns N mN ∧ OwnTail s₂.heap bmB bm ∧
        ∀ h' e, Heap.MadeExcOf s₂.heap h' e (.ref C) a.pos → F2 h h' ∧ h ≠ e ∧ E (.ref e) { s₂ with heap := fromNone h e h' }) E s₁) E s) :
    wpAny (model prog w) A (exec (.Raise (some (.Call (.Name x np) args [] cpos)) (some (.Constant .none k p2)) pos) env) Q E s := by
  rw [arm_exec_Raise]
  simp only [evalOpt, Option.map]
  refine wpAny_bind (wpAny_standAt (raiseStmt_from (C := C) (nm := nm) (q := q) (N := N) (bs := bs) (bm := bm) (hdct := hdct) (sn := sn) (sub := sub) (ab := ab) (col := col) (dd := dd) (k0 := k0) (k1 := k1) (k2 := k2) (k3 := k3) (k5 := k5) (newId := newId) hbase hh
    (fun s Q z => wpAny_bind (wpAny_Constant_none (wpAny_bind (wpAny_standAt (wpAny_pure z))))) ?_))
  refine wpAny_bind (wpAny_mono (wpAny_Call_ofName (wpAny_mono hx (fun f s₁ h₁ => ?_) fun _ _ z => z)) (fun v s₃ h₃ => wpAny_bind (wpAny_standAt (wpAny_pure h₃))) fun _ _ z => z)
  obtain ⟨rfl, h₁⟩ := h₁
  unfold callWith
  refine wpAny_bind (wpAny_holding (wpAny_mono h₁ (fun a s₂ h₂ => wpAny_bind (wpAny_standAt ?_)) fun _ _ z => z))
  obtain ⟨apos, akw⟩ := a
  obtain ⟨hkw, hlen, hC, hn, T, h₂⟩ := h₂
  obtain rfl : akw = [] := hkw
  obtain ⟨hp, g, d, tk, os⟩ := s₂
  simp only [hplain]
  refine wpAny_bind (wpAny_keeperOf_exc hC ?_)
  refine wpAny_bind (wpAny_call_exc_subT (hrest := hlen) F T hC hn hni fun h' e hm => wpAny_bind (wpAny_holding (wpAny_point (wpAny_pure ?_))))
  obtain ⟨t, ht, _, _⟩ := hm.there
  obtain ⟨z1, z2, z3⟩ := h₂ h' e hm
  have nC : C ≠ e := fun z => by rw [z, hm.new] at hC; cases hC
  exact ⟨e, t, rfl, hm.keeps _ _ hC, ht, z1, z2, nC, z3⟩
end
/-- raise C(..) from None, in the suite of an except clause: ea is what is handled -/
def tRaiseFrom (C ea : Addr) (ta : TA) (E : XK) : TS := fun _ σ H => ta σ H fun vs H1 => vs.length ≤ 1000 ∧ H1 ea = some (.ext (F2 ea)) ∧ E (.ref C) none H1
section
variable {P : Program} {w : World} {K : PySem.W.Frag} {mg : Str → Option Value} {base : Heap} {N : List Str} {qual : Str} {sc : Scope} {f : Addr} {cd : Value} {A : Around} {outer : List Env} {s₀ : Shared} {H₀ : Hp} {E : XK}
theorem ps_raise_from {x : Str} {C ea : Addr} {e₀ : Expr} {rest : List Expr} {np cpos pos p2 : Pos} {k : Nat} {ta : TA} {pn : List (Addr × Obj)} (ok : (cxOf (CXX P w) P w K mg base N qual sc f cd A outer s₀ H₀ E).Ok) (hc : ExcC K C) (hg : Gl (cxOf (CXX P w) P w K mg base N qual sc f cd A outer s₀ H₀ E) x) (hm : mg x = some (.ref C))
    (ha : PA ((cxOf (CXX P w) P w K mg base N qual sc f cd A outer s₀ H₀ E).suite pn ea (cxOf (CXX P w) P w K mg base N qual sc f cd A outer s₀ H₀ E).xe) (e₀ :: rest) ta)
    (he : starEach (e₀ :: rest) (cxOf (CXX P w) P w K mg base N qual sc f cd A outer s₀ H₀ E).env = (false, eval e₀ (cxOf (CXX P w) P w K mg base N qual sc f cd A outer s₀ H₀ E).env) :: starEach rest (cxOf (CXX P w) P w K mg base N qual sc f cd A outer s₀ H₀ E).env := by rfl)
    (hpl : (backTo cpos (starEach rest (cxOf (CXX P w) P w K mg base N qual sc f cd A outer s₀ H₀ E).env)).any (·.1) = false := by rfl) (hd : (x == ("__debug__" : Str)) = false := by decide) :
    PS ((cxOf (CXX P w) P w K mg base N qual sc f cd A outer s₀ H₀ E).suite pn ea (cxOf (CXX P w) P w K mg base N qual sc f cd A outer s₀ H₀ E).xe) (.Raise (some (.Call (.Name x np) (e₀ :: rest) [] cpos)) (some (.Constant .none k p2)) pos) (tRaiseFrom C ea ta E) := by
  intro pins s σ H D I h
  obtain ⟨nm, qn, N', bs, bm, hdct, sn, sub, ab, col, dd, k0, k1, k2, k3, k5, mN, hC, hN, hni, T⟩ := exc_obj ok.mod.kin hc.ok
  have hany : (backTo cpos (starEach (e₀ :: rest) (cxOf (CXX P w) P w K mg base N qual sc f cd A outer s₀ H₀ E).env)).any (·.1) = false := by
    rw [he]
    show (false || (backTo cpos (starEach rest (cxOf (CXX P w) P w K mg base N qual sc f cd A outer s₀ H₀ E).env)).any (·.1)) = false
    rw [hpl]
    rfl
  refine exec_raise_from (C := C) (nm := nm) (q := qn) (N := N') (bs := bs) (bm := bm) (hdct := hdct) (sn := sn) (sub := sub) (ab := ab) (col := col) (dd := dd) (k0 := k0) (k1 := k1) (k2 := k2) (k3 := k3) (k5 := k5) (h := ea)
    PySem.F.excBase_ValueError (mN := mN) (T.hasType PySem.F.excBase_ValueError.hasBase) rfl hany hni (ld_glob I hg hm ⟨rfl, ?_⟩ hd)
  have hA := ha cpos pins s σ H _ I h
  have he' : starEach (e₀ :: rest) ((cxOf (CXX P w) P w K mg base N qual sc f cd A outer s₀ H₀ E).suite pn ea (cxOf (CXX P w) P w K mg base N qual sc f cd A outer s₀ H₀ E).xe).env = (false, eval e₀ (cxOf (CXX P w) P w K mg base N qual sc f cd A outer s₀ H₀ E).env) :: starEach rest (cxOf (CXX P w) P w K mg base N qual sc f cd A outer s₀ H₀ E).env := he
  rw [he'] at hA ⊢
  refine Calls.evalArgs_plain (wpAny_mono hA (fun us s2 z => ?_) fun _ _ z => z)
  obtain ⟨vs, H1, I1, r, hl, hea, q⟩ := z
  have J := I1.unsuite (pins := pn) ok
  refine ⟨rfl, by show us.length ≤ sizeLine; rw [← r.length]; exact Nat.le_of_lt (small1000 hl), J.bk _ _ hC, hN.keeps J.bk, T.keeps J.bk, fun h' e m => ?_⟩
  have hf : F2 ea s2.heap := (J.hok ea _ hea).1
  obtain ⟨o, vs2, ho, hod⟩ := id hf
  have ne : ea ≠ e := fun z => by rw [z, m.new] at ho; cases ho
  refine ⟨⟨o, vs2, m.keeps _ _ ho, hod⟩, ne, ?_⟩
  obtain ⟨t, ht, _, _⟩ := m.there
  obtain ⟨oe, h1, h2, h3⟩ := fromNone_at (h := ea) ht
  have keep : ∀ b o, s2.heap.get? b = some o → (fromNone ea e h').get? b = some o := fun b o z => by
    have nb : e ≠ b := fun y => by rw [← y, m.new] at z; cases z
    rw [fromNone_other nb]
    exact m.keeps b o z
  exact wpAny_mono (new_leave J keep m.new h1 h3 rfl rfl (h2 ▸ q)) (fun _ _ z => z.1) fun _ _ z => z
end
end L2
namespace L2
open PySem PySem.Spec PyProof.Rows
/-- try: .. except C: .. (the suite may raise); what is handled is kept as ea -/
def tTryRe (K : PySem.W.Frag) (C0 : Addr) (tb : (Value → St → Hp → Prop) → TS) (th : Addr → TS) : TS := fun D σ H =>
  tb (fun cls σ' H' => ∃ C, cls = .ref C ∧ ExcC K C ∧ PySem.W.mroIn K C (.ref C0) = some true ∧ ∀ ea, H' ea = none → th ea D σ' (upd H' ea (.ext (F2 ea)))) D σ H
section
variable {P : Program} {w : World} {K : PySem.W.Frag} {mg : Str → Option Value} {base : Heap} {N : List Str} {qual : Str} {sc : Scope} {f : Addr} {cd : Value} {A : Around} {outer : List Env} {s₀ : Shared} {H₀ : Hp} {E : XK}
variable {body : List Stmt} {x : Str} {np hp pos : Pos} {b₀ : Stmt} {suite : List Stmt} {C0 : Addr} {tb : (Value → St → Hp → Prop) → TS} {th : Addr → TS}
theorem ps_try_re (hb : ∀ (pn : List (Addr × Obj)) (xe : Value → Shared → Prop) (R : Value → St → Hp → Prop), PassS (CXF P w) ((cxOf (CXX P w) P w K mg base N qual sc f cd A outer s₀ H₀ E).tr pn xe) (fun σ cls _ H => R cls σ H) → PSs ((cxOf (CXX P w) P w K mg base N qual sc f cd A outer s₀ H₀ E).tr pn xe) body (tb R))
    (hg : Gl (cxOf (CXX P w) P w K mg base N qual sc f cd A outer s₀ H₀ E) x) (hm : mg x = some (.ref C0)) (h0 : ExcC K C0)
    (hs : (cxOf (CXX P w) P w K mg base N qual sc f cd A outer s₀ H₀ E).Ok → ∀ (pn : List (Addr × Obj)) (ea : Addr), PSs ((cxOf (CXX P w) P w K mg base N qual sc f cd A outer s₀ H₀ E).suite pn ea (cxOf (CXX P w) P w K mg base N qual sc f cd A outer s₀ H₀ E).xe) (b₀ :: suite) (th ea)) (hd : (x == ("__debug__" : Str)) = false := by decide) :
    PS (cxOf (CXX P w) P w K mg base N qual sc f cd A outer s₀ H₀ E) (.Try body [.ExceptHandler (some (.Name x np)) none (b₀ :: suite) hp] [] [] pos) (tTryRe K C0 tb th) := by
  generalize hX : cxOf (CXX P w) P w K mg base N qual sc f cd A outer s₀ H₀ E = X at *
  have hex : X.ex = [] := by rw [← hX]; rfl
  have hst : X.stack = X.env :: X.outer := by rw [← hX]; rfl
  have hfr : X.env.frame = some X.env.locals := by rw [← hX]; rfl
  have hpr : X.prog = P := by rw [← hX]; rfl
  have hw : X.w = w := by rw [← hX]; rfl
  have hK : X.K = K := by rw [← hX]; rfl
  have hmg : X.mg = mg := by rw [← hX]; rfl
  have pass : PassesOwnAt (model X.prog X.w) (X.A.mark none) X.A X.env X.xe := by rw [← hX]; exact PassesOwnAt.leaving
  have passA : ∀ v, PassesOwnAt (model X.prog X.w) (X.A.mark v) X.A X.env X.xe := by rw [← hX]; exact fun v => PassesOwnAt.leaving
  subst hpr hw hK hmg
  clear hX pass
  intro pins s σ H D I h
  refine wpAny_Try_except ?_
  refine wpAny_mono (hb (X.pn ++ pins) (fun e s₁ => wpAny (model X.prog X.w) X.A (noteFrame e X.env) (fun _ s₂ => wpAny (model X.prog X.w) X.A (setFlight e none) (fun _ s₃ =>
    wpAny (model X.prog X.w) X.A (handleBy e X.env [.ExceptHandler (some (.Name x np)) none (b₀ :: suite) hp]) (SP X pins D) X.xe s₃) X.xe s₂) X.xe s₁) _ ?_ [] s σ H D (I.tr _) h) (fun f s₁ q => ?_) fun e s₁ q => q
  · rintro pins' σ' H1 s1 e s2 I1 ⟨⟨ea, cls, H', rfl, os, bare, un, hok, en, ⟨B, t, fl, ib⟩, C, rfl, hC, hsub, hq⟩, f2⟩
    have f2 := f2 ea rfl
    show wpAny _ _ (noteFrame _ _) _ _ s2
    have fl0 : Heap.FlyingW B (X.env :: X.outer) ea (.ref C) (.ref t) s2.heap := by rw [← hst]; exact fl
    refine looks2 (by rw [I.ok.frames, hst]) hfr fl0 f2 fun h4 held up4 f4 => ?_
    refine lands2 held f4 fun h5 fl5 up5 f5 => ?_
    rw [← hst] at fl5
    have st5 := fly_step un hok ib fl.1 fl5.1 fl.2.2.1 (up4.trans up5)
    have J5 := I1.call' (s' := { s2 with heap := h5 }) os st5.1 st5.2 bare (fun b z => absurd z (by simp))
    refine wpAny_handleBy_cons (codeAny_handlers_test ?_) (by intro z; cases z)
    refine Calls.Name_function_global I.ok.kind hg (Calls.loadGlobal_global (by rw [I.ok.glob]; exact J5.mod.glob.keeps J5.bk) hm ?_) hd
    obtain ⟨ob, hob, hobc⟩ := fl5.there
    refine exc_match J5.kIn hC h0 hsub hob hobc ?_
    refine codeAny_handlers_suite ?_
    refine again2 fl5 f5 fun h6 fl6 up6 f6 => ?_
    have st6 := fly_step un hok ib fl.1 fl6.1 fl.2.2.1 ((up4.trans up5).trans up6)
    have J6 := I1.call' (s' := { s2 with heap := h6 }) os st6.1 st6.2 bare (fun b z => absurd z (by simp))
    obtain ⟨oe, vs, hoe, hoed, _⟩ := id f2
    have nofr : ea ∉ frs X.stack := fun z => by
      obtain ⟨_, o1, q1, q2⟩ := fl.2.2.1.mem z
      rw [hoe] at q1
      cases q1
      exact q2 _ hoed
    have new1 : s1.heap.get? ea = none := by
      cases q : s1.heap.get? ea with
      | none => rfl
      | some o =>
        obtain ⟨o', z⟩ := ib.old ea o q nofr
        rw [fl.2.1] at z
        cases z
    have new0 : X.s₀.heap.get? ea = none := by
      cases q : X.s₀.heap.get? ea with
      | none => rfl
      | some o =>
        obtain ⟨o', z⟩ := I1.base.there ea o q (by show ea ∉ X.ex; rw [hex]; simp)
        rw [new1] at z
        cases z
    obtain ⟨o6, vs6, ho6, hd6, h26⟩ := id f6
    have J7 := J6.track (e := ea) (φ := F2 ea) en new0 (fun z => by
        obtain ⟨m, ⟨o, es, ep, ho, _⟩, _⟩ := I1.loc
        rw [← z, new1] at ho
        cases ho) (fun y c hc z => by
        obtain ⟨v, o, ho, _⟩ := I1.cell y c hc
        rw [z, new1] at ho
        cases ho) (fun p hp z => by
        have := (I1.pin p hp).1
        rw [z, new1] at this
        cases this) ⟨f6, ⟨o6, ho6⟩, fun g1 g2 ⟨o, us, z1, z2⟩ k => ⟨o, us, k o z1, z2⟩⟩
    refine wpAny_mono (hs I.ok (X.pn ++ pins) ea [] _ _ _ _ (J7.suite I.ok ea _) (hq ea en)) (fun f s8 q => ?_) fun e' s8 z => passA _ e' s8 z
    match f, q with
    | .next, ⟨σ8, H8, J9, q9⟩ => exact ⟨σ8, H8, J9.unsuite I.ok, q9⟩
    | .brk, ⟨σ8, H8, J9, q9⟩ => exact ⟨σ8, H8, J9.unsuite I.ok, q9⟩
    | .cont, ⟨σ8, H8, J9, q9⟩ => exact ⟨σ8, H8, J9.unsuite I.ok, q9⟩
    | .ret u, ⟨v8, σ8, H8, J9, r9, q9⟩ => exact ⟨v8, σ8, H8, J9.unsuite I.ok, r9, q9⟩
  · have q := q.untr I.ok
    match f, q with
    | .next, q => exact wpAny_execs_nil q
    | .brk, q => exact q
    | .cont, q => exact q
    | .ret u, q => exact q
end
end L2
namespace L2
open PySem PySem.Spec PyProof.Rows
section
variable {P : Program} {w : World} {K : PySem.W.Frag} {mg : Str → Option Value} {base : Heap} {N : List Str} {qual : Str} {sc : Scope} {f : Addr} {cd : Value} {A : Around} {outer : List Env} {s₀ : Shared} {H₀ : Hp} {E : XK}
theorem ps_raiseF {x : Str} {C : Addr} {e₀ : Expr} {rest : List Expr} {np cpos pos : Pos} {ta : TA} (hc : ExcC K C) (hh : A.handled = none) (hg : Gl (cxOf (CXF P w) P w K mg base N qual sc f cd A outer s₀ H₀ E) x) (hm : mg x = some (.ref C))
    (ha : PA (cxOf (CXF P w) P w K mg base N qual sc f cd A outer s₀ H₀ E) (e₀ :: rest) ta)
    (he : starEach (e₀ :: rest) (cxOf (CXF P w) P w K mg base N qual sc f cd A outer s₀ H₀ E).env = (false, eval e₀ (cxOf (CXF P w) P w K mg base N qual sc f cd A outer s₀ H₀ E).env) :: starEach rest (cxOf (CXF P w) P w K mg base N qual sc f cd A outer s₀ H₀ E).env := by rfl)
    (hpl : (backTo cpos (starEach rest (cxOf (CXF P w) P w K mg base N qual sc f cd A outer s₀ H₀ E).env)).any (·.1) = false := by rfl) (hd : (x == ("__debug__" : Str)) = false := by decide) :
    PS (cxOf (CXF P w) P w K mg base N qual sc f cd A outer s₀ H₀ E) (.Raise (some (.Call (.Name x np) (e₀ :: rest) [] cpos)) none pos) (tRaise C ta E) := by
  intro pins s σ H D I h
  obtain ⟨nm, qn, N', bs, bm, hdct, sn, sub, ab, col, dd, k0, k1, k2, k3, k5, mN, hC, hN, hni, T⟩ := exc_obj I.ok.mod.kin hc.ok
  have hany : (backTo cpos (starEach (e₀ :: rest) (cxOf (CXF P w) P w K mg base N qual sc f cd A outer s₀ H₀ E).env)).any (·.1) = false := by
    rw [he]
    show (false || (backTo cpos (starEach rest (cxOf (CXF P w) P w K mg base N qual sc f cd A outer s₀ H₀ E).env)).any (·.1)) = false
    rw [hpl]
    rfl
  refine wpAny_Raise_call_subT (C := C) (nm := nm) (q := qn) (N := N') (bs := bs) (bm := bm) (hdct := hdct) (sn := sn) (sub := sub) (ab := ab) (col := col) (dd := dd) (k0 := k0) (k1 := k1) (k2 := k2) (k3 := k3) (k5 := k5)
    PySem.F.excBase_ValueError (mN := mN) (T.hasType PySem.F.excBase_ValueError.hasBase) hh hany hni (ld_glob I hg hm ⟨rfl, ?_⟩ hd)
  have hA := ha cpos pins s σ H _ I h
  rw [he] at hA ⊢
  refine Calls.evalArgs_plain (wpAny_mono hA (fun us s2 hq0 => ?_) fun _ _ z => z)
  obtain ⟨vs, H1, I1, r, hl, q⟩ := hq0
  exact ⟨rfl, by show us.length ≤ sizeLine; rw [← r.length]; exact Nat.le_of_lt (small1000 hl), I1.bk _ _ hC, hN.keeps I1.bk, T.keeps I1.bk, fun h' e m => raise_leaveF I1 m q⟩
end
end L2


/-! TEXTS, more: for c in a text, int of a text, {text!r}, != of lists of bools. -/
namespace L2
open PySem PySem.Spec PyProof.Rows
/-! ### for c in a text of plain signs -/
def Itx (x : Str) : It := ⟨fun i _ => i < x.length, fun i H v H' => H' = H ∧ ∃ c, (cpl x)[i]? = some c ∧ v = .str ⟨#[c]⟩, fun i _ => x.length ≤ i⟩
theorem cps_get {x : Str} {i : Nat} : x.cps[i]? = (cpl x)[i]? := by unfold cpl; rw [Array.getElem?_toList]
theorem turn_str {P : Program} {w : World} {K : PySem.W.Frag} {tg : Expr} (x : Str) (t : Tok) (it : Addr) : Turn P w K tg (Itx x) [it] it (fun i h => h.IsStrIter it "str_ascii_iterator" x t i) where
  mem := by simp
  obj := fun i h st b hb => by
    have e : b = it := by simpa using hb
    subst e
    obtain ⟨o, e, c, d⟩ := st
    exact ⟨o, e, fun v z => by rw [d] at z; cases z⟩
  keep := fun i h h' st k => by
    obtain ⟨o, e, c, d⟩ := st
    exact ⟨o, k it (by simp) o e, c, d⟩
  item := by
    intro X hP hw hK hc i pins s σ H E I hf st hg
    subst hP hw hK
    have hi : i < x.length := hg
    obtain ⟨f0, f1, f2, f3, f4, f5⟩ := hf it (by simp)
    have hx : x.cps[i]? = some (x.cps[i]'hi) := Array.getElem?_eq_getElem hi
    refine wpAny_pyNext_ascii_item st hx fun h' st' sb => ?_
    have I1 : Inv X pins σ H { s with heap := h', toks := s.toks + 1 } := I.turned (t' := s.toks + 1) (fun b o hb e => (sb.2 b hb).trans e) f0 f1 f3 f4 f5
    obtain ⟨o, e, c, d⟩ := id st'
    exact ⟨_, rfl, go_of (s := { s with heap := h', toks := s.toks + 1 }) e c d (by decide) ⟨.str _, H, I1, ⟨_, rfl⟩, ⟨rfl, _, by rw [← cps_get]; exact hx, rfl⟩, st', fun b hb => (hf b hb).1⟩⟩
  done := by
    intro X hP hw hK hc i pins s σ H E I hf st hg
    subst hP hw hK
    obtain ⟨f0, f1, f2, f3, f4, f5⟩ := hf it (by simp)
    exact wpAny_pyNext_ascii_end (I.ok.hd hc) st (Array.getElem?_eq_none hg) fun h' eb => ⟨rfl, I.turned (t' := s.toks) (fun b o hb e => eb b o hb e) f0 f1 f3 f4 f5⟩
  self := fun _ _ _ _ _ st h => wpAny_pyIter_striter_ascii st h
def iStr (tl : TE) : TI := fun σ H R => tl σ H fun v H1 => ∃ x, v = .str x ∧ x.cps.all (· < 128) = true ∧ R (Itx x) H1
section
variable {X : Cx} {tg : Expr}
theorem pi_str {l : Expr} {tl : TE} (hl : PE X l tl) : PI X tg l (iStr tl) := by
  intro pins s σ H R I h
  refine thn (hl pins s σ H _ I h) fun v s1 hq => ?_
  obtain ⟨x, H1, I1, r1, y, rfl, ha, q⟩ := hq
  obtain ⟨t, rfl⟩ := r1
  refine wpAny_pyIter_ascii ha ?_
  refine ⟨s1.heap.objs.size, [s1.heap.objs.size], _, _, H1, rfl, I1.kept (t' := s1.toks) fun b o e => Heap.get?_push_of_some _ e, turn_str y t _, ⟨_, Heap.get?_push_size _ rfl, rfl, rfl⟩, fun b hb => ?_, q⟩
  have e : b = s1.heap.objs.size := by simpa using hb
  subst e
  exact I1.fpOk (Nat.le_refl _) (I1.hok.fresh (Nat.le_refl _))
end
theorem for_str {x : Str} {g : TG} {tb : TS} {D : Ends} {σ : St} {H : Hp} (Pv : Nat → St → Hp → Prop) (h0 : Pv 0 σ H)
    (hs : ∀ i c σ H, (cpl x)[i]? = some c → Pv i σ H → g (.str ⟨#[c]⟩) σ H fun σ2 H2 => tb { D with nx := Pv (i + 1), ct := Pv (i + 1), bk := D.nx } σ2 H2) (hd : ∀ σ H, Pv x.length σ H → D.nx σ H) :
    ∃ W : Nat → Nat → St → Hp → Prop, (∃ m, W 0 m σ H) ∧ ∀ i m σ H, W i m σ H →
      ((Itx x).stop i H ∧ D.nx σ H) ∨ ((Itx x).go i H ∧ ∃ N : St → Hp → Prop, (∀ σ' H', N σ' H' → ∃ m', m' < m ∧ W (i + 1) m' σ' H') ∧ ∀ v H', (Itx x).yld i H v H' → g v σ H' fun σ2 H2 => tb { D with nx := N, ct := N, bk := D.nx } σ2 H2) := by
  refine ⟨fun i m σ H => m = x.length - i ∧ i ≤ x.length ∧ Pv i σ H, ⟨x.length, by simp, Nat.zero_le _, h0⟩, ?_⟩
  rintro i m σ H ⟨rfl, hi, p⟩
  by_cases hlt : i < x.length
  · refine .inr ⟨hlt, Pv (i + 1), fun σ' H' p' => ⟨x.length - (i + 1), Nat.sub_succ_lt_self _ _ hlt, rfl, hlt, p'⟩, fun v H' y => ?_⟩
    obtain ⟨rfl, c, hc, rfl⟩ := y
    exact hs i c σ _ hc p
  · have e : i = x.length := Nat.le_antisymm hi (Nat.not_lt.mp hlt)
    subst e
    exact .inl ⟨Nat.le_refl _, hd σ H p⟩
section
variable {X : Cx}
/-! ### int of a text -/
theorem call_int_text : CallR X (.type "int") (fun xs H Q => ∃ x n, xs = [.str x] ∧ PySem.intText? x = some n ∧ x.length ≤ 640 ∧ Q (.int n) H) := by
  intro pins s σ H xs us Q I r h
  obtain ⟨x, n, rfl, hn, hl, q⟩ := h
  obtain ⟨u, rfl, t, rfl⟩ := vals1 r
  exact PySem.W.KIN.call_text hn hl ⟨.int n, H, I.tok _, ⟨_, rfl⟩, q⟩
/-! ### {text!r} -/
def FmtR : V → Prop
  | .str x => x.length ≤ 150 ∧ ∀ c ∈ cpl x, c < 128
  | _ => False
def fRep (ta : TE) (t : TF) : TF := fun σ H Q => ta σ H fun v H1 => FmtR v ∧ t σ H1 Q
theorem pf_repr {e : Expr} {es : List Expr} {pos : Pos} {ta : TE} {t : TF} (he : PE X e ta) (hr : PF X es t) : PF X (.FormattedValue e 114 none pos :: es) (fRep ta t) := fun pins s σ H acc Q I hl h => by
  show wpAny _ _ (joinParts acc (eval (.FormattedValue e 114 none pos) X.env :: evalEach es X.env)) _ _ s
  simp only [List.length_cons] at hl
  refine joinParts_cons (wpAny_FormattedValue_repr (thn (he pins s σ H _ I h) fun u s1 hq => ?_))
  obtain ⟨v, H1, I1, r, f, q⟩ := hq
  cases v with
  | str y =>
    obtain ⟨tk, rfl⟩ := r
    obtain ⟨f1, f2⟩ : y.length ≤ 150 ∧ ∀ c ∈ cpl y, c < 128 := f
    have len := StrLaws.reprText_len y fun c hc => Nat.lt_trans (f2 c hc) (by decide)
    have l2 : (reprText y).length ≤ 2000 := by omega
    have e1 : (acc ++ reprText y).length = acc.length + (reprText y).length := strLen_append _ _
    have l := room2000 e1 l2 hl
    refine pyReprObj_str ?_ (len100 (Nat.le_trans l2 (by decide)))
    exact PyProof.Rows.formatField_str (fun t' tk => ⟨len100 (Nat.le_trans (Nat.le_add_right _ _) l), hr pins _ σ H1 _ Q ((I1.tok _).tok _) l q⟩) (len100 (Nat.le_trans l2 (by decide)))
  | _ => exact False.elim f
end
/-! ### != of lists of bools -/
def rNeB (K : PySem.W.Frag) : R2 := fun x y H Q => ∃ (a b : Addr) (bs cs : List Bool), x = .ref a ∧ y = .ref b ∧ SqL K H a (bs.map V.bl) ∧ SqL K H b (cs.map V.bl) ∧ Q (.bl (!decide (bs = cs))) H
section
variable {X : Cx}
theorem op_neB (hu : X.A.units + 64 < cLine) : OpR X (compareOp .NotEq) (rNeB X.K) := by
  intro pins s σ H x y v u Q I rx ry h
  obtain ⟨a, b, bs, cs, rfl, rfl, h1, h2, q⟩ := h
  cases rx
  cases ry
  obtain ⟨its, r1, p1, _⟩ := I.list h1
  obtain ⟨its2, r2, p2, _⟩ := I.list h2
  obtain ⟨as1, z1⟩ := readsBools (h := s.heap) r1
  obtain ⟨as2, z2⟩ := readsBools (h := s.heap) r2
  obtain ⟨o, ho, hc, n, hd⟩ := p1.isList
  obtain ⟨o', ho', hc', n', hd'⟩ := p2.isList
  refine ne_dataH (.list ho hc hd (by simpa using z1)) (.list ho' hc' hd' (by simpa using z2)) (bools_shaped bs) (bools_shaped cs) hu ?_
  have e : PyData.eqv (bools bs) (bools cs) = decide (bs = cs) := by simp only [bools, PyData.eqv]; exact bools_eqvAll bs cs
  show EP X pins σ Q (.bool (!PyData.eqv (bools bs) (bools cs))) s
  rw [e]
  exact ⟨.bl _, H, I, rfl, q⟩
theorem op_neLB (hu : X.A.units + 64 < cLine) : OpR X (compareOp .NotEq) (fun x y H Q => rNeL X.K x y H Q ∨ rNeB X.K x y H Q) := (op_neL hu).or (op_neB hu)
end

/-! ### plain signs -/
def Asc (x : Str) : Prop := ∀ c ∈ cpl x, c < 128
theorem Asc.all {x : Str} (h : Asc x) : x.cps.all (· < 128) = true := by
  rw [Array.all_eq_true_iff_forall_mem]
  intro c hc
  exact decide_eq_true (h c (Array.mem_toList_iff.mpr hc))
/-- a text of plain signs that is not long -/
structure Tx (k : Nat) (x : Str) : Prop where
  len : x.length ≤ k
  asc : Asc x
theorem Asc.app {x y : Str} (h : Asc x) (h' : Asc y) : Asc (x ++ y) := fun c hc => by
  rw [cpl_app, List.mem_append] at hc
  exact hc.elim (h c) (h' c)
theorem slice_mem {x : Str} {l u : Option Int} {c : Nat} (h : c ∈ cpl (Txt.slice x l u)) : c ∈ cpl x := by
  unfold Txt.slice at h
  split at h
  · exact h
  · have h' : c ∈ (Builtin.Str.strSliceIndices l u 1 x.length).filterMap (x.cps[·]?) := by simpa [cpl] using h
    obtain ⟨i, _, e⟩ := List.mem_filterMap.mp h'
    rw [cps_get] at e
    exact List.mem_of_getElem? e
theorem Asc.slice {x : Str} {l u : Option Int} (h : Asc x) : Asc (Txt.slice x l u) := fun c hc => h c (slice_mem hc)
theorem Tx.mono {j k : Nat} {x : Str} (h : Tx j x) (hj : j ≤ k) : Tx k x := ⟨Nat.le_trans h.len hj, h.asc⟩
theorem split_asc {x w : Str} (h : Asc x) (hw : w ∈ Txt.split x spc) : Asc w := by
  have j := StrLaws.join_split x spc
  intro c hc
  refine h c ?_
  rw [← j]
  clear j h
  generalize Txt.split x spc = ws at hw
  cases ws with
  | nil => cases hw
  | cons a r =>
    rw [cpl_join]
    rcases List.mem_cons.mp hw with e | e
    · subst e; exact List.mem_append_left _ hc
    · exact List.mem_append_right _ (List.mem_flatMap.mpr ⟨w, e, List.mem_cons_of_mem _ hc⟩)
theorem split_len {k : Nat} {x w : Str} (h : x.length ≤ k) (hw : w ∈ Txt.split x spc) : w.length ≤ k := Nat.le_trans (part_short hw) h
end L2


/-! THE NUMBERS of the words of a text, as the law of the refused texts reads them. -/
namespace L2
open PySem PySem.Spec PyProof.Rows
def digs : List Nat := [48, 49, 50, 51, 52, 53, 54, 55, 56, 57]
def numM (w : Str) : Int :=
  if w.length < 1 ∨ 2 < w.length ∨ (cpl w)[0]? = some 48 then 0 else if (cpl w).all (fun c => decide (c ∈ digs)) then (PySem.intText? w).getD 0 else 0
def one (c : Nat) : Str := ⟨#[c]⟩
def pair (c d : Nat) : Str := ⟨#[c, d]⟩
theorem num_one : ∀ c ∈ digs, (PySem.intText? (one c)).isSome = true ∧ 0 ≤ numM (one c) ∧ (1 ≤ numM (one c) → one c = wordOf (numM (one c))) := by decide +kernel
theorem num_pair : ∀ c ∈ digs, ∀ d ∈ digs, (PySem.intText? (pair c d)).isSome = true ∧ 0 ≤ numM (pair c d) ∧ (1 ≤ numM (pair c d) → pair c d = wordOf (numM (pair c d))) := by decide +kernel
theorem cpl_len (w : Str) : (cpl w).length = w.length := by simp [cpl, Str.length]
theorem shape {w : Str} (h1 : 1 ≤ w.length) (h2 : w.length ≤ 2) (hd : ∀ c ∈ cpl w, c ∈ digs) : (∃ c ∈ digs, w = one c) ∨ ∃ c ∈ digs, ∃ d ∈ digs, w = pair c d := by
  rw [← cpl_len] at h1 h2
  have e : ∀ {l : List Nat}, cpl w = l → w = ⟨l.toArray⟩ := fun h => cpl_inj (by rw [h]; simp [cpl])
  match hc : cpl w, h1, h2 with
  | [c], _, _ => exact .inl ⟨c, hd c (by rw [hc]; simp), e hc⟩
  | [c, d], _, _ => exact .inr ⟨c, hd c (by rw [hc]; simp), d, hd d (by rw [hc]; simp), e hc⟩
/-- the text is a number when all its signs are digits -/
theorem num_text {w : Str} (h1 : 1 ≤ w.length) (h2 : w.length ≤ 2) (hd : ∀ c ∈ cpl w, c ∈ digs) : ∃ n, PySem.intText? w = some n := by
  have z : (PySem.intText? w).isSome = true := by
    rcases shape h1 h2 hd with ⟨c, hc, rfl⟩ | ⟨c, hc, d, hd2, rfl⟩
    · exact (num_one c hc).1
    · exact (num_pair c hc d hd2).1
  exact Option.isSome_iff_exists.mp z
theorem num_word (w : Str) : 0 ≤ numM w ∧ (1 ≤ numM w → w = wordOf (numM w)) := by
  by_cases hd : ∀ c ∈ cpl w, c ∈ digs
  · by_cases h1 : 1 ≤ w.length
    · by_cases h2 : w.length ≤ 2
      · rcases shape h1 h2 hd with ⟨c, hc, rfl⟩ | ⟨c, hc, d, hd2, rfl⟩
        · exact (num_one c hc).2
        · exact (num_pair c hc d hd2).2
      · have e : numM w = 0 := by unfold numM; rw [if_pos (.inr (.inl (Nat.not_le.mp h2)))]
        rw [e]
        exact ⟨Int.le_refl _, fun z => absurd z (by decide)⟩
    · have e : numM w = 0 := by unfold numM; rw [if_pos (.inl (Nat.not_le.mp h1))]
      rw [e]
      exact ⟨Int.le_refl _, fun z => absurd z (by decide)⟩
  · have e : numM w = 0 := by
      unfold numM
      split
      · rfl
      · rw [if_neg (fun z => hd fun c hc => of_decide_eq_true (List.all_eq_true.mp z c hc))]
    rw [e]
    exact ⟨Int.le_refl _, fun z => absurd z (by decide)⟩
abbrev dash : Str := ⟨#[45]⟩
def numB (b : Bool) (w : Str) : Int := if b = true ∧ Txt.slice w none (some 1) = dash then -numM (Txt.slice w (some 1) none) else numM w
theorem num_cake : ∀ c ∈ cakesW, numB true (wordOf c) = c := by decide +kernel
theorem num_plain : ∀ c ∈ cakesW, 0 < c → numB false (wordOf c) = c := by decide +kernel
theorem word_neg : ∀ c ∈ cakesW, 0 < c → cpl (wordOf (-c)) = 45 :: cpl (wordOf c) := by decide +kernel
theorem dash_cut {w : Str} (h : Txt.slice w none (some 1) = dash) : cpl w = 45 :: cpl (Txt.slice w (some 1) none) := by
  by_cases h0 : 1 ≤ w.length
  · have a := eq_of_beq (slice_closes_to (x := w) (j := 1) ⟨by decide, by rw [show w.cps.toList.length = w.length by simp [Str.length]]; exact_mod_cast h0⟩)
    have b := slice_from_eq (x := w) (i := 1) (b := w.length) (by decide) (by exact_mod_cast h0) rfl
    rw [h] at a
    have a' := congrArg cpl a
    have b' := congrArg cpl b
    have ea : cpl dash = (cpl w).take 1 := a'
    have eb : cpl (Txt.slice w (some 1) none) = ((cpl w).drop 1).take ((w.length : Int) - 1).toNat := b'
    rw [List.take_of_length_le (by rw [List.length_drop, cpl_len]; omega)] at eb
    rw [eb, show (45 : Nat) :: (cpl w).drop 1 = [45] ++ (cpl w).drop 1 from rfl, show [45] = (cpl w).take 1 from ea, List.take_append_drop]
  · have z : w.length = 0 := by omega
    have l := Txt.slice_le w none (some 1)
    rw [h, z] at l
    exact absurd l (by decide)
/-- a number from 1 to 12 (with a sign) is written in one way -/
theorem num_back {b : Bool} {w : Str} {c : Int} (e : numB b w = c) (h0 : c ≠ 0) (h1 : -12 ≤ c) (h2 : c ≤ 12) : w = wordOf c ∧ c ∈ cakesW ∧ (b = false → 0 < c) := by
  have hc := cakesW_mem h0 h1 h2
  refine ⟨?_, hc, fun hb => ?_⟩
  · unfold numB at e
    split at e
    · rename_i hz
      have n := num_word (Txt.slice w (some 1) none)
      have p : 1 ≤ numM (Txt.slice w (some 1) none) := by omega
      have en : numM (Txt.slice w (some 1) none) = -c := by omega
      have k := n.2 p
      rw [en] at k
      have hp : -c ∈ cakesW := cakesW_mem (by omega) (by omega) (by omega)
      have wn := word_neg (-c) hp (by omega)
      rw [Int.neg_neg] at wn
      refine cpl_inj ?_
      rw [dash_cut hz.2, wn, ← k]
    · have n := num_word w
      have p : 1 ≤ numM w := by omega
      have k := n.2 p
      rw [e] at k
      exact k
  · subst hb
    unfold numB at e
    rw [if_neg (by simp)] at e
    have n := num_word w
    omega
/-- which words write these cakes -/
def Wr (ws : List Str) (cs : List Int) : Prop := ws = cs.map wordOf ∧ ∀ c ∈ cs, c ∈ cakesW
/-! ### a list of written texts -/
def litsOf : List Expr → Option (List V)
  | [] => some []
  | .Constant (.str x) _ _ :: r => (litsOf r).map (V.str x :: ·)
  | _ => none
def tLits (vs : List V) : TA := fun _ H Q => Q vs H
theorem pa_lits {X : Cx} : ∀ {es : List Expr} {vs : List V}, litsOf es = some vs → PA X es (tLits vs) := by
  intro es
  induction es with
  | nil => intro vs h; cases h; exact pa_nil
  | cons e r ih =>
    intro vs h
    unfold litsOf at h
    split at h
    · rename_i he
      cases he
    · rename_i x k p r' he
      cases he
      cases hr : litsOf r with
      | none => rw [hr] at h; cases h
      | some us =>
        rw [hr] at h
        cases h
        exact pa_cons pe_str (ih hr)
    · cases h
theorem pe_litlist {X : Cx} {es : List Expr} {pos : Pos} {vs : List V} (h : litsOf es = some vs) : PE X (.List es pos) (tLst (tLits vs)) := pe_lst (pa_lits h)
end L2

namespace Fl
open PySem L2
def top (i : Nat) : Stmt := PySem.Challenge.pw_flipstack_k14_texts_refused.main.body.getD i (.Pass ⟨0, 0, 0, 0⟩)
abbrev s_check_pile : Stmt := top 9
abbrev s_without_signs : Stmt := top 10
abbrev s_check_burnt_pile : Stmt := top 11
abbrev s_cakes_by_word : Stmt := top 13
abbrev s_read_cakes : Stmt := top 14
abbrev s_read : Stmt := top 15
abbrev s_burnt_read : Stmt := top 16
abbrev s_law_cell_at : Stmt := top 18
abbrev s_law_pile : Stmt := top 20
abbrev s_law_burnt : Stmt := top 21
abbrev s_law_which : Stmt := top 22
abbrev s_law_sign_by : Stmt := top 23
abbrev s_law_odd : Stmt := top 24
abbrev s_law_number : Stmt := top 25
abbrev s_law_due : Stmt := top 26
abbrev s_law_told : Stmt := top 27
abbrev s_law_spoiled : Stmt := top 28
abbrev s_law : Stmt := top 29
structure Adr where
  c : Nat → Addr
  a : Nat → Addr
  d : Nat → FuncData
abbrev Adr.c_FlipError (t : Adr) : Addr := t.c 0
abbrev Adr.c_NoPile (t : Adr) : Addr := t.c 1
abbrev Adr.c_NoTurn (t : Adr) : Addr := t.c 2
abbrev Adr.c_TooTall (t : Adr) : Addr := t.c 3
abbrev Adr.c_NoBack (t : Adr) : Addr := t.c 4
abbrev Adr.c_BadLine (t : Adr) : Addr := t.c 5
abbrev Adr.a_check_pile (t : Adr) : Addr := t.a 0
abbrev Adr.d_check_pile (t : Adr) : FuncData := t.d 0
abbrev Adr.a_without_signs (t : Adr) : Addr := t.a 1
abbrev Adr.d_without_signs (t : Adr) : FuncData := t.d 1
abbrev Adr.a_check_burnt_pile (t : Adr) : Addr := t.a 2
abbrev Adr.d_check_burnt_pile (t : Adr) : FuncData := t.d 2
abbrev Adr.a_cakes_by_word (t : Adr) : Addr := t.a 3
abbrev Adr.d_cakes_by_word (t : Adr) : FuncData := t.d 3
abbrev Adr.a_read_cakes (t : Adr) : Addr := t.a 4
abbrev Adr.d_read_cakes (t : Adr) : FuncData := t.d 4
abbrev Adr.a_read (t : Adr) : Addr := t.a 5
abbrev Adr.d_read (t : Adr) : FuncData := t.d 5
abbrev Adr.a_burnt_read (t : Adr) : Addr := t.a 6
abbrev Adr.d_burnt_read (t : Adr) : FuncData := t.d 6
abbrev Adr.a_law_cell_at (t : Adr) : Addr := t.a 7
abbrev Adr.d_law_cell_at (t : Adr) : FuncData := t.d 7
abbrev Adr.a_law_pile (t : Adr) : Addr := t.a 8
abbrev Adr.d_law_pile (t : Adr) : FuncData := t.d 8
abbrev Adr.a_law_burnt (t : Adr) : Addr := t.a 9
abbrev Adr.d_law_burnt (t : Adr) : FuncData := t.d 9
abbrev Adr.a_law_which (t : Adr) : Addr := t.a 10
abbrev Adr.d_law_which (t : Adr) : FuncData := t.d 10
abbrev Adr.a_law_sign_by (t : Adr) : Addr := t.a 11
abbrev Adr.d_law_sign_by (t : Adr) : FuncData := t.d 11
abbrev Adr.a_law_odd (t : Adr) : Addr := t.a 12
abbrev Adr.d_law_odd (t : Adr) : FuncData := t.d 12
abbrev Adr.a_law_number (t : Adr) : Addr := t.a 13
abbrev Adr.d_law_number (t : Adr) : FuncData := t.d 13
abbrev Adr.a_law_due (t : Adr) : Addr := t.a 14
abbrev Adr.d_law_due (t : Adr) : FuncData := t.d 14
abbrev Adr.a_law_told (t : Adr) : Addr := t.a 15
abbrev Adr.d_law_told (t : Adr) : FuncData := t.d 15
abbrev Adr.a_law_spoiled (t : Adr) : Addr := t.a 16
abbrev Adr.d_law_spoiled (t : Adr) : FuncData := t.d 16
abbrev Adr.a_law (t : Adr) : Addr := t.a 17
abbrev Adr.d_law (t : Adr) : FuncData := t.d 17
structure Txt (K : PySem.W.Frag) (mg : Str → Option Value) (t : Adr) : Prop where
  x_FlipError : mg "FlipError" = some (.ref t.c_FlipError)
  x_NoPile : mg "NoPile" = some (.ref t.c_NoPile)
  x_NoTurn : mg "NoTurn" = some (.ref t.c_NoTurn)
  x_TooTall : mg "TooTall" = some (.ref t.c_TooTall)
  x_NoBack : mg "NoBack" = some (.ref t.c_NoBack)
  x_BadLine : mg "BadLine" = some (.ref t.c_BadLine)
  e_FlipError : ExcF K t.c_FlipError
  e_NoPile : ExcF K t.c_NoPile
  e_NoTurn : ExcF K t.c_NoTurn
  e_TooTall : ExcF K t.c_TooTall
  e_NoBack : ExcF K t.c_NoBack
  e_BadLine : ExcF K t.c_BadLine
  u_BadLine : PySem.W.mroIn K t.c_BadLine (.ref t.c_FlipError) = some true
  i_BadLine_NoPile : PySem.W.kitOne K (.ref t.c_BadLine) (.ref t.c_NoPile) = some false
  i_BadLine_NoTurn : PySem.W.kitOne K (.ref t.c_BadLine) (.ref t.c_NoTurn) = some false
  i_BadLine_TooTall : PySem.W.kitOne K (.ref t.c_BadLine) (.ref t.c_TooTall) = some false
  i_BadLine_NoBack : PySem.W.kitOne K (.ref t.c_BadLine) (.ref t.c_NoBack) = some false
  i_BadLine_BadLine : PySem.W.kitOne K (.ref t.c_BadLine) (.ref t.c_BadLine) = some true
  i_BadLine_ValueError : PySem.W.kitOne K (.ref t.c_BadLine) (.type "ValueError") = some true
  F_check_pile : Fun K "check_pile" "check_pile" s_check_pile t.a_check_pile t.d_check_pile
  m_check_pile : mg "check_pile" = some (.ref t.a_check_pile)
  F_without_signs : Fun K "without_signs" "without_signs" s_without_signs t.a_without_signs t.d_without_signs
  m_without_signs : mg "without_signs" = some (.ref t.a_without_signs)
  F_check_burnt_pile : Fun K "check_burnt_pile" "check_burnt_pile" s_check_burnt_pile t.a_check_burnt_pile t.d_check_burnt_pile
  m_check_burnt_pile : mg "check_burnt_pile" = some (.ref t.a_check_burnt_pile)
  F_cakes_by_word : Fun K "cakes_by_word" "cakes_by_word" s_cakes_by_word t.a_cakes_by_word t.d_cakes_by_word
  m_cakes_by_word : mg "cakes_by_word" = some (.ref t.a_cakes_by_word)
  F_read_cakes : Fun K "read_cakes" "read_cakes" s_read_cakes t.a_read_cakes t.d_read_cakes
  m_read_cakes : mg "read_cakes" = some (.ref t.a_read_cakes)
  F_read : Fun K "read" "read" s_read t.a_read t.d_read
  m_read : mg "read" = some (.ref t.a_read)
  F_burnt_read : Fun K "burnt_read" "burnt_read" s_burnt_read t.a_burnt_read t.d_burnt_read
  m_burnt_read : mg "burnt_read" = some (.ref t.a_burnt_read)
  F_law_cell_at : Fun K "_law_cell_at" "_law_cell_at" s_law_cell_at t.a_law_cell_at t.d_law_cell_at
  m_law_cell_at : mg "_law_cell_at" = some (.ref t.a_law_cell_at)
  F_law_pile : Fun K "_law_pile" "_law_pile" s_law_pile t.a_law_pile t.d_law_pile
  m_law_pile : mg "_law_pile" = some (.ref t.a_law_pile)
  F_law_burnt : Fun K "_law_burnt" "_law_burnt" s_law_burnt t.a_law_burnt t.d_law_burnt
  m_law_burnt : mg "_law_burnt" = some (.ref t.a_law_burnt)
  F_law_which : Fun K "_law_which" "_law_which" s_law_which t.a_law_which t.d_law_which
  m_law_which : mg "_law_which" = some (.ref t.a_law_which)
  F_law_sign_by : Fun K "_law_sign_by" "_law_sign_by" s_law_sign_by t.a_law_sign_by t.d_law_sign_by
  m_law_sign_by : mg "_law_sign_by" = some (.ref t.a_law_sign_by)
  F_law_odd : Fun K "_law_odd" "_law_odd" s_law_odd t.a_law_odd t.d_law_odd
  m_law_odd : mg "_law_odd" = some (.ref t.a_law_odd)
  F_law_number : Fun K "_law_number" "_law_number" s_law_number t.a_law_number t.d_law_number
  m_law_number : mg "_law_number" = some (.ref t.a_law_number)
  F_law_due : Fun K "_law_due" "_law_due" s_law_due t.a_law_due t.d_law_due
  m_law_due : mg "_law_due" = some (.ref t.a_law_due)
  F_law_told : Fun K "_law_told" "_law_told" s_law_told t.a_law_told t.d_law_told
  m_law_told : mg "_law_told" = some (.ref t.a_law_told)
  F_law_spoiled : Fun K "_law_spoiled" "_law_spoiled" s_law_spoiled t.a_law_spoiled t.d_law_spoiled
  m_law_spoiled : mg "_law_spoiled" = some (.ref t.a_law_spoiled)
  F_law : Fun K "law" "law" s_law t.a_law t.d_law
  m_law : mg "law" = some (.ref t.a_law)
  z_ValueError : mg "ValueError" = none
  z_abs : mg "abs" = none
  z_int : mg "int" = none
  z_isinstance : mg "isinstance" = none
  z_len : mg "len" = none
  z_list : mg "list" = none
  z_range : mg "range" = none
  z_sorted : mg "sorted" = none
  z_str : mg "str" = none
  g_MOST_CAKES : ∃ tk, mg "MOST_CAKES" = some (.int 12 tk)
  w_NoPile : PySem.W.mroIn K t.c_NoPile (.ref t.c_NoPile) = some true

def negV : V → V
  | .int i => .int (-i)
  | v => v
def absV2 : V → V
  | .int i => .int (if i < 0 then -i else i)
  | v => v

def strV : V → V
  | .int i => .str (wordOf i)
  | v => v
theorem burnt_cakes {xs : List Int} (h : Fs.Burnt xs) (h12 : xs.length ≤ 12) : ∀ x ∈ xs, x ∈ cakesW := fun x hx => by
  obtain ⟨h1, h2, h3⟩ := h.mem hx
  exact cakesW_mem h3 (by omega) (by omega)
theorem word_len3 : ∀ c ∈ cakesW, (wordOf c).length ≤ 3 := by decide +kernel
theorem word_asc : ∀ c ∈ cakesW, (cpl (wordOf c)).all (· < 128) = true := by decide +kernel
theorem join_tx {xs : List Int} (h : ∀ x ∈ xs, x ∈ cakesW) (h12 : xs.length ≤ 12) : Tx 60 (Str.join spc (xs.map wordOf)) := by
  refine ⟨?_, ?_⟩
  · have a := StrLaws.join_length_le spc (xs.map wordOf)
    have b : ((xs.map wordOf).map (·.length)).sum ≤ 3 * xs.length := by
      clear a h12
      induction xs with
      | nil => simp
      | cons x r ih =>
        have := word_len3 x (h x List.mem_cons_self)
        have := ih fun y hy => h y (List.mem_cons_of_mem _ hy)
        simp only [List.map_cons, List.sum_cons, List.length_cons]
        omega
    have c : spc.length = 1 := rfl
    rw [c, List.length_map] at a
    omega
  · intro c hc
    have m : c ∈ (xs.map wordOf).flatMap fun w => 32 :: cpl w := List.mem_of_mem_drop (by rw [join_drop] at hc; exact hc)
    obtain ⟨w, hw, hcw⟩ := List.mem_flatMap.mp m
    obtain ⟨x, hx, rfl⟩ := List.mem_map.mp hw
    rcases List.mem_cons.mp hcw with e | e
    · rw [e]; decide
    · exact of_decide_eq_true (List.all_eq_true.mp (word_asc x (h x hx)) c e)
def absV3 : V → V
  | .int i => .int (if i < 0 then -i else i)
  | v => v

def spCell (K : PySem.W.Frag) : Sp := fun vs H Q _ => ∃ (a : Addr) (ns : List Int) (k : Int), vs = [.ref a, .int k] ∧ SqL K H a (ns.map V.int) ∧ 0 ≤ k ∧ ∀ v : Int, Q (.int v) H
def spPile (K : PySem.W.Frag) : Sp := fun vs H Q _ => ∃ (a : Addr) (ns : List Int) (i m : Int), vs = [.ref a, .int i, .int m] ∧ SqL K H a (ns.map V.int) ∧ 0 ≤ i ∧ 0 < m ∧ m ≤ 12 ∧
  ∀ (p : Addr) (H' : Hp) (xs : List Int), H p = none → Same H H' → H' p = some (.lst (xs.map V.int)) → Fs.Plain xs → (xs.length : Int) ≤ m → Q (.ref p) H'
def spBurnt (K : PySem.W.Frag) : Sp := fun vs H Q _ => ∃ (a : Addr) (xs : List Int) (c : Int), vs = [.ref a, .int c] ∧ SqL K H a (xs.map V.int) ∧ xs.length ≤ 12 ∧
  ∀ (p : Addr) (H' : Hp) (ys : List Int), H p = none → Same H H' → H' p = some (.lst (ys.map V.int)) → ys.map Fs.absI = xs.map Fs.absI → Q (.ref p) H'
def spLaw (K : PySem.W.Frag) : Sp := fun vs H Q _ => ∃ (a : Addr) (ns : List Int), vs = [.ref a] ∧ SqL K H a (ns.map V.int) ∧ ns.length ≤ 63 ∧ ∀ H', Q (.bl true) H'

/-- a plain pile (b: without its signs) of at most 12 cakes -/
def PB : Bool → List Int → Prop
  | false, xs => Fs.Plain xs ∧ xs.length ≤ 12
  | true, xs => Fs.Plain (xs.map Fs.absI) ∧ (xs.map Fs.absI).length ≤ 12
def spCheckX (K : PySem.W.Frag) (N : Addr) (b : Bool) : Sp := fun vs H Q E => ∃ (a : Addr) (xs : List Int), vs = [.ref a] ∧ SqL K H a (xs.map V.int) ∧ xs.length ≤ 200 ∧ (PB b xs → ∀ H', Same H H' → Q .non H') ∧ (¬ PB b xs → ∀ H', Same H H' → E (.ref N) none H')
def spSignsX (K : PySem.W.Frag) : Sp := fun vs H Q _ => ∃ (a : Addr) (xs : List Int), vs = [.ref a] ∧ SqL K H a (xs.map V.int) ∧ xs.length ≤ 200 ∧
  ∀ (p : Addr) (H' : Hp), H p = none → Same H H' → H' p = some (.lst ((xs.map Fs.absI).map V.int)) → Q (.ref p) H'
def spWords : Sp := fun vs H Q _ => vs = [] ∧ ∀ (p : Addr) (H' : Hp) (kvs : List (Key × V)), H p = none → Same H H' → H' p = some (.dK kvs) → (∀ w, valV kvs (.inr w) = knownBy 12 w) → Q (.ref p) H'

def badB : List Bool := [false, false, false, false, true, true]
def Good (ns : List Int) : Prop := Fs.Plain (ns.map Fs.absI) ∧ ns.length ≤ 12
def spReadC14 (N : Addr) : Sp := fun vs H Q E => ∃ z : Str, vs = [.str z] ∧ Tx 150 z ∧ (∀ cs, Wr (Txt.split z spc) cs → ∀ (p : Addr) (H' : Hp), H p = none → Same H H' → H' p = some (.lst (cs.map V.int)) → Q (.ref p) H') ∧
  ((¬ ∃ cs, Wr (Txt.split z spc) cs) → ∀ H', Same H H' → E (.ref N) none H')
def spRead14 (N : Addr) (b : Bool) : Sp := fun vs H Q E => ∃ z : Str, vs = [.str z] ∧ Tx 150 z ∧ (∀ cs, Wr (Txt.split z spc) cs → PB b cs → ∀ (p : Addr) (H' : Hp), H p = none → Same H H' → H' p = some (.lst (cs.map V.int)) → Q (.ref p) H') ∧
  ((¬ ∃ cs, Wr (Txt.split z spc) cs ∧ PB b cs) → ∀ H', Same H H' → E (.ref N) none H')
def spWhich14 (N : Addr) : Sp := fun vs H Q _ => ∃ e : Addr, vs = [.ref e] ∧ H e = some (.ext (IsExc e (.ref N))) ∧ ∀ (p : Addr) (H' : Hp), H p = none → Same H H' → H' p = some (.lst (badB.map V.bl)) → Q (.ref p) H'
def spSign : Sp := fun vs H Q _ => ∃ c : Int, vs = [.int c] ∧ ∀ k : Nat, k < 128 → Q (.str ⟨#[k]⟩) H
def spOdd : Sp := fun vs H Q _ => ∃ c : Int, vs = [.int c] ∧ ∀ (z : Str) (H' : Hp), Tx 60 z → Same H H' → Q (.str z) H'
def spNum : Sp := fun vs H Q _ => ∃ w : Str, vs = [.str w] ∧ Tx 150 w ∧ Q (.int (numM w)) H
def spDue : Sp := fun vs H Q _ => ∃ (z : Str) (b : Bool), vs = [.str z, .bl b] ∧ Tx 150 z ∧ (Good ((Txt.split z spc).map (numB b)) → ∀ (p : Addr) (H' : Hp), H p = none → Same H H' → H' p = some (.lst (((Txt.split z spc).map (numB b)).map V.int)) → Q (.ref p) H') ∧
  (¬ Good ((Txt.split z spc).map (numB b)) → ∀ H', Same H H' → Q .non H')
def spTold14 : Sp := fun vs H Q _ => ∃ (z : Str) (b : Bool), vs = [.str z, .bl b] ∧ Tx 150 z ∧ (∀ cs, Wr (Txt.split z spc) cs → PB b cs → ∀ (p : Addr) (H' : Hp), Same H H' → H' p = some (.lst (cs.map V.int)) → Q (.ref p) H') ∧
  ((¬ ∃ cs, Wr (Txt.split z spc) cs ∧ PB b cs) → ∀ (p : Addr) (H' : Hp), Same H H' → H' p = some (.lst (badB.map V.bl)) → Q (.ref p) H')
def spSpoil : Sp := fun vs H Q _ => ∃ (z : Str) (c o : Int), vs = [.str z, .int c, .int o] ∧ Tx 60 z ∧ ∀ y, Tx 150 y → Q (.str y) H
def LL1 : List V := [(.str ""), (.str " "), (.str "0"), (.str "1 "), (.str " 1"), (.str "1  2"), (.str "2"), (.str "1 1"), (.str "1 3"), (.str "01"), (.str "1 02"), (.str "+1"), (.str "1_0"), (.str "-"), (.str "- 1"), (.str "-1 -"), (.str "--1")]
def LL2 : List V := [(.str "1-"), (.str "1 2 3 4 5 6 7 8 9 10 11 12 13"), (.str "12 11 10 9 8 7 6 5 4 3 2 1"), (.str "-2 -1"), (.str "1 -2"), (.str "1,2")]
theorem tab_at {z : Str} {n : Nat} (hn : (cpl z).length = n) (ha : (cpl z).all (· < 128) = true) {i : Int} (h0 : 0 ≤ i) (h1 : i < (n : Int)) : ∃ k, atI z.cps.toList i = some k ∧ k < 128 := by
  obtain ⟨j, rfl⟩ := Int.eq_ofNat_of_zero_le h0
  have hi : j < (cpl z).length := by omega
  refine ⟨(cpl z)[j], atI_nat (List.getElem?_eq_getElem hi), ?_⟩
  have := List.all_eq_true.mp ha _ (List.getElem_mem hi)
  exact of_decide_eq_true this
def okV : V → Bool
  | .str z => decide (z.length ≤ 60) && (cpl z).all (· < 128)
  | _ => false
theorem pick {vs : List V} {n : Nat} (hn : vs.length = n) (ha : vs.all okV = true) {i : Int} (h0 : 0 ≤ i) (h1 : i < (n : Int)) : ∃ z, atI vs i = some (.str z) ∧ Tx 60 z := by
  have hi : i.toNat < vs.length := by omega
  have k := List.all_eq_true.mp ha _ (List.getElem_mem hi)
  have e := atI_int h0 (List.getElem?_eq_getElem hi)
  cases hv : vs[i.toNat] with
  | str z =>
    rw [hv] at k e
    simp only [okV, Bool.and_eq_true, decide_eq_true_eq] at k
    exact ⟨z, e, k.1, fun c hc => of_decide_eq_true (List.all_eq_true.mp k.2 c hc)⟩
  | _ => rw [hv] at k; cases k
theorem one_zero {c : Nat} (h : (⟨#[c]⟩ : Str) = Str.ofString "0") : c = 48 := by
  have e : cpl ⟨#[c]⟩ = cpl (Str.ofString "0") := congrArg cpl h
  rw [show cpl (Str.ofString "0") = [48] by decide +kernel] at e
  exact (List.cons.inj e).1
theorem dig_tab : (Str.ofString "0123456789").cps.toList = digs := by decide +kernel
theorem asc_one {k : Nat} (h : k < 128) : Asc ⟨#[k]⟩ := fun c hc => by
  have : c = k := by simpa [cpl] using hc
  rw [this]
  exact h
theorem wr_num {ws : List Str} {cs : List Int} (h : Wr ws cs) : ws.map (numB true) = cs := by
  rw [h.1, List.map_map]
  refine (List.map_congr_left fun c hc => ?_).trans (List.map_id cs)
  exact num_cake c (h.2 c hc)
theorem wr_inj {ws : List Str} {cs ds : List Int} (h : Wr ws cs) (h' : Wr ws ds) : cs = ds := (wr_num h).symm.trans (wr_num h')
theorem good_due {b : Bool} {ws : List Str} {cs : List Int} (h : Wr ws cs) (p : PB b cs) : ws.map (numB b) = cs ∧ Good cs := by
  cases b with
  | true => exact ⟨wr_num h, p.1, by have := p.2; rwa [List.length_map] at this⟩
  | false =>
    refine ⟨?_, by rw [p.1.abs]; exact p.1, p.2⟩
    rw [h.1, List.map_map]
    refine (List.map_congr_left fun c hc => ?_).trans (List.map_id cs)
    exact num_plain c (h.2 c hc) (by have := (p.1.mem hc).1; omega)
theorem due_good {b : Bool} {ws : List Str} (g : Good (ws.map (numB b))) : Wr ws (ws.map (numB b)) ∧ PB b (ws.map (numB b)) := by
  have key : ∀ w ∈ ws, w = wordOf (numB b w) ∧ numB b w ∈ cakesW ∧ (b = false → 0 < numB b w) := fun w hw => by
    have m := g.1.mem (List.mem_map_of_mem (f := Fs.absI) (List.mem_map_of_mem (f := numB b) hw))
    have l := g.2
    rw [List.length_map] at m
    have hb : 1 ≤ Fs.absI (numB b w) ∧ Fs.absI (numB b w) ≤ 12 := ⟨m.1, by omega⟩
    unfold Fs.absI at hb
    refine num_back rfl ?_ ?_ ?_ <;> (split at hb <;> omega)
  refine ⟨⟨?_, fun c hc => ?_⟩, ?_⟩
  · rw [List.map_map]
    exact ((List.map_congr_left fun w hw => (key w hw).1.symm).trans (List.map_id ws)).symm
  · obtain ⟨w, hw, rfl⟩ := List.mem_map.mp hc
    exact (key w hw).2.1
  · cases b with
    | true => exact ⟨g.1, by rw [List.length_map]; exact g.2⟩
    | false =>
      have e : (ws.map (numB false)).map Fs.absI = ws.map (numB false) := by
        refine (List.map_congr_left fun c hc => ?_).trans (List.map_id _)
        obtain ⟨w, hw, rfl⟩ := List.mem_map.mp hc
        have := (key w hw).2.2 rfl
        show Fs.absI _ = _
        unfold Fs.absI
        rw [if_neg (by omega)]
        rfl
      have p := g.1
      rw [e] at p
      exact ⟨p, g.2⟩
section
variable {P : Program} {w : World} {K : PySem.W.Frag} {mg : Str → Option Value} {base : Heap} {t : Adr}
theorem b_check_pile (T : Txt K mg t) : Binds K t.d_check_pile ["pile"] [] := binds1 T.F_check_pile fun _ _ _ _ _ _ _ => rfl
theorem b_without_signs (T : Txt K mg t) : Binds K t.d_without_signs ["pile"] [] := binds1 T.F_without_signs fun _ _ _ _ _ _ _ => rfl
theorem b_check_burnt_pile (T : Txt K mg t) : Binds K t.d_check_burnt_pile ["pile"] [] := binds1 T.F_check_burnt_pile fun _ _ _ _ _ _ _ => rfl
theorem b_cakes_by_word (T : Txt K mg t) : Binds K t.d_cakes_by_word [] [] := T.F_cakes_by_word.binds fun _ _ _ _ _ _ us hl => match us, hl with | [], _ => rfl
theorem b_read_cakes (T : Txt K mg t) : Binds K t.d_read_cakes ["text"] [] := binds1 T.F_read_cakes fun _ _ _ _ _ _ _ => rfl
theorem b_read (T : Txt K mg t) : Binds K t.d_read ["text"] [] := binds1 T.F_read fun _ _ _ _ _ _ _ => rfl
theorem b_burnt_read (T : Txt K mg t) : Binds K t.d_burnt_read ["text"] [] := binds1 T.F_burnt_read fun _ _ _ _ _ _ _ => rfl
theorem b_law_cell_at (T : Txt K mg t) : Binds K t.d_law_cell_at ["script", "k"] [] := binds2 T.F_law_cell_at fun _ _ _ _ _ _ _ _ => rfl
theorem b_law_pile (T : Txt K mg t) : Binds K t.d_law_pile ["script", "at", "most"] [] := binds3 T.F_law_pile fun _ _ _ _ _ _ _ _ _ => rfl
theorem b_law_burnt (T : Txt K mg t) : Binds K t.d_law_burnt ["pile", "cell"] [] := binds2 T.F_law_burnt fun _ _ _ _ _ _ _ _ => rfl
theorem b_law_which (T : Txt K mg t) : Binds K t.d_law_which ["e"] [] := binds1 T.F_law_which fun _ _ _ _ _ _ _ => rfl
theorem b_law_sign_by (T : Txt K mg t) : Binds K t.d_law_sign_by ["cell"] [] := binds1 T.F_law_sign_by fun _ _ _ _ _ _ _ => rfl
theorem b_law_odd (T : Txt K mg t) : Binds K t.d_law_odd ["cell"] [] := binds1 T.F_law_odd fun _ _ _ _ _ _ _ => rfl
theorem b_law_number (T : Txt K mg t) : Binds K t.d_law_number ["word"] [] := binds1 T.F_law_number fun _ _ _ _ _ _ _ => rfl
theorem b_law_due (T : Txt K mg t) : Binds K t.d_law_due ["text", "burnt"] [] := binds2 T.F_law_due fun _ _ _ _ _ _ _ _ => rfl
theorem b_law_told (T : Txt K mg t) : Binds K t.d_law_told ["text", "burnt"] [] := binds2 T.F_law_told fun _ _ _ _ _ _ _ _ => rfl
theorem b_law_spoiled (T : Txt K mg t) : Binds K t.d_law_spoiled ["text", "cell", "other"] [] := binds3 T.F_law_spoiled fun _ _ _ _ _ _ _ _ _ => rfl
theorem sc_check_pile : FnScope ["pile", "size"] ["pile"] (defScope s_check_pile) := ⟨rfl, rfl, rfl, by decide +kernel, rfl, by decide +kernel, by decide +kernel⟩
theorem sc_without_signs : FnScope ["pile"] ["pile"] (defScope s_without_signs) := ⟨rfl, rfl, rfl, by decide +kernel, rfl, by decide +kernel, by decide +kernel⟩
theorem sc_check_burnt_pile : FnScope ["pile"] ["pile"] (defScope s_check_burnt_pile) := ⟨rfl, rfl, rfl, by decide +kernel, rfl, by decide +kernel, by decide +kernel⟩
theorem sc_cakes_by_word : FnScope ["words", "cake"] [] (defScope s_cakes_by_word) := ⟨rfl, rfl, rfl, by decide +kernel, rfl, by decide +kernel, by decide +kernel⟩
theorem sc_read_cakes : FnScope ["text", "known", "cakes", "word"] ["text"] (defScope s_read_cakes) := ⟨rfl, rfl, rfl, by decide +kernel, rfl, by decide +kernel, by decide +kernel⟩
theorem sc_read : FnScope ["text", "cakes"] ["text"] (defScope s_read) := ⟨rfl, rfl, rfl, by decide +kernel, rfl, by decide +kernel, by decide +kernel⟩
theorem sc_burnt_read : FnScope ["text", "cakes"] ["text"] (defScope s_burnt_read) := ⟨rfl, rfl, rfl, by decide +kernel, rfl, by decide +kernel, by decide +kernel⟩
theorem sc_law_cell_at : FnScope ["script", "k"] ["script", "k"] (defScope s_law_cell_at) := ⟨rfl, rfl, rfl, by decide +kernel, rfl, by decide +kernel, by decide +kernel⟩
theorem sc_law_pile : FnScope ["script", "at", "most", "size", "left", "pile", "k"] ["script", "at", "most"] (defScope s_law_pile) := ⟨rfl, rfl, rfl, by decide +kernel, rfl, by decide +kernel, by decide +kernel⟩
theorem sc_law_burnt : FnScope ["pile", "cell", "found", "cake"] ["pile", "cell"] (defScope s_law_burnt) := ⟨rfl, rfl, rfl, by decide +kernel, rfl, by decide +kernel, by decide +kernel⟩
theorem sc_law_which : FnScope ["e", "some"] ["e"] (defScope s_law_which) := ⟨rfl, rfl, rfl, by decide +kernel, rfl, by decide +kernel, by decide +kernel⟩
theorem sc_law_sign_by : FnScope ["cell", "signs"] ["cell"] (defScope s_law_sign_by) := ⟨rfl, rfl, rfl, by decide +kernel, rfl, by decide +kernel, by decide +kernel⟩
theorem sc_law_odd : FnScope ["cell", "some"] ["cell"] (defScope s_law_odd) := ⟨rfl, rfl, rfl, by decide +kernel, rfl, by decide +kernel, by decide +kernel⟩
theorem sc_law_number : FnScope ["word", "sign"] ["word"] (defScope s_law_number) := ⟨rfl, rfl, rfl, by decide +kernel, rfl, by decide +kernel, by decide +kernel⟩
theorem sc_law_due : FnScope ["text", "burnt", "pile", "word"] ["text", "burnt"] (defScope s_law_due) := ⟨rfl, rfl, rfl, by decide +kernel, rfl, by decide +kernel, by decide +kernel⟩
theorem sc_law_told : FnScope ["text", "burnt", "told", "e"] ["text", "burnt"] (defScope s_law_told) := ⟨rfl, rfl, rfl, by decide +kernel, rfl, by decide +kernel, by decide +kernel⟩
theorem sc_law_spoiled : FnScope ["text", "cell", "other", "at"] ["text", "cell", "other"] (defScope s_law_spoiled) := ⟨rfl, rfl, rfl, by decide +kernel, rfl, by decide +kernel, by decide +kernel⟩
theorem sc_law : FnScope ["script", "pile", "text", "burnt", "due", "found"] ["script"] (defScope s_law) := ⟨rfl, rfl, rfl, by decide +kernel, rfl, by decide +kernel, by decide +kernel⟩

end
end Fl

namespace Fl
open PySem L2
section
variable {P : Program} {w : World} {K : PySem.W.Frag} {mg : Str → Option Value} {base : Heap} {t : Adr}
theorem ok_check_pile (T : Txt K mg t) : FnOk P w K mg base (CXF P w) 1 t.a_check_pile t.d_check_pile ["pile"] (spCheckX K t.c_NoPile false) := by
  refine T.F_check_pile.okF sc_check_pile (fun vs H Q E h => ?_) (fun cdv A outer s H vs Q E hr h => ?_)
  · obtain ⟨a, xs, rfl, hS, h40, q, qe⟩ := h
    rfl
  · obtain ⟨a, xs, rfl, hS, h40, q, qe⟩ := h
    refine ⟨_, (pss_cons (ps_set (i := 1) sc_check_pile.nd rfl (Or.inl rfl) (pe_callB (len_K (K := K)) rfl T.z_len bt_len (pa_cons (pv 0) pa_nil)))
      (pss_cons (ps_if (PW.pt (pw_or (pt_cmpR op_lt (pv 1) pe_int (nomark _)) (pw_or1 (pt_cmpR op_gt (pv 1) (pe_globI rfl T.g_MOST_CAKES) (nomark _))))) (pss_one (ps_raiseF T.e_NoPile.toExcC hr.hd rfl T.x_NoPile (pa_cons (pe_fs (pf_str (by decide +kernel) (pf_val (pe_globI rfl T.g_MOST_CAKES) (pf_str (by decide +kernel) (pf_val (pv 1) pf_nil))))) pa_nil))) pss_nil)
      (pss_one (ps_if (pt_cmpR (op_neL hr.units) (pe_callB call_sorted rfl T.z_sorted bt_sorted (pa_cons (pv 0) pa_nil)) (pe_callTy (call_list_rng rfl) rfl T.z_list bt_list (pa_cons (pe_callTy call_rng2 rfl T.z_range bt_range (pa_cons pe_int (pa_cons (pe_op op_add (pv 1) pe_int) pa_nil))) pa_nil)) (nomark _)) (pss_one (ps_raiseF T.e_NoPile.toExcC hr.hd rfl T.x_NoPile (pa_cons (pe_fs (pf_str (by decide +kernel) (pf_val (pv 1) (pf_str (by decide +kernel) pf_nil)))) pa_nil))) pss_nil)))), ?_⟩
    refine ⟨_, rfl, a, _, rfl, .inl hS, ?_⟩
    rw [len_map]
    refine ⟨_, rfl, _, _, rfl, rfl, _, rfl, ite2D (fun h => ?_) (fun h => ⟨_, rfl, _, _, rfl, rfl, _, rfl, ite2D (fun h' => ?_) (fun h' => ?_)⟩)⟩
    · exact ⟨fmtI (by decide) (by decide), _, rfl, fmtN (Nat.le_trans h40 (by decide)), fun x => ⟨by show 1 ≤ 1000; decide, qe (fun z => by have := z.1.pos; omega) H (Same.refl _)⟩⟩
    · exact ⟨fmtI (by decide) (by decide), _, rfl, fmtN (Nat.le_trans h40 (by decide)), fun x => ⟨by show 1 ≤ 1000; decide, qe (fun z => by have := z.2; omega) H (Same.refl _)⟩⟩
    refine ⟨_, rfl, a, xs, rfl, hS, by omega, fun l ms hl pm so => ?_⟩
    refine ⟨_, rfl, _, _, rfl, rfl, _, _, rfl, fun r hr0 => ⟨r, _, _, rfl, upd_same, by decide, by omega, by decide, by omega, fun l2 hl2 => ?_⟩⟩
    have nlr : l ≠ r := fun e => by rw [← e, upd_same] at hr0; cases hr0
    have hr1 : H r = none := by rwa [upd_ne nlr.symm] at hr0
    have n2r : l2 ≠ r := fun e => by rw [e, upd_same] at hl2; cases hl2
    rw [upd_ne n2r] at hl2
    have n2l : l2 ≠ l := fun e => by rw [e, upd_same] at hl2; cases hl2
    have hl20 : H l2 = none := by rwa [upd_ne n2l] at hl2
    refine ⟨l, l2, ms, Fs.upTo 1 ((xs.length : Int) + 1), rfl, rfl, SqL.of (by rw [upd_ne n2l.symm, upd_ne nlr, upd_same]), SqL.of upd_same, _, rfl, ?_⟩
    by_cases z : ms = Fs.upTo 1 ((xs.length : Int) + 1)
    · rw [decide_eq_true z]
      exact iteF (q ⟨⟨by omega, by rw [← z]; exact pm.symm⟩, by omega⟩ _ (((Same.new hl).up hr1).up hl20))
    · rw [decide_eq_false z]
      exact iteT ⟨_, rfl, fmtN (Nat.le_trans h40 (by decide)), fun x => ⟨by show 1 ≤ 1000; decide, qe (fun pl => z (pl.1.sorted pm so)) _ (((Same.new hl).up hr1).up hl20)⟩⟩
end
end Fl

namespace Fl
open PySem L2
section
variable {P : Program} {w : World} {K : PySem.W.Frag} {mg : Str → Option Value} {base : Heap} {t : Adr}
theorem ok_without_signs (T : Txt K mg t) : FnOk P w K mg base CX0 1 t.a_without_signs t.d_without_signs ["pile"] (spSignsX K) := by
  refine T.F_without_signs.ok sc_without_signs (fun vs H Q E h => ?_) (fun cdv A outer s H vs Q E hr h => ?_)
  · obtain ⟨a, xs, rfl, hS, h40, q⟩ := h
    rfl
  · obtain ⟨a, xs, rfl, hS, h40, q⟩ := h
    refine ⟨_, (pss_one (ps_ret (pe_comp rfl (pi_list (pv 0)) (show CapOk _ _ ["cake"] [none] from (cap_own (cap_nil))) keep_name (fun _ _ _ _ => (pg_name (i := 0) (show (["cake"] : List Str).Nodup by decide +kernel) rfl (Or.inl rfl))) (fun _ _ _ _ => pif_nil) (fun _ _ _ _ => (pe_callB call_abs rfl T.z_abs bt_abs (pa_cons (pv 0) pa_nil)))))), ?_⟩
    refine ⟨_, rfl, a, rfl, ⟨_, hS⟩, comp_list (xs := xs.map V.int) absV2 hS (by rw [len_map]; omega) (fun x i H2 R hi s2 r => ?_) (fun p H2 hp s2 e => q p H2 hp s2 ?_)⟩
    · obtain ⟨y, rfl, hy⟩ := map_get hi
      exact ⟨_, rfl, y, rfl, r H2 (Same.refl _)⟩
    · rw [e, List.map_map, List.map_map]
      rfl
end
end Fl

namespace Fl
open PySem L2
section
variable {P : Program} {w : World} {K : PySem.W.Frag} {mg : Str → Option Value} {base : Heap} {t : Adr}
theorem ok_check_burnt_pile (T : Txt K mg t) : FnOk P w K mg base (CXF P w) 2 t.a_check_burnt_pile t.d_check_burnt_pile ["pile"] (spCheckX K t.c_NoPile true) := by
  refine T.F_check_burnt_pile.okF sc_check_burnt_pile (fun vs H Q E h => ?_) (fun cdv A outer s H vs Q E hr h => ?_)
  · obtain ⟨a, xs, rfl, hS, h40, q, qe⟩ := h
    rfl
  · obtain ⟨a, xs, rfl, hS, h40, q, qe⟩ := h
    refine ⟨_, (pss_one (ps_expr (pe_callS (ok_check_pile (K := K) T) (hr.mono (by omega)) rfl T.m_check_pile T.F_check_pile.kp (b_check_pile T) .nil pass_leaveF (pa_cons (pe_call (ok_without_signs (K := K) T) (hr.mono (by omega)) rfl T.m_without_signs T.F_without_signs.kp (b_without_signs T) .nil pass0 (pa_cons (pv 0) pa_nil)) pa_nil)))), ?_⟩
    exact ⟨_, rfl, a, xs, rfl, hS, h40, fun p H1 hp s1 e => ⟨p, xs.map Fs.absI, rfl, SqL.of e, by rw [List.length_map]; exact h40, fun pl H2 s2 => q pl H2 (s1.trans s2), fun npl H2 s2 => qe npl H2 (s1.trans s2)⟩⟩
end
end Fl

namespace Fl
open PySem L2
section
variable {P : Program} {w : World} {K : PySem.W.Frag} {mg : Str → Option Value} {base : Heap} {t : Adr}
theorem ok_cakes_by_word (T : Txt K mg t) : FnOk P w K mg base CX0 1 t.a_cakes_by_word t.d_cakes_by_word [] spWords := by
  refine T.F_cakes_by_word.ok sc_cakes_by_word (fun vs H Q E h => ?_) (fun cdv A outer s H vs Q E hr h => ?_)
  · obtain ⟨rfl, q⟩ := h
    rfl
  · obtain ⟨rfl, q⟩ := h
    refine ⟨_, (pss_cons (ps_set (i := 0) sc_cakes_by_word.nd rfl (Or.inl rfl) pe_dnewK)
      (pss_cons (ps_for PassesOwn.never rfl (pi_range2 rfl T.z_range (pa_cons pe_int (pa_cons (pe_op op_add (pe_globI rfl T.g_MOST_CAKES) pe_int) pa_nil))) (pg_name (i := 1) sc_cakes_by_word.nd rfl (Or.inl rfl)) (pss_cons (ps_dput (hu_of hr) (pv 0) (pe_callTy call_str_int rfl T.z_str bt_str (pa_cons (pv 1) pa_nil)) (pv 1) rfl)
      (pss_one (ps_dput (hu_of hr) (pv 0) (pe_callTy call_str_int rfl T.z_str bt_str (pa_cons (pe_un un_neg (pv 1)) pa_nil)) (pe_un un_neg (pv 1)) rfl))))
      (pss_one (ps_ret (pv 0))))), ?_⟩
    refine fun d hd => ?_
    refine ⟨_, _, rfl, rfl, _, _, rfl, ⟨by decide, by decide, by decide, by decide⟩, for_range (lo := 1) (n := 12) (fun i σ H2 => ∃ (kvs : List (Key × V)) (kv : Option V), σ = [some (.ref d), kv] ∧ Same H H2 ∧ H2 d = some (.dK kvs) ∧ kvs.length ≤ 2 * i ∧ ∀ w, valV kvs (.inr w) = knownBy i w) ?_ ?_ ?_⟩
    · exact ⟨[], none, rfl, Same.new hd, upd_same, Nat.le_refl _, fun w => rfl⟩
    · rintro i σ H2 hi ⟨kvs, kv, rfl, s2, hd2, hl, hv⟩
      have hc : (1 + (i : Int)) ∈ cakesW := cakesW_mem (by omega) (by omega) (by omega)
      have hn : -(1 + (i : Int)) ∈ cakesW := cakesW_mem (by omega) (by omega) (by omega)
      have l1 := length_putK kvs (.inr (wordOf (1 + (i : Int)))) (.int (1 + (i : Int)))
      have l2 := length_putK (putK kvs (.inr (wordOf (1 + (i : Int)))) (.int (1 + (i : Int)))) (.inr (wordOf (-(1 + (i : Int))))) (.int (-(1 + (i : Int))))
      refine ⟨_, rfl, _, rfl, _, rfl, _, rfl, word_log _ hc, d, _, rfl, DPut.k (k := .inr (wordOf (1 + (i : Int)))) hd2 (small1000 (by omega)), ?_⟩
      refine ⟨_, rfl, _, rfl, _, rfl, _, rfl, _, rfl, _, rfl, word_log _ hn, d, _, rfl, DPut.k (k := .inr (wordOf (-(1 + (i : Int))))) upd_same (small1000 (by omega)), ?_⟩
      refine ⟨_, _, rfl, (s2.up hd).up hd, upd_same, Nat.le_trans l2 (by omega), fun w => ?_⟩
      rw [valV_put, valV_put, hv]
      have e : (1 : Int) + i = (i : Int) + 1 := by omega
      rw [knownBy_succ]
      dsimp only
      rw [e]
      by_cases h1 : w = wordOf (-((i : Int) + 1))
      · rw [if_pos h1, if_pos (congrArg Sum.inr h1)]
      · rw [if_neg h1, if_neg (fun z => h1 (Sum.inr.inj z))]
        by_cases h2 : w = wordOf ((i : Int) + 1)
        · rw [if_pos h2, if_pos (congrArg Sum.inr h2)]
        · rw [if_neg h2, if_neg (fun z => h2 (Sum.inr.inj z))]
    · rintro σ H2 ⟨kvs, kv, rfl, s2, hd2, hl, hv⟩
      exact ⟨_, rfl, q d H2 kvs hd s2 hd2 hv⟩
end
end Fl

namespace Fl
open PySem L2
section
variable {P : Program} {w : World} {K : PySem.W.Frag} {mg : Str → Option Value} {base : Heap} {t : Adr}
theorem ok_read_cakes (T : Txt K mg t) : FnOk P w K mg base (CXX P w) 2 t.a_read_cakes t.d_read_cakes ["text"] (spReadC14 t.c_BadLine) := by
  refine T.F_read_cakes.okX sc_read_cakes (fun vs H Q E h => ?_) (fun cdv A outer s H vs Q E hr h => ?_)
  · obtain ⟨z, rfl, tx, q, qe⟩ := h
    rfl
  · obtain ⟨z, rfl, tx, q, qe⟩ := h
    refine ⟨_, (pss_cons (ps_set (i := 1) sc_read_cakes.nd rfl (Or.inl rfl) (pe_call0 (ok_cakes_by_word (K := K) T) (hr.mono (by omega)) rfl T.m_cakes_by_word T.F_cakes_by_word.kp (b_cakes_by_word T) .nil pass0))
      (pss_cons (ps_set (i := 2) sc_read_cakes.nd rfl (Or.inl rfl) (pe_lst pa_nil))
      (pss_cons (ps_for PassesOwn.leaving rfl (pi_list (pe_bm PySem.F.plainAttrs_str PySem.F.slot_str_split PySem.F.type_str_split mt_split (pv 0) (pa_cons pe_str pa_nil))) (pg_name (i := 3) sc_read_cakes.nd rfl (Or.inl rfl)) (pss_cons (ps_if (pt_cmp (pc_dnotin (hu_of hr) (pv 3) (pv 1))) (pss_one (ps_raise T.e_BadLine.toExcC hr.hd rfl T.x_BadLine (pa_cons (pe_fs (pf_repr (pv 3) (pf_str (by decide +kernel) pf_nil))) pa_nil))) pss_nil)
      (pss_one (ps_expr (pe_bm PySem.F.plainAttrs_list PySem.F.slot_list_append PySem.F.type_list_append mt_append (pv 2) (pa_cons (pe_dget (hu_of hr) (pv 1) (pv 3) (fun _ _ => rfl)) pa_nil))))))
      (pss_one (ps_ret (pv 2)))))), ?_⟩
    refine ⟨rfl, fun d H1 kvs hd s1 ed hk => ⟨Nat.zero_le _, fun c hc0 => ?_⟩⟩
    have s2 := s1.up (s1.free hc0) (o := .lst [])
    have ed2 : upd H1 c (.lst []) d = some (.dK kvs) := by rw [upd_ne (ne_of_none ed hc0)]; exact ed
    have ec2 : upd H1 c (.lst []) c = some (.lst []) := upd_same
    have hc' : H c = none := s1.free hc0
    generalize upd H1 c (.lst []) = H2 at s2 ed2 ec2
    dsimp only [gName]
    refine ⟨_, rfl, rfl, _, _, rfl, rfl, by decide, Nat.le_trans tx.len (by decide), ?_⟩
    rw [ofS_spc]
    have hw : ∀ w ∈ Txt.split z spc, Tx 150 w := fun w m => ⟨split_len tx.len m, split_asc tx.asc m⟩
    have hlen : (Txt.split z spc).length ≤ 152 := Nat.le_trans (PyProof.Rows.split_le z spc) (Nat.add_le_add_right tx.len 2)
    generalize Txt.split z spc = ws at q qe hw hlen
    refine fun p hp => ⟨p, rfl, ⟨_, SqL.of upd_same⟩, for_list (xs := ws.map V.str) (fun i σ H3 => ∃ (kv : Option V) (cs : List Int), σ = [some (.str z), some (.ref d), some (.ref c), kv] ∧ Same H H3 ∧ H3 d = some (.dK kvs) ∧
      H3 c = some (.lst (cs.map V.int)) ∧ H3 p = some (.lst (ws.map V.str)) ∧ Wr (ws.take i) cs) ?_ (fun i σ H3 _ ⟨_, _, _, _, _, _, e, _⟩ => SqL.of e) ?_ ?_⟩
    · exact ⟨none, [], rfl, s2.up (s2.free hp), by rw [upd_ne (ne_of_none ed2 hp)]; exact ed2, by rw [upd_ne (ne_of_none ec2 hp)]; exact ec2, upd_same, by simp [Wr]⟩
    · rintro i y σ H3 hi ⟨kv, cs, rfl, s3, ed3, ec3, ep3, wr⟩
      obtain ⟨w, hx, rfl⟩ : ∃ w, ws[i]? = some w ∧ y = .str w := by
        rw [List.getElem?_map] at hi
        cases e : ws[i]? with
        | none => rw [e] at hi; cases hi
        | some x => rw [e] at hi; cases hi; exact ⟨x, rfl, rfl⟩
      have hil : i < ws.length := (List.getElem?_eq_some_iff.mp hx).1
      have wm := List.mem_of_getElem? hx
      have cl : cs.length = i := by
        have := congrArg List.length wr.1
        rw [List.length_take, List.length_map] at this
        omega
      have dg : DGet H3 d (.str w) (knownBy 12 w) := hk w ▸ DGet.k (k := .inr w) ed3
      cases hv : knownBy 12 w with
      | none =>
        rw [hv] at dg
        refine ⟨_, rfl, _, rfl, d, _, rfl, dg, _, rfl, iteT ⟨_, rfl, ⟨(hw w wm).len, (hw w wm).asc⟩, fun x => ⟨by show 1 ≤ 1000; decide, qe (fun hq0 => ?_) H3 s3⟩⟩⟩
        obtain ⟨ds, e, hd⟩ := hq0
        rw [e] at wm
        obtain ⟨c', hc', rfl⟩ := List.mem_map.mp wm
        rw [known_all c' (hd c' hc')] at hv
        cases hv
      | some v =>
        rw [hv] at dg
        obtain ⟨c', rfl, ew, c0, c1, c2⟩ := known_some hv
        refine ⟨_, rfl, _, rfl, d, _, rfl, dg, _, rfl, iteF ⟨_, rfl, .inl ⟨rfl, _, SqL.of ec3⟩, _, rfl, _, rfl, d, _, rfl, dg, c, _, _, rfl, rfl, ec3, small1000 (by rw [len_map]; omega), ?_⟩⟩
        refine ⟨_, cs ++ [c'], rfl, s3.up hc', by rw [upd_ne (ne_of ed3 ec3 (fun z => nomatch z))]; exact ed3, by rw [upd_same]; simp, by rw [upd_ne (ne_of_none ec2 hp).symm]; exact ep3, ?_, fun x hx => ?_⟩
        · rw [List.take_add_one, hx, wr.1, List.map_append, ew]; rfl
        · rcases List.mem_append.mp hx with m | m
          · exact wr.2 x m
          · cases List.mem_singleton.mp m
            exact cakesW_mem c0 (by omega) (by omega)
    · rintro σ H3 ⟨kv, cs, rfl, s3, ed3, ec3, ep3, wr⟩
      rw [List.length_map, List.take_length] at wr
      exact ⟨_, rfl, q cs wr c H3 hc' s3 ec3⟩
end
end Fl

namespace Fl
open PySem L2
section
variable {P : Program} {w : World} {K : PySem.W.Frag} {mg : Str → Option Value} {base : Heap} {t : Adr}
theorem ok_read (T : Txt K mg t) : FnOk P w K mg base (CXX P w) 4 t.a_read t.d_read ["text"] (spRead14 t.c_BadLine false) := by
  refine T.F_read.okX sc_read (fun vs H Q E h => ?_) (fun cdv A outer s H vs Q E hr h => ?_)
  · obtain ⟨z, rfl, tx, q, qe⟩ := h
    rfl
  · obtain ⟨z, rfl, tx, q, qe⟩ := h
    refine ⟨_, (pss_cons (ps_set (i := 1) sc_read.nd rfl (Or.inl rfl) (pe_callS (ok_read_cakes (K := K) T) (hr.mono (by omega)) rfl T.m_read_cakes T.F_read_cakes.kp (b_read_cakes T) .nil pass_leave (pa_cons (pv 0) pa_nil)))
      (pss_cons (ps_try_re (fun pn xe R hp => (pss_one (ps_expr (pe_callS (ok_check_pile (K := K) T) (hr.mono (by omega)) rfl T.m_check_pile T.F_check_pile.kp (b_check_pile T) .nil hp (pa_cons (pv 1) pa_nil))))) rfl T.x_NoPile T.e_NoPile.toExcC (fun ok pn ea => (pss_one (ps_raise_from ok T.e_BadLine.toExcC rfl T.x_BadLine (pa_cons (pe_fs (pf_repr (pv 0) (pf_str (by decide +kernel) pf_nil))) pa_nil)))))
      (pss_one (ps_ret (pv 1))))), ?_⟩
    refine ⟨_, rfl, z, rfl, tx, fun cs wr p H1 hp s1 e => ?_, fun n H1 s1 => qe (fun ⟨cs, wr, _⟩ => n ⟨cs, wr⟩) H1 s1⟩
    have cl : cs.length ≤ 200 := by
      have := congrArg List.length wr.1
      rw [List.length_map] at this
      have := PyProof.Rows.split_le z spc
      have := tx.len
      omega
    refine ⟨_, rfl, p, cs, rfl, SqL.of e, cl, fun pb H2 s2 => ⟨_, rfl, q cs wr pb p H2 hp (s1.trans s2) (s2 _ _ e)⟩, fun npb H2 s2 => ⟨_, rfl, T.e_NoPile.toExcC, T.w_NoPile, fun ea hea => ?_⟩⟩
    refine ⟨_, rfl, ⟨tx.len, tx.asc⟩, fun x => ⟨by show 1 ≤ 1000; decide, upd_same, qe (fun ⟨ds, wd, pd⟩ => npb (wr_inj wr wd ▸ pd)) _ ((s1.trans s2).up ((s1.trans s2).free hea))⟩⟩
end
end Fl

namespace Fl
open PySem L2
section
variable {P : Program} {w : World} {K : PySem.W.Frag} {mg : Str → Option Value} {base : Heap} {t : Adr}
theorem ok_burnt_read (T : Txt K mg t) : FnOk P w K mg base (CXX P w) 4 t.a_burnt_read t.d_burnt_read ["text"] (spRead14 t.c_BadLine true) := by
  refine T.F_burnt_read.okX sc_burnt_read (fun vs H Q E h => ?_) (fun cdv A outer s H vs Q E hr h => ?_)
  · obtain ⟨z, rfl, tx, q, qe⟩ := h
    rfl
  · obtain ⟨z, rfl, tx, q, qe⟩ := h
    refine ⟨_, (pss_cons (ps_set (i := 1) sc_burnt_read.nd rfl (Or.inl rfl) (pe_callS (ok_read_cakes (K := K) T) (hr.mono (by omega)) rfl T.m_read_cakes T.F_read_cakes.kp (b_read_cakes T) .nil pass_leave (pa_cons (pv 0) pa_nil)))
      (pss_cons (ps_try_re (fun pn xe R hp => (pss_one (ps_expr (pe_callS (ok_check_burnt_pile (K := K) T) (hr.mono (by omega)) rfl T.m_check_burnt_pile T.F_check_burnt_pile.kp (b_check_burnt_pile T) .nil hp (pa_cons (pv 1) pa_nil))))) rfl T.x_NoPile T.e_NoPile.toExcC (fun ok pn ea => (pss_one (ps_raise_from ok T.e_BadLine.toExcC rfl T.x_BadLine (pa_cons (pe_fs (pf_repr (pv 0) (pf_str (by decide +kernel) pf_nil))) pa_nil)))))
      (pss_one (ps_ret (pv 1))))), ?_⟩
    refine ⟨_, rfl, z, rfl, tx, fun cs wr p H1 hp s1 e => ?_, fun n H1 s1 => qe (fun ⟨cs, wr, _⟩ => n ⟨cs, wr⟩) H1 s1⟩
    have cl : cs.length ≤ 200 := by
      have := congrArg List.length wr.1
      rw [List.length_map] at this
      have := PyProof.Rows.split_le z spc
      have := tx.len
      omega
    refine ⟨_, rfl, p, cs, rfl, SqL.of e, cl, fun pb H2 s2 => ⟨_, rfl, q cs wr pb p H2 hp (s1.trans s2) (s2 _ _ e)⟩, fun npb H2 s2 => ⟨_, rfl, T.e_NoPile.toExcC, T.w_NoPile, fun ea hea => ?_⟩⟩
    refine ⟨_, rfl, ⟨tx.len, tx.asc⟩, fun x => ⟨by show 1 ≤ 1000; decide, upd_same, qe (fun ⟨ds, wd, pd⟩ => npb (wr_inj wr wd ▸ pd)) _ ((s1.trans s2).up ((s1.trans s2).free hea))⟩⟩
end
end Fl

namespace Fl
open PySem L2
section
variable {P : Program} {w : World} {K : PySem.W.Frag} {mg : Str → Option Value} {base : Heap} {t : Adr}
theorem ok_law_cell_at (T : Txt K mg t) : FnOk P w K mg base CX0 1 t.a_law_cell_at t.d_law_cell_at ["script", "k"] (spCell K) := by
  refine T.F_law_cell_at.ok sc_law_cell_at (fun vs H Q E h => ?_) (fun cdv A outer s H vs Q E hr h => ?_)
  · obtain ⟨a, ns, k, rfl, hS, h0, q⟩ := h
    rfl
  · obtain ⟨a, ns, k, rfl, hS, h0, q⟩ := h
    refine ⟨_, (pss_cons (ps_if (pt_cmpR op_lt (pv 1) (pe_callB (len_K (K := K)) rfl T.z_len bt_len (pa_cons (pv 0) pa_nil)) (nomark _)) (pss_one (ps_ret (pe_ix (ix_K (K := K)) (pv 0) (pv 1) (fun _ _ => rfl)))) pss_nil)
      (pss_one (ps_ret pe_int))), ?_⟩
    refine ⟨_, rfl, _, rfl, a, _, rfl, .inl hS, _, _, rfl, rfl, _, rfl, ?_⟩
    refine ite2D (fun h => ?_) (fun _ => q 0)
    rw [len_map] at h
    exact ⟨_, rfl, _, rfl, a, _, _, _, rfl, rfl, hS, atI_int h0 (get_ints (by omega)), q _⟩
end
end Fl

namespace Fl
open PySem L2
section
variable {P : Program} {w : World} {K : PySem.W.Frag} {mg : Str → Option Value} {base : Heap} {t : Adr}
theorem ok_law_pile (T : Txt K mg t) : FnOk P w K mg base CX0 2 t.a_law_pile t.d_law_pile ["script", "at", "most"] (spPile K) := by
  refine T.F_law_pile.ok sc_law_pile (fun vs H Q E h => ?_) (fun cdv A outer s H vs Q E hr h => ?_)
  · obtain ⟨a, ns, i0, m, rfl, hS, h0, hm, hm2, q⟩ := h
    rfl
  · obtain ⟨a, ns, i0, m, rfl, hS, h0, hm, hm2, q⟩ := h
    refine ⟨_, (pss_cons (ps_set (i := 3) sc_law_pile.nd rfl (Or.inl rfl) (pe_op op_add pe_int (pe_op op_mod (pe_call (ok_law_cell_at (K := K) T) (hr.mono (by omega)) rfl T.m_law_cell_at T.F_law_cell_at.kp (b_law_cell_at T) .nil pass0 (pa_cons (pv 0) (pa_cons (pv 1) pa_nil))) (pv 2))))
      (pss_cons (ps_set (i := 4) sc_law_pile.nd rfl (Or.inl rfl) (pe_callTy (call_list_rng rfl) rfl T.z_list bt_list (pa_cons (pe_callTy call_rng2 rfl T.z_range bt_range (pa_cons pe_int (pa_cons (pe_op op_add (pv 3) pe_int) pa_nil))) pa_nil)))
      (pss_cons (ps_set (i := 5) sc_law_pile.nd rfl (Or.inl rfl) (pe_lst pa_nil))
      (pss_cons (ps_for PassesOwn.never rfl (pi_range1 rfl T.z_range (pa_cons (pv 3) pa_nil)) (pg_name (i := 6) sc_law_pile.nd rfl (Or.inl rfl)) (pss_one (ps_expr (pe_bm PySem.F.plainAttrs_list PySem.F.slot_list_append PySem.F.type_list_append mt_append (pv 5) (pa_cons (pe_bm PySem.F.plainAttrs_list PySem.F.slot_list_pop PySem.F.type_list_pop mt_popAt (pv 4) (pa_cons (pe_op op_mod (pe_call (ok_law_cell_at (K := K) T) (hr.mono (by omega)) rfl T.m_law_cell_at T.F_law_cell_at.kp (b_law_cell_at T) .nil pass0 (pa_cons (pv 0) (pa_cons (pe_op op_add (pe_op op_add (pv 1) pe_int) (pv 6)) pa_nil))) (pe_callB (len_K (K := K)) rfl T.z_len bt_len (pa_cons (pv 4) pa_nil))) pa_nil)) pa_nil)))))
      (pss_one (ps_ret (pv 5))))))), ?_⟩
    refine ⟨_, rfl, _, rfl, a, ns, i0, rfl, hS, h0, fun v => ⟨_, rfl, _, _, rfl, rfl, hm, _, _, rfl, rfl, ?_⟩⟩
    have b1 := Int.emod_nonneg v (Int.ne_of_gt hm)
    have b2 := Int.emod_lt_of_pos v hm
    dsimp only
    have z1 : (1 : Int) ≤ 1 + v % m := Int.le_add_of_nonneg_right b1
    have z2 : (1 : Int) + v % m ≤ m := by rw [Int.add_comm]; exact b2
    generalize (1 : Int) + v % m = z at z1 z2
    clear b1 b2
    obtain ⟨n, rfl⟩ := Int.eq_ofNat_of_zero_le (Int.le_trans (by decide) z1)
    have n1 : 1 ≤ n := Int.ofNat_le.mp z1
    have n12 : n ≤ 12 := Int.ofNat_le.mp (Int.le_trans z2 hm2)
    have i12 : (n : Int) ≤ 12 := Int.ofNat_le.mpr n12
    -- left = list(range(1, size + 1)); pile = []
    refine ⟨_, rfl, _, _, rfl, rfl, _, _, rfl, fun r hr0 => ⟨r, _, _, rfl, upd_same, by decide, Int.le_trans (Int.add_le_add_right i12 1) (by decide), by decide, Int.le_trans (by decide) (Int.add_nonneg (Int.natCast_nonneg n) (by decide)), fun l hl => ⟨Nat.zero_le _, fun p hp => ?_⟩⟩⟩
    have nlr : l ≠ r := fun e => by rw [e, upd_same] at hl; cases hl
    have hl0 : H l = none := by rwa [upd_ne nlr] at hl
    have npl : p ≠ l := fun e => by rw [e, upd_same] at hp; cases hp
    have hp1 : upd H r (.rng 1 ((n : Int) + 1)) p = none := by rwa [upd_ne npl] at hp
    have npr : p ≠ r := fun e => by rw [e, upd_same] at hp1; cases hp1
    have hp0 : H p = none := by rwa [upd_ne npr] at hp1
    refine ⟨_, rfl, _, rfl, Int.le_trans (by decide) (Int.natCast_nonneg n), Int.lt_of_le_of_lt i12 (by decide), for_range (n := n) (fun i σ H2 => ∃ (xs ls : List Int) (kv : Option V), σ = [some (.ref a), some (.int i0), some (.int m), some (.int (n : Int)), some (.ref l), some (.ref p), kv] ∧ Same H H2 ∧
      H2 l = some (.lst (ls.map V.int)) ∧ H2 p = some (.lst (xs.map V.int)) ∧ xs.length = i ∧ ls.length + i = n ∧ (xs ++ ls).Perm (Fs.upTo 1 ((n : Int) + 1))) ?_ ?_ ?_⟩
    · refine ⟨[], Fs.upTo 1 ((n : Int) + 1), none, rfl, (((Same.new hr0).up hl0).up hp0), ?_, upd_same, rfl, ?_, List.Perm.refl _⟩
      · rw [upd_ne npl.symm]; exact upd_same
      · rw [Fs.length_upTo, Int.add_sub_cancel]; rfl
    · rintro i σ H2 hi ⟨xs, ls, kv, rfl, s2, hl2, hp2, e1, e2, pm⟩
      have hlen : 0 < ls.length := Nat.pos_of_ne_zero fun z => by rw [z, Nat.zero_add] at e2; exact absurd hi (by rw [e2]; exact Nat.lt_irrefl _)
      have ip : (0 : Int) < ls.length := Int.natCast_pos.mpr hlen
      have l12 : (ls.length : Int) ≤ 12 := Int.ofNat_le.mpr (Nat.le_trans (Nat.le.intro e2) n12)
      refine ⟨_, rfl, .inl ⟨rfl, _, SqL.of hp2⟩, _, rfl, .inl ⟨rfl, _, SqL.of hl2⟩, _, rfl, _, rfl, _, _, rfl, rfl, _, rfl, _, _, rfl, rfl, a, ns, _, rfl, s2.seq hS, Int.add_nonneg (Int.add_nonneg h0 (by decide)) (Int.add_nonneg (by decide) (Int.natCast_nonneg _)), fun u => ⟨_, rfl, l, _, rfl, .inl (SqL.of hl2), _, _, rfl, rfl, ?_, ?_⟩⟩
      · rw [len_map]; exact ip
      rw [len_map]
      dsimp only
      have c1 := Int.emod_nonneg u (Int.ne_of_gt ip)
      have c2 := Int.emod_lt_of_pos u ip
      generalize hj : u % (ls.length : Int) = j at c1 c2 ⊢
      have hjl : j.toNat < ls.length := (Int.toNat_lt c1).mpr c2
      refine ⟨l, _, _, j.toNat, _, rfl, rfl, hl2, Int.le_trans (by decide) c1, Int.lt_of_lt_of_le c2 (Int.le_trans l12 (by decide)), by rw [len_map]; exact seq_at c1 c2, get_ints hjl, p, _, _, rfl, rfl, (by rw [upd_ne npl]; exact hp2), small1000 (by rw [len_map, e1]; exact Nat.le_trans (Nat.le_of_lt hi) (Nat.le_trans n12 (by decide))), ?_⟩
      refine ⟨xs ++ [ls.getD j.toNat 0], ls.eraseIdx j.toNat, _, rfl, ((s2.up hl0).up hp0), ?_, ?_, ?_, ?_, ?_⟩
      · rw [upd_ne npl.symm, upd_same, erase_map]
      · rw [upd_same]; simp
      · simp [e1]
      · rw [List.length_eraseIdx_of_lt hjl, Nat.add_comm i 1, ← Nat.add_assoc, Nat.sub_add_cancel hlen]; exact e2
      · refine List.Perm.trans ?_ pm
        rw [List.append_assoc]
        refine List.Perm.append_left _ ?_
        exact Fs.erase_perm ls j.toNat hjl
    · rintro σ H2 ⟨xs, ls, kv, rfl, s2, hl2, hp2, e1, e2, pm⟩
      have hls : ls = [] := List.eq_nil_of_length_eq_zero (Nat.add_right_cancel (e2.trans (Nat.zero_add n).symm))
      subst hls
      rw [List.append_nil] at pm
      exact ⟨_, rfl, q p H2 xs hp0 s2 hp2 ⟨by rw [e1]; exact n1, by rw [e1]; exact pm⟩ (by rw [e1]; exact z2)⟩
end
end Fl

namespace Fl
open PySem L2
section
variable {P : Program} {w : World} {K : PySem.W.Frag} {mg : Str → Option Value} {base : Heap} {t : Adr}
theorem ok_law_burnt (T : Txt K mg t) : FnOk P w K mg base CX0 1 t.a_law_burnt t.d_law_burnt ["pile", "cell"] (spBurnt K) := by
  refine T.F_law_burnt.ok sc_law_burnt (fun vs H Q E h => ?_) (fun cdv A outer s H vs Q E hr h => ?_)
  · obtain ⟨a, xs, c, rfl, hS, h12, q⟩ := h
    rfl
  · obtain ⟨a, xs, c, rfl, hS, h12, q⟩ := h
    refine ⟨_, (pss_cons (ps_set (i := 2) sc_law_burnt.nd rfl (Or.inl rfl) (pe_lst pa_nil))
      (pss_cons (ps_for PassesOwn.never rfl (pi_list (pv 0)) (pg_name (i := 3) sc_law_burnt.nd rfl (Or.inl rfl)) (pss_cons (ps_expr (pe_bm PySem.F.plainAttrs_list PySem.F.slot_list_append PySem.F.type_list_append mt_append (pv 2) (pa_cons (pe_ix (ix_K (K := K)) (pe_lst (pa_cons (pv 3) (pa_cons (pe_un un_neg (pv 3)) pa_nil))) (pe_op op_mod (pv 1) pe_int) (fun _ _ => rfl)) pa_nil)))
      (pss_one (ps_set (i := 1) sc_law_burnt.nd rfl (Or.inl rfl) (pe_op op_fdiv (pv 1) pe_int)))))
      (pss_one (ps_ret (pv 2))))), ?_⟩
    refine ⟨Nat.zero_le _, fun p hp => ?_⟩
    refine ⟨_, rfl, a, rfl, ⟨_, (Same.new hp).seq hS⟩, for_list (K := K) (a := a) (xs := xs.map V.int) (fun i σ H2 => ∃ (ys : List Int) (c : Int) (kv : Option V), σ = [some (.ref a), some (.int c), some (.ref p), kv] ∧ Same H H2 ∧
      H2 p = some (.lst (ys.map V.int)) ∧ ys.map Fs.absI = (xs.take i).map Fs.absI) ?_ (fun i σ H2 _ ⟨_, _, _, _, s2, _⟩ => s2.seq hS) ?_ ?_⟩
    · exact ⟨[], c, none, rfl, Same.new hp, upd_same, by simp⟩
    · rintro i y σ H2 hi ⟨ys, c, kv, rfl, s2, hp2, e1⟩
      obtain ⟨x, rfl, hx⟩ := map_get hi
      have hil : i < xs.length := (List.getElem?_eq_some_iff.mp hx).1
      have hyl : ys.length = i := by have := congrArg List.length e1; simp at this; omega
      have b1 := Int.emod_nonneg c (show (2 : Int) ≠ 0 by decide)
      have b2 := Int.emod_lt_of_pos c (show (0 : Int) < 2 by decide)
      -- found.append([cake, -cake][cell % 2])
      refine ⟨_, rfl, .inl ⟨rfl, _, SqL.of hp2⟩, _, rfl, _, rfl, _, rfl, small12 (by show 2 ≤ 1000; decide), fun d hd => ⟨_, rfl, _, _, rfl, rfl, (by show (0 : Int) < 2; decide), d, _, _, .int (if c % 2 = 0 then x else -x), rfl, rfl, SqL.of upd_same, ?_, p, _, _, rfl, rfl, (by rw [upd_ne (ne_of_none hp2 hd)]; exact hp2), small1000 (by rw [len_map]; omega), ?_⟩⟩
      · refine atI_int b1 ?_
        by_cases hc : c % 2 = 0
        · rw [hc, if_pos rfl]; rfl
        · have hc1 : c % 2 = 1 := by omega
          rw [hc1, if_neg (by decide)]; rfl
      refine ⟨_, rfl, _, _, rfl, rfl, ⟨by decide, by decide⟩, ys ++ [if c % 2 = 0 then x else -x], _, _, rfl, ?_, ?_, ?_⟩
      · exact (s2.up (s2.free hd)).up hp
      · rw [upd_same]; simp
      · rw [List.map_append, e1, List.take_add_one, hx]
        simp only [List.map_append, List.map_cons, List.map_nil, Option.toList_some]
        congr 2
        split
        · rfl
        · unfold Fs.absI
          split <;> split <;> omega
    · rintro σ H2 ⟨ys, c, kv, rfl, s2, hp2, e1⟩
      rw [len_map, List.take_length] at e1
      exact ⟨_, rfl, q p H2 ys hp s2 hp2 e1⟩
end
end Fl

namespace Fl
open PySem L2
section
variable {P : Program} {w : World} {K : PySem.W.Frag} {mg : Str → Option Value} {base : Heap} {t : Adr}
theorem ok_law_which (T : Txt K mg t) : FnOkH P w K mg base 1 t.a_law_which t.d_law_which ["e"] (spWhich14 t.c_BadLine) := by
  refine T.F_law_which.okH sc_law_which (fun vs H Q E h => ?_) (fun cdv A outer s H vs Q E hr h => ?_)
  · obtain ⟨e, rfl, he, q⟩ := h
    rfl
  · obtain ⟨e, rfl, he, q⟩ := h
    refine ⟨_, (pss_cons (ps_set (i := 1) sc_law_which.nd rfl (Or.inl rfl) (pe_lst (pa_cons (pe_callB call_isexc rfl T.z_isinstance bt_isinstance (pa_cons (pv 0) (pa_cons (pe_glob (v := .ref t.c_NoPile) rfl T.x_NoPile rfl) pa_nil))) (pa_cons (pe_callB call_isexc rfl T.z_isinstance bt_isinstance (pa_cons (pv 0) (pa_cons (pe_glob (v := .ref t.c_NoTurn) rfl T.x_NoTurn rfl) pa_nil))) (pa_cons (pe_callB call_isexc rfl T.z_isinstance bt_isinstance (pa_cons (pv 0) (pa_cons (pe_glob (v := .ref t.c_TooTall) rfl T.x_TooTall rfl) pa_nil))) (pa_cons (pe_callB call_isexc rfl T.z_isinstance bt_isinstance (pa_cons (pv 0) (pa_cons (pe_glob (v := .ref t.c_NoBack) rfl T.x_NoBack rfl) pa_nil))) pa_nil))))))
      (pss_one (ps_ret (pe_op op_cat (pv 1) (pe_lst (pa_cons (pe_callB call_isexc rfl T.z_isinstance bt_isinstance (pa_cons (pv 0) (pa_cons (pe_glob (v := .ref t.c_BadLine) rfl T.x_BadLine rfl) pa_nil))) (pa_cons (pe_callB call_isexc rfl T.z_isinstance bt_isinstance (pa_cons (pv 0) (pa_cons (pe_bltn (v := .ty "ValueError") rfl T.z_ValueError bt_ValueError rfl) pa_nil))) pa_nil))))))), ?_⟩
    have F := T.e_BadLine
    refine ⟨_, rfl, e, _, _, _, rfl, he, F, .inl ⟨_, rfl, T.i_BadLine_NoPile⟩, _, rfl, e, _, _, _, rfl, he, F, .inl ⟨_, rfl, T.i_BadLine_NoTurn⟩, _, rfl, e, _, _, _, rfl, he, F, .inl ⟨_, rfl, T.i_BadLine_TooTall⟩, _, rfl, e, _, _, _, rfl, he, F, .inl ⟨_, rfl, T.i_BadLine_NoBack⟩, small12 (by show 4 ≤ 1000; decide), fun p1 hp1 => ?_⟩
    have he1 : upd H p1 (.lst [.bl false, .bl false, .bl false, .bl false]) e = some (.ext (IsExc e (.ref t.c_BadLine))) := by rw [upd_ne (ne_of_none he hp1)]; exact he
    refine ⟨_, rfl, _, rfl, e, _, _, _, rfl, he1, F, .inl ⟨_, rfl, T.i_BadLine_BadLine⟩, _, rfl, e, _, _, true, rfl, he1, F, .inr ⟨_, rfl, T.i_BadLine_ValueError⟩, small12 (by show 2 ≤ 1000; decide), fun p2 hp2 => ?_⟩
    have n12 : p1 ≠ p2 := ne_of_none upd_same hp2
    refine ⟨p1, p2, _, _, rfl, rfl, (by rw [upd_ne n12, upd_same]), upd_same, small12 (by show 6 ≤ 1000; decide), fun p3 hp3 => ?_⟩
    have t1 : Same H (upd H p1 (.lst [.bl false, .bl false, .bl false, .bl false])) := Same.new hp1
    have t2 := t1.up (t1.free hp2) (o := .lst [.bl true, .bl true])
    exact q p3 _ (t2.free hp3) (t2.up (t2.free hp3)) upd_same
end
end Fl

namespace Fl
open PySem L2
section
variable {P : Program} {w : World} {K : PySem.W.Frag} {mg : Str → Option Value} {base : Heap} {t : Adr}
theorem ok_law_sign_by (T : Txt K mg t) : FnOk P w K mg base CX0 1 t.a_law_sign_by t.d_law_sign_by ["cell"] spSign := by
  refine T.F_law_sign_by.ok sc_law_sign_by (fun vs H Q E h => ?_) (fun cdv A outer s H vs Q E hr h => ?_)
  · obtain ⟨c, rfl, q⟩ := h
    rfl
  · obtain ⟨c, rfl, q⟩ := h
    refine ⟨_, (pss_cons (ps_if (pt_cmpR op_eq (pe_op op_mod (pv 0) pe_int) pe_int (nomark _)) (pss_one (ps_ret (pe_ix ix_str pe_str (pe_op op_mod (pe_op op_fdiv (pv 0) pe_int) pe_int) (fun _ _ => rfl)))) pss_nil)
      (pss_cons (ps_set (i := 1) sc_law_sign_by.nd rfl (Or.inl rfl) pe_str)
      (pss_cons (ps_set (i := 1) sc_law_sign_by.nd rfl (Or.inl rfl) (pe_op op_add_str (pv 1) pe_str))
      (pss_one (ps_ret (pe_ix ix_str (pv 1) (pe_op op_mod (pe_op op_fdiv (pv 0) pe_int) pe_int) (fun _ _ => rfl))))))), ?_⟩
    refine ⟨_, rfl, _, _, rfl, rfl, (by show (0 : Int) < 2; decide), rfl, _, rfl, ite2D (fun _ => ?_) (fun _ => ?_)⟩
    · refine ⟨_, rfl, _, _, rfl, rfl, ⟨by decide, by decide⟩, _, _, rfl, rfl, (by show (0 : Int) < 16; decide), ?_⟩
      obtain ⟨k, hk, lt⟩ := tab_at (z := Str.ofString "0123456789 --\t\n1") (n := 16) (by decide +kernel) (by decide +kernel) (i := c / 2 % 16) (Int.emod_nonneg _ (by decide)) (Int.emod_lt_of_pos _ (by decide))
      exact ⟨_, _, k, rfl, rfl, by decide, hk, q k lt⟩
    · refine ⟨_, rfl, _, _, rfl, rfl, by decide, ?_⟩
      refine ⟨_, rfl, _, rfl, _, _, rfl, rfl, ⟨by decide, by decide⟩, _, _, rfl, rfl, (by show (0 : Int) < 94; decide), ?_⟩
      obtain ⟨k, hk, lt⟩ := tab_at (z := Str.ofString " !\"#$&'()*+,-./0123456789:;<=>?@ABCDEFGHIJKLMNOPQRSTUVWXYZ[\\]^_`" ++ Str.ofString "abcdefghijklmnopqrstuvwxyz{|}~") (n := 94) (by decide +kernel) (by decide +kernel) (i := c / 2 % 94) (Int.emod_nonneg _ (by decide)) (Int.emod_lt_of_pos _ (by decide))
      exact ⟨_, _, k, rfl, rfl, by decide, hk, q k lt⟩
end
end Fl

namespace Fl
open PySem L2
section
variable {P : Program} {w : World} {K : PySem.W.Frag} {mg : Str → Option Value} {base : Heap} {t : Adr}
theorem ok_law_odd (T : Txt K mg t) : FnOk P w K mg base CX0 1 t.a_law_odd t.d_law_odd ["cell"] spOdd := by
  refine T.F_law_odd.ok sc_law_odd (fun vs H Q E h => ?_) (fun cdv A outer s H vs Q E hr h => ?_)
  · obtain ⟨c, rfl, q⟩ := h
    rfl
  · obtain ⟨c, rfl, q⟩ := h
    obtain ⟨es1, es2, p1, p2, p3, p4, p5, p6, p7, p8, p9, p10, p11, p12, p13, p14, hb, lt1, lt2⟩ : ∃ (es1 es2 : List Expr) (p1 p2 p3 p4 p5 p6 p7 p8 p9 p10 p11 p12 p13 p14 : Pos), defBody s_law_odd = [.Assign [.Name "some" p1] (.List es1 p2) p3, .Assign [.Name "some" p4] (.BinOp (.Name "some" p5) .Add (.List es2 p6) p7) p8, .Return (some (.Subscript (.Name "some" p9) (.BinOp (.Name "cell" p10) .Mod (.Constant (.int 23) 0 p11) p12) p13)) p14] ∧ litsOf es1 = some [(.str ""), (.str " "), (.str "0"), (.str "1 "), (.str " 1"), (.str "1  2"), (.str "2"), (.str "1 1"), (.str "1 3"), (.str "01"), (.str "1 02"), (.str "+1"), (.str "1_0"), (.str "-"), (.str "- 1"), (.str "-1 -"), (.str "--1")] ∧ litsOf es2 = some [(.str "1-"), (.str "1 2 3 4 5 6 7 8 9 10 11 12 13"), (.str "12 11 10 9 8 7 6 5 4 3 2 1"), (.str "-2 -1"), (.str "1 -2"), (.str "1,2")] := ⟨_, _, _, _, _, _, _, _, _, _, _, _, _, _, _, _, rfl, by decide +kernel, by decide +kernel⟩
    rw [hb]
    refine ⟨_, (pss_cons (ps_set (i := 1) sc_law_odd.nd rfl (Or.inl rfl) (pe_litlist lt1))
      (pss_cons (ps_set (i := 1) sc_law_odd.nd rfl (Or.inl rfl) (pe_op op_cat (pv 1) (pe_litlist lt2)))
      (pss_one (ps_ret (pe_ix (ix_K (K := K)) (pv 1) (pe_op op_mod (pv 0) pe_int) (fun _ _ => rfl)))))), ?_⟩
    refine ⟨small12 (by show 17 ≤ 1000; decide), fun d hd => ?_⟩
    refine ⟨_, rfl, small12 (by show 6 ≤ 1000; decide), fun d2 hd2 => ⟨d, d2, _, _, rfl, rfl, (by rw [upd_ne (ne_of_none upd_same hd2), upd_same]), upd_same, small12 (by show 23 ≤ 1000; decide), fun d3 hd3 => ?_⟩⟩
    obtain ⟨z, hz, tz⟩ := pick (vs := LL1 ++ LL2) (n := 23) (by decide +kernel) (by decide +kernel) (i := c % 23) (Int.emod_nonneg _ (by decide)) (Int.emod_lt_of_pos _ (by decide))
    refine ⟨_, rfl, _, rfl, _, _, rfl, rfl, (by show (0 : Int) < 23; decide), d3, _, _, .str z, rfl, rfl, SqL.of upd_same, hz, q z _ tz ?_⟩
    have s1 := Same.new hd (o := .lst LL1)
    have s2 := s1.up (s1.free hd2) (o := .lst LL2)
    exact s2.up (s2.free hd3)
end
end Fl

namespace Fl
open PySem L2
section
variable {P : Program} {w : World} {K : PySem.W.Frag} {mg : Str → Option Value} {base : Heap} {t : Adr}
theorem ok_law_number (T : Txt K mg t) : FnOk P w K mg base CX0 1 t.a_law_number t.d_law_number ["word"] spNum := by
  refine T.F_law_number.ok sc_law_number (fun vs H Q E h => ?_) (fun cdv A outer s H vs Q E hr h => ?_)
  · obtain ⟨w, rfl, tx, q⟩ := h
    rfl
  · obtain ⟨w, rfl, tx, q⟩ := h
    refine ⟨_, (pss_cons (ps_if (PW.pt (pw_or (pt_cmpR op_lt (pe_callB call_len_str rfl T.z_len bt_len (pa_cons (pv 0) pa_nil)) pe_int (nomark _)) (pw_or (pt_cmpR op_gt (pe_callB call_len_str rfl T.z_len bt_len (pa_cons (pv 0) pa_nil)) pe_int (nomark _)) (pw_or1 (pt_cmpR op_eq (pe_ix ix_str (pv 0) pe_int (fun _ _ => rfl)) pe_str (nomark _)))))) (pss_one (ps_ret pe_int)) pss_nil)
      (pss_cons (ps_for PassesOwn.never rfl (pi_str (pv 0)) (pg_name (i := 1) sc_law_number.nd rfl (Or.inl rfl)) (pss_one (ps_if (pt_cmpR op_notin_str (pv 1) pe_str rfl) (pss_one (ps_ret pe_int)) pss_nil)))
      (pss_one (ps_ret (pe_callTy call_int_text rfl T.z_int bt_int (pa_cons (pv 0) pa_nil)))))), ?_⟩
    have wl : w.length ≤ sizeLine := Nat.le_trans tx.len (by decide)
    refine ⟨_, rfl, w, rfl, wl, _, _, rfl, rfl, _, rfl, ite2D (fun h => ?_) (fun h => ⟨_, rfl, w, rfl, wl, _, _, rfl, rfl, _, rfl, ite2D (fun h2 => ?_) (fun h2 => ?_)⟩)⟩
    · have e : numM w = 0 := by unfold numM; rw [if_pos (.inl (by omega))]
      rw [e] at q
      exact q
    · have e : numM w = 0 := by unfold numM; rw [if_pos (.inr (.inl (by omega)))]
      rw [e] at q
      exact q
    have w1 : 1 ≤ w.length := by omega
    have w2 : w.length ≤ 2 := by omega
    obtain ⟨c0, hc0⟩ : ∃ c0, (cpl w)[0]? = some c0 := ⟨_, List.getElem?_eq_getElem (by rw [cpl_len]; exact w1)⟩
    refine ⟨_, rfl, w, 0, c0, rfl, rfl, wl, atI_nat (j := 0) hc0, rfl, _, rfl, ite2D (fun h3 => ?_) (fun h3 => ?_)⟩
    · have e0 : c0 = 48 := by injection h3 with h3; exact one_zero h3
      have e : numM w = 0 := by unfold numM; rw [if_pos (.inr (.inr (by rw [hc0, e0])))]
      rw [e] at q
      exact q
    have n0 : ¬ (w.length < 1 ∨ 2 < w.length ∨ (cpl w)[0]? = some 48) := by
      rintro (z | z | z)
      · omega
      · omega
      · rw [hc0] at z
        injection z with z
        exact h3 (by rw [z]; rfl)
    refine ⟨_, rfl, w, rfl, tx.asc.all, for_str (fun i σ H' => ∃ kv : Option V, σ = [some (.str w), kv] ∧ H' = H ∧ ∀ c ∈ (cpl w).take i, c ∈ digs) ⟨none, rfl, rfl, by simp⟩ ?_ ?_⟩
    · rintro i c σ H' hc ⟨kv, rfl, rfl, ok⟩
      refine ⟨_, rfl, _, _, rfl, rfl, _, rfl, ?_⟩
      rw [StrLaws.found_one, dig_tab]
      by_cases hm : c ∈ digs
      · rw [decide_eq_true hm]
        refine iteF ⟨_, rfl, rfl, fun x hx => ?_⟩
        rw [List.take_add_one, hc] at hx
        rcases List.mem_append.mp hx with m | m
        · exact ok x m
        · cases List.mem_singleton.mp m
          exact hm
      · rw [decide_eq_false hm]
        refine iteT ?_
        have e : numM w = 0 := by
          unfold numM
          rw [if_neg n0, if_neg (fun z => hm (of_decide_eq_true (List.all_eq_true.mp z c (List.mem_of_getElem? hc))))]
        rw [e] at q
        exact q
    · rintro σ H' ⟨kv, rfl, rfl, ok⟩
      rw [← cpl_len, List.take_length] at ok
      obtain ⟨n, hn⟩ := num_text w1 w2 ok
      refine ⟨_, rfl, w, n, rfl, hn, Nat.le_trans w2 (by decide), ?_⟩
      have e : numM w = n := by
        unfold numM
        rw [if_neg n0, if_pos (List.all_eq_true.mpr fun c hc => decide_eq_true (ok c hc)), hn]
        rfl
      rw [e] at q
      exact q
end
end Fl

namespace Fl
open PySem L2
section
variable {P : Program} {w : World} {K : PySem.W.Frag} {mg : Str → Option Value} {base : Heap} {t : Adr}
theorem ok_law_due (T : Txt K mg t) : FnOk P w K mg base CX0 2 t.a_law_due t.d_law_due ["text", "burnt"] spDue := by
  refine T.F_law_due.ok sc_law_due (fun vs H Q E h => ?_) (fun cdv A outer s H vs Q E hr h => ?_)
  · obtain ⟨z, b, rfl, tx, q, qe⟩ := h
    rfl
  · obtain ⟨z, b, rfl, tx, q, qe⟩ := h
    refine ⟨_, (pss_cons (ps_set (i := 2) sc_law_due.nd rfl (Or.inl rfl) (pe_lst pa_nil))
      (pss_cons (ps_for PassesOwn.never rfl (pi_list (pe_bm PySem.F.plainAttrs_str PySem.F.slot_str_split PySem.F.type_str_split mt_split (pv 0) (pa_cons pe_str pa_nil))) (pg_name (i := 3) sc_law_due.nd rfl (Or.inl rfl)) (pss_one (ps_if (PW.pt (pw_and (pt_val (pv 1)) (pw_and1 (pt_cmpR op_eq (pe_slice sl_str (pv 3) po_none (po_some pe_int)) pe_str (nomark _))))) (pss_one (ps_expr (pe_bm PySem.F.plainAttrs_list PySem.F.slot_list_append PySem.F.type_list_append mt_append (pv 2) (pa_cons (pe_un un_neg (pe_call (ok_law_number (K := K) T) (hr.mono (by omega)) rfl T.m_law_number T.F_law_number.kp (b_law_number T) .nil pass0 (pa_cons (pe_slice sl_str (pv 3) (po_some pe_int) po_none) pa_nil))) pa_nil)))) (pss_one (ps_expr (pe_bm PySem.F.plainAttrs_list PySem.F.slot_list_append PySem.F.type_list_append mt_append (pv 2) (pa_cons (pe_call (ok_law_number (K := K) T) (hr.mono (by omega)) rfl T.m_law_number T.F_law_number.kp (b_law_number T) .nil pass0 (pa_cons (pv 3) pa_nil)) pa_nil)))))))
      (pss_cons (ps_if (PW.pt (pw_or (pt_cmpR op_gt (pe_callB (len_K (K := K)) rfl T.z_len bt_len (pa_cons (pv 2) pa_nil)) pe_int (nomark _)) (pw_or1 (pt_cmpR (op_neL hr.units) (pe_callB call_sorted rfl T.z_sorted bt_sorted (pa_cons (pe_comp rfl (pi_list (pv 2)) (show CapOk _ _ ["cake"] [none] from (cap_own (cap_nil))) keep_name (fun _ _ _ _ => (pg_name (i := 0) (show (["cake"] : List Str).Nodup by decide +kernel) rfl (Or.inl rfl))) (fun _ _ _ _ => pif_nil) (fun _ _ _ _ => (pe_callB call_abs rfl T.z_abs bt_abs (pa_cons (pv 0) pa_nil)))) pa_nil)) (pe_callTy (call_list_rng rfl) rfl T.z_list bt_list (pa_cons (pe_callTy call_rng2 rfl T.z_range bt_range (pa_cons pe_int (pa_cons (pe_op op_add (pe_callB (len_K (K := K)) rfl T.z_len bt_len (pa_cons (pv 2) pa_nil)) pe_int) pa_nil))) pa_nil)) (nomark _))))) (pss_one (ps_ret pe_non)) pss_nil)
      (pss_one (ps_ret (pv 2)))))), ?_⟩
    refine ⟨Nat.zero_le _, fun c hc0 => ?_⟩
    have s1 := Same.new (o := .lst []) hc0
    have ec1 : upd H c (.lst []) c = some (.lst []) := upd_same
    generalize upd H c (.lst []) = H1 at s1 ec1
    dsimp only [gName]
    refine ⟨_, rfl, rfl, _, _, rfl, rfl, by decide, Nat.le_trans tx.len (by decide), ?_⟩
    rw [ofS_spc]
    have hw : ∀ w ∈ Txt.split z spc, Tx 150 w := fun w m => ⟨split_len tx.len m, split_asc tx.asc m⟩
    have hlen : (Txt.split z spc).length ≤ 152 := Nat.le_trans (PyProof.Rows.split_le z spc) (Nat.add_le_add_right tx.len 2)
    have h1w : 1 ≤ (Txt.split z spc).length := PyProof.Rows.split_pos z spc
    generalize Txt.split z spc = ws at q qe hw hlen h1w
    refine fun p hp => ⟨p, rfl, ⟨_, SqL.of upd_same⟩, for_list (xs := ws.map V.str) (fun i σ H3 => ∃ kv : Option V, σ = [some (.str z), some (.bl b), some (.ref c), kv] ∧ Same H H3 ∧ H3 c = some (.lst (((ws.take i).map (numB b)).map V.int)) ∧ H3 p = some (.lst (ws.map V.str))) ?_
      (fun i σ H3 _ ⟨_, _, _, _, e⟩ => SqL.of e) ?_ ?_⟩
    · exact ⟨none, rfl, s1.up (s1.free hp), by rw [upd_ne (ne_of_none ec1 hp)]; exact ec1, upd_same⟩
    · rintro i y σ H3 hi ⟨kv, rfl, s3, ec3, ep3⟩
      obtain ⟨w, hx, rfl⟩ : ∃ w, ws[i]? = some w ∧ y = .str w := by
        rw [List.getElem?_map] at hi
        cases e : ws[i]? with
        | none => rw [e] at hi; cases hi
        | some x => rw [e] at hi; cases hi; exact ⟨x, rfl, rfl⟩
      have hil : i < ws.length := (List.getElem?_eq_some_iff.mp hx).1
      have tw := hw w (List.mem_of_getElem? hx)
      have wl : w.length ≤ sizeLine := Nat.le_trans tw.len (by decide)
      have lc : (((ws.take i).map (numB b)).map V.int).length ≤ 1000 := by
        rw [List.length_map, List.length_map, List.length_take]
        omega
      have nxt : ∀ x : Int, x = numB b w → ∃ kv : Option V, [some (V.str z), some (V.bl b), some (V.ref c), some (V.str w)] = [some (.str z), some (.bl b), some (.ref c), kv] ∧ Same H (upd H3 c (.lst (((ws.take i).map (numB b)).map V.int ++ [V.int x]))) ∧
          upd H3 c (.lst (((ws.take i).map (numB b)).map V.int ++ [V.int x])) c = some (.lst (((ws.take (i + 1)).map (numB b)).map V.int)) ∧ upd H3 c (.lst (((ws.take i).map (numB b)).map V.int ++ [V.int x])) p = some (.lst (ws.map V.str)) := fun x hx' => by
        refine ⟨_, rfl, s3.up hc0, ?_, by rw [upd_ne (ne_of_none ec1 hp).symm]; exact ep3⟩
        rw [upd_same, List.take_add_one, hx, hx']
        simp
      cases b with
      | false =>
        refine ⟨_, rfl, _, rfl, iteF ?_⟩
        refine ⟨_, rfl, .inl ⟨rfl, _, SqL.of ec3⟩, _, rfl, w, rfl, tw, c, _, _, rfl, rfl, ec3, small1000 lc, nxt _ ?_⟩
        unfold numB
        rw [if_neg (by simp)]
      | true =>
        refine ⟨_, rfl, _, rfl, iteT ⟨_, rfl, _, rfl, w, rfl, wl, rfl, _, rfl, ite2D (fun hs => ?_) (fun hs => ?_)⟩⟩
        · have hs : Txt.slice w none (some 1) = dash := by injection hs
          refine ⟨_, rfl, .inl ⟨rfl, _, SqL.of ec3⟩, _, rfl, _, rfl, w, rfl, wl, _, rfl, ⟨Nat.le_trans (Txt.slice_le w (some 1) none) tw.len, tw.asc.slice⟩, _, rfl, c, _, _, rfl, rfl, ec3, small1000 lc, nxt _ ?_⟩
          unfold numB
          rw [if_pos ⟨rfl, hs⟩]
        · have hs : ¬ Txt.slice w none (some 1) = dash := fun z => hs (by rw [z]; decide +kernel)
          refine ⟨_, rfl, .inl ⟨rfl, _, SqL.of ec3⟩, _, rfl, w, rfl, tw, c, _, _, rfl, rfl, ec3, small1000 lc, nxt _ ?_⟩
          unfold numB
          rw [if_neg (fun z => hs z.2)]
    · rintro σ H3 ⟨kv, rfl, s3, ec3, ep3⟩
      rw [List.length_map, List.take_length] at ec3
      have hpos : 1 ≤ (ws.map (numB b)).length := by rw [List.length_map]; exact h1w
      generalize ws.map (numB b) = ns at q qe ec3 hpos
      refine ⟨_, rfl, c, _, rfl, .inl (SqL.of ec3), ?_⟩
      rw [len_map]
      refine ⟨_, _, rfl, rfl, _, rfl, ite2D (fun h => qe (fun g => by have := g.2; omega) H3 s3) (fun h => ?_)⟩
      have l12 : ns.length ≤ 12 := by omega
      refine ⟨_, rfl, c, rfl, ⟨_, SqL.of ec3⟩, comp_list (xs := ns.map V.int) absV3 (SqL.of ec3) (by rw [len_map]; omega) (fun x k H4 R hk s4 r => ?_) (fun p2 H4 hp2 s4 e4 => ?_)⟩
      · obtain ⟨y, rfl, hy⟩ := map_get hk
        exact ⟨_, rfl, y, rfl, r H4 (Same.refl _)⟩
      have e4' : H4 p2 = some (.lst ((ns.map Fs.absI).map V.int)) := by
        rw [e4, List.map_map, List.map_map]
        rfl
      refine ⟨p2, ns.map Fs.absI, rfl, SqL.of e4', by rw [List.length_map]; omega, fun l ms hl pm so => ?_⟩
      have ec4 : upd H4 l (.lst (ms.map V.int)) c = some (.lst (ns.map V.int)) := by rw [upd_ne (ne_of_none (s4 _ _ ec3) hl)]; exact s4 _ _ ec3
      refine ⟨_, rfl, c, _, rfl, .inl (SqL.of ec4), ?_⟩
      rw [len_map]
      refine ⟨_, _, rfl, rfl, _, _, rfl, fun r hr0 => ⟨r, _, _, rfl, upd_same, by decide, by omega, by decide, by omega, fun l2 hl2 => ?_⟩⟩
      have nlr : l ≠ r := ne_of_none upd_same hr0
      have t1 := Same.new hl (o := .lst (ms.map V.int))
      have t2 := t1.up (t1.free hr0) (o := .rng 1 ((ns.length : Int) + 1))
      have t3 := t2.up (t2.free hl2) (o := .lst ((Fs.upTo 1 ((ns.length : Int) + 1)).map V.int))
      have el : upd (upd H4 l (.lst (ms.map V.int))) r (.rng 1 ((ns.length : Int) + 1)) l = some (.lst (ms.map V.int)) := by rw [upd_ne nlr]; exact upd_same
      refine ⟨l, l2, ms, Fs.upTo 1 ((ns.length : Int) + 1), rfl, rfl, SqL.of (by rw [upd_ne (ne_of_none el hl2)]; exact el), SqL.of upd_same, _, rfl, ?_⟩
      have S := (s3.trans s4).trans t3
      have eN := t3 _ _ (s4 _ _ ec3)
      have al : (ns.map Fs.absI).length = ns.length := List.length_map ..
      by_cases hm : ms = Fs.upTo 1 ((ns.length : Int) + 1)
      · rw [decide_eq_true hm]
        exact iteF ⟨_, rfl, q ⟨⟨by rw [al]; exact hpos, by rw [al, ← hm]; exact pm.symm⟩, l12⟩ c _ hc0 S eN⟩
      · rw [decide_eq_false hm]
        exact iteT (qe (fun g => hm (by have := g.1.sorted pm so; rw [al] at this; exact this)) _ S)
end
end Fl

namespace Fl
open PySem L2
section
variable {P : Program} {w : World} {K : PySem.W.Frag} {mg : Str → Option Value} {base : Heap} {t : Adr}
theorem ok_law_told (T : Txt K mg t) : FnOk P w K mg base CX0 6 t.a_law_told t.d_law_told ["text", "burnt"] spTold14 := by
  refine T.F_law_told.ok sc_law_told (fun vs H Q E h => ?_) (fun cdv A outer s H vs Q E hr h => ?_)
  · obtain ⟨z, b, rfl, tx, q, qe⟩ := h
    rfl
  · obtain ⟨z, b, rfl, tx, q, qe⟩ := h
    refine ⟨_, (pss_cons (ps_set (i := 2) sc_law_told.nd rfl (Or.inl rfl) pe_non)
      (pss_cons (ps_try_as (i := 3) rfl rfl rfl (fun pn xe R hp => (pss_one (ps_if (pt_val (pv 1)) (pss_one (ps_set (i := 2) sc_law_told.nd rfl (Or.inl rfl) (pe_callS (ok_burnt_read (K := K) T) (hr.mono (by omega)) rfl T.m_burnt_read T.F_burnt_read.kp (b_burnt_read T) .nil hp (pa_cons (pv 0) pa_nil)))) (pss_one (ps_set (i := 2) sc_law_told.nd rfl (Or.inl rfl) (pe_callS (ok_read (K := K) T) (hr.mono (by omega)) rfl T.m_read T.F_read.kp (b_read T) .nil hp (pa_cons (pv 0) pa_nil))))))) rfl T.x_FlipError T.e_FlipError.toExcC sc_law_told.nd rfl rfl (fun pn ea => (pss_one (ps_set (i := 2) sc_law_told.nd rfl (Or.inl rfl) (pe_callH (ok_law_which (K := K) T) ((hr.mono (by omega)).toH _) rfl T.m_law_which T.F_law_which.kp (b_law_which T) (pa_cons (pv 3) pa_nil))))))
      (pss_one (ps_ret (pv 2))))), ?_⟩
    cases b with
    | true => exact ⟨_, rfl, _, rfl, iteT ⟨_, rfl, z, rfl, tx, fun cs wr pb p H1 hp s1 e => ⟨_, rfl, q cs wr pb p H1 s1 e⟩, fun n H1 s1 => ⟨_, rfl, T.e_BadLine.toExcC, T.u_BadLine, fun ea hea => ⟨_, rfl, ea, rfl, upd_same, fun p H2 hp s2 e => ⟨_, rfl, qe n p H2 ((s1.up (s1.free hea)).trans s2) e⟩⟩⟩⟩⟩
    | false => exact ⟨_, rfl, _, rfl, iteF ⟨_, rfl, z, rfl, tx, fun cs wr pb p H1 hp s1 e => ⟨_, rfl, q cs wr pb p H1 s1 e⟩, fun n H1 s1 => ⟨_, rfl, T.e_BadLine.toExcC, T.u_BadLine, fun ea hea => ⟨_, rfl, ea, rfl, upd_same, fun p H2 hp s2 e => ⟨_, rfl, qe n p H2 ((s1.up (s1.free hea)).trans s2) e⟩⟩⟩⟩⟩
end
end Fl

namespace Fl
open PySem L2
section
variable {P : Program} {w : World} {K : PySem.W.Frag} {mg : Str → Option Value} {base : Heap} {t : Adr}
theorem ok_law_spoiled (T : Txt K mg t) : FnOk P w K mg base CX0 2 t.a_law_spoiled t.d_law_spoiled ["text", "cell", "other"] spSpoil := by
  refine T.F_law_spoiled.ok sc_law_spoiled (fun vs H Q E h => ?_) (fun cdv A outer s H vs Q E hr h => ?_)
  · obtain ⟨z, c, o, rfl, tx, q⟩ := h
    rfl
  · obtain ⟨z, c, o, rfl, tx, q⟩ := h
    refine ⟨_, (pss_cons (ps_set (i := 3) sc_law_spoiled.nd rfl (Or.inl rfl) (pe_op op_mod (pe_op op_fdiv (pv 1) pe_int) (pe_op op_add (pe_callB call_len_str rfl T.z_len bt_len (pa_cons (pv 0) pa_nil)) pe_int)))
      (pss_cons (ps_if (pt_cmpR op_eq (pe_op op_mod (pv 1) pe_int) pe_int (nomark _)) (pss_one (ps_ret (pe_op op_add_str (pe_slice sl_str (pv 0) po_none (po_some (pv 3))) (pe_slice sl_str (pv 0) (po_some (pe_op op_add (pv 3) pe_int)) po_none)))) pss_nil)
      (pss_cons (ps_if (pt_cmpR op_eq (pe_op op_mod (pv 1) pe_int) pe_int (nomark _)) (pss_one (ps_ret (pe_op op_add_str (pe_op op_add_str (pe_slice sl_str (pv 0) po_none (po_some (pv 3))) (pe_call (ok_law_sign_by (K := K) T) (hr.mono (by omega)) rfl T.m_law_sign_by T.F_law_sign_by.kp (b_law_sign_by T) .nil pass0 (pa_cons (pv 2) pa_nil))) (pe_slice sl_str (pv 0) (po_some (pe_op op_add (pv 3) pe_int)) po_none)))) pss_nil)
      (pss_one (ps_ret (pe_op op_add_str (pe_op op_add_str (pe_slice sl_str (pv 0) po_none (po_some (pv 3))) (pe_call (ok_law_sign_by (K := K) T) (hr.mono (by omega)) rfl T.m_law_sign_by T.F_law_sign_by.kp (b_law_sign_by T) .nil pass0 (pa_cons (pv 2) pa_nil))) (pe_slice sl_str (pv 0) (po_some (pv 3)) po_none))))))), ?_⟩
    have zl : z.length ≤ sizeLine := Nat.le_trans tx.len (by decide)
    have big : 1000 ≤ sizeLine := by decide
    refine ⟨_, rfl, _, _, rfl, rfl, ⟨by decide, by decide⟩, _, rfl, z, rfl, zl, _, _, rfl, rfl, _, _, rfl, rfl, (by show (0 : Int) < _; omega), ?_⟩
    dsimp only
    generalize c / 3 % ((z.length : Int) + 1) = at_
    have l1 : ∀ l u, (Txt.slice z l u).length ≤ 60 := fun l u => Nat.le_trans (Txt.slice_le z l u) tx.len
    refine ⟨_, rfl, _, _, rfl, rfl, (by show (0 : Int) < 3; decide), rfl, _, rfl, ite2D (fun _ => ?_) (fun _ => ⟨_, rfl, _, _, rfl, rfl, (by show (0 : Int) < 3; decide), rfl, _, rfl, ite2D (fun _ => ?_) (fun _ => ?_)⟩)⟩
    · have a1 := l1 none (some at_)
      have a2 := l1 (some (at_ + 1)) none
      refine ⟨_, rfl, _, rfl, _, rfl, z, rfl, zl, _, rfl, _, rfl, _, _, rfl, rfl, _, rfl, z, rfl, zl, _, _, rfl, rfl, by omega, q _ ⟨?_, tx.asc.slice.app tx.asc.slice⟩⟩
      rw [Str.length_append]
      omega
    · have a1 := l1 none (some at_)
      have a2 := l1 (some (at_ + 1)) none
      refine ⟨_, rfl, _, rfl, _, rfl, z, rfl, zl, _, rfl, _, rfl, fun k hk => ⟨_, _, rfl, rfl, (by show _ + 1 ≤ _; omega), _, rfl, _, rfl, _, _, rfl, rfl, _, rfl, z, rfl, zl, _, _, rfl, rfl, ?_, q _ ⟨?_, (tx.asc.slice.app (asc_one hk)).app tx.asc.slice⟩⟩⟩
      · rw [Str.length_append]
        show _ + 1 + _ ≤ _
        omega
      · rw [Str.length_append, Str.length_append]
        show _ + 1 + _ ≤ _
        omega
    · have a1 := l1 none (some at_)
      have a2 := l1 (some at_) none
      refine ⟨_, rfl, _, rfl, _, rfl, z, rfl, zl, _, rfl, _, rfl, fun k hk => ⟨_, _, rfl, rfl, (by show _ + 1 ≤ _; omega), _, rfl, _, rfl, _, rfl, z, rfl, zl, _, _, rfl, rfl, ?_, q _ ⟨?_, (tx.asc.slice.app (asc_one hk)).app tx.asc.slice⟩⟩⟩
      · rw [Str.length_append]
        show _ + 1 + _ ≤ _
        omega
      · rw [Str.length_append, Str.length_append]
        show _ + 1 + _ ≤ _
        omega
end
end Fl

namespace Fl
open PySem L2
section
variable {P : Program} {w : World} {K : PySem.W.Frag} {mg : Str → Option Value} {base : Heap} {t : Adr}
theorem ok_law (T : Txt K mg t) : FnOk P w K mg base CX0 8 t.a_law t.d_law ["script"] (spLaw K) := by
  refine T.F_law.ok sc_law (fun vs H Q E h => ?_) (fun cdv A outer s H vs Q E hr h => ?_)
  · obtain ⟨a, ns, rfl, hS, hlen, q⟩ := h
    rfl
  · obtain ⟨a, ns, rfl, hS, hlen, q⟩ := h
    refine ⟨_, (pss_cons (ps_set (i := 1) sc_law.nd rfl (Or.inl rfl) (pe_call (ok_law_burnt (K := K) T) (hr.mono (by omega)) rfl T.m_law_burnt T.F_law_burnt.kp (b_law_burnt T) .nil pass0 (pa_cons (pe_call (ok_law_pile (K := K) T) (hr.mono (by omega)) rfl T.m_law_pile T.F_law_pile.kp (b_law_pile T) .nil pass0 (pa_cons (pv 0) (pa_cons pe_int (pa_cons pe_int pa_nil)))) (pa_cons (pe_op op_mul (pe_call (ok_law_cell_at (K := K) T) (hr.mono (by omega)) rfl T.m_law_cell_at T.F_law_cell_at.kp (b_law_cell_at T) .nil pass0 (pa_cons (pv 0) (pa_cons pe_int pa_nil))) (pe_op op_mod (pe_call (ok_law_cell_at (K := K) T) (hr.mono (by omega)) rfl T.m_law_cell_at T.F_law_cell_at.kp (b_law_cell_at T) .nil pass0 (pa_cons (pv 0) (pa_cons pe_int pa_nil))) pe_int)) pa_nil))))
      (pss_cons (ps_set (i := 2) sc_law.nd rfl (Or.inl rfl) (pe_bm PySem.F.plainAttrs_str PySem.F.slot_str_join PySem.F.type_str_join (mt_joinK (K := K)) pe_str (pa_cons (pe_comp rfl (pi_list (pv 1)) (show CapOk _ _ ["cake"] [none] from (cap_own (cap_nil))) keep_name (fun _ _ _ _ => (pg_name (i := 0) (show (["cake"] : List Str).Nodup by decide +kernel) rfl (Or.inl rfl))) (fun _ _ _ _ => pif_nil) (fun _ _ _ _ => (pe_callTy call_str_int rfl T.z_str bt_str (pa_cons (pv 0) pa_nil)))) pa_nil)))
      (pss_cons (ps_if (pt_cmpR op_gt (pe_op op_mod (pe_call (ok_law_cell_at (K := K) T) (hr.mono (by omega)) rfl T.m_law_cell_at T.F_law_cell_at.kp (b_law_cell_at T) .nil pass0 (pa_cons (pv 0) (pa_cons pe_int pa_nil))) pe_int) pe_int (nomark _)) (pss_one (ps_set (i := 2) sc_law.nd rfl (Or.inl rfl) (pe_call (ok_law_spoiled (K := K) T) (hr.mono (by omega)) rfl T.m_law_spoiled T.F_law_spoiled.kp (b_law_spoiled T) .nil pass0 (pa_cons (pv 2) (pa_cons (pe_call (ok_law_cell_at (K := K) T) (hr.mono (by omega)) rfl T.m_law_cell_at T.F_law_cell_at.kp (b_law_cell_at T) .nil pass0 (pa_cons (pv 0) (pa_cons pe_int pa_nil))) (pa_cons (pe_call (ok_law_cell_at (K := K) T) (hr.mono (by omega)) rfl T.m_law_cell_at T.F_law_cell_at.kp (b_law_cell_at T) .nil pass0 (pa_cons (pv 0) (pa_cons pe_int pa_nil))) pa_nil)))))) pss_nil)
      (pss_cons (ps_if (pt_cmpR op_eq (pe_op op_mod (pe_op op_fdiv (pe_call (ok_law_cell_at (K := K) T) (hr.mono (by omega)) rfl T.m_law_cell_at T.F_law_cell_at.kp (b_law_cell_at T) .nil pass0 (pa_cons (pv 0) (pa_cons pe_int pa_nil))) pe_int) pe_int) pe_int (nomark _)) (pss_one (ps_set (i := 2) sc_law.nd rfl (Or.inl rfl) (pe_call (ok_law_odd (K := K) T) (hr.mono (by omega)) rfl T.m_law_odd T.F_law_odd.kp (b_law_odd T) .nil pass0 (pa_cons (pe_call (ok_law_cell_at (K := K) T) (hr.mono (by omega)) rfl T.m_law_cell_at T.F_law_cell_at.kp (b_law_cell_at T) .nil pass0 (pa_cons (pv 0) (pa_cons pe_int pa_nil))) pa_nil)))) pss_nil)
      (pss_cons (ps_for PassesOwn.never rfl (pi_list (pe_lst (pa_cons pe_bl (pa_cons pe_bl pa_nil)))) (pg_name (i := 3) sc_law.nd rfl (Or.inl rfl)) (pss_cons (ps_set (i := 4) sc_law.nd rfl (Or.inl rfl) (pe_call (ok_law_due (K := K) T) (hr.mono (by omega)) rfl T.m_law_due T.F_law_due.kp (b_law_due T) .nil pass0 (pa_cons (pv 2) (pa_cons (pv 3) pa_nil))))
      (pss_cons (ps_set (i := 5) sc_law.nd rfl (Or.inl rfl) (pe_call (ok_law_told (K := K) T) (hr.mono (by omega)) rfl T.m_law_told T.F_law_told.kp (b_law_told T) .nil pass0 (pa_cons (pv 2) (pa_cons (pv 3) pa_nil))))
      (pss_cons (ps_if (pt_cmp (pc_isN (pv 4))) (pss_one (ps_set (i := 4) sc_law.nd rfl (Or.inl rfl) (pe_lst (pa_cons pe_bl (pa_cons pe_bl (pa_cons pe_bl (pa_cons pe_bl (pa_cons pe_bl (pa_cons pe_bl pa_nil))))))))) pss_nil)
      (pss_one (ps_if (PW.pt (pw_or (pt_not (pt_val (pe_callB call_isinst rfl T.z_isinstance bt_isinstance (pa_cons (pv 5) (pa_cons (pe_bltn (v := .ty "list") rfl T.z_list bt_list rfl) pa_nil))))) (pw_or1 (pt_cmpR (op_neLB hr.units) (pv 5) (pv 4) (nomark _))))) (pss_one (ps_ret pe_bl)) pss_nil))))))
      (pss_one (ps_ret pe_bl))))))), ?_⟩
    refine ⟨_, rfl, a, ns, 6, 12, rfl, hS, by decide, by decide, by decide, fun p1 H1 xs hp1 s1 e1 pl l12 => ?_⟩
    refine ⟨_, rfl, a, ns, 0, rfl, s1.seq hS, by decide, fun v0 => ⟨_, rfl, a, ns, 1, rfl, s1.seq hS, by decide, fun v1 => ⟨_, _, rfl, rfl, (by show (0 : Int) < 2; decide), _, _, rfl, rfl, .inr ⟨?_, ?_⟩, p1, xs, _, rfl, SqL.of e1, by omega, fun p2 H2 ys hp2 s2 e2 ab => ?_⟩⟩⟩
    · have := Int.emod_nonneg v1 (show (2 : Int) ≠ 0 by decide); omega
    · have := Int.emod_lt_of_pos v1 (show (0 : Int) < 2 by decide); omega
    have l12 : xs.length ≤ 12 := by omega
    have hyl : ys.length = xs.length := by have := congrArg List.length ab; simpa using this
    have bt : Fs.Burnt ys := ⟨by rw [ab]; exact pl.burnt.pl⟩
    have cw := burnt_cakes bt (by omega)
    have S2 := s1.trans s2
    dsimp only [gName]
    refine seq_gen fun R hR => ?_
    have rest : ∀ (z : Str) (H' : Hp), Tx 60 z → Same H H' → R [some (.ref a), some (.ref p2), some (.str z), none, none, none] H' := ?_
    · refine ⟨rfl, _, rfl, p2, rfl, ⟨_, SqL.of e2⟩, comp_list (K := K) (xs := ys.map V.int) strV (SqL.of e2) (by rw [len_map]; omega) (fun x i H3 R hi s3 r => ?_) (fun p H3 hp s3 e => ?_)⟩
      · obtain ⟨y, rfl, hy⟩ := map_get hi
        exact ⟨_, rfl, y, rfl, word_log y (cw y (List.mem_of_getElem? hy)), r H3 (Same.refl _)⟩
      · refine ⟨_, p, ys.map wordOf, rfl, rfl, SqL.of (by rw [e, List.map_map, List.map_map]; rfl), fun w hw => ?_, by rw [List.length_map]; omega, by decide, ?_⟩
        · obtain ⟨x, hx, rfl⟩ := List.mem_map.mp hw
          exact word_len x (cw x hx)
        · rw [ofS_spc]
          exact rest _ H3 (join_tx cw (by omega)) (S2.trans s3)
    intro z H3 tz s3
    rw [hR]
    clear hR R
    refine seq_gen fun R hR => ?_
    have rest : ∀ (z : Str) (H' : Hp), Tx 150 z → Same H H' → R [some (.ref a), some (.ref p2), some (.str z), none, none, none] H' := ?_
    · refine ⟨_, rfl, a, ns, 2, rfl, s3.seq hS, by decide, fun v => ⟨_, _, rfl, rfl, (by show (0 : Int) < 4; decide), _, _, rfl, rfl, _, rfl, ite2D (fun _ => ?_) (fun _ => rest z H3 (tz.mono (by decide)) s3)⟩⟩
      exact ⟨_, rfl, _, rfl, a, ns, 3, rfl, s3.seq hS, by decide, fun u1 => ⟨_, rfl, a, ns, 4, rfl, s3.seq hS, by decide, fun u2 => ⟨z, u1, u2, rfl, tz, fun y ty => rest y H3 ty s3⟩⟩⟩
    clear tz s3 z H3
    intro z H3 tz s3
    rw [hR]
    clear hR R
    refine seq_gen fun R hR => ?_
    have rest : ∀ (z : Str) (H' : Hp), Tx 150 z → Same H H' → R [some (.ref a), some (.ref p2), some (.str z), none, none, none] H' := ?_
    · refine ⟨_, rfl, a, ns, 2, rfl, s3.seq hS, by decide, fun v => ⟨_, _, rfl, rfl, ⟨by decide, by decide⟩, _, _, rfl, rfl, (by show (0 : Int) < 8; decide), rfl, _, rfl, ite2D (fun _ => ?_) (fun _ => rest z H3 tz s3)⟩⟩
      exact ⟨_, rfl, a, ns, 5, rfl, s3.seq hS, by decide, fun u => ⟨u, rfl, fun y H' ty s => rest y H' (ty.mono (by decide)) (s3.trans s)⟩⟩
    clear tz s3 z H3
    intro z H3 tz s3
    rw [hR]
    clear hR R
    -- for burnt in [False, True]
    refine ⟨small12 (by show 2 ≤ 1000; decide), fun d hd => ⟨d, rfl, ⟨_, SqL.of upd_same⟩, for_list (xs := [.bl false, .bl true]) (fun i σ H4 => ∃ k3 k4 k5 : Option V, σ = [some (.ref a), some (.ref p2), some (.str z), k3, k4, k5] ∧ H4 d = some (.lst [.bl false, .bl true])) ⟨none, none, none, rfl, upd_same⟩
      (fun i σ H4 _ ⟨_, _, _, _, e⟩ => SqL.of e) ?_ (fun σ H4 _ => q H4)⟩⟩
    rintro i y σ H4 hi ⟨k3, k4, k5, rfl, ed⟩
    obtain ⟨b, rfl⟩ : ∃ b : Bool, y = .bl b := by
      match i, hi with
      | 0, hi => cases hi; exact ⟨_, rfl⟩
      | 1, hi => cases hi; exact ⟨_, rfl⟩
      | n + 2, hi => simp at hi
    refine ⟨_, rfl, _, rfl, z, b, rfl, tz, fun g p H5 hp s5 e5 => ?_, fun ng H5 s5 => ?_⟩
    · obtain ⟨wr, pb⟩ := due_good g
      refine ⟨_, rfl, _, rfl, z, b, rfl, tz, fun cs wc pc p' H6 s6 e6 => ?_, fun n => absurd ⟨_, wr, pb⟩ n⟩
      have ec : cs = (Txt.split z spc).map (numB b) := wr_inj wc wr
      subst ec
      refine ⟨_, rfl, _, rfl, iteF ?_⟩
      refine ⟨_, rfl, _, _, _, _, rfl, .lst e6, kit_same K "list", _, rfl, iteF ⟨_, rfl, _, rfl, .inl ⟨p', p, _, _, rfl, rfl, SqL.of e6, SqL.of (s6 _ _ e5), _, rfl, ?_⟩⟩⟩
      rw [decide_eq_true rfl]
      exact iteF ⟨_, _, _, rfl, s6 _ _ (s5 _ _ ed)⟩
    · have nn : ¬ ∃ cs, Wr (Txt.split z spc) cs ∧ PB b cs := fun ⟨cs, wr, pb⟩ => by
        obtain ⟨e, gd⟩ := good_due wr pb
        exact ng (e ▸ gd)
      refine ⟨_, rfl, _, rfl, z, b, rfl, tz, fun cs wc pc => absurd ⟨cs, wc, pc⟩ nn, fun _ p' H6 s6 e6 => ?_⟩
      refine ⟨_, rfl, _, rfl, iteT ⟨small12 (by show 6 ≤ 1000; decide), fun d2 hd2 => ?_⟩⟩
      have s7 := Same.new hd2 (o := .lst [.bl false, .bl false, .bl false, .bl false, .bl true, .bl true])
      refine ⟨_, rfl, _, _, _, _, rfl, .lst (s7 _ _ e6), kit_same K "list", _, rfl, iteF ⟨_, rfl, _, rfl, .inr ⟨p', d2, badB, badB, rfl, rfl, SqL.of (s7 _ _ e6), SqL.of upd_same, _, rfl, ?_⟩⟩⟩
      rw [decide_eq_true rfl]
      exact iteF ⟨_, _, _, rfl, s7 _ _ (s6 _ _ (s5 _ _ ed))⟩
end
end Fl

namespace Fl
open PySem L2
theorem all_mk {l : PySem.W.OpenLaw} {w : World} {K : PySem.W.Frag} {h : Heap} {mg : Str → Option Value} {fa : Addr} (X : K.In h) (G : h.Ns mainGlobals mg) (hfa : mg "law" = some (.ref fa))
    {C_FlipError C_NoPile C_NoTurn C_TooTall C_NoBack C_BadLine f_check_pile f_without_signs f_check_burnt_pile f_cakes_by_word f_read_cakes f_read f_burnt_read f_law_cell_at f_law_pile f_law_burnt f_law_which f_law_sign_by f_law_odd f_law_number f_law_due f_law_told f_law_spoiled f_law : Addr}
    {oc_check_pile kV_check_pile dc_check_pile pm_check_pile cd_check_pile ct_check_pile : Value} {od_check_pile an_check_pile : Option Addr} {sl_check_pile : Array (Option Value)}
    {oc_without_signs kV_without_signs dc_without_signs pm_without_signs cd_without_signs ct_without_signs : Value} {od_without_signs an_without_signs : Option Addr} {sl_without_signs : Array (Option Value)}
    {oc_check_burnt_pile kV_check_burnt_pile dc_check_burnt_pile pm_check_burnt_pile cd_check_burnt_pile ct_check_burnt_pile : Value} {od_check_burnt_pile an_check_burnt_pile : Option Addr} {sl_check_burnt_pile : Array (Option Value)}
    {oc_cakes_by_word kV_cakes_by_word dc_cakes_by_word pm_cakes_by_word cd_cakes_by_word ct_cakes_by_word : Value} {od_cakes_by_word an_cakes_by_word : Option Addr} {sl_cakes_by_word : Array (Option Value)}
    {oc_read_cakes kV_read_cakes dc_read_cakes pm_read_cakes cd_read_cakes ct_read_cakes : Value} {od_read_cakes an_read_cakes : Option Addr} {sl_read_cakes : Array (Option Value)}
    {oc_read kV_read dc_read pm_read cd_read ct_read : Value} {od_read an_read : Option Addr} {sl_read : Array (Option Value)}
    {oc_burnt_read kV_burnt_read dc_burnt_read pm_burnt_read cd_burnt_read ct_burnt_read : Value} {od_burnt_read an_burnt_read : Option Addr} {sl_burnt_read : Array (Option Value)}
    {oc_law_cell_at kV_law_cell_at dc_law_cell_at pm_law_cell_at cd_law_cell_at ct_law_cell_at : Value} {od_law_cell_at an_law_cell_at : Option Addr} {sl_law_cell_at : Array (Option Value)}
    {oc_law_pile kV_law_pile dc_law_pile pm_law_pile cd_law_pile ct_law_pile : Value} {od_law_pile an_law_pile : Option Addr} {sl_law_pile : Array (Option Value)}
    {oc_law_burnt kV_law_burnt dc_law_burnt pm_law_burnt cd_law_burnt ct_law_burnt : Value} {od_law_burnt an_law_burnt : Option Addr} {sl_law_burnt : Array (Option Value)}
    {oc_law_which kV_law_which dc_law_which pm_law_which cd_law_which ct_law_which : Value} {od_law_which an_law_which : Option Addr} {sl_law_which : Array (Option Value)}
    {oc_law_sign_by kV_law_sign_by dc_law_sign_by pm_law_sign_by cd_law_sign_by ct_law_sign_by : Value} {od_law_sign_by an_law_sign_by : Option Addr} {sl_law_sign_by : Array (Option Value)}
    {oc_law_odd kV_law_odd dc_law_odd pm_law_odd cd_law_odd ct_law_odd : Value} {od_law_odd an_law_odd : Option Addr} {sl_law_odd : Array (Option Value)}
    {oc_law_number kV_law_number dc_law_number pm_law_number cd_law_number ct_law_number : Value} {od_law_number an_law_number : Option Addr} {sl_law_number : Array (Option Value)}
    {oc_law_due kV_law_due dc_law_due pm_law_due cd_law_due ct_law_due : Value} {od_law_due an_law_due : Option Addr} {sl_law_due : Array (Option Value)}
    {oc_law_told kV_law_told dc_law_told pm_law_told cd_law_told ct_law_told : Value} {od_law_told an_law_told : Option Addr} {sl_law_told : Array (Option Value)}
    {oc_law_spoiled kV_law_spoiled dc_law_spoiled pm_law_spoiled cd_law_spoiled ct_law_spoiled : Value} {od_law_spoiled an_law_spoiled : Option Addr} {sl_law_spoiled : Array (Option Value)}
    {oc_law kV_law dc_law pm_law cd_law ct_law : Value} {od_law an_law : Option Addr} {sl_law : Array (Option Value)}
    (hx_FlipError : PySem.W.nsIn K mainGlobals "FlipError" = some (some (.ref C_FlipError)))
    (hx_NoPile : PySem.W.nsIn K mainGlobals "NoPile" = some (some (.ref C_NoPile)))
    (hx_NoTurn : PySem.W.nsIn K mainGlobals "NoTurn" = some (some (.ref C_NoTurn)))
    (hx_TooTall : PySem.W.nsIn K mainGlobals "TooTall" = some (some (.ref C_TooTall)))
    (hx_NoBack : PySem.W.nsIn K mainGlobals "NoBack" = some (some (.ref C_NoBack)))
    (hx_BadLine : PySem.W.nsIn K mainGlobals "BadLine" = some (some (.ref C_BadLine)))
    (he_FlipError : PySem.W.excIn K C_FlipError vmro "ValueError.__new__" = true)
    (hk_FlipError : PySem.W.keepIn K (.ref C_FlipError) = true)
    (hg_FlipError : PySem.W.findIn K (.ref C_FlipError) "__getattribute__" = some (some (.builtin "BaseException.__getattribute__")))
    (hn_FlipError : PySem.W.findIn K (.ref C_FlipError) "__getattr__" = some none)
    (hc_FlipError : PySem.W.findIn K (.ref C_FlipError) "__class__" = some (some (.builtin "object.__class__")))
    (he_NoPile : PySem.W.excIn K C_NoPile vmro "ValueError.__new__" = true)
    (hk_NoPile : PySem.W.keepIn K (.ref C_NoPile) = true)
    (hg_NoPile : PySem.W.findIn K (.ref C_NoPile) "__getattribute__" = some (some (.builtin "BaseException.__getattribute__")))
    (hn_NoPile : PySem.W.findIn K (.ref C_NoPile) "__getattr__" = some none)
    (hc_NoPile : PySem.W.findIn K (.ref C_NoPile) "__class__" = some (some (.builtin "object.__class__")))
    (he_NoTurn : PySem.W.excIn K C_NoTurn vmro "ValueError.__new__" = true)
    (hk_NoTurn : PySem.W.keepIn K (.ref C_NoTurn) = true)
    (hg_NoTurn : PySem.W.findIn K (.ref C_NoTurn) "__getattribute__" = some (some (.builtin "BaseException.__getattribute__")))
    (hn_NoTurn : PySem.W.findIn K (.ref C_NoTurn) "__getattr__" = some none)
    (hc_NoTurn : PySem.W.findIn K (.ref C_NoTurn) "__class__" = some (some (.builtin "object.__class__")))
    (he_TooTall : PySem.W.excIn K C_TooTall vmro "ValueError.__new__" = true)
    (hk_TooTall : PySem.W.keepIn K (.ref C_TooTall) = true)
    (hg_TooTall : PySem.W.findIn K (.ref C_TooTall) "__getattribute__" = some (some (.builtin "BaseException.__getattribute__")))
    (hn_TooTall : PySem.W.findIn K (.ref C_TooTall) "__getattr__" = some none)
    (hc_TooTall : PySem.W.findIn K (.ref C_TooTall) "__class__" = some (some (.builtin "object.__class__")))
    (he_NoBack : PySem.W.excIn K C_NoBack vmro "ValueError.__new__" = true)
    (hk_NoBack : PySem.W.keepIn K (.ref C_NoBack) = true)
    (hg_NoBack : PySem.W.findIn K (.ref C_NoBack) "__getattribute__" = some (some (.builtin "BaseException.__getattribute__")))
    (hn_NoBack : PySem.W.findIn K (.ref C_NoBack) "__getattr__" = some none)
    (hc_NoBack : PySem.W.findIn K (.ref C_NoBack) "__class__" = some (some (.builtin "object.__class__")))
    (he_BadLine : PySem.W.excIn K C_BadLine vmro "ValueError.__new__" = true)
    (hk_BadLine : PySem.W.keepIn K (.ref C_BadLine) = true)
    (hg_BadLine : PySem.W.findIn K (.ref C_BadLine) "__getattribute__" = some (some (.builtin "BaseException.__getattribute__")))
    (hn_BadLine : PySem.W.findIn K (.ref C_BadLine) "__getattr__" = some none)
    (hc_BadLine : PySem.W.findIn K (.ref C_BadLine) "__class__" = some (some (.builtin "object.__class__")))
    (hu_BadLine : PySem.W.mroIn K C_BadLine (.ref C_FlipError) = some true)
    (hi_BadLine_NoPile : PySem.W.kitOne K (.ref C_BadLine) (.ref C_NoPile) = some false)
    (hi_BadLine_NoTurn : PySem.W.kitOne K (.ref C_BadLine) (.ref C_NoTurn) = some false)
    (hi_BadLine_TooTall : PySem.W.kitOne K (.ref C_BadLine) (.ref C_TooTall) = some false)
    (hi_BadLine_NoBack : PySem.W.kitOne K (.ref C_BadLine) (.ref C_NoBack) = some false)
    (hi_BadLine_BadLine : PySem.W.kitOne K (.ref C_BadLine) (.ref C_BadLine) = some true)
    (hi_BadLine_V : PySem.W.kitOne K (.ref C_BadLine) (.type "ValueError") = some true)
    (a_check_pile : PySem.W.nsIn K mainGlobals "check_pile" = some (some (.ref f_check_pile)))
    (l_check_pile : K.lookup f_check_pile = some ⟨oc_check_pile, od_check_pile, .func (PySem.W.fnOf "check_pile" "check_pile" (defArgs s_check_pile) (defBody s_check_pile) (defScope s_check_pile) .none kV_check_pile dc_check_pile pm_check_pile an_check_pile cd_check_pile ct_check_pile), sl_check_pile⟩)
    (q_check_pile : PySem.W.codeIn K cd_check_pile "check_pile" = true)
    (k_check_pile : PySem.W.keepIn K (.ref f_check_pile) = true)
    (a_without_signs : PySem.W.nsIn K mainGlobals "without_signs" = some (some (.ref f_without_signs)))
    (l_without_signs : K.lookup f_without_signs = some ⟨oc_without_signs, od_without_signs, .func (PySem.W.fnOf "without_signs" "without_signs" (defArgs s_without_signs) (defBody s_without_signs) (defScope s_without_signs) .none kV_without_signs dc_without_signs pm_without_signs an_without_signs cd_without_signs ct_without_signs), sl_without_signs⟩)
    (q_without_signs : PySem.W.codeIn K cd_without_signs "without_signs" = true)
    (k_without_signs : PySem.W.keepIn K (.ref f_without_signs) = true)
    (a_check_burnt_pile : PySem.W.nsIn K mainGlobals "check_burnt_pile" = some (some (.ref f_check_burnt_pile)))
    (l_check_burnt_pile : K.lookup f_check_burnt_pile = some ⟨oc_check_burnt_pile, od_check_burnt_pile, .func (PySem.W.fnOf "check_burnt_pile" "check_burnt_pile" (defArgs s_check_burnt_pile) (defBody s_check_burnt_pile) (defScope s_check_burnt_pile) .none kV_check_burnt_pile dc_check_burnt_pile pm_check_burnt_pile an_check_burnt_pile cd_check_burnt_pile ct_check_burnt_pile), sl_check_burnt_pile⟩)
    (q_check_burnt_pile : PySem.W.codeIn K cd_check_burnt_pile "check_burnt_pile" = true)
    (k_check_burnt_pile : PySem.W.keepIn K (.ref f_check_burnt_pile) = true)
    (a_cakes_by_word : PySem.W.nsIn K mainGlobals "cakes_by_word" = some (some (.ref f_cakes_by_word)))
    (l_cakes_by_word : K.lookup f_cakes_by_word = some ⟨oc_cakes_by_word, od_cakes_by_word, .func (PySem.W.fnOf "cakes_by_word" "cakes_by_word" (defArgs s_cakes_by_word) (defBody s_cakes_by_word) (defScope s_cakes_by_word) .none kV_cakes_by_word dc_cakes_by_word pm_cakes_by_word an_cakes_by_word cd_cakes_by_word ct_cakes_by_word), sl_cakes_by_word⟩)
    (q_cakes_by_word : PySem.W.codeIn K cd_cakes_by_word "cakes_by_word" = true)
    (k_cakes_by_word : PySem.W.keepIn K (.ref f_cakes_by_word) = true)
    (a_read_cakes : PySem.W.nsIn K mainGlobals "read_cakes" = some (some (.ref f_read_cakes)))
    (l_read_cakes : K.lookup f_read_cakes = some ⟨oc_read_cakes, od_read_cakes, .func (PySem.W.fnOf "read_cakes" "read_cakes" (defArgs s_read_cakes) (defBody s_read_cakes) (defScope s_read_cakes) .none kV_read_cakes dc_read_cakes pm_read_cakes an_read_cakes cd_read_cakes ct_read_cakes), sl_read_cakes⟩)
    (q_read_cakes : PySem.W.codeIn K cd_read_cakes "read_cakes" = true)
    (k_read_cakes : PySem.W.keepIn K (.ref f_read_cakes) = true)
    (a_read : PySem.W.nsIn K mainGlobals "read" = some (some (.ref f_read)))
    (l_read : K.lookup f_read = some ⟨oc_read, od_read, .func (PySem.W.fnOf "read" "read" (defArgs s_read) (defBody s_read) (defScope s_read) .none kV_read dc_read pm_read an_read cd_read ct_read), sl_read⟩)
    (q_read : PySem.W.codeIn K cd_read "read" = true)
    (k_read : PySem.W.keepIn K (.ref f_read) = true)
    (a_burnt_read : PySem.W.nsIn K mainGlobals "burnt_read" = some (some (.ref f_burnt_read)))
    (l_burnt_read : K.lookup f_burnt_read = some ⟨oc_burnt_read, od_burnt_read, .func (PySem.W.fnOf "burnt_read" "burnt_read" (defArgs s_burnt_read) (defBody s_burnt_read) (defScope s_burnt_read) .none kV_burnt_read dc_burnt_read pm_burnt_read an_burnt_read cd_burnt_read ct_burnt_read), sl_burnt_read⟩)
    (q_burnt_read : PySem.W.codeIn K cd_burnt_read "burnt_read" = true)
    (k_burnt_read : PySem.W.keepIn K (.ref f_burnt_read) = true)
    (a_law_cell_at : PySem.W.nsIn K mainGlobals "_law_cell_at" = some (some (.ref f_law_cell_at)))
    (l_law_cell_at : K.lookup f_law_cell_at = some ⟨oc_law_cell_at, od_law_cell_at, .func (PySem.W.fnOf "_law_cell_at" "_law_cell_at" (defArgs s_law_cell_at) (defBody s_law_cell_at) (defScope s_law_cell_at) .none kV_law_cell_at dc_law_cell_at pm_law_cell_at an_law_cell_at cd_law_cell_at ct_law_cell_at), sl_law_cell_at⟩)
    (q_law_cell_at : PySem.W.codeIn K cd_law_cell_at "_law_cell_at" = true)
    (k_law_cell_at : PySem.W.keepIn K (.ref f_law_cell_at) = true)
    (a_law_pile : PySem.W.nsIn K mainGlobals "_law_pile" = some (some (.ref f_law_pile)))
    (l_law_pile : K.lookup f_law_pile = some ⟨oc_law_pile, od_law_pile, .func (PySem.W.fnOf "_law_pile" "_law_pile" (defArgs s_law_pile) (defBody s_law_pile) (defScope s_law_pile) .none kV_law_pile dc_law_pile pm_law_pile an_law_pile cd_law_pile ct_law_pile), sl_law_pile⟩)
    (q_law_pile : PySem.W.codeIn K cd_law_pile "_law_pile" = true)
    (k_law_pile : PySem.W.keepIn K (.ref f_law_pile) = true)
    (a_law_burnt : PySem.W.nsIn K mainGlobals "_law_burnt" = some (some (.ref f_law_burnt)))
    (l_law_burnt : K.lookup f_law_burnt = some ⟨oc_law_burnt, od_law_burnt, .func (PySem.W.fnOf "_law_burnt" "_law_burnt" (defArgs s_law_burnt) (defBody s_law_burnt) (defScope s_law_burnt) .none kV_law_burnt dc_law_burnt pm_law_burnt an_law_burnt cd_law_burnt ct_law_burnt), sl_law_burnt⟩)
    (q_law_burnt : PySem.W.codeIn K cd_law_burnt "_law_burnt" = true)
    (k_law_burnt : PySem.W.keepIn K (.ref f_law_burnt) = true)
    (a_law_which : PySem.W.nsIn K mainGlobals "_law_which" = some (some (.ref f_law_which)))
    (l_law_which : K.lookup f_law_which = some ⟨oc_law_which, od_law_which, .func (PySem.W.fnOf "_law_which" "_law_which" (defArgs s_law_which) (defBody s_law_which) (defScope s_law_which) .none kV_law_which dc_law_which pm_law_which an_law_which cd_law_which ct_law_which), sl_law_which⟩)
    (q_law_which : PySem.W.codeIn K cd_law_which "_law_which" = true)
    (k_law_which : PySem.W.keepIn K (.ref f_law_which) = true)
    (a_law_sign_by : PySem.W.nsIn K mainGlobals "_law_sign_by" = some (some (.ref f_law_sign_by)))
    (l_law_sign_by : K.lookup f_law_sign_by = some ⟨oc_law_sign_by, od_law_sign_by, .func (PySem.W.fnOf "_law_sign_by" "_law_sign_by" (defArgs s_law_sign_by) (defBody s_law_sign_by) (defScope s_law_sign_by) .none kV_law_sign_by dc_law_sign_by pm_law_sign_by an_law_sign_by cd_law_sign_by ct_law_sign_by), sl_law_sign_by⟩)
    (q_law_sign_by : PySem.W.codeIn K cd_law_sign_by "_law_sign_by" = true)
    (k_law_sign_by : PySem.W.keepIn K (.ref f_law_sign_by) = true)
    (a_law_odd : PySem.W.nsIn K mainGlobals "_law_odd" = some (some (.ref f_law_odd)))
    (l_law_odd : K.lookup f_law_odd = some ⟨oc_law_odd, od_law_odd, .func (PySem.W.fnOf "_law_odd" "_law_odd" (defArgs s_law_odd) (defBody s_law_odd) (defScope s_law_odd) .none kV_law_odd dc_law_odd pm_law_odd an_law_odd cd_law_odd ct_law_odd), sl_law_odd⟩)
    (q_law_odd : PySem.W.codeIn K cd_law_odd "_law_odd" = true)
    (k_law_odd : PySem.W.keepIn K (.ref f_law_odd) = true)
    (a_law_number : PySem.W.nsIn K mainGlobals "_law_number" = some (some (.ref f_law_number)))
    (l_law_number : K.lookup f_law_number = some ⟨oc_law_number, od_law_number, .func (PySem.W.fnOf "_law_number" "_law_number" (defArgs s_law_number) (defBody s_law_number) (defScope s_law_number) .none kV_law_number dc_law_number pm_law_number an_law_number cd_law_number ct_law_number), sl_law_number⟩)
    (q_law_number : PySem.W.codeIn K cd_law_number "_law_number" = true)
    (k_law_number : PySem.W.keepIn K (.ref f_law_number) = true)
    (a_law_due : PySem.W.nsIn K mainGlobals "_law_due" = some (some (.ref f_law_due)))
    (l_law_due : K.lookup f_law_due = some ⟨oc_law_due, od_law_due, .func (PySem.W.fnOf "_law_due" "_law_due" (defArgs s_law_due) (defBody s_law_due) (defScope s_law_due) .none kV_law_due dc_law_due pm_law_due an_law_due cd_law_due ct_law_due), sl_law_due⟩)
    (q_law_due : PySem.W.codeIn K cd_law_due "_law_due" = true)
    (k_law_due : PySem.W.keepIn K (.ref f_law_due) = true)
    (a_law_told : PySem.W.nsIn K mainGlobals "_law_told" = some (some (.ref f_law_told)))
    (l_law_told : K.lookup f_law_told = some ⟨oc_law_told, od_law_told, .func (PySem.W.fnOf "_law_told" "_law_told" (defArgs s_law_told) (defBody s_law_told) (defScope s_law_told) .none kV_law_told dc_law_told pm_law_told an_law_told cd_law_told ct_law_told), sl_law_told⟩)
    (q_law_told : PySem.W.codeIn K cd_law_told "_law_told" = true)
    (k_law_told : PySem.W.keepIn K (.ref f_law_told) = true)
    (a_law_spoiled : PySem.W.nsIn K mainGlobals "_law_spoiled" = some (some (.ref f_law_spoiled)))
    (l_law_spoiled : K.lookup f_law_spoiled = some ⟨oc_law_spoiled, od_law_spoiled, .func (PySem.W.fnOf "_law_spoiled" "_law_spoiled" (defArgs s_law_spoiled) (defBody s_law_spoiled) (defScope s_law_spoiled) .none kV_law_spoiled dc_law_spoiled pm_law_spoiled an_law_spoiled cd_law_spoiled ct_law_spoiled), sl_law_spoiled⟩)
    (q_law_spoiled : PySem.W.codeIn K cd_law_spoiled "_law_spoiled" = true)
    (k_law_spoiled : PySem.W.keepIn K (.ref f_law_spoiled) = true)
    (a_law : PySem.W.nsIn K mainGlobals "law" = some (some (.ref f_law)))
    (l_law : K.lookup f_law = some ⟨oc_law, od_law, .func (PySem.W.fnOf "law" "law" (defArgs s_law) (defBody s_law) (defScope s_law) .none kV_law dc_law pm_law an_law cd_law ct_law), sl_law⟩)
    (q_law : PySem.W.codeIn K cd_law "law" = true)
    (k_law : PySem.W.keepIn K (.ref f_law) = true)
    (hz_ValueError : PySem.W.nsIn K mainGlobals "ValueError" = some none)
    (hz_abs : PySem.W.nsIn K mainGlobals "abs" = some none)
    (hz_int : PySem.W.nsIn K mainGlobals "int" = some none)
    (hz_isinstance : PySem.W.nsIn K mainGlobals "isinstance" = some none)
    (hz_len : PySem.W.nsIn K mainGlobals "len" = some none)
    (hz_list : PySem.W.nsIn K mainGlobals "list" = some none)
    (hz_range : PySem.W.nsIn K mainGlobals "range" = some none)
    (hz_sorted : PySem.W.nsIn K mainGlobals "sorted" = some none)
    (hz_str : PySem.W.nsIn K mainGlobals "str" = some none)
    {tk_MOST_CAKES : Tok} 
    (hg_c_MOST_CAKES : PySem.W.nsIn K mainGlobals "MOST_CAKES" = some (some (.int 12 tk_MOST_CAKES)))
    (hw_NoPile : PySem.W.mroIn K C_NoPile (.ref C_NoPile) = some true) :
    ∃ fd : FuncData, (∀ (s : Shared) (v : Value), BindsTo s fd ⟨[v], []⟩ [("script", v)]) ∧ ∀ base : Heap, K.In base → base.Ns mainGlobals mg → FnOk l.prog w K mg base CX0 8 fa fd ["script"] (spLaw K) := by
  have e := hfa.symm.trans (PySem.W.mg_of X G a_law)
  cases e
  have T : Txt K mg ⟨nth C_FlipError [C_NoPile, C_NoTurn, C_TooTall, C_NoBack, C_BadLine], nth f_check_pile [f_without_signs, f_check_burnt_pile, f_cakes_by_word, f_read_cakes, f_read, f_burnt_read, f_law_cell_at, f_law_pile, f_law_burnt, f_law_which, f_law_sign_by, f_law_odd, f_law_number, f_law_due, f_law_told, f_law_spoiled, fa], nth (PySem.W.fnOf "check_pile" "check_pile" (defArgs s_check_pile) (defBody s_check_pile) (defScope s_check_pile) .none kV_check_pile dc_check_pile pm_check_pile an_check_pile cd_check_pile ct_check_pile) [(PySem.W.fnOf "without_signs" "without_signs" (defArgs s_without_signs) (defBody s_without_signs) (defScope s_without_signs) .none kV_without_signs dc_without_signs pm_without_signs an_without_signs cd_without_signs ct_without_signs), (PySem.W.fnOf "check_burnt_pile" "check_burnt_pile" (defArgs s_check_burnt_pile) (defBody s_check_burnt_pile) (defScope s_check_burnt_pile) .none kV_check_burnt_pile dc_check_burnt_pile pm_check_burnt_pile an_check_burnt_pile cd_check_burnt_pile ct_check_burnt_pile), (PySem.W.fnOf "cakes_by_word" "cakes_by_word" (defArgs s_cakes_by_word) (defBody s_cakes_by_word) (defScope s_cakes_by_word) .none kV_cakes_by_word dc_cakes_by_word pm_cakes_by_word an_cakes_by_word cd_cakes_by_word ct_cakes_by_word), (PySem.W.fnOf "read_cakes" "read_cakes" (defArgs s_read_cakes) (defBody s_read_cakes) (defScope s_read_cakes) .none kV_read_cakes dc_read_cakes pm_read_cakes an_read_cakes cd_read_cakes ct_read_cakes), (PySem.W.fnOf "read" "read" (defArgs s_read) (defBody s_read) (defScope s_read) .none kV_read dc_read pm_read an_read cd_read ct_read), (PySem.W.fnOf "burnt_read" "burnt_read" (defArgs s_burnt_read) (defBody s_burnt_read) (defScope s_burnt_read) .none kV_burnt_read dc_burnt_read pm_burnt_read an_burnt_read cd_burnt_read ct_burnt_read), (PySem.W.fnOf "_law_cell_at" "_law_cell_at" (defArgs s_law_cell_at) (defBody s_law_cell_at) (defScope s_law_cell_at) .none kV_law_cell_at dc_law_cell_at pm_law_cell_at an_law_cell_at cd_law_cell_at ct_law_cell_at), (PySem.W.fnOf "_law_pile" "_law_pile" (defArgs s_law_pile) (defBody s_law_pile) (defScope s_law_pile) .none kV_law_pile dc_law_pile pm_law_pile an_law_pile cd_law_pile ct_law_pile), (PySem.W.fnOf "_law_burnt" "_law_burnt" (defArgs s_law_burnt) (defBody s_law_burnt) (defScope s_law_burnt) .none kV_law_burnt dc_law_burnt pm_law_burnt an_law_burnt cd_law_burnt ct_law_burnt), (PySem.W.fnOf "_law_which" "_law_which" (defArgs s_law_which) (defBody s_law_which) (defScope s_law_which) .none kV_law_which dc_law_which pm_law_which an_law_which cd_law_which ct_law_which), (PySem.W.fnOf "_law_sign_by" "_law_sign_by" (defArgs s_law_sign_by) (defBody s_law_sign_by) (defScope s_law_sign_by) .none kV_law_sign_by dc_law_sign_by pm_law_sign_by an_law_sign_by cd_law_sign_by ct_law_sign_by), (PySem.W.fnOf "_law_odd" "_law_odd" (defArgs s_law_odd) (defBody s_law_odd) (defScope s_law_odd) .none kV_law_odd dc_law_odd pm_law_odd an_law_odd cd_law_odd ct_law_odd), (PySem.W.fnOf "_law_number" "_law_number" (defArgs s_law_number) (defBody s_law_number) (defScope s_law_number) .none kV_law_number dc_law_number pm_law_number an_law_number cd_law_number ct_law_number), (PySem.W.fnOf "_law_due" "_law_due" (defArgs s_law_due) (defBody s_law_due) (defScope s_law_due) .none kV_law_due dc_law_due pm_law_due an_law_due cd_law_due ct_law_due), (PySem.W.fnOf "_law_told" "_law_told" (defArgs s_law_told) (defBody s_law_told) (defScope s_law_told) .none kV_law_told dc_law_told pm_law_told an_law_told cd_law_told ct_law_told), (PySem.W.fnOf "_law_spoiled" "_law_spoiled" (defArgs s_law_spoiled) (defBody s_law_spoiled) (defScope s_law_spoiled) .none kV_law_spoiled dc_law_spoiled pm_law_spoiled an_law_spoiled cd_law_spoiled ct_law_spoiled), (PySem.W.fnOf "law" "law" (defArgs s_law) (defBody s_law) (defScope s_law) .none kV_law dc_law pm_law an_law cd_law ct_law)]⟩ := ⟨PySem.W.mg_of X G hx_FlipError, PySem.W.mg_of X G hx_NoPile, PySem.W.mg_of X G hx_NoTurn, PySem.W.mg_of X G hx_TooTall, PySem.W.mg_of X G hx_NoBack, PySem.W.mg_of X G hx_BadLine, ⟨⟨he_FlipError, hk_FlipError⟩, hg_FlipError, hn_FlipError, hc_FlipError⟩, ⟨⟨he_NoPile, hk_NoPile⟩, hg_NoPile, hn_NoPile, hc_NoPile⟩, ⟨⟨he_NoTurn, hk_NoTurn⟩, hg_NoTurn, hn_NoTurn, hc_NoTurn⟩, ⟨⟨he_TooTall, hk_TooTall⟩, hg_TooTall, hn_TooTall, hc_TooTall⟩, ⟨⟨he_NoBack, hk_NoBack⟩, hg_NoBack, hn_NoBack, hc_NoBack⟩, ⟨⟨he_BadLine, hk_BadLine⟩, hg_BadLine, hn_BadLine, hc_BadLine⟩, hu_BadLine, hi_BadLine_NoPile, hi_BadLine_NoTurn, hi_BadLine_TooTall, hi_BadLine_NoBack, hi_BadLine_BadLine, hi_BadLine_V, fun_mk (st := s_check_pile) l_check_pile q_check_pile k_check_pile, PySem.W.mg_of X G a_check_pile, fun_mk (st := s_without_signs) l_without_signs q_without_signs k_without_signs, PySem.W.mg_of X G a_without_signs, fun_mk (st := s_check_burnt_pile) l_check_burnt_pile q_check_burnt_pile k_check_burnt_pile, PySem.W.mg_of X G a_check_burnt_pile, fun_mk (st := s_cakes_by_word) l_cakes_by_word q_cakes_by_word k_cakes_by_word, PySem.W.mg_of X G a_cakes_by_word, fun_mk (st := s_read_cakes) l_read_cakes q_read_cakes k_read_cakes, PySem.W.mg_of X G a_read_cakes, fun_mk (st := s_read) l_read q_read k_read, PySem.W.mg_of X G a_read, fun_mk (st := s_burnt_read) l_burnt_read q_burnt_read k_burnt_read, PySem.W.mg_of X G a_burnt_read, fun_mk (st := s_law_cell_at) l_law_cell_at q_law_cell_at k_law_cell_at, PySem.W.mg_of X G a_law_cell_at, fun_mk (st := s_law_pile) l_law_pile q_law_pile k_law_pile, PySem.W.mg_of X G a_law_pile, fun_mk (st := s_law_burnt) l_law_burnt q_law_burnt k_law_burnt, PySem.W.mg_of X G a_law_burnt, fun_mk (st := s_law_which) l_law_which q_law_which k_law_which, PySem.W.mg_of X G a_law_which, fun_mk (st := s_law_sign_by) l_law_sign_by q_law_sign_by k_law_sign_by, PySem.W.mg_of X G a_law_sign_by, fun_mk (st := s_law_odd) l_law_odd q_law_odd k_law_odd, PySem.W.mg_of X G a_law_odd, fun_mk (st := s_law_number) l_law_number q_law_number k_law_number, PySem.W.mg_of X G a_law_number, fun_mk (st := s_law_due) l_law_due q_law_due k_law_due, PySem.W.mg_of X G a_law_due, fun_mk (st := s_law_told) l_law_told q_law_told k_law_told, PySem.W.mg_of X G a_law_told, fun_mk (st := s_law_spoiled) l_law_spoiled q_law_spoiled k_law_spoiled, PySem.W.mg_of X G a_law_spoiled, fun_mk (st := s_law) l_law q_law k_law, PySem.W.mg_of X G a_law, PySem.W.mg_none_of X G hz_ValueError, PySem.W.mg_none_of X G hz_abs, PySem.W.mg_none_of X G hz_int, PySem.W.mg_none_of X G hz_isinstance, PySem.W.mg_none_of X G hz_len, PySem.W.mg_none_of X G hz_list, PySem.W.mg_none_of X G hz_range, PySem.W.mg_none_of X G hz_sorted, PySem.W.mg_none_of X G hz_str, ⟨_, PySem.W.mg_of X G hg_c_MOST_CAKES⟩, hw_NoPile⟩
  exact ⟨_, fun s v => .of_eq rfl, fun base _ _ => ok_law T⟩
theorem walk {l : PySem.W.OpenLaw} {q : Program} {loose : List Str} {XP : (Str → Option Value) → Heap → Prop} {YP : World → Heap → Prop} {d : DefRec} {K : Params → PySem.W.Frag} (hn : l.most = some 63) (hdf : d.params.defaults = [])
    (hY : ∀ (w : World) (h : Heap), YP w h → (K w.params).In h)
    (F : ∀ (w : World) (mg : Str → Option Value) (fa : Addr) (h : Heap), (K w.params).In h → h.Ns mainGlobals mg → mg d.name = some (.ref fa) →
      ∃ fd : FuncData, (∀ (s : Shared) (u : Value), BindsTo s fd ⟨[u], []⟩ [("script", u)]) ∧ ∀ base : Heap, (K w.params).In base → base.Ns mainGlobals mg → FnOk l.prog w (K w.params) mg base CX0 8 fa fd ["script"] (spLaw (K w.params))) :
    PySem.W.WalkO q loose XP YP l.row.toRowW d [] (fun f vs => PySem.call f vs) :=
  L2.walk_of (n := 63) (k := 8) (x := "script") (CX := fun _ => CX0) (sp := fun w => spLaw (K w.params)) hn (by decide) hdf ⟨rfl, by decide, by decide⟩ hY F (fun _ _ a ns hl _ hS => ⟨a, ns, rfl, hS, hl, fun _ => rfl⟩) fun _ _ _ _ _ z => z
end Fl
namespace L2
open PySem PySem.W PySem.W.X PySem.W.ZRun
/-- a walk by the smaller head -/
theorem walkX_of {q : Program} {loose : List Str} {XP : (Str → Option Value) → Heap → Prop} {r : RowW} {d : DefRec} {kwd : List (Str × Expr)} {run : Value → List Value → Sem Value} {K : Params → PySem.W.Frag} {ks : List Addr} {n t : Nat} (e : ∀ P, ks = (K P).map (·.1))
    (W : PySem.W.WalkO q loose XP (fun w h => (K w.params).In h) r d kwd run) : WalkX q loose XP (obsZ ks) (valZ K n t) r d kwd run :=
  fun w s₀ s₁ mg mb G y a o pm cd doc dV kV h1 h2 h3 h4 h5 h6 args vals bs L p1 p2 p3 p4 p5 => W w s₀ s₁ mg mb G (InK.keeps w _ _ (z_facts e y).2.1 L.keeps) a o pm cd doc dV kV h1 h2 h3 h4 h5 h6 args vals bs p1 p2 p3 p4 p5
end L2
open PySem PySem.W PyProof.Rows PySem.W.X PySem.W.ZRun
set_option maxRecDepth 100000 in
set_option maxHeartbeats 0 in
theorem PySem.Challenge.cw_flipstack_k14_texts_refused_holds : PySem.Challenge.rw_flipstack_k14_texts_refused.Holds := by
  w_on; o_law; z_head; (case hw => w_witness2)
  k_fill
  refine L2.walkX_of (fun _ => by kernel_rfl) (Fl.walk (l := PySem.Challenge.rw_flipstack_k14_texts_refused) rfl rfl (fun w h Y => Y) ?F)
  case F =>
    intro w mg fa h KX G hmg
    refine' Fl.all_mk KX G hmg ?hx_FlipError ?hx_NoPile ?hx_NoTurn ?hx_TooTall ?hx_NoBack ?hx_BadLine ?he_FlipError ?hk_FlipError ?hg_FlipError ?hn_FlipError ?hc_FlipError ?he_NoPile ?hk_NoPile ?hg_NoPile ?hn_NoPile ?hc_NoPile ?he_NoTurn ?hk_NoTurn ?hg_NoTurn ?hn_NoTurn ?hc_NoTurn ?he_TooTall ?hk_TooTall ?hg_TooTall ?hn_TooTall ?hc_TooTall ?he_NoBack ?hk_NoBack ?hg_NoBack ?hn_NoBack ?hc_NoBack ?he_BadLine ?hk_BadLine ?hg_BadLine ?hn_BadLine ?hc_BadLine ?hu_BadLine ?hi_BadLine_NoPile ?hi_BadLine_NoTurn ?hi_BadLine_TooTall ?hi_BadLine_NoBack ?hi_BadLine_BadLine ?hi_BadLine_V ?a_check_pile ?l_check_pile ?q_check_pile ?k_check_pile ?a_without_signs ?l_without_signs ?q_without_signs ?k_without_signs ?a_check_burnt_pile ?l_check_burnt_pile ?q_check_burnt_pile ?k_check_burnt_pile ?a_cakes_by_word ?l_cakes_by_word ?q_cakes_by_word ?k_cakes_by_word ?a_read_cakes ?l_read_cakes ?q_read_cakes ?k_read_cakes ?a_read ?l_read ?q_read ?k_read ?a_burnt_read ?l_burnt_read ?q_burnt_read ?k_burnt_read ?a_law_cell_at ?l_law_cell_at ?q_law_cell_at ?k_law_cell_at ?a_law_pile ?l_law_pile ?q_law_pile ?k_law_pile ?a_law_burnt ?l_law_burnt ?q_law_burnt ?k_law_burnt ?a_law_which ?l_law_which ?q_law_which ?k_law_which ?a_law_sign_by ?l_law_sign_by ?q_law_sign_by ?k_law_sign_by ?a_law_odd ?l_law_odd ?q_law_odd ?k_law_odd ?a_law_number ?l_law_number ?q_law_number ?k_law_number ?a_law_due ?l_law_due ?q_law_due ?k_law_due ?a_law_told ?l_law_told ?q_law_told ?k_law_told ?a_law_spoiled ?l_law_spoiled ?q_law_spoiled ?k_law_spoiled ?a_law ?l_law ?q_law ?k_law ?hz_ValueError ?hz_abs ?hz_int ?hz_isinstance ?hz_len ?hz_list ?hz_range ?hz_sorted ?hz_str ?hg_c_MOST_CAKES ?hw_NoPile
    (case hx_FlipError => k_is)
    (case hx_NoPile => k_is)
    (case hx_NoTurn => k_is)
    (case hx_TooTall => k_is)
    (case hx_NoBack => k_is)
    (case hx_BadLine => k_is)
    (case he_FlipError => k_exc)
    (case hk_FlipError => k_is)
    (case hg_FlipError => k_is)
    (case hn_FlipError => k_is)
    (case hc_FlipError => k_is)
    (case he_NoPile => k_exc)
    (case hk_NoPile => k_is)
    (case hg_NoPile => k_is)
    (case hn_NoPile => k_is)
    (case hc_NoPile => k_is)
    (case he_NoTurn => k_exc)
    (case hk_NoTurn => k_is)
    (case hg_NoTurn => k_is)
    (case hn_NoTurn => k_is)
    (case hc_NoTurn => k_is)
    (case he_TooTall => k_exc)
    (case hk_TooTall => k_is)
    (case hg_TooTall => k_is)
    (case hn_TooTall => k_is)
    (case hc_TooTall => k_is)
    (case he_NoBack => k_exc)
    (case hk_NoBack => k_is)
    (case hg_NoBack => k_is)
    (case hn_NoBack => k_is)
    (case hc_NoBack => k_is)
    (case he_BadLine => k_exc)
    (case hk_BadLine => k_is)
    (case hg_BadLine => k_is)
    (case hn_BadLine => k_is)
    (case hc_BadLine => k_is)
    (case hu_BadLine => k_is)
    (case hi_BadLine_NoPile => kit_is)
    (case hi_BadLine_NoTurn => kit_is)
    (case hi_BadLine_TooTall => kit_is)
    (case hi_BadLine_NoBack => kit_is)
    (case hi_BadLine_BadLine => kit_is)
    (case hi_BadLine_V => kit_is)
    (case a_check_pile => k_is)
    (case l_check_pile => k_is)
    (case q_check_pile => k_is)
    (case k_check_pile => k_is)
    (case a_without_signs => k_is)
    (case l_without_signs => k_is)
    (case q_without_signs => k_is)
    (case k_without_signs => k_is)
    (case a_check_burnt_pile => k_is)
    (case l_check_burnt_pile => k_is)
    (case q_check_burnt_pile => k_is)
    (case k_check_burnt_pile => k_is)
    (case a_cakes_by_word => k_is)
    (case l_cakes_by_word => k_is)
    (case q_cakes_by_word => k_is)
    (case k_cakes_by_word => k_is)
    (case a_read_cakes => k_is)
    (case l_read_cakes => k_is)
    (case q_read_cakes => k_is)
    (case k_read_cakes => k_is)
    (case a_read => k_is)
    (case l_read => k_is)
    (case q_read => k_is)
    (case k_read => k_is)
    (case a_burnt_read => k_is)
    (case l_burnt_read => k_is)
    (case q_burnt_read => k_is)
    (case k_burnt_read => k_is)
    (case a_law_cell_at => k_is)
    (case l_law_cell_at => k_is)
    (case q_law_cell_at => k_is)
    (case k_law_cell_at => k_is)
    (case a_law_pile => k_is)
    (case l_law_pile => k_is)
    (case q_law_pile => k_is)
    (case k_law_pile => k_is)
    (case a_law_burnt => k_is)
    (case l_law_burnt => k_is)
    (case q_law_burnt => k_is)
    (case k_law_burnt => k_is)
    (case a_law_which => k_is)
    (case l_law_which => k_is)
    (case q_law_which => k_is)
    (case k_law_which => k_is)
    (case a_law_sign_by => k_is)
    (case l_law_sign_by => k_is)
    (case q_law_sign_by => k_is)
    (case k_law_sign_by => k_is)
    (case a_law_odd => k_is)
    (case l_law_odd => k_is)
    (case q_law_odd => k_is)
    (case k_law_odd => k_is)
    (case a_law_number => k_is)
    (case l_law_number => k_is)
    (case q_law_number => k_is)
    (case k_law_number => k_is)
    (case a_law_due => k_is)
    (case l_law_due => k_is)
    (case q_law_due => k_is)
    (case k_law_due => k_is)
    (case a_law_told => k_is)
    (case l_law_told => k_is)
    (case q_law_told => k_is)
    (case k_law_told => k_is)
    (case a_law_spoiled => k_is)
    (case l_law_spoiled => k_is)
    (case q_law_spoiled => k_is)
    (case k_law_spoiled => k_is)
    (case a_law => k_is)
    (case l_law => k_is)
    (case q_law => k_is)
    (case k_law => k_is)
    (case hz_ValueError => k_is)
    (case hz_abs => k_is)
    (case hz_int => k_is)
    (case hz_isinstance => k_is)
    (case hz_len => k_is)
    (case hz_list => k_is)
    (case hz_range => k_is)
    (case hz_sorted => k_is)
    (case hz_str => k_is)
    (case hg_c_MOST_CAKES => k_is)
    (case hw_NoPile => k_is)

