import PyProof.Rows.All
import Wide.All
import OpenK.AllK
import Wide.FinOn
import Lean
import PyProof.EqAt
import PyProof.EqKinds
import PyProof.TupleCall
import PySem.Challenge.RW_flipstack_k15_each_refusal_its_own
set_option Elab.async false
set_option linter.all false
set_option maxRecDepth 100000
/-! THE HAND LAYER, for ints, bools, texts, own classes, LISTS and tuples (index, slices, in, append, pop ..), calls, loops. Paste it whole ahead of your own text; what your proof does not reach may be deleted. -/
namespace L2
open PySem PySem.Spec PyProof.Rows

/-- a key: an int or a str -/
abbrev Key := Sum Int Str
def keyIs : Key → Value → Bool
  | .inl k, v => Value.isInt k v
  | .inr x, v => Value.isStrOf x v
def keyH (w : World) : Key → Int
  | .inl k => hashInt k
  | .inr x => hashStr w x
theorem keyIs_shape : ∀ {k : Key} {v : Value}, keyIs k v = true → (∃ i t, k = Sum.inl i ∧ v = Value.int i t) ∨ (∃ x t, k = Sum.inr x ∧ v = Value.str x t)
  | .inl i, v, h => by
    obtain ⟨t, e⟩ := Value.isInt_shape (k := i) (v := v) h
    exact .inl ⟨i, t, rfl, e⟩
  | .inr x, v, h => by
    obtain ⟨t, e⟩ := Value.isStrOf_shape (x := x) (v := v) h
    exact .inr ⟨x, t, rfl, e⟩
theorem key_ll (a b : Int) : decide ((Sum.inl a : Key) = Sum.inl b) = (a == b) := by
  by_cases e : a = b
  · subst e; simp
  · have h : ¬ (Sum.inl a : Key) = Sum.inl b := fun q => e (Sum.inl.inj q)
    rw [decide_eq_false h]
    exact (beq_eq_false_iff_ne.mpr e).symm
theorem key_rr (a b : Str) : decide ((Sum.inr a : Key) = Sum.inr b) = decide (a = b) := by
  by_cases e : a = b
  · subst e; simp
  · have h : ¬ (Sum.inr a : Key) = Sum.inr b := fun q => e (Sum.inr.inj q)
    rw [decide_eq_false h, decide_eq_false e]
theorem key_lr (a : Int) (b : Str) : decide ((Sum.inl a : Key) = Sum.inr b) = false := decide_eq_false (fun q => nomatch q)
theorem key_rl (a : Str) (b : Int) : decide ((Sum.inr a : Key) = Sum.inl b) = false := decide_eq_false (fun q => nomatch q)

def mixKind (prog : Program) (w : World) : PySem.KeyKind prog w Key where
  is := keyIs
  hash := keyH w
  inj := fun v a b ha hb => by
    rcases keyIs_shape ha with ⟨i, t, rfl, rfl⟩ | ⟨x, t, rfl, rfl⟩
    · rcases keyIs_shape hb with ⟨j, u, rfl, e⟩ | ⟨y, u, rfl, e⟩
      · injection e with e1 _; rw [e1]
      · exact nomatch e
    · rcases keyIs_shape hb with ⟨j, u, rfl, e⟩ | ⟨y, u, rfl, e⟩
      · exact nomatch e
      · injection e with e1 _; rw [e1]
  byValue := fun k v h => by
    rcases keyIs_shape h with ⟨i, t, rfl, rfl⟩ | ⟨x, t, rfl, rfl⟩ <;> rfl
  pyHash := fun hv h => by
    rcases keyIs_shape hv with ⟨i, t, rfl, rfl⟩ | ⟨x, t, rfl, rfl⟩
    · exact wpAny_pyHash_int h
    · exact wpAny_pyHash_str h
  eqBool := fun hu hv h => by
    rcases keyIs_shape hu with ⟨i, t, rfl, rfl⟩ | ⟨x, t, rfl, rfl⟩
    · rcases keyIs_shape hv with ⟨j, u, rfl, rfl⟩ | ⟨y, u, rfl, rfl⟩
      · rw [key_ll] at h; exact wpAny_eqBool_int h
      · rw [key_lr] at h; exact SeqAt.EqAt.int_str i t y u _ _ _ _ h
    · rcases keyIs_shape hv with ⟨j, u, rfl, rfl⟩ | ⟨y, u, rfl, rfl⟩
      · rw [key_rl] at h; exact SeqAt.EqAt.str_int x t j u _ _ _ _ h
      · rw [key_rr] at h; exact wpAny_eqBool_str h
  «strs» := fun k x t v h => by
    rcases keyIs_shape h with ⟨i, u, rfl, e⟩ | ⟨y, u, rfl, e⟩
    · exact nomatch e
    · injection e with e1 _
      subst e1
      cases v <;> rfl

end L2

namespace L2
open PySem PySem.Spec PyProof.Rows

/-- a value, without the heap -/
inductive V where
  | non | bl (b : Bool) | int (i : Int) | str (x : Str) | byt (b : Array UInt8) | flt (b : UInt64) | ref (a : Addr) | ty (n : String)
  deriving DecidableEq

def RelV : V → Value → Prop
  | .non, u => u = Value.none
  | .bl b, u => u = Value.bool b
  | .int i, u => ∃ t, u = Value.int i t
  | .str x, u => ∃ t, u = Value.str x t
  | .byt b, u => ∃ t, u = Value.bytes b t
  | .flt b, u => ∃ t, u = Value.float b t
  | .ref a, u => u = Value.ref a
  | .ty n, u => u = Value.type n

abbrev Vals : List V → List Value → Prop := Paired RelV
theorem Vals.length {xs : List V} {us : List Value} (r : Vals xs us) : xs.length = us.length := Paired.length r
theorem Vals.get : ∀ {xs : List V} {us : List Value} {i : Nat} {x : V}, Vals xs us → xs[i]? = some x → ∃ u, us[i]? = some u ∧ RelV x u
  | _, _, _, _, .nil, e => by simp at e
  | _, _, 0, _, .cons r _, e => by simp at e; subst e; exact ⟨_, rfl, r⟩
  | _, _, i + 1, x, .cons _ t, e => by
    obtain ⟨u, h1, h2⟩ := Vals.get (i := i) (x := x) t (by simpa using e)
    exact ⟨u, by simpa using h1, h2⟩
theorem Vals.append : ∀ {xs ys : List V} {us ws : List Value}, Vals xs us → Vals ys ws → Vals (xs ++ ys) (us ++ ws)
  | _, _, _, _, .nil, s => s
  | _, _, _, _, .cons r t, s => .cons r (Vals.append t s)
theorem Vals.take : ∀ {xs : List V} {us : List Value} (n : Nat), Vals xs us → Vals (xs.take n) (us.take n)
  | _, _, 0, _ => .nil
  | _, _, _ + 1, .nil => .nil
  | _, _, n + 1, .cons r t => .cons r (Vals.take n t)
theorem Vals.drop : ∀ {xs : List V} {us : List Value} (n : Nat), Vals xs us → Vals (xs.drop n) (us.drop n)
  | _, _, 0, r => r
  | _, _, _ + 1, .nil => .nil
  | _, _, n + 1, .cons _ t => Vals.drop n t
def RelO : Option V → Option Value → Prop
  | some v, some u => RelV v u
  | none, none => True
  | _, _ => False
def KV {κ : Type} : List (κ × V) → List (κ × Value) → Prop := Paired fun (p : κ × V) (q : κ × Value) => p.1 = q.1 ∧ RelV p.2 q.2

/-- a key of a dict (00_mix): an int or a text -/
def kV : Key → V
  | .inl i => .int i
  | .inr x => .str x

/-- what stands at a tracked address -/
inductive HO where
  /-- a list -/
  | lst (xs : List V)
  /-- a tuple (never changes) -/
  | tup (xs : List V)
  /-- a dict whose keys are ints and texts; one whose keys are tuples of ints and texts (the empty one is both) -/
  | dK (kvs : List (Key × V)) | dT (kvs : List (List Key × V))
  /-- a set of ints: its members, its size -/
  | set (S : Int → Bool) (n : Nat)
  /-- an instance of the class at C, its dict at dx, its attributes -/
  | ins (C dx : Addr) (fs : List (Str × V))
  /-- the dict of the instance at x -/
  | own (x : Addr)
  /-- the dict of an exception -/
  | xd (fs : List (Str × V))
  /-- a bound method, f of x -/
  | met (f x : Addr)
  /-- a range object lo, lo + 1, .. below hi -/
  | rng (lo hi : Int)
  /-- a thing that is known to the object (the script; a dict while a loop walks it): read, never written while it is so -/
  | frz (o : Obj) (u : HO)
  /-- a code object's table -/
  | tbl (ps : Array Value)
  /-- any other thing, by what is true of its one object (a def of one's own: SetO a S n := HO.ext fun h => ..) -/
  | ext (φ : Heap → Prop)

abbrev Hp := Addr → Option HO
def upd (H : Hp) (a : Addr) (o : HO) : Hp := fun b => if b = a then some o else H b
theorem upd_same {H : Hp} {a : Addr} {o : HO} : upd H a o a = some o := by unfold upd; rw [if_pos rfl]
theorem upd_ne {H : Hp} {a b : Addr} {o : HO} (h : b ≠ a) : upd H a o b = H b := by unfold upd; rw [if_neg h]
theorem ne_of_none {H : Hp} {a b : Addr} {o : HO} (h : H a = some o) (h' : H b = none) : a ≠ b := by
  intro e; subst e; rw [h] at h'; cases h'

section
variable (P : Program) (w : World)
def ObjOk (H : Hp) (h : Heap) (a : Addr) : HO → Prop
  | .lst xs => xs.length ≤ sizeLine ∧ ∃ (its : List Value) (n : Nat), Vals xs its ∧ h.get? a = some { cls := .type "list", data := .seq its.toArray n }
  | .tup xs => xs.length ≤ sizeLine ∧ ∃ its : List Value, Vals xs its ∧ IsTup h a its.toArray
  | .dK kvs => kvs.length ≤ sizeLine ∧ (a == sysModules) = false ∧ ∃ vs, KV kvs vs ∧ h.DictOf (mixKind P w) a vs
  | .dT kvs => kvs.length ≤ sizeLine ∧ (a == sysModules) = false ∧ ∃ xs : List (List Key × Addr × Value),
      Paired (fun (p : List Key × V) (q : List Key × Addr × Value) => p.1 = q.1 ∧ H q.2.1 = some (.tup (p.1.map kV)) ∧ RelV p.2 q.2.2) kvs xs ∧
      ∃ o es ep, h.get? a = some o ∧ o.ExactDict ∧ o.data = .dict es ep ∧ es.toList = xs.map (entryOfKey (tupleKind (mixKind P w))) ∧ (xs.map (·.1)).Nodup
  | .set S n => h.SetOf (intKind P w) a S n
  | .ins C dx fs => H dx = some (.own a) ∧ fs.length ≤ 1000 ∧ dx ≠ a ∧ h.get? a = some (PySem.W.instObj C dx) ∧
      ∃ mA, h.Ns1 dx mA ∧ (∀ f, RelO (fs.lookup f) (mA f)) ∧ PySem.Within mA (fs.map (·.1))
  | .own _ => ∃ o, h.get? a = some o
  | .xd fs => ∃ mA, h.Ns1 a mA ∧ ∀ f, RelO (fs.lookup f) (mA f)
  | .rng lo hi => ∃ t u v, h.get? a = some { cls := .type "range", data := .fields #[.int lo t, .int hi u, .int 1 v] }
  | .frz o u => h.get? a = some o ∧ ObjOk H h a u
  | .tbl ps => h.get? a = some { cls := .none, data := .fields ps }
  | .met f x => h.get? a = some (PySem.W.methodObj (.ref f) (.ref x))
  | .ext φ => φ h ∧ (∃ o, h.get? a = some o) ∧ ∀ h1 h2 : Heap, φ h1 → (∀ o, h1.get? a = some o → h2.get? a = some o) → φ h2
/-- the abstract heap is held -/
def HOk (H : Hp) (h : Heap) : Prop := ∀ a o, H a = some o → ObjOk P w H h a o
end

section
variable {P : Program} {w : World} {H H' : Hp} {h h' : Heap} {a : Addr} {o : HO}
theorem ObjOk.lt (x : ObjOk P w H h a o) : a < h.objs.size := by
  cases o with
  | lst xs => obtain ⟨_, _, _, _, e⟩ := x; exact Heap.lt_size e
  | tup xs => obtain ⟨_, _, _, p⟩ := x; exact p.lt
  | dK kvs => obtain ⟨_, _, _, _, o, _, _, e, _⟩ := x; exact Heap.lt_size e
  | dT kvs => obtain ⟨_, _, _, _, o, _, _, e, _⟩ := x; exact Heap.lt_size e
  | set S n => obtain ⟨o, _, _, _, e, _⟩ := x; exact Heap.lt_size e
  | ins C dx fs => obtain ⟨_, _, _, e, _⟩ := x; exact Heap.lt_size e
  | own y => obtain ⟨_, e⟩ := x; exact Heap.lt_size e
  | xd fs => obtain ⟨_, ⟨_, _, _, e, _⟩, _⟩ := x; exact Heap.lt_size e
  | rng lo hi => obtain ⟨_, _, _, e⟩ := x; exact Heap.lt_size e
  | frz ob u => obtain ⟨e, _⟩ := x; exact Heap.lt_size e
  | tbl ps => exact Heap.lt_size (show h.get? a = some _ from x)
  | met f y => exact Heap.lt_size (show h.get? a = some _ from x)
  | ext φ => obtain ⟨_, ⟨_, e⟩, _⟩ := x; exact Heap.lt_size e
theorem Paired.mapP {α β : Type} {F G : α → β → Prop} : ∀ {l₁ : List α} {l₂ : List β}, Paired F l₁ l₂ → (∀ a b, F a b → G a b) → Paired G l₁ l₂
  | _, _, .nil, _ => .nil
  | _, _, .cons r t, f => .cons (f _ _ r) (Paired.mapP t f)
/-- what an object's description leans on: its own object, its own dict, the tuples -/
theorem ObjOk.stay (x : ObjOk P w H h a o) (k : ∀ b u, (b = a ∨ H b = some (.own a)) → h.get? b = some u → h'.get? b = some u)
    (ho : ∀ b, H b = some (.own a) → H' b = some (.own a)) (ht : ∀ b xs, H b = some (.tup xs) → H' b = some (.tup xs)) : ObjOk P w H' h' a o := by
  induction o with
  | lst xs => obtain ⟨z, its, n, r, e⟩ := x; exact ⟨z, its, n, r, k _ _ (.inl rfl) e⟩
  | tup xs => obtain ⟨z, its, r, ob, e, c⟩ := x; exact ⟨z, its, r, ob, k _ _ (.inl rfl) e, c⟩
  | dK kvs => obtain ⟨z, y, vs, r, ob, es, ep, e, c⟩ := x; exact ⟨z, y, vs, r, ob, es, ep, k _ _ (.inl rfl) e, c⟩
  | dT kvs =>
    obtain ⟨z, y, xs, r, ob, es, ep, e, c⟩ := x
    exact ⟨z, y, xs, Paired.mapP r fun p q z => ⟨z.1, ht _ _ z.2.1, z.2.2⟩, ob, es, ep, k _ _ (.inl rfl) e, c⟩
  | set S n => obtain ⟨ob, es, ep, t, e, c⟩ := x; exact ⟨ob, es, ep, t, k _ _ (.inl rfl) e, c⟩
  | ins C dx fs =>
    obtain ⟨d, z, ne, e, mA, ⟨od, es, ep, e2, c⟩, r⟩ := x
    exact ⟨ho _ d, z, ne, k _ _ (.inl rfl) e, mA, ⟨od, es, ep, k _ _ (.inr d) e2, c⟩, r⟩
  | own y => obtain ⟨ob, e⟩ := x; exact ⟨ob, k _ _ (.inl rfl) e⟩
  | xd fs => obtain ⟨mA, ⟨od, es, ep, e, c⟩, r⟩ := x; exact ⟨mA, ⟨od, es, ep, k _ _ (.inl rfl) e, c⟩, r⟩
  | rng lo hi => obtain ⟨t, u, v, e⟩ := x; exact ⟨t, u, v, k _ _ (.inl rfl) e⟩
  | frz ob u ih => obtain ⟨e, q⟩ := x; exact ⟨k _ _ (.inl rfl) e, ih q⟩
  | tbl ps =>
    have e : h.get? a = some { cls := .none, data := .fields ps } := x
    show h'.get? a = some { cls := .none, data := .fields ps }
    exact k a _ (.inl rfl) e
  | met f y =>
    have e : h.get? a = some (PySem.W.methodObj (.ref f) (.ref y)) := x
    show h'.get? a = some (PySem.W.methodObj (.ref f) (.ref y))
    exact k a _ (.inl rfl) e
  | ext φ => obtain ⟨p, ⟨o, e⟩, st⟩ := x; exact ⟨st _ _ p fun o q => k _ _ (.inl rfl) q, ⟨o, k _ _ (.inl rfl) e⟩, st⟩
theorem HOk.lt (x : HOk P w H h) (e : H a = some o) : a < h.objs.size := (x a o e).lt
theorem HOk.fresh (x : HOk P w H h) (e : h.objs.size ≤ a) : H a = none := by
  cases q : H a with
  | none => rfl
  | some u => exact absurd (Nat.lt_of_lt_of_le (x.lt q) e) (Nat.lt_irrefl _)
/-- every object of the heap is kept -/
theorem HOk.kept (x : HOk P w H h) (k : ∀ b u, h.get? b = some u → h'.get? b = some u) : HOk P w H h' := fun a o e =>
  (x a o e).stay (fun b u _ q => k b u q) (fun _ q => q) fun _ _ q => q
/-- a new object is laid and tracked -/
theorem HOk.laid (x : HOk P w H h) (k : ∀ b u, h.get? b = some u → h'.get? b = some u) (hp : h.objs.size ≤ a) (new : ObjOk P w (upd H a o) h' a o) : HOk P w (upd H a o) h' := fun b u e => by
  have hn := x.fresh hp
  by_cases hb : b = a
  · subst hb; rw [upd_same] at e; cases e; exact new
  · rw [upd_ne hb] at e
    exact (x b u e).stay (fun c v _ q => k c v q) (fun c q => by rw [upd_ne (ne_of_none q hn)]; exact q) fun c xs q => by rw [upd_ne (ne_of_none q hn)]; exact q
end

/-- what may be read as u: it is u, or a known u -/
def Rd (H : Hp) (a : Addr) (u : HO) : Prop := H a = some u ∨ ∃ o, H a = some (.frz o u)
theorem Rd.ok {P : Program} {w : World} {H : Hp} {h : Heap} {a : Addr} {u : HO} (r : Rd H a u) (x : HOk P w H h) : ObjOk P w H h a u := by
  rcases r with r | ⟨o, r⟩
  · exact x a u r
  · obtain ⟨_, q⟩ := x a _ r
    exact q
/-- what may be written -/
def Mut : Option HO → Prop
  | some (.lst _) => True
  | some (.dK _) => True
  | some (.dT _) => True
  | some (.set _ _) => True
  | some (.ins _ _ _) => True
  | some (.ext _) => True
  | _ => False
section
variable {P : Program} {w : World} {H : Hp} {h h' : Heap} {x e : Addr} {o' : HO}
/-- the object at e is changed: x itself, or the dict of the instance x -/
theorem HOk.write (ok : HOk P w H h) (mu : Mut (H x)) (he : e = x ∨ H e = some (.own x)) (k : ∀ b u, b ≠ e → h.get? b = some u → h'.get? b = some u) (heo : ∃ u, h'.get? e = some u)
    (new : ObjOk P w (upd H x o') h' x o') : HOk P w (upd H x o') h' := fun b u q => by
  have nown : ∀ c y, H c = some (.own y) → c ≠ x := fun c y r z => by subst z; rw [r] at mu; exact mu
  have ntup : ∀ c xs, H c = some (.tup xs) → c ≠ x := fun c xs r z => by subst z; rw [r] at mu; exact mu
  by_cases hb : b = x
  · subst hb; rw [upd_same] at q; cases q; exact new
  · rw [upd_ne hb] at q
    by_cases hbe : b = e
    · have q' : H b = some (.own x) := by
        rcases he with z | z
        · exact absurd (hbe.trans z) hb
        · rw [hbe]; exact z
      rw [q] at q'; cases q'
      obtain ⟨v, hv⟩ := heo
      exact ⟨v, by rw [hbe]; exact hv⟩
    · refine (ok b u q).stay (fun c v hc r => k c v ?_ r) (fun c r => by rw [upd_ne (nown c b r)]; exact r) fun c xs r => by rw [upd_ne (ntup c xs r)]; exact r
      rcases hc with rfl | hc
      · exact hbe
      · rintro rfl
        rcases he with z | z
        · exact nown c b hc z
        · rw [hc] at z; cases z; exact hb rfl
end

/-! ### kept unless tracked; of the frames at fs (the callers') the slots may change (an exception that passes writes there); of the records at ex (iterators) nothing is said -/
structure Un (fs ex : List Addr) (H H' : Hp) (h h' : Heap) : Prop where
  keep : ∀ b o, h.get? b = some o → H b = none → b ∉ fs → b ∉ ex → h'.get? b = some o
  slot : ∀ b o, h.get? b = some o → H b = none → b ∈ fs → b ∉ ex → ∃ sl, h'.get? b = some { o with slots := sl }
  free : ∀ b o, h.get? b = some o → H b = none → b ∉ ex → H' b = none
  there : ∀ b o, h.get? b = some o → b ∉ ex → ∃ o', h'.get? b = some o'
  tups : ∀ b xs, H b = some (.tup xs) → H' b = some (.tup xs)
  frzs : ∀ b o u, H b = some (.frz o u) → H' b = some (.frz o u)
  tbls : ∀ b ps, H b = some (.tbl ps) → ∃ more, H' b = some (.tbl (ps ++ more))
section
variable {fs fs' ex ex' : List Addr} {H H1 H2 : Hp} {h h1 h2 h' : Heap} {a x e : Addr} {o : HO}
theorem Un.any (u : Un fs ex H H1 h h1) {b : Addr} {ob : Obj} (q : h.get? b = some ob) (n : H b = none) (hx : b ∉ ex) : ∃ sl, h1.get? b = some { ob with slots := sl } := by
  by_cases hb : b ∈ fs
  · exact u.slot b ob q n hb hx
  · exact ⟨ob.slots, u.keep b ob q n hb hx⟩
theorem Un.kept (k : ∀ b u, h.get? b = some u → h'.get? b = some u) : Un fs ex H H h h' :=
  ⟨fun b ob q _ _ _ => k b ob q, fun b ob q _ _ _ => ⟨ob.slots, k b ob q⟩, fun _ _ _ n _ => n, fun b ob q _ => ⟨ob, k b ob q⟩, fun _ _ q => q, fun _ _ _ q => q, fun _ ps q => ⟨#[], by rw [q]; simp⟩⟩
theorem Un.refl : Un fs ex H H h h := Un.kept fun _ _ q => q
theorem Un.laid (k : ∀ b u, h.get? b = some u → h'.get? b = some u) (hp : h.objs.size ≤ a) (hn : H a = none) : Un fs ex H (upd H a o) h h' where
  keep := fun b u q _ _ _ => k b u q
  slot := fun b u q _ _ _ => ⟨u.slots, k b u q⟩
  free := fun b u q n _ => by rw [upd_ne (Nat.ne_of_lt (Nat.lt_of_lt_of_le (Heap.lt_size q) hp))]; exact n
  there := fun b u q _ => ⟨u, k b u q⟩
  tups := fun b xs q => by rw [upd_ne (ne_of_none q hn)]; exact q
  frzs := fun b u xs q => by rw [upd_ne (ne_of_none q hn)]; exact q
  tbls := fun b ps q => ⟨#[], by rw [upd_ne (ne_of_none q hn), q]; simp⟩
theorem Un.write (mu : Mut (H x)) (he : e = x ∨ H e = some (.own x)) (k : ∀ b u, b ≠ e → h.get? b = some u → h'.get? b = some u) (heo : ∃ u, h'.get? e = some u) : Un fs ex H (upd H x o) h h' := by
  have hx : ∀ b, H b = none → b ≠ x := fun b n z => by subst z; rw [n] at mu; exact mu
  have hb : ∀ b, H b = none → b ≠ e := fun b n z => by
    subst z
    rcases he with r | r
    · exact hx b n r
    · rw [n] at r; cases r
  have hm : ∀ b u, H b = some u → ¬ Mut (some u) → b ≠ x := fun b u q nm z => by subst z; rw [q] at mu; exact nm mu
  refine ⟨fun b u q n _ _ => k b u (hb b n) q, fun b u q n _ _ => ⟨u.slots, k b u (hb b n) q⟩, fun b u q n _ => by rw [upd_ne (hx b n)]; exact n, fun b u q _ => ?_,
    fun b xs q => by rw [upd_ne (hm b _ q fun z => z)]; exact q, fun b u xs q => by rw [upd_ne (hm b _ q fun z => z)]; exact q, fun b ps q => ⟨#[], by rw [upd_ne (hm b _ q fun z => z), q]; simp⟩⟩
  by_cases hbe : b = e
  · subst hbe; exact heo
  · exact ⟨u, k b u hbe q⟩
end

/-! ### the heap without what is tracked -/
def trk (h : Heap) (H : Hp) : List Addr := (List.range h.objs.size).filter fun a => (H a).isSome
def hidT (h : Heap) (H : Hp) : Heap := PySem.W.hideAll h (trk h H)
theorem hidT_size (h : Heap) (H : Hp) : (hidT h H).objs.size = h.objs.size := PySem.W.hideAll_size _ _
theorem hidT_get {h : Heap} {H : Hp} {b : Addr} {o : Obj} (e : h.get? b = some o) (n : H b = none) : (hidT h H).get? b = some o :=
  PySem.W.hideAll_get _ e fun hm => by
    have q : (H b).isSome = true := (List.mem_filter.mp hm).2
    rw [n] at q; simp at q
theorem of_hidT {h : Heap} {H : Hp} {b : Addr} {o : Obj} (e : (hidT h H).get? b = some o) : h.get? b = some o ∧ H b = none := by
  have e' : h.get? b = some o := PySem.W.of_hideAll (trk h H) e
  refine ⟨e', ?_⟩
  cases q : H b with
  | none => rfl
  | some x =>
    have hm : b ∈ trk h H := List.mem_filter.mpr ⟨List.mem_range.mpr (Heap.lt_size e'), by simp [q]⟩
    have z : (hidT h H).get? b = none := PySem.W.hideAll_none (trk h H) hm
    rw [z] at e; cases e

/-! ### OpenK's ledger, filled with every new object but one -/
end L2

namespace L2
open PySem PySem.Spec PyProof.Rows

/-- the module's facts, over the base: the heap at the law's entry without what is tracked there -/
structure Mod (K : PySem.W.Frag) (mg : Str → Option Value) (base : Heap) : Prop where
  kin : K.In base
  glob : base.Ns mainGlobals mg
  blt : ∃ mb, base.Ns builtinsNs mb ∧ ∀ x : Str, x ≠ "__name__" → mb x = bootBuiltins x
  nolimit : base.NoLimit

/-- the context: a def's body (or a comprehension's block) running. base: fixed through the whole law; s₀, H₀: the entry; outer: the frames whose slots others may change (a def's callers); stack: all frames that run;
   ex: iterators that were made ahead of the entry and are walked here (a comprehension's); fn: the names whose cells were made at the entry (a def: all; a comprehension's block: its own); calm: not within an except suite; pn: pins that every state bears; xe: what is wanted of an exception that leaves the code -/
structure Cx where
  prog : Program
  w : World
  K : PySem.W.Frag
  mg : Str → Option Value
  base : Heap
  A : Around
  N : List Str
  s₀ : Shared
  H₀ : Hp
  env : Env
  outer : List Env
  stack : List Env
  ex : List Addr
  fn : Str → Bool
  calm : Bool
  pn : List (Addr × Obj)
  xe : Value → Shared → Prop
/-- the callers' frames -/
def frs (l : List Env) : List Addr := l.filterMap (·.frame)
abbrev Cx.fs (X : Cx) : List Addr := frs X.outer

def Vis (sc : Scope) (x : Str) : Prop := sc.names.lookup x = some .local ∨ sc.names.lookup x = some .cell ∨ sc.names.lookup x = some .free
def Loc (sc : Scope) (x : Str) : Prop := sc.names.lookup x = some .local ∨ sc.names.lookup x = some .cell
def Look (env : Env) (h : Heap) (m : Str → Option Value) (x : Str) (u : Value) : Prop :=
  (env.kindOf x = some .local ∧ m x = some u) ∨ ((env.kindOf x = some .cell ∨ env.kindOf x = some .free) ∧ ∃ c, env.cells.lookup x = some c ∧ h.IsCell c (some u))

structure Cx.Ok (X : Cx) : Prop where
  mod : Mod X.K X.mg X.base
  kind : X.env.scope.kind = .function
  glob : X.env.globals = mainGlobals
  blt : X.env.builtins = builtinsNs
  above : X.s₀.heap.objs.size ≤ X.env.locals
  inj : ∀ x y c, X.env.cells.lookup x = some c → X.env.cells.lookup y = some c → x = y
  has : ∀ x, (X.env.kindOf x = some .cell ∨ X.env.kindOf x = some .free) → ∃ c, X.env.cells.lookup x = some c
  cab : ∀ x c, X.fn x = true → X.env.cells.lookup x = some c → X.s₀.heap.objs.size ≤ c
  hd : X.calm = true → X.A.handled = none
  frames : X.A.frames = some X.stack
  stk : X.stack = X.outer ∨ (X.stack = X.env :: X.outer ∧ X.env.frame = some X.env.locals)
  exf : ∀ b ∈ X.ex, b ≠ X.env.locals ∧ ∀ x c, X.env.cells.lookup x = some c → c ≠ b
  bs : ∀ b o, X.base.get? b = some o → X.s₀.heap.get? b = some o ∧ X.H₀ b = none
  bsz : X.base.objs.size ≤ X.s₀.heap.objs.size
  noex : ∀ b o, X.base.get? b = some o → b ∉ X.ex
  exfs : ∀ b ∈ X.ex, b ∉ X.fs
  funs : X.s₀.heap.FunFrames X.base X.outer
  frf : ∀ b ∈ X.fs, X.H₀ b = none

structure Inv (X : Cx) (pins : List (Addr × Obj)) (σ : List (Option V)) (H : Hp) (s : Shared) : Prop where
  ok : X.Ok
  os : s.os = X.s₀.os
  bare : AllBare s.gens
  base : Un X.fs X.ex X.H₀ H X.s₀.heap s.heap
  loc : ∃ m, s.heap.Ns X.env.locals m ∧ ∀ (i : Nat) (x : Str) (v : V), X.N[i]? = some x → σ[i]? = some (some v) → Vis X.env.scope x → ∃ u, RelV v u ∧ Look X.env s.heap m x u
  cell : ∀ x c, X.env.cells.lookup x = some c → ∃ v, s.heap.IsCell c v
  free : H X.env.locals = none
  freeC : ∀ x c, X.env.cells.lookup x = some c → H c = none
  pin : ∀ p ∈ X.pn ++ pins, s.heap.get? p.1 = some p.2 ∧ H p.1 = none ∧ p.1 ≠ X.env.locals ∧ p.1 ∉ X.fs ∧ ∀ v, p.2.data ≠ .cell v
  hok : HOk X.prog X.w H s.heap
  len : σ.length = X.N.length

section
variable {X : Cx} {pins : List (Addr × Obj)} {σ : List (Option V)} {H H' : Hp} {s : Shared} {h' : Heap}

theorem Cx.Ok.nofr (ok : X.Ok) {b : Addr} {o : Obj} (e : X.base.get? b = some o) : b ∉ X.fs := fun hb => by
  have := (ok.funs.mem hb).1
  rw [e] at this; cases this
theorem Inv.bs (I : Inv X pins σ H s) : ∀ b o, X.base.get? b = some o → s.heap.get? b = some o ∧ H b = none := fun b o e =>
  ⟨I.base.keep b o (I.ok.bs b o e).1 (I.ok.bs b o e).2 (I.ok.nofr e) (I.ok.noex b o e), I.base.free b o (I.ok.bs b o e).1 (I.ok.bs b o e).2 (I.ok.noex b o e)⟩
theorem Inv.bk (I : Inv X pins σ H s) : ∀ b o, X.base.get? b = some o → s.heap.get? b = some o := fun b o e => (I.bs b o e).1
theorem Inv.mod (I : Inv X pins σ H s) : Mod X.K X.mg X.base := I.ok.mod
theorem Inv.kIn (I : Inv X pins σ H s) : X.K.In s.heap := I.ok.mod.kin.keeps I.bk
theorem Inv.lt (I : Inv X pins σ H s) : X.env.locals < s.heap.objs.size := let ⟨_, hn, _⟩ := I.loc; hn.lt
theorem Inv.sz (I : Inv X pins σ H s) : X.s₀.heap.objs.size ≤ s.heap.objs.size := Nat.le_trans I.ok.above (Nat.le_of_lt I.lt)
theorem Inv.nofs (I : Inv X pins σ H s) {a : Addr} (h : s.heap.objs.size ≤ a) : a ∉ X.fs := fun hb => by
  obtain ⟨_, o, ho, _⟩ := I.ok.funs.mem hb
  exact absurd (Nat.lt_of_lt_of_le (Heap.lt_size ho) (Nat.le_trans I.sz h)) (Nat.lt_irrefl _)
theorem Inv.cne (I : Inv X pins σ H s) : ∀ x c, X.env.cells.lookup x = some c → c ≠ X.env.locals := fun x c e z => by
  obtain ⟨v, o, ho, hd⟩ := I.cell x c e
  obtain ⟨m, ⟨o', es, ep, ho', hd', _⟩, _⟩ := I.loc
  rw [z, ho'] at ho; cases ho; rw [hd'] at hd; cases hd
theorem Inv.funs (I : Inv X pins σ H s) : s.heap.FunFrames X.base X.outer := by
  have all : ∀ (l : List Env), (∀ b ∈ frs l, b ∈ X.fs) → X.s₀.heap.FunFrames X.base l → s.heap.FunFrames X.base l := by
    intro l
    induction l with
    | nil => intro _ _; trivial
    | cons env r ih =>
      intro hs hl
      obtain ⟨hk, ⟨L, o, hf, hn, ho, hd⟩, hr⟩ := hl
      have hL : L ∈ X.fs := hs L (by unfold frs; rw [List.filterMap_cons, hf]; exact List.mem_cons_self)
      obtain ⟨sl, e⟩ := I.base.slot L o ho (I.ok.frf L hL) hL fun z => I.ok.exfs L z hL
      exact ⟨hk, ⟨L, _, hf, hn, e, hd⟩, ih (fun b hb => hs b (by unfold frs; rw [List.filterMap_cons, hf]; exact List.mem_cons_of_mem _ hb)) hr⟩
  exact all X.outer (fun _ hb => hb) I.ok.funs

/-- the frames that run, for a call -/
theorem Inv.stack (I : Inv X pins σ H s) : s.heap.FunFrames X.base X.stack := by
  rcases I.ok.stk with e | ⟨e, hf⟩
  · rw [e]; exact I.funs
  · rw [e]
    obtain ⟨m, hn, _⟩ := I.loc
    refine .cons (by rw [I.ok.kind]; decide) hf hn ?_ I.funs
    exact Heap.get?_none_of_le (Nat.le_trans I.ok.bsz I.ok.above)
theorem Inv.stkSub (I : Inv X pins σ H s) : ∀ b ∈ frs X.stack, b ∈ X.env.locals :: X.fs := fun b hb => by
  rcases I.ok.stk with e | ⟨e, hf⟩
  · rw [e] at hb; exact List.mem_cons_of_mem _ hb
  · rw [e] at hb
    unfold frs at hb
    rw [List.filterMap_cons, hf] at hb
    exact hb
theorem Inv.stkFree (I : Inv X pins σ H s) : ∀ b ∈ frs X.stack, H b = none := fun b hb => by
  rcases List.mem_cons.mp (I.stkSub b hb) with e | hb
  · rw [e]; exact I.free
  · obtain ⟨_, o, ho, _⟩ := I.ok.funs.mem hb
    exact I.base.free b o ho (I.ok.frf b hb) fun z => I.ok.exfs b z hb

/-- THE STEP: the untracked objects but the frame and the records at ch are kept (the callers' frames up to slots), the frame's map is kept, the new abstract heap is held -/
theorem Inv.step {g' : Array GenState} {t' : Nat} {d' : Drawn} {ch : List Addr} (I : Inv X pins σ H s)
    (hch : ∀ b ∈ ch, (b ∈ X.ex ∨ X.s₀.heap.objs.size ≤ b) ∧ b ≠ X.env.locals ∧ (∀ x c, X.env.cells.lookup x = some c → c ≠ b) ∧ ∀ p ∈ X.pn ++ pins, p.1 ≠ b)
    (keep : ∀ b o, b ≠ X.env.locals → b ∉ X.fs → b ∉ ch → s.heap.get? b = some o → H b = none → h'.get? b = some o)
    (slot : ∀ b o, b ≠ X.env.locals → b ∈ X.fs → b ∉ ch → s.heap.get? b = some o → H b = none → ∃ sl, h'.get? b = some { o with slots := sl }) (free : ∀ b o, b ∉ ch → s.heap.get? b = some o → H b = none → H' b = none)
    (there : ∀ b o, b ∉ ch → s.heap.get? b = some o → ∃ o', h'.get? b = some o')
    (tups : ∀ b xs, H b = some (.tup xs) → H' b = some (.tup xs)) (frzs : ∀ b o u, H b = some (.frz o u) → H' b = some (.frz o u)) (tbls : ∀ b ps, H b = some (.tbl ps) → ∃ more, H' b = some (.tbl (ps ++ more)))
    (ns : ∀ m, s.heap.Ns X.env.locals m → h'.Ns X.env.locals m) (hok : HOk X.prog X.w H' h') (hg : AllBare g') :
    Inv X pins σ H' { s with heap := h', gens := g', drawn := d', toks := t' } := by
  have neL : ∀ b o, X.s₀.heap.get? b = some o → b ≠ X.env.locals := fun b o e => Nat.ne_of_lt (Nat.lt_of_lt_of_le (Heap.lt_size e) I.ok.above)
  have neC : ∀ b o, X.s₀.heap.get? b = some o → b ∉ X.ex → b ∉ ch := fun b o e hx hb => by
    rcases (hch b hb).1 with z | z
    · exact hx z
    · exact absurd (Nat.lt_of_lt_of_le (Heap.lt_size e) z) (Nat.lt_irrefl _)
  have cellK : ∀ x c, X.env.cells.lookup x = some c → ∀ v, s.heap.IsCell c v → h'.IsCell c v := fun x c e v ⟨o, ho, hd⟩ => by
    have nch : c ∉ ch := fun z => (hch c z).2.2.1 x c e rfl
    by_cases hc : c ∈ X.fs
    · obtain ⟨sl, q⟩ := slot c o (I.cne x c e) hc nch ho (I.freeC x c e)
      exact ⟨_, q, hd⟩
    · exact ⟨o, keep c o (I.cne x c e) hc nch ho (I.freeC x c e), hd⟩
  refine ⟨I.ok, I.os, hg, ⟨fun b o e n hb hx => ?_, fun b o e n hb hx => ?_, fun b o e n hx => ?_, fun b o e hx => ?_, fun b xs e => tups b xs (I.base.tups b xs e), fun b o xs e => frzs b o xs (I.base.frzs b o xs e), fun b ps e => ?_⟩, ?_, fun x c e => ?_, ?_, fun x c e => ?_, fun p hp => ?_, hok, I.len⟩
  · exact keep b o (neL b o e) hb (neC b o e hx) (I.base.keep b o e n hb hx) (I.base.free b o e n hx)
  · obtain ⟨sl, e1⟩ := I.base.slot b o e n hb hx
    obtain ⟨sl', e2⟩ := slot b _ (neL b o e) hb (neC b o e hx) e1 (I.base.free b o e n hx)
    exact ⟨sl', e2⟩
  · obtain ⟨o', e1⟩ := I.base.there b o e hx
    exact free b o' (neC b o e hx) e1 (I.base.free b o e n hx)
  · obtain ⟨o', e1⟩ := I.base.there b o e hx
    exact there b o' (neC b o e hx) e1
  · obtain ⟨m1, e1⟩ := I.base.tbls b ps e
    obtain ⟨m2, e2⟩ := tbls b _ e1
    exact ⟨m1 ++ m2, by rw [e2, Array.append_assoc]⟩
  · obtain ⟨m, hn, hl⟩ := I.loc
    refine ⟨m, ns m hn, fun i x v e1 e2 e3 => ?_⟩
    obtain ⟨u, r, l⟩ := hl i x v e1 e2 e3
    refine ⟨u, r, ?_⟩
    rcases l with l | ⟨k, c, e, z⟩
    · exact .inl l
    · exact .inr ⟨k, c, e, cellK x c e _ z⟩
  · obtain ⟨v, z⟩ := I.cell x c e
    exact ⟨v, cellK x c e v z⟩
  · obtain ⟨m, ⟨o, _, _, ho, _⟩, _⟩ := I.loc
    exact free _ o (fun z => (hch _ z).2.1 rfl) ho I.free
  · obtain ⟨v, o, ho, hd⟩ := I.cell x c e
    exact free c o (fun z => (hch c z).2.2.1 x c e rfl) ho (I.freeC x c e)
  · obtain ⟨e, n, ne, nf, d⟩ := I.pin p hp
    have nch : p.1 ∉ ch := fun z => (hch p.1 z).2.2.2 p hp rfl
    exact ⟨keep p.1 p.2 ne nf nch e n, free p.1 p.2 nch e n, ne, nf, d⟩
/-- .. where the frame's own object is kept too -/
theorem Inv.un {t' : Nat} (I : Inv X pins σ H s) (u : Un X.fs [] H H' s.heap h') (hok : HOk X.prog X.w H' h') : Inv X pins σ H' { s with heap := h', toks := t' } := by
  obtain ⟨m, ⟨o, es, ep, ho, r⟩, _⟩ := id I.loc
  obtain ⟨sl, hL⟩ := u.any ho I.free (by simp)
  exact I.step (g' := s.gens) (d' := s.drawn) (ch := []) (fun _ z => nomatch z) (fun b o _ hb _ e n => u.keep b o e n hb (by simp)) (fun b o _ hb _ e n => u.slot b o e n hb (by simp)) (fun b o _ e n => u.free b o e n (by simp)) (fun b o _ e => u.there b o e (by simp)) u.tups u.frzs u.tbls (fun m' hm => by
    obtain ⟨o', es', ep', ho', r'⟩ := hm
    rw [ho] at ho'; cases ho'
    exact ⟨_, es', ep', hL, r'⟩) hok I.bare
/-- behind a call (or a comprehension's block): the slots of this frame may have changed too, the records at ch may have turned -/
theorem Inv.call {g' : Array GenState} {t' : Nat} {d' : Drawn} {ch : List Addr} (I : Inv X pins σ H s) (u : Un (frs X.stack) ch H H' s.heap h') (hok : HOk X.prog X.w H' h') (hg : AllBare g')
    (hch : ∀ b ∈ ch, (b ∈ X.ex ∨ X.s₀.heap.objs.size ≤ b) ∧ b ≠ X.env.locals ∧ (∀ x c, X.env.cells.lookup x = some c → c ≠ b) ∧ ∀ p ∈ X.pn ++ pins, p.1 ≠ b) :
    Inv X pins σ H' { s with heap := h', gens := g', drawn := d', toks := t' } := by
  obtain ⟨m, ⟨o, es, ep, ho, r⟩, _⟩ := id I.loc
  obtain ⟨sl, hL⟩ := u.any ho I.free fun z => (hch _ z).2.1 rfl
  exact I.step (ch := ch) hch (fun b o hL hb hc e n => u.keep b o e n (fun z => (List.mem_cons.mp (I.stkSub b z)).elim hL hb) hc) (fun b o _ _ hc e n => u.any e n hc) (fun b o hc e n => u.free b o e n hc) (fun b o hc e => u.there b o e hc) u.tups u.frzs u.tbls (fun m' hm => by
    obtain ⟨o', es', ep', ho', r'⟩ := hm
    rw [ho] at ho'; cases ho'
    exact ⟨_, es', ep', hL, r'⟩) hok hg
/-- an untracked record of ours (an iterator) has turned -/
theorem Inv.turned {t' : Nat} {it : Addr} (I : Inv X pins σ H s) (k : ∀ b o, b ≠ it → s.heap.get? b = some o → h'.get? b = some o) (hn : H it = none) (hL : it ≠ X.env.locals)
    (h1 : it ∈ X.ex ∨ X.s₀.heap.objs.size ≤ it) (h2 : ∀ x c, X.env.cells.lookup x = some c → c ≠ it) (h3 : ∀ p ∈ X.pn ++ pins, p.1 ≠ it) : Inv X pins σ H { s with heap := h', toks := t' } := by
  have nit : ∀ b u, H b = some u → b ≠ it := fun b u e z => by rw [z, hn] at e; cases e
  refine I.step (g' := s.gens) (d' := s.drawn) (ch := [it]) (fun b hb => ?_) (fun b o _ _ hc e _ => k b o (fun z => hc (by simp [z])) e) (fun b o _ _ hc e _ => ⟨o.slots, k b o (fun z => hc (by simp [z])) e⟩) (fun _ _ _ _ n => n)
    (fun b o hc e => ⟨o, k b o (fun z => hc (by simp [z])) e⟩) (fun _ _ e => e) (fun _ _ _ e => e) (fun b ps e => ⟨#[], by rw [e]; simp⟩) (fun m hm => ?_) (fun b u e => ?_) I.bare
  · have e : b = it := by simpa using hb
    subst e
    exact ⟨h1, hL, h2, h3⟩
  · obtain ⟨o, es, ep, ho, r⟩ := hm
    exact ⟨o, es, ep, k _ o (Ne.symm hL) ho, r⟩
  · refine (I.hok b u e).stay (fun c v hc q => k c v ?_ q) (fun _ q => q) fun _ _ q => q
    rcases hc with z | z
    · rw [z]; exact nit b u e
    · exact nit c _ z
theorem Inv.tok (I : Inv X pins σ H s) (t : Nat) : Inv X pins σ H { s with toks := t } := I.un (h' := s.heap) (t' := t) Un.refl I.hok
/-- all objects kept -/
theorem Inv.kept {t' : Nat} (I : Inv X pins σ H s) (k : ∀ b u, s.heap.get? b = some u → h'.get? b = some u) : Inv X pins σ H { s with heap := h', toks := t' } := I.un (Un.kept k) (I.hok.kept k)
/-- a new object laid and tracked -/
theorem Inv.laid {a : Addr} {o : HO} {t' : Nat} (I : Inv X pins σ H s) (k : ∀ b u, s.heap.get? b = some u → h'.get? b = some u) (hp : s.heap.objs.size ≤ a) (new : ObjOk X.prog X.w (upd H a o) h' a o) :
    Inv X pins σ (upd H a o) { s with heap := h', toks := t' } := I.un (Un.laid k hp (I.hok.fresh hp)) (I.hok.laid k hp new)
/-- an object written -/
theorem Inv.write {x e : Addr} {o : HO} {t' : Nat} (I : Inv X pins σ H s) (mu : Mut (H x)) (he : e = x ∨ H e = some (.own x)) (k : ∀ b u, b ≠ e → s.heap.get? b = some u → h'.get? b = some u) (heo : ∃ u, h'.get? e = some u)
    (new : ObjOk X.prog X.w (upd H x o) h' x o) : Inv X pins σ (upd H x o) { s with heap := h', toks := t' } := I.un (Un.write mu he k heo) (I.hok.write mu he k heo new)
/-- forgetting slots, pins -/
theorem Inv.weak {σ' : List (Option V)} (I : Inv X pins σ H s) (hl : σ'.length = σ.length) (w : ∀ (i : Nat) v, σ'[i]? = some (some v) → σ[i]? = some (some v)) : Inv X pins σ' H s :=
  ⟨I.ok, I.os, I.bare, I.base, let ⟨m, hn, hl'⟩ := I.loc; ⟨m, hn, fun i x v e1 e2 e3 => hl' i x v e1 (w i v e2) e3⟩, I.cell, I.free, I.freeC, I.pin, I.hok, hl.trans I.len⟩
theorem Inv.pins_of {pins' : List (Addr × Obj)} (I : Inv X pins σ H s) (h : ∀ p ∈ pins', s.heap.get? p.1 = some p.2 ∧ H p.1 = none ∧ p.1 ≠ X.env.locals ∧ p.1 ∉ X.fs ∧ ∀ v, p.2.data ≠ .cell v) : Inv X pins' σ H s :=
  ⟨I.ok, I.os, I.bare, I.base, I.loc, I.cell, I.free, I.freeC, fun p hp => (List.mem_append.mp hp).elim (fun z => I.pin p (List.mem_append_left _ z)) (h p), I.hok, I.len⟩

theorem nodup_ix {N : List Str} (hN : N.Nodup) {i j : Nat} {x : Str} (a : N[i]? = some x) (b : N[j]? = some x) : i = j := by
  obtain ⟨h1, e1⟩ := List.getElem?_eq_some_iff.mp a
  obtain ⟨h2, e2⟩ := List.getElem?_eq_some_iff.mp b
  exact (List.getElem_inj hN).mp (e1.trans e2.symm)

/-- a name is stored; what changed -/
theorem store_ok2 {M : Model} {A : Around} {E : Value → Shared → Prop} {i : Nat} {x : Str} {v : V} {u : Value} {Q : Unit → Shared → Prop} (I : Inv X pins σ H s) (hN : X.N.Nodup) (hi : X.N[i]? = some x) (hx : Loc X.env.scope x) (r : RelV v u)
    (h : ∀ s', Inv X pins (σ.set i (some v)) H s' → (∃ a, Heap.SameBut a s.heap s'.heap ∧ (a = X.env.locals ∨ X.env.cells.lookup x = some a)) → Q () s') (hf : X.fn x = true ∨ X.env.scope.names.lookup x = some .local := by first | exact .inl rfl | exact .inr rfl | assumption) : wpAny M A (storeName X.env x u) Q E s := by
  obtain ⟨m, hn, hl⟩ := id I.loc
  have hcls : (X.env.scope.kind == .class || (X.env.scope.kind == .module && X.env.locals != X.env.globals)) = false := by rw [I.ok.kind]; rfl
  have hiσ : i < σ.length := by rw [I.len]; exact (List.getElem?_eq_some_iff.mp hi).1
  have cne := I.cne
  have tracked : ∀ {a : Addr} {h' : Heap}, (∃ o, s.heap.get? a = some o ∧ H a = none) → Heap.SameBut a s.heap h' → HOk X.prog X.w H h' := fun {a h'} ha hs b ob e => by
    obtain ⟨_, _, hfree⟩ := ha
    refine (I.hok b ob e).stay (fun c w' hc q => (hs.2 c ?_).trans q) (fun _ q => q) fun _ _ q => q
    rintro rfl
    rcases hc with rfl | hc
    · rw [hfree] at e; cases e
    · rw [hfree] at hc; cases hc
  rcases hx with hk | hk
  · refine wpAny_storeName_local hk hn (fun h' hn' hs => ?_) hcls
    obtain ⟨oL, _, _, hoL, _⟩ := id hn
    refine h _ ⟨I.ok, I.os, I.bare, ⟨fun b o e n hb hx => ?_, fun b o e n hb hx => ?_, I.base.free, fun b o e hx => ?_, I.base.tups, I.base.frzs, I.base.tbls⟩, ⟨_, hn', fun j y v' e1 e2 e3 => ?_⟩, fun y c e => ?_, I.free, I.freeC, fun p hp => ?_, tracked ⟨oL, hoL, I.free⟩ hs, by simpa using I.len⟩ ⟨_, hs, .inl rfl⟩
    · exact (hs.2 b (Nat.ne_of_lt (Nat.lt_of_lt_of_le (Heap.lt_size e) I.ok.above))).trans (I.base.keep b o e n hb hx)
    · obtain ⟨sl, e1⟩ := I.base.slot b o e n hb hx
      exact ⟨sl, (hs.2 b (Nat.ne_of_lt (Nat.lt_of_lt_of_le (Heap.lt_size e) I.ok.above))).trans e1⟩
    · obtain ⟨o', e1⟩ := I.base.there b o e hx
      exact ⟨o', (hs.2 b (Nat.ne_of_lt (Nat.lt_of_lt_of_le (Heap.lt_size e) I.ok.above))).trans e1⟩
    · by_cases hj : j = i
      · subst hj
        rw [hi] at e1; cases e1
        rw [List.getElem?_set_self hiσ] at e2
        cases e2
        exact ⟨u, r, .inl ⟨hk, by simp⟩⟩
      · rw [List.getElem?_set_ne (Ne.symm hj)] at e2
        obtain ⟨u', r', q⟩ := hl j y v' e1 e2 e3
        refine ⟨u', r', ?_⟩
        rcases q with ⟨k, e⟩ | ⟨k, c, e, z⟩
        · refine .inl ⟨k, ?_⟩
          have : y ≠ x := fun e => hj (nodup_ix hN e1 (e ▸ hi))
          simp [this, e]
        · exact .inr ⟨k, c, e, z.sameBut hs (cne y c e)⟩
    · obtain ⟨w', z⟩ := I.cell y c e
      exact ⟨w', z.sameBut hs (cne y c e)⟩
    · obtain ⟨e, n, ne, nf, d⟩ := I.pin p hp
      exact ⟨(hs.2 p.1 ne).trans e, n, ne, nf, d⟩
  · have hfn : X.fn x = true := by
      rcases hf with z | z
      · exact z
      · rw [z] at hk; cases hk
    obtain ⟨c, hc⟩ := I.ok.has x (.inl hk)
    obtain ⟨w', z⟩ := I.cell x c hc
    refine wpAny_storeName_cell I.ok.kind hk hc z (fun h' hc' hs => ?_)
    obtain ⟨oc, hoc, hocd⟩ := id z
    refine h { s with heap := h' } ⟨I.ok, I.os, I.bare, ⟨fun b o e n hb hx => ?_, fun b o e n hb hx => ?_, I.base.free, fun b o e hx => ?_, I.base.tups, I.base.frzs, I.base.tbls⟩, ⟨m, hn.sameBut hs (Ne.symm (cne x c hc)), fun j y v' e1 e2 e3 => ?_⟩, fun y c' e => ?_, I.free, I.freeC, fun p hp => ?_, tracked ⟨oc, hoc, I.freeC x c hc⟩ hs, by simpa using I.len⟩ ⟨c, hs, .inr hc⟩
    · exact (hs.2 b (Nat.ne_of_lt (Nat.lt_of_lt_of_le (Heap.lt_size e) (I.ok.cab x c hfn hc)))).trans (I.base.keep b o e n hb hx)
    · obtain ⟨sl, e1⟩ := I.base.slot b o e n hb hx
      exact ⟨sl, (hs.2 b (Nat.ne_of_lt (Nat.lt_of_lt_of_le (Heap.lt_size e) (I.ok.cab x c hfn hc)))).trans e1⟩
    · obtain ⟨o', e1⟩ := I.base.there b o e hx
      exact ⟨o', (hs.2 b (Nat.ne_of_lt (Nat.lt_of_lt_of_le (Heap.lt_size e) (I.ok.cab x c hfn hc)))).trans e1⟩
    · by_cases hj : j = i
      · subst hj
        rw [hi] at e1; cases e1
        rw [List.getElem?_set_self hiσ] at e2
        cases e2
        exact ⟨u, r, .inr ⟨.inl hk, c, hc, hc'⟩⟩
      · rw [List.getElem?_set_ne (Ne.symm hj)] at e2
        obtain ⟨u', r', q⟩ := hl j y v' e1 e2 e3
        refine ⟨u', r', ?_⟩
        rcases q with q | ⟨k, c', e, z'⟩
        · exact .inl q
        · refine .inr ⟨k, c', e, z'.sameBut hs ?_⟩
          rintro rfl
          exact hj (nodup_ix hN e1 (I.ok.inj _ _ _ e hc ▸ hi))
    · by_cases hcc : c' = c
      · subst hcc; exact ⟨_, hc'⟩
      · obtain ⟨w2, z2⟩ := I.cell y c' e
        exact ⟨w2, z2.sameBut hs hcc⟩
    · obtain ⟨e, n, ne, nf, d⟩ := I.pin p hp
      refine ⟨(hs.2 p.1 ?_).trans e, n, ne, nf, d⟩
      intro q
      rw [q, hoc] at e
      have q' : oc = p.2 := Option.some.inj e
      exact d w' (by rw [← q']; exact hocd)
theorem store_ok {M : Model} {A : Around} {E : Value → Shared → Prop} {i : Nat} {x : Str} {v : V} {u : Value} {Q : Unit → Shared → Prop} (I : Inv X pins σ H s) (hN : X.N.Nodup) (hi : X.N[i]? = some x) (hx : Loc X.env.scope x) (r : RelV v u)
    (h : ∀ s', Inv X pins (σ.set i (some v)) H s' → Q () s') (hf : X.fn x = true ∨ X.env.scope.names.lookup x = some .local := by first | exact .inl rfl | exact .inr rfl | assumption) : wpAny M A (storeName X.env x u) Q E s :=
  store_ok2 I hN hi hx r (fun s' I' _ => h s' I') hf
/-- behind a call or a block, the state as it is -/
theorem Inv.call' {s' : Shared} {ch : List Addr} (I : Inv X pins σ H s) (ho : s'.os = s.os) (u : Un (frs X.stack) ch H H' s.heap s'.heap) (hok : HOk X.prog X.w H' s'.heap) (hg : AllBare s'.gens)
    (hch : ∀ b ∈ ch, (b ∈ X.ex ∨ X.s₀.heap.objs.size ≤ b) ∧ b ≠ X.env.locals ∧ (∀ x c, X.env.cells.lookup x = some c → c ≠ b) ∧ ∀ p ∈ X.pn ++ pins, p.1 ≠ b) : Inv X pins σ H' s' := by
  obtain ⟨h', g', d', t', o'⟩ := s'
  have e : o' = s.os := ho
  subst e
  exact I.call (g' := g') (t' := t') (d' := d') u hok hg hch
end

/-! ### the judgements -/
/-- an exception: its class, its own dict's address (where it has one), the abstract heap behind it -/
abbrev XK := Value → Option Addr → Hp → Prop
abbrev St := List (Option V)
abbrev VK := V → Hp → Prop
/-- an expression's reading; a test's; an argument list's -/
abbrev TE := St → Hp → VK → Prop
abbrev TT := St → Hp → (Bool → Hp → Prop) → Prop
abbrev TA := St → Hp → (List V → Hp → Prop) → Prop
/-- what is wanted behind a statement -/
structure Ends where
  nx : St → Hp → Prop
  rt : VK
  bk : St → Hp → Prop := fun _ _ => False
  ct : St → Hp → Prop := fun _ _ => False
abbrev TS := Ends → St → Hp → Prop

def EP (X : Cx) (pins : List (Addr × Obj)) (σ : St) (Q : VK) (u : Value) (s' : Shared) : Prop := ∃ v H', Inv X pins σ H' s' ∧ RelV v u ∧ Q v H'
def TP (X : Cx) (pins : List (Addr × Obj)) (σ : St) (Q : Bool → Hp → Prop) (b : Bool) (s' : Shared) : Prop := ∃ H', Inv X pins σ H' s' ∧ Q b H'
def AP (X : Cx) (pins : List (Addr × Obj)) (σ : St) (Q : List V → Hp → Prop) (us : List Value) (s' : Shared) : Prop := ∃ vs H', Inv X pins σ H' s' ∧ Vals vs us ∧ Q vs H'
def SP (X : Cx) (pins : List (Addr × Obj)) (D : Ends) (f : Flow) (s' : Shared) : Prop :=
  match f with
  | .next => ∃ σ' H', Inv X pins σ' H' s' ∧ D.nx σ' H'
  | .brk => ∃ σ' H', Inv X pins σ' H' s' ∧ D.bk σ' H'
  | .cont => ∃ σ' H', Inv X pins σ' H' s' ∧ D.ct σ' H'
  | .ret u => ∃ v σ' H', Inv X pins σ' H' s' ∧ RelV v u ∧ D.rt v H'

def PE (X : Cx) (e : Expr) (t : TE) : Prop :=
  ∀ (pins : List (Addr × Obj)) (s : Shared) (σ : St) (H : Hp) (Q : VK), Inv X pins σ H s → t σ H Q → wpAny (model X.prog X.w) X.A (eval e X.env) (EP X pins σ Q) X.xe s
def PT (X : Cx) (e : Expr) (t : TT) : Prop :=
  ∀ (pins : List (Addr × Obj)) (s : Shared) (σ : St) (H : Hp) (Q : Bool → Hp → Prop), Inv X pins σ H s → t σ H Q → wpAny (model X.prog X.w) X.A (isTrue e X.env (eval e X.env)) (TP X pins σ Q) X.xe s
/-- a test whatever its 'whole' is (and, or) -/
def PW (X : Cx) (e : Expr) (t : TT) : Prop :=
  ∀ (whole : Sem Value) (pins : List (Addr × Obj)) (s : Shared) (σ : St) (H : Hp) (Q : Bool → Hp → Prop), Inv X pins σ H s → t σ H Q → wpAny (model X.prog X.w) X.A (isTrue e X.env whole) (TP X pins σ Q) X.xe s
theorem PW.pt {X : Cx} {e : Expr} {t : TT} (h : PW X e t) : PT X e t := h _
/-- an argument list (no star), from the left -/
def PA (X : Cx) (es : List Expr) (t : TA) : Prop :=
  ∀ (pos : Pos) (pins : List (Addr × Obj)) (s : Shared) (σ : St) (H : Hp) (Q : List V → Hp → Prop), Inv X pins σ H s → t σ H Q → wpAny (model X.prog X.w) X.A (spliced (backTo pos (starEach es X.env))) (AP X pins σ Q) X.xe s
def PS (X : Cx) (st : Stmt) (t : TS) : Prop :=
  ∀ (pins : List (Addr × Obj)) (s : Shared) (σ : St) (H : Hp) (D : Ends), Inv X pins σ H s → t D σ H → wpAny (model X.prog X.w) X.A (exec st X.env) (SP X pins D) X.xe s
def PSs (X : Cx) (st : List Stmt) (t : TS) : Prop :=
  ∀ (pins : List (Addr × Obj)) (s : Shared) (σ : St) (H : Hp) (D : Ends), Inv X pins σ H s → t D σ H → wpAny (model X.prog X.w) X.A (execs st X.env) (SP X pins D) X.xe s
/-- weaken the end -/
theorem thn {α : Type} {t : Sem α} {Q Q' : α → Shared → Prop} {M : Model} {A : Around} {E : Value → Shared → Prop} {s : Shared} (h : wpAny M A t Q E s) (hQ : ∀ a s, Q a s → Q' a s) : wpAny M A t Q' E s := wpAny_mono h hQ fun _ _ x => x
end L2

namespace L2
open PySem PySem.Spec PyProof.Rows
section
variable {X : Cx}

/-! ### names and constants -/
def tVar (i : Nat) : TE := fun σ H Q => ∃ v, σ[i]? = some (some v) ∧ Q v H
def tC (v : V) : TE := fun _ H Q => Q v H
theorem pe_var {i : Nat} {x : Str} {pos : Pos} (hN : X.N[i]? = some x) (hv : Vis X.env.scope x) (hd : (x == ("__debug__" : Str)) = false := by decide) (hcd : (x == ("__classdict__" : Str)) = false := by decide) : PE X (.Name x pos) (tVar i) := by
  intro pins s σ H Q I h
  obtain ⟨v, e, h⟩ := h
  obtain ⟨m, hn, hl⟩ := I.loc
  obtain ⟨u, r, l⟩ := hl i x v hN e hv
  have fin : EP X pins σ Q u s := ⟨v, H, I, r, h⟩
  rcases l with ⟨hk, hm⟩ | ⟨hk, c, hc, hcell⟩
  · exact wpAny_Name (wpAny_loadName_local I.ok.kind hk hn hm fin) hd
  · rcases hk with hk | hk
    · exact wpAny_Name (wpAny_loadName_cell I.ok.kind hk hc hcell fin) hd
    · exact wpAny_Name (wpAny_loadName_free I.ok.kind hk hc hcell fin hcd) hd
theorem pe_int {i j pos} : PE X (.Constant (.int i) j pos) (tC (.int i)) := fun _ _ _ H _ I h => wpAny_Constant_int ⟨.int i, H, I.tok _, ⟨_, rfl⟩, h⟩
theorem pe_bl {b j pos} : PE X (.Constant (.bool b) j pos) (tC (.bl b)) := fun _ _ _ H _ I h => Constant_bool ⟨.bl b, H, I, rfl, h⟩
theorem pe_str {x j pos} : PE X (.Constant (.str x) j pos) (tC (.str x)) := fun _ _ _ H _ I h => Calls.Constant_str ⟨.str x, H, I.tok _, ⟨_, rfl⟩, h⟩

/-- a global name of the def -/
def Gl (X : Cx) (x : Str) : Prop := X.env.kindOf x = some .globalImplicit
theorem ld_glob {E : Value → Shared → Prop} {pins : List (Addr × Obj)} {s : Shared} {σ : St} {H : Hp} {x : Str} {u : Value} {pos : Pos} {Q : Value → Shared → Prop} (I : Inv X pins σ H s) (hg : Gl X x) (hm : X.mg x = some u) (h : Q u s)
    (hd : (x == ("__debug__" : Str)) = false := by decide) : wpAny (model X.prog X.w) X.A (eval (.Name x pos) X.env) Q E s :=
  Calls.Name_function_global I.ok.kind hg (Calls.loadGlobal_global (by rw [I.ok.glob]; exact I.mod.glob.keeps I.bk) hm h) hd
theorem ld_blt {E : Value → Shared → Prop} {pins : List (Addr × Obj)} {s : Shared} {σ : St} {H : Hp} {x : Str} {u : Value} {pos : Pos} {Q : Value → Shared → Prop} (I : Inv X pins σ H s) (hg : Gl X x) (hm : X.mg x = none) (hv : bootBuiltins x = some u) (h : Q u s)
    (hn : x ≠ "__name__" := by decide) (hd : (x == ("__debug__" : Str)) = false := by decide) : wpAny (model X.prog X.w) X.A (eval (.Name x pos) X.env) Q E s := by
  obtain ⟨mb, h1, h2⟩ := I.mod.blt
  exact Calls.Name_function_global I.ok.kind hg (Calls.loadGlobal_builtin (by rw [I.ok.glob]; exact I.mod.glob.keeps I.bk) hm (by rw [I.ok.blt]; exact h1.keeps I.bk) ((h2 x hn).trans hv) h) hd
/-- a module's constant, a class, a function, as a value -/
theorem pe_glob {x : Str} {v : V} {u : Value} {pos : Pos} (hg : Gl X x) (hm : X.mg x = some u) (r : RelV v u) (hd : (x == ("__debug__" : Str)) = false := by decide) : PE X (.Name x pos) (tC v) :=
  fun _ _ _ H _ I h => ld_glob I hg hm ⟨v, H, I, r, h⟩ hd
theorem pe_bltn {x : Str} {v : V} {u : Value} {pos : Pos} (hg : Gl X x) (hm : X.mg x = none) (hv : bootBuiltins x = some u) (r : RelV v u) (hn : x ≠ "__name__" := by decide) (hd : (x == ("__debug__" : Str)) = false := by decide) : PE X (.Name x pos) (tC v) :=
  fun _ _ _ H _ I h => ld_blt I hg hm hv ⟨v, H, I, r, h⟩ hn hd

/-! ### arithmetic -/
variable {a b : Expr} {ta tb : TE} {pos : Pos}
/-! ### comparisons -/
/-- a comparison as a value, as a test -/
def tB (t : TE) : TT := fun σ H Q => t σ H fun x H1 => ∃ c, x = .bl c ∧ Q c H1
/-- an expression whose value is a bool, as a test -/
theorem pt_val {e : Expr} {t : TE} (h : PE X e t) (he : ∀ whole, isTrue e X.env whole = (do let v ← whole; standAt e.pos; holding [v] (truthy v)) := by intro _; rfl) : PT X e (tB t) := by
  intro pins s σ H Q I hw
  refine isTrue_plain (thn (h pins s σ H _ I hw) fun v s1 hq0 => ?_) (he _)
  obtain ⟨x, H1, I1, r1, q1⟩ := hq0
  obtain ⟨d, rfl, q⟩ := q1
  cases r1
  exact wpAny_truthy_bool ⟨H1, I1, q⟩

/-! ### and, or, not -/
variable {tA tB' : TT} {rest : List Expr}
def tAnd (t u : TT) : TT := fun σ H Q => t σ H fun c H1 => if c = true then u σ H1 Q else Q false H1
def tOr (t u : TT) : TT := fun σ H Q => t σ H fun c H1 => if c = true then Q true H1 else u σ H1 Q
def tNot (t : TT) : TT := fun σ H Q => t σ H fun c H1 => Q (!c) H1
theorem pw_and1 (ha : PT X a tA) : PW X (.BoolOp .And [a] pos) tA := by
  intro wh pins s σ H Q I h
  refine isTrue_and (thn (ha pins s σ H Q I h) fun c s1 e => ?_)
  cases c with
  | true => exact isTrue_and_nil e
  | false => exact e
theorem pw_or1 (ha : PT X a tA) : PW X (.BoolOp .Or [a] pos) tA := by
  intro wh pins s σ H Q I h
  refine isTrue_or (thn (ha pins s σ H Q I h) fun c s1 e => ?_)
  cases c with
  | false => exact isTrue_or_nil e
  | true => exact e
theorem pw_and (ha : PT X a tA) (hb : PW X (.BoolOp .And (b :: rest) pos) tB') : PW X (.BoolOp .And (a :: b :: rest) pos) (tAnd tA tB') := by
  intro wh pins s σ H Q I h
  refine isTrue_and (thn (ha pins s σ H _ I h) fun c s1 hq0 => ?_)
  obtain ⟨H1, I1, q1⟩ := hq0
  cases c with
  | true => exact hb wh pins s1 σ H1 Q I1 q1
  | false => exact ⟨H1, I1, q1⟩
theorem pw_or (ha : PT X a tA) (hb : PW X (.BoolOp .Or (b :: rest) pos) tB') : PW X (.BoolOp .Or (a :: b :: rest) pos) (tOr tA tB') := by
  intro wh pins s σ H Q I h
  refine isTrue_or (thn (ha pins s σ H _ I h) fun c s1 hq0 => ?_)
  obtain ⟨H1, I1, q1⟩ := hq0
  cases c with
  | true => exact ⟨H1, I1, q1⟩
  | false => exact hb wh pins s1 σ H1 Q I1 q1
theorem pt_not (ha : PT X a tA) : PT X (.UnaryOp .Not a pos) (tNot tA) := by
  intro pins s σ H Q I h
  exact isTrue_not (ha pins s σ H (fun c H1 => Q (!c) H1) I h)
end
end L2

namespace L2
open PySem PySem.Spec PyProof.Rows

/-! ### a list, a tuple that is read: tracked, frozen, or an object of the module -/
def SqL (K : PySem.W.Frag) (H : Hp) (a : Addr) (xs : List V) : Prop :=
  Rd H a (.lst xs) ∨
    ∃ (o : Obj) (its : Array Value) (n : Nat), K.lookup a = some o ∧ o.cls = .type "list" ∧ o.dict = none ∧ o.data = .seq its n ∧ its.size ≤ sizeLine ∧ Vals xs its.toList
def SqT (K : PySem.W.Frag) (H : Hp) (a : Addr) (xs : List V) : Prop :=
  Rd H a (.tup xs) ∨
    ∃ (o : Obj) (its : Array Value) (n : Nat), K.lookup a = some o ∧ o.cls = .type "tuple" ∧ o.data = .seq its n ∧ its.size ≤ sizeLine ∧ Vals xs its.toList
def absV : Value → Option V
  | .none => some .non
  | .bool b => some (.bl b)
  | .int i _ => some (.int i)
  | .str x _ => some (.str x)
  | .bytes b _ => some (.byt b)
  | .float b _ => some (.flt b)
  | .ref a => some (.ref a)
  | .type n => some (.ty n)
  | _ => none
theorem RelV.abs {x : V} {u : Value} (r : RelV x u) : absV u = some x := by
  cases x with
  | non => cases r; rfl
  | bl _ => cases r; rfl
  | int _ => obtain ⟨t, rfl⟩ := r; rfl
  | str _ => obtain ⟨t, rfl⟩ := r; rfl
  | byt _ => obtain ⟨t, rfl⟩ := r; rfl
  | flt _ => obtain ⟨t, rfl⟩ := r; rfl
  | ref _ => cases r; rfl
  | ty _ => cases r; rfl
theorem RelV.inj {x y : V} {u : Value} (r : RelV x u) (q : RelV y u) : x = y := Option.some.inj (r.abs.symm.trans q.abs)
theorem Vals.inj : ∀ {xs ys : List V} {us : List Value}, Vals xs us → Vals ys us → xs = ys
  | _, _, _, .nil, .nil => rfl
  | _, _, _, .cons r t, .cons r' t' => by rw [r.inj r', Vals.inj t t']
section
variable {X : Cx} {pins : List (Addr × Obj)} {σ : St} {H : Hp} {s : Shared} {a : Addr} {xs ys : List V}
theorem SqL.of {K : PySem.W.Frag} (h : H a = some (.lst xs)) : SqL K H a xs := .inl (.inl h)
theorem Inv.list (I : Inv X pins σ H s) (h : SqL X.K H a xs) : ∃ its : List Value, Vals xs its ∧ PlainL s.heap a its.toArray ∧ xs.length ≤ sizeLine := by
  rcases h with h | ⟨o, its, n, hk, hc, hd, hs, hz, r⟩
  · obtain ⟨z, its, n, r, e⟩ := h.ok I.hok
    exact ⟨its, r, ⟨_, n, e, rfl, rfl, rfl⟩, z⟩
  · refine ⟨its.toList, r, ⟨o, n, I.kIn a o hk, hc, hd, by simpa using hs⟩, ?_⟩
    have e := r.length
    simp only [Array.length_toList] at e
    omega
theorem Inv.tuple (I : Inv X pins σ H s) (h : SqT X.K H a xs) : ∃ its : List Value, Vals xs its ∧ IsTup s.heap a its.toArray ∧ xs.length ≤ sizeLine := by
  rcases h with h | ⟨o, its, n, hk, hc, hs, hz, r⟩
  · obtain ⟨z, its, r, p⟩ := h.ok I.hok
    exact ⟨its, r, p, z⟩
  · refine ⟨its.toList, r, ⟨o, I.kIn a o hk, hc, n, by simpa using hs⟩, ?_⟩
    have e := r.length
    simp only [Array.length_toList] at e
    omega
theorem Inv.list_inj (I : Inv X pins σ H s) (h : SqL X.K H a xs) (h' : SqL X.K H a ys) : xs = ys := by
  obtain ⟨its, r, ⟨o, n, e, _, _, d⟩, _⟩ := I.list h
  obtain ⟨its', r', ⟨o', n', e', _, _, d'⟩, _⟩ := I.list h'
  rw [e] at e'; cases e'
  rw [d] at d'
  injection d' with d1 _
  have : its = its' := by simpa using congrArg Array.toList d1
  subst this
  exact r.inj r'
end

/-! ### another wish about exceptions -/
abbrev Cx.wish (X : Cx) (E : Value → Shared → Prop) : Cx := { X with xe := E }
/-- no exception leaves -/
abbrev Cx.nox (X : Cx) : Cx := X.wish fun _ _ => False
theorem Cx.Ok.wish {X : Cx} (ok : X.Ok) (E : Value → Shared → Prop) : (X.wish E).Ok :=
  ⟨ok.mod, ok.kind, ok.glob, ok.blt, ok.above, ok.inj, ok.has, ok.cab, ok.hd, ok.frames, ok.stk, ok.exf, ok.bs, ok.bsz, ok.noex, ok.exfs, ok.funs, ok.frf⟩
theorem Cx.Ok.unwish {X : Cx} {E : Value → Shared → Prop} (ok : (X.wish E).Ok) : X.Ok :=
  ⟨ok.mod, ok.kind, ok.glob, ok.blt, ok.above, ok.inj, ok.has, ok.cab, ok.hd, ok.frames, ok.stk, ok.exf, ok.bs, ok.bsz, ok.noex, ok.exfs, ok.funs, ok.frf⟩
section
variable {X : Cx} {pins : List (Addr × Obj)} {σ : St} {H : Hp} {s : Shared} {E : Value → Shared → Prop}
theorem Inv.wish (I : Inv X pins σ H s) (E : Value → Shared → Prop) : Inv (X.wish E) pins σ H s := ⟨I.ok.wish E, I.os, I.bare, I.base, I.loc, I.cell, I.free, I.freeC, I.pin, I.hok, I.len⟩
theorem Inv.unwish (I : Inv (X.wish E) pins σ H s) : Inv X pins σ H s := ⟨I.ok.unwish, I.os, I.bare, I.base, I.loc, I.cell, I.free, I.freeC, I.pin, I.hok, I.len⟩
theorem SP.unwish {D : Ends} {f : Flow} {s' : Shared} (h : SP (X.wish E) pins D f s') : SP X pins D f s' := by
  cases f with
  | next => obtain ⟨σ', H', I, q⟩ := h; exact ⟨σ', H', I.unwish, q⟩
  | brk => obtain ⟨σ', H', I, q⟩ := h; exact ⟨σ', H', I.unwish, q⟩
  | cont => obtain ⟨σ', H', I, q⟩ := h; exact ⟨σ', H', I.unwish, q⟩
  | ret u => obtain ⟨v, σ', H', I, r, q⟩ := h; exact ⟨v, σ', H', I.unwish, r, q⟩
theorem PSs.nox {st : List Stmt} {t : TS} (h : PSs X.nox st t) : PSs X st t := fun pins s σ H D I hw =>
  wpAny_mono (h pins s σ H D (I.wish _) hw) (fun _ _ q => q.unwish) fun _ _ z => False.elim z
end

/-! ### blocks and small statements -/
section
variable {X : Cx} {st : Stmt} {rest : List Stmt} {t u : TS} {e : Expr} {te : TE} {pos : Pos}
def tNext : TS := fun D σ H => D.nx σ H
def tSeq (t u : TS) : TS := fun D σ H => t { D with nx := u D } σ H
theorem pss_nil : PSs X [] tNext := fun _ _ σ H _ I h => wpAny_execs_nil ⟨σ, H, I, h⟩
theorem pss_cons (h1 : PS X st t) (h2 : PSs X rest u) : PSs X (st :: rest) (tSeq t u) := by
  intro pins s σ H D I h
  refine wpAny_execs_cons (thn (h1 pins s σ H { D with nx := u D } I h) fun f s1 q => ?_)
  cases f with
  | next =>
    obtain ⟨σ', H', I', q⟩ := q
    exact h2 pins s1 σ' H' D I' q
  | ret v => exact q
  | brk => exact q
  | cont => exact q
theorem pss_one (h1 : PS X st t) : PSs X [st] t := by
  intro pins s σ H D I h
  refine wpAny_execs_cons (thn (h1 pins s σ H D I h) fun f s1 q => ?_)
  cases f with
  | next => exact wpAny_execs_nil q
  | ret v => exact q
  | brk => exact q
  | cont => exact q
/-- in a def's body nothing is shown -/
theorem Inv.quiet {pins : List (Addr × Obj)} {σ : St} {H : Hp} {s : Shared} (I : Inv X pins σ H s) : interactive X.env = false := by simp [interactive, I.ok.kind]
/-- an expression whose value is dropped -/
def tDrop (te : TE) : TS := fun D σ H => te σ H fun _ H1 => D.nx σ H1
theorem ps_expr (he : PE X e te) (hs : swapsWith e none pos.line X.env = pure false := by rfl) : PS X (.Expr e pos) (tDrop te) := by
  intro pins s σ H D I h
  exact wpAny_Expr_any (thn (he pins s σ H _ I h) fun v s1 ⟨x, H1, I1, r1, q1⟩ => ⟨σ, H1, I1, q1⟩) I.quiet hs
def tRet (te : TE) : TS := fun D σ H => te σ H D.rt
theorem ps_ret (he : PE X e te) : PS X (.Return (some e) pos) (tRet te) := by
  intro pins s σ H D I h
  exact wpAny_Return_some (thn (he pins s σ H _ I h) fun v s1 ⟨x, H1, I1, r1, q1⟩ => ⟨x, σ, H1, I1, r1, q1⟩)
def tIfS (c : TT) (t u : TS) : TS := fun D σ H => c σ H fun b H1 => if b = true then t D σ H1 else u D σ H1
theorem ps_if {c : Expr} {a b : List Stmt} {tc : TT} (hc : PT X c tc) (ha : PSs X a t) (hb : PSs X b u) : PS X (.If c a b pos) (tIfS tc t u) := by
  intro pins s σ H D I h
  refine wpAny_If (thn (hc pins s σ H _ I h) fun d s1 hq0 => ?_)
  obtain ⟨H1, I1, q1⟩ := hq0
  cases d with
  | true => exact ha pins s1 σ H1 D I1 q1
  | false => exact hb pins s1 σ H1 D I1 q1
/-- code that the proof never comes to -/
def tNever : TS := fun _ _ _ => False
theorem ps_never : PS X st tNever := fun _ _ _ _ _ _ h => h.elim
end

/-! ### targets -/
abbrev TG := V → St → Hp → (St → Hp → Prop) → Prop
abbrev TGs := List V → St → Hp → (St → Hp → Prop) → Prop
def PG (X : Cx) (target : Expr) (t : TG) : Prop :=
  ∀ (pins : List (Addr × Obj)) (s : Shared) (σ : St) (H : Hp) (v : V) (u : Value) (Q : St → Hp → Prop), Inv X pins σ H s → RelV v u → t v σ H Q →
    wpAny (model X.prog X.w) X.A (assign target X.env u) (fun _ s' => ∃ σ' H', Inv X pins σ' H' s' ∧ Q σ' H') X.xe s
/-- o[i] = v, by values -/
abbrev TSet := V → V → V → Hp → (Hp → Prop) → Prop
/-- a op= b, by values -/
abbrev TIp := V → V → Hp → VK → Prop
section
variable {X : Cx} {pos : Pos}
def gName (i : Nat) : TG := fun v σ H Q => Q (σ.set i (some v)) H
theorem pg_name {i : Nat} {x : Str} (hN : X.N.Nodup) (hi : X.N[i]? = some x) (hx : Loc X.env.scope x) (hf : X.fn x = true ∨ X.env.scope.names.lookup x = some .local := by first | exact .inl rfl | exact .inr rfl | assumption) : PG X (.Name x pos) (gName i) := by
  intro pins s σ H v u Q I r h
  exact wpAny_assign_Name (store_ok I hN hi hx r (fun s' I' => ⟨_, H, I', h⟩) hf)
/-- target = value -/
def tAsg (te : TE) (g : TG) : TS := fun D σ H => te σ H fun x H1 => g x σ H1 D.nx
/-- name = value -/
theorem ps_set {i : Nat} {x : Str} {e : Expr} {te : TE} {pos' : Pos} (hN : X.N.Nodup) (hi : X.N[i]? = some x) (hx : Loc X.env.scope x) (he : PE X e te) (hs : swapsWith e (some (.Name x pos')) pos.line X.env = pure false := by rfl) (hf : X.fn x = true ∨ X.env.scope.names.lookup x = some .local := by first | exact .inl rfl | exact .inr rfl | assumption) :
    PS X (.Assign [.Name x pos'] e pos) (tAsg te (gName i)) := by
  intro pins s σ H D I h
  refine wpAny_Assign_Name (thn (he pins s σ H _ I h) fun v s1 hq0 => ?_) hs
  obtain ⟨y, H1, I1, r1, q1⟩ := hq0
  exact store_ok I1 hN hi hx r1 (fun s2 I2 => ⟨_, H1, I2, q1⟩) hf
end

/-! ### while -/
section
variable {X : Cx} {pos : Pos}
end

/-! ### what a loop or a comprehension walks -/
/-- at turn i: it yields x (the heap may grow), or it stops -/
structure It where
  go : Nat → Hp → Prop
  yld : Nat → Hp → V → Hp → Prop
  stop : Nat → Hp → Prop
/-- the iterator's own objects may turn: they are not the frame's, not pinned, younger than the entry (or a comprehension's own) -/
def FpOk (X : Cx) (pins : List (Addr × Obj)) (H : Hp) (b : Addr) : Prop :=
  H b = none ∧ b ≠ X.env.locals ∧ b ∉ X.fs ∧ (b ∈ X.ex ∨ X.s₀.heap.objs.size ≤ b) ∧ (∀ x c, X.env.cells.lookup x = some c → c ≠ b) ∧ ∀ p ∈ X.pn ++ pins, p.1 ≠ b
theorem Inv.fpOk {X : Cx} {pins : List (Addr × Obj)} {σ : St} {H H' : Hp} {s : Shared} {b : Addr} (I : Inv X pins σ H s) (hb : s.heap.objs.size ≤ b) (hn : H' b = none) : FpOk X pins H' b := by
  refine ⟨hn, Nat.ne_of_gt (Nat.lt_of_lt_of_le I.lt hb), I.nofs hb, .inr (Nat.le_trans I.sz hb), fun x c e z => ?_, fun p hp z => ?_⟩
  · obtain ⟨v, q⟩ := I.cell x c e
    exact absurd (Nat.lt_of_lt_of_le q.lt (by rw [z]; exact hb)) (Nat.lt_irrefl _)
  · exact absurd (Nat.lt_of_lt_of_le (Heap.lt_size (I.pin p hp).1) (by rw [z]; exact hb)) (Nat.lt_irrefl _)
structure Turn (P : Program) (w : World) (K : PySem.W.Frag) (tg : Expr) (J : It) (fp : List Addr) (it : Addr) (tn : Nat → Heap → Prop) : Prop where
  mem : it ∈ fp
  obj : ∀ i h, tn i h → ∀ b ∈ fp, ∃ o, h.get? b = some o ∧ ∀ v, o.data ≠ .cell v
  keep : ∀ i h h', tn i h → (∀ b ∈ fp, ∀ o, h.get? b = some o → h'.get? b = some o) → tn i h'
  item : ∀ (X : Cx), X.prog = P → X.w = w → X.K = K → X.calm = true → ∀ (i : Nat) (pins : List (Addr × Obj)) (s : Shared) (σ : St) (H : Hp) (E : Value → Shared → Prop), Inv X pins σ H s → (∀ b ∈ fp, FpOk X pins H b) → tn i s.heap → J.go i H →
    wpAny (model P w) X.A (pyNext (.ref it)) (fun r s1 => ∃ u, r = some u ∧
      wpAny (model P w) X.A (letOwnedTupleGo tg (.ref it) u) (fun _ s2 => ∃ x H', Inv X pins σ H' s2 ∧ RelV x u ∧ J.yld i H x H' ∧ tn (i + 1) s2.heap ∧ ∀ b ∈ fp, H' b = none) E s1) E s
  done : ∀ (X : Cx), X.prog = P → X.w = w → X.K = K → X.calm = true → ∀ (i : Nat) (pins : List (Addr × Obj)) (s : Shared) (σ : St) (H : Hp) (E : Value → Shared → Prop), Inv X pins σ H s → (∀ b ∈ fp, FpOk X pins H b) → tn i s.heap → J.stop i H →
    wpAny (model P w) X.A (pyNext (.ref it)) (fun r s1 => r = none ∧ Inv X pins σ H s1) E s
  self : ∀ (A : Around) (i : Nat) (s : Shared) (Q : Value → Shared → Prop) (E : Value → Shared → Prop), tn i s.heap → Q (.ref it) s → wpAny (model P w) A (pyIter (.ref it)) Q E s
abbrev TI := St → Hp → (It → Hp → Prop) → Prop
/-- an iterator has come -/
def PIE (X : Cx) (pins : List (Addr × Obj)) (σ : St) (tg : Expr) (R : It → Hp → Prop) (itv : Value) (s2 : Shared) : Prop :=
  ∃ (it : Addr) (fp : List Addr) (tn : Nat → Heap → Prop) (J : It) (H' : Hp), itv = .ref it ∧ Inv X pins σ H' s2 ∧ Turn X.prog X.w X.K tg J fp it tn ∧ tn 0 s2.heap ∧ (∀ b ∈ fp, FpOk X pins H' b) ∧ R J H'
def PI (X : Cx) (tg iter : Expr) (wi : TI) : Prop :=
  ∀ (pins : List (Addr × Obj)) (s : Shared) (σ : St) (H : Hp) (R : It → Hp → Prop), Inv X pins σ H s → wi σ H R →
    wpAny (model X.prog X.w) X.A (eval iter X.env) (fun v s1 => wpAny (model X.prog X.w) X.A (pyIter v) (PIE X pins σ tg R) X.xe s1) X.xe s

/-- the step ahead of the store is nothing for an iterator that keeps no tuple -/
theorem go_of {M : Model} {A : Around} {E : Value → Shared → Prop} {s : Shared} {tg : Expr} {it : Addr} {u : Value} {o : Obj} {n : String} {vs : Array Value} {Q : Unit → Shared → Prop} (ho : s.heap.get? it = some o) (hc : o.cls = .type n) (hd : o.data = .fields vs)
    (hn : ["enumerate", "zip", "dict_itemiterator", "dict_reverseitemiterator", "odict_iterator", "itertools.zip_longest", "itertools.pairwise"].contains n = false) (hQ : Q () s) : wpAny M A (letOwnedTupleGo tg (.ref it) u) Q E s := by
  unfold letOwnedTupleGo
  cases tg <;> first
    | exact wpAny_pure hQ
    | (cases u <;> first
        | exact wpAny_pure hQ
        | (refine wpAny_bind (wpAny_load ho ?_)
           rw [hc, hd]
           show wpAny M A (if (["enumerate", "zip", "dict_itemiterator", "dict_reverseitemiterator", "odict_iterator", "itertools.zip_longest", "itertools.pairwise"].contains n && vs[0]? == some (rawInt _)) = true then _ else _) Q E s
           rw [if_neg (by intro h; rw [hn, Bool.false_and] at h; cases h)]
           exact wpAny_pure hQ))

/-- the list at a, as it stands at each turn (a loop may append to it) -/
def Itl (K : PySem.W.Frag) (a : Addr) : It :=
  ⟨fun i H => ∃ xs x, SqL K H a xs ∧ xs[i]? = some x, fun i H x H' => H' = H ∧ ∀ xs, SqL K H a xs → xs[i]? = some x, fun i H => ∃ xs, SqL K H a xs ∧ xs.length ≤ i⟩
/-- lo, lo + 1, .. (n of them) -/
def Itr (lo : Int) (n : Nat) : It := ⟨fun i _ => i < n, fun i H x H' => H' = H ∧ x = .int (lo + i), fun i _ => n ≤ i⟩
theorem turn_list {P : Program} {w : World} {K : PySem.W.Frag} {tg : Expr} (a it : Addr) : Turn P w K tg (Itl K a) [it] it (fun i h => h.IsListIter it a i) where
  mem := by simp
  obj := fun i h st b hb => by
    have e : b = it := by simpa using hb
    subst e
    obtain ⟨o, e, c, d⟩ := st
    exact ⟨o, e, fun v z => by rw [d] at z; cases z⟩
  keep := fun i h h' st k => st.at fun o e => k it (by simp) o e
  item := by
    intro X hP hw hK hc i pins s σ H E I hf st hg
    subst hP hw hK
    obtain ⟨xs, x, hq, hx⟩ := hg
    obtain ⟨its, rv, p, hz⟩ := I.list hq
    obtain ⟨u, hu, ru⟩ := rv.get hx
    obtain ⟨f0, f1, f2, f3, f4, f5⟩ := hf it (by simp)
    refine wpAny_pyNext_list_item st p.isList (x := u) (by simpa using hu) fun h' st' sb => ?_
    have I1 : Inv X pins σ H { s with heap := h' } := I.turned (t' := s.toks) (fun b o hb e => (sb.2 b hb).trans e) f0 f1 f3 f4 f5
    obtain ⟨o, e, c, d⟩ := id st'
    exact ⟨u, rfl, go_of (s := { s with heap := h' }) e c d (by decide) ⟨x, H, I1, ru, ⟨rfl, fun ys hy => by rw [I.list_inj hy hq]; exact hx⟩, st', fun b hb => (hf b hb).1⟩⟩
  done := by
    intro X hP hw hK hc i pins s σ H E I hf st hg
    subst hP hw hK
    obtain ⟨xs, hq, hx⟩ := hg
    obtain ⟨its, rv, p, hz⟩ := I.list hq
    obtain ⟨f0, f1, f2, f3, f4, f5⟩ := hf it (by simp)
    have hl := rv.length
    exact wpAny_pyNext_list_end (I.ok.hd hc) st p.isList (by simp; omega) fun h' eb => ⟨rfl, I.turned (t' := s.toks) (fun b o hb e => eb b o hb e) f0 f1 f3 f4 f5⟩
  self := fun _ _ _ _ _ st h => wpAny_pyIter_listiter st h
theorem turn_range {P : Program} {w : World} {K : PySem.W.Frag} {tg : Expr} (it : Addr) (lo : Int) (n : Nat) : Turn P w K tg (Itr lo n) [it] it (fun i h => IsRangeIter h it (lo + (i : Nat) * 1) ((n : Int) - (i : Nat)) 1) where
  mem := by simp
  obj := fun i h st b hb => by
    have e : b = it := by simpa using hb
    subst e
    exact ⟨_, st, fun v z => by
      have z' : Data.fields _ = Data.cell v := z
      cases z'⟩
  keep := fun i h h' st k => k it (by simp) _ st
  item := by
    intro X hP hw hK hc i pins s σ H E I hf st hg
    subst hP hw hK
    obtain ⟨f0, f1, f2, f3, f4, f5⟩ := hf it (by simp)
    have W := Walks.range (prog := X.prog) (w := X.w) (I.ok.hd hc) it lo 1 n
    refine W.item i s _ _ hg st fun v h' tk hv st' kk => ?_
    obtain ⟨t, rfl⟩ := hv
    have I1 : Inv X pins σ H { s with heap := h', toks := tk } := I.turned (fun b o hb e => kk b o (by simpa using hb) e) f0 f1 f3 f4 f5
    refine ⟨_, rfl, go_of (s := { s with heap := h', toks := tk }) (n := "range_iterator") st' rfl rfl (by decide) ⟨.int (lo + i), H, I1, ⟨t, ?_⟩, ⟨rfl, rfl⟩, st', fun b hb => (hf b hb).1⟩⟩
    rw [Int.mul_one]
  done := by
    intro X hP hw hK hc i pins s σ H E I hf st hg
    subst hP hw hK
    obtain ⟨f0, f1, f2, f3, f4, f5⟩ := hf it (by simp)
    exact wpAny_pyNext_range_end (I.ok.hd hc) st (by have : n ≤ i := hg; omega) fun h' eb => ⟨rfl, I.turned (t' := s.toks) (fun b o hb e => eb b o hb e) f0 f1 f3 f4 f5⟩
  self := fun _ _ _ _ _ st h => wpAny_pyIter_rangeiter st h
end L2

namespace L2
open PySem PySem.Spec PyProof.Rows
section
variable {X : Cx} {tg : Expr}
def iList (K : PySem.W.Frag) (tl : TE) : TI := fun σ H R => tl σ H fun x H1 => ∃ a, x = .ref a ∧ (∃ xs, SqL K H1 a xs) ∧ R (Itl K a) H1
theorem pi_list {l : Expr} {tl : TE} (hl : PE X l tl) : PI X tg l (iList X.K tl) := by
  intro pins s σ H R I h
  refine thn (hl pins s σ H _ I h) fun v s1 hq0 => ?_
  obtain ⟨x, H1, I1, r1, q1⟩ := hq0
  obtain ⟨a, e, ⟨xs, hq⟩, q⟩ := q1
  subst e
  cases r1
  obtain ⟨its, rv, p, hz⟩ := I1.list hq
  refine wpAny_pyIter_list p.isList ?_
  refine ⟨s1.heap.objs.size, [s1.heap.objs.size], _, _, H1, rfl, I1.kept (t' := s1.toks) fun b o e => Heap.get?_push_of_some _ e, turn_list a _, ⟨_, Heap.get?_push_size _ rfl, rfl, rfl⟩, fun b hb => ?_, q⟩
  have e : b = s1.heap.objs.size := by simpa using hb
  subst e
  exact I1.fpOk (Nat.le_refl _) (I1.hok.fresh (Nat.le_refl _))
/-- a range object just made, walked -/
theorem range_it {pins : List (Addr × Obj)} {σ : St} {H : Hp} {s : Shared} {R : It → Hp → Prop} {E : Value → Shared → Prop} {lo hi : Int} {t u v : Tok} {tk : Nat} (I : Inv X pins σ H s) (h1 : -(2 ^ 62) ≤ lo) (h2 : lo < 2 ^ 62) (h3 : -(2 ^ 62) ≤ hi) (h4 : hi < 2 ^ 62)
    (q : R (Itr lo (hi - lo).toNat) H) : wpAny (model X.prog X.w) X.A (pyIter (.ref s.heap.objs.size)) (PIE X pins σ tg R) E { s with heap := s.heap.push { cls := .type "range", data := .fields #[.int lo t, .int hi u, .int 1 v] }, toks := tk } := by
  refine wpAny_pyIter_range (IsRange.new ..) (small_one h1 h2 h3 h4) ?_
  have I1 : Inv X pins σ H { s with heap := s.heap.push { cls := .type "range", data := .fields #[.int lo t, .int hi u, .int 1 v] }, toks := tk } := I.kept fun b o e => Heap.get?_push_of_some _ e
  refine ⟨(s.heap.push { cls := .type "range", data := .fields #[.int lo t, .int hi u, .int 1 v] }).objs.size, [(s.heap.push { cls := .type "range", data := .fields #[.int lo t, .int hi u, .int 1 v] }).objs.size], _, _, H, rfl,
    I1.kept (t' := tk) fun b o e => Heap.get?_push_of_some _ e, turn_range _ lo (hi - lo).toNat, ?_, fun b hb => ?_, q⟩
  · have e1 : lo + ((0 : Nat) : Int) * 1 = lo := by simp
    have e2 : (((hi - lo).toNat : Nat) : Int) - ((0 : Nat) : Int) = Builtin.Range.rangeSize lo hi 1 := by rw [rangeSize_one]; split <;> (first | exact (Int.sub_zero _).trans (Int.toNat_of_nonneg (Int.sub_nonneg_of_le (Int.le_of_lt (by assumption)))) | exact (Int.sub_zero _).trans (congrArg Int.ofNat (Int.toNat_eq_zero.mpr (Int.sub_nonpos_of_le (Int.not_lt.mp (by assumption))))))
    show IsRangeIter _ _ (lo + ((0 : Nat) : Int) * 1) ((((hi - lo).toNat : Nat) : Int) - ((0 : Nat) : Int)) 1
    rw [e1, e2]
    exact Heap.get?_push_size _ rfl
  · have e : b = (s.heap.push { cls := .type "range", data := .fields #[.int lo t, .int hi u, .int 1 v] }).objs.size := by simpa using hb
    subst e
    exact I1.fpOk (Nat.le_refl _) (I1.hok.fresh (Nat.le_refl _))
def iRng1 (ta : TA) : TI := fun σ H R => ta σ H fun vs H1 => ∃ j : Int, vs = [.int j] ∧ -(2 ^ 62) ≤ j ∧ j < 2 ^ 62 ∧ R (Itr 0 j.toNat) H1
theorem pi_range1 {a : Expr} {ta : TA} {p pos : Pos} (hg : Gl X "range") (hm : X.mg "range" = none) (ha : PA X [a] ta) (hs : starEach [a] X.env = [(false, eval a X.env)] := by rfl) : PI X tg (.Call (.Name "range" p) [a] [] pos) (iRng1 ta) := by
  intro pins s σ H R I h
  refine Call_ (ld_blt I hg hm boot_range (PyProof.Rows.callWith_type1 (thn (ha pos pins s σ H _ I h) fun us s1 hq0 => ?_) hs rfl))
  obtain ⟨vs, H1, I1, r1, q1⟩ := hq0
  obtain ⟨j, e, q1, q2, q⟩ := q1
  subst e
  cases r1 with
  | cons r rr =>
    cases rr
    obtain ⟨t, rfl⟩ := r
    exact call_range_1 (range_it I1 (by omega) (by omega) q1 q2 (by simpa using q))
/-! ### for -/
/-- W: the invariant by the turn and a measure; N: what the body is to reach -/
def tFor (wi : TI) (g : TG) (tb : TS) : TS := fun D σ H => wi σ H fun J H1 => ∃ W : Nat → Nat → St → Hp → Prop, (∃ m, W 0 m σ H1) ∧ ∀ i m σ H, W i m σ H →
  (J.stop i H ∧ D.nx σ H) ∨ (J.go i H ∧ ∃ N : St → Hp → Prop, (∀ σ' H', N σ' H' → ∃ m', m' < m ∧ W (i + 1) m' σ' H') ∧ ∀ x H', J.yld i H x H' → g x σ H' fun σ2 H2 => tb { D with nx := N, ct := N, bk := D.nx } σ2 H2)
/-- the records at fp as they stand -/
def pinsAt (fp : List Addr) (h : Heap) : List (Addr × Obj) := fp.filterMap fun b => (h.get? b).map fun o => (b, o)
theorem mem_pinsAt {fp : List Addr} {h : Heap} {b : Addr} {o : Obj} (hb : b ∈ fp) (e : h.get? b = some o) : (b, o) ∈ pinsAt fp h := List.mem_filterMap.mpr ⟨b, hb, by rw [e]; rfl⟩
theorem of_pinsAt {fp : List Addr} {h : Heap} {p : Addr × Obj} (hp : p ∈ pinsAt fp h) : p.1 ∈ fp ∧ h.get? p.1 = some p.2 := by
  obtain ⟨b, hb, e⟩ := List.mem_filterMap.mp hp
  cases q : h.get? b with
  | none => rw [q] at e; cases e
  | some o =>
    rw [q] at e
    have e' : (b, o) = p := Option.some.inj e
    subst e'
    exact ⟨hb, q⟩
theorem Inv.pinned {pins : List (Addr × Obj)} {σ : St} {H : Hp} {s : Shared} {fp : List Addr} (I : Inv X pins σ H s) (hf : ∀ b ∈ fp, FpOk X pins H b) (ho : ∀ b ∈ fp, ∃ o, s.heap.get? b = some o ∧ ∀ v, o.data ≠ .cell v) : Inv X (pins ++ pinsAt fp s.heap) σ H s :=
  I.pins_of fun p hp => (List.mem_append.mp hp).elim (fun z => I.pin p (List.mem_append_right _ z)) fun z => by
    obtain ⟨hb, e⟩ := of_pinsAt z
    obtain ⟨f0, f1, f2, _⟩ := hf p.1 hb
    obtain ⟨o, e', d⟩ := ho p.1 hb
    rw [e] at e'; cases e'
    exact ⟨e, f0, f1, f2, d⟩
theorem Inv.unpinned {pins pl : List (Addr × Obj)} {σ : St} {H : Hp} {s : Shared} (I : Inv X (pins ++ pl) σ H s) : Inv X pins σ H s := I.pins_of fun p hp => I.pin p (List.mem_append_right _ (List.mem_append_left _ hp))
theorem ps_for {iter : Expr} {body : List Stmt} {wi : TI} {g : TG} {tb : TS} {pos : Pos} (hp : PassesOwn (model X.prog X.w) X.A X.env X.xe) (hc : X.calm = true) (hi : PI X tg iter wi) (hg : PG X tg g) (hb : PSs X body tb)
    (hs : ∀ x, foldedSetIterable iter X.env x = pure x := by intro _; rfl) : PS X (.For tg iter body [] pos) (tFor wi g tb) := by
  intro pins s σ H D I h
  refine wpAny_For (thn (hi pins s σ H _ I h) fun v s1 h1 => thn h1 fun itv s2 h2 => ?_) hs
  obtain ⟨it, fp, tn, J, H2, e, I2, T, st2, f2, W, ⟨m0, w0⟩, turn⟩ := h2
  subst e
  -- what stays true of the iterator's objects through the loop
  have stat : ∀ {H' : Hp}, (∀ b ∈ fp, H' b = none) → ∀ b ∈ fp, FpOk X pins H' b := fun hn b hb => ⟨hn b hb, (f2 b hb).2⟩
  refine codeAny_forLoop_any (fun n s' => ∃ i σ' H', Inv X pins σ' H' s' ∧ tn i s'.heap ∧ (∀ b ∈ fp, H' b = none) ∧ W i n σ' H') ?_ m0 ⟨0, σ, H2, I2, st2, fun b hb => (f2 b hb).1, w0⟩
  rintro n s3 ⟨i, σ3, H3, I3, st3, fr3, w3⟩
  rcases turn i n σ3 H3 w3 with ⟨stop, qn⟩ | ⟨go, N, hN, step⟩
  · refine wpAny_passesOwn hp (thn (T.done X rfl rfl rfl hc i pins s3 σ3 H3 X.xe I3 (stat fr3) st3 stop) fun r s4 hq0 => ?_)
    obtain ⟨hr, I4⟩ := hq0
    subst hr
    exact wpAny_execs_nil ⟨σ3, H3, I4, qn⟩
  · refine wpAny_passesOwn hp (thn (T.item X rfl rfl rfl hc i pins s3 σ3 H3 X.xe I3 (stat fr3) st3 go) fun r s4 hq0 => ?_)
    obtain ⟨u, hr, h4⟩ := hq0
    subst hr
    refine wpAny_passesOwn hp (thn h4 fun _ s5 hq0 => ?_)
    obtain ⟨x, H5, I5, r5, y5, st5, fr5⟩ := hq0
    have I5' := I5.pinned (stat fr5) (T.obj _ _ st5)
    refine wpAny_passesOwn hp (thn (hg _ s5 σ3 H5 x u _ I5' r5 (step x H5 y5)) fun _ s6 hq0 => ?_)
    obtain ⟨σ6, H6, I6, q6⟩ := hq0
    refine wpAny_passesOwn hp (thn (hb _ s6 σ6 H6 _ I6 q6) fun f s7 q7 => ?_)
    have again : ∀ {σ7 : St} {H7 : Hp}, Inv X (pins ++ pinsAt fp s5.heap) σ7 H7 s7 → N σ7 H7 → ∃ m, m < n ∧ ∃ i σ' H', Inv X pins σ' H' s7 ∧ tn i s7.heap ∧ (∀ b ∈ fp, H' b = none) ∧ W i m σ' H' := fun {σ7 H7} I7 n7 => by
      obtain ⟨m', hm, w7⟩ := hN σ7 H7 n7
      refine ⟨m', hm, i + 1, σ7, H7, I7.unpinned, T.keep _ _ _ st5 fun b hb o e => (I7.pin (b, o) (List.mem_append_right _ (List.mem_append_right _ (mem_pinsAt hb e)))).1, fun b hb => ?_, w7⟩
      obtain ⟨o, e, d⟩ := T.obj _ _ st5 b hb
      exact (I7.pin (b, o) (List.mem_append_right _ (List.mem_append_right _ (mem_pinsAt hb e)))).2.1
    cases f with
    | next => obtain ⟨σ7, H7, I7, n7⟩ := q7; exact again I7 n7
    | cont => obtain ⟨σ7, H7, I7, n7⟩ := q7; exact again I7 n7
    | brk => obtain ⟨σ7, H7, I7, q7⟩ := q7; exact ⟨σ7, H7, I7.unpinned, q7⟩
    | ret v => obtain ⟨x7, σ7, H7, I7, r7, q7⟩ := q7; exact ⟨x7, σ7, H7, I7.unpinned, r7, q7⟩
end

/-! ### the forms one uses -/
/-- over a list that the body leaves as it is -/
theorem for_list {K : PySem.W.Frag} {a : Addr} {xs : List V} {g : TG} {tb : TS} {D : Ends} {σ : St} {H : Hp} (Pv : Nat → St → Hp → Prop) (h0 : Pv 0 σ H) (hl : ∀ i σ H, i ≤ xs.length → Pv i σ H → SqL K H a xs)
    (hs : ∀ i x σ H, xs[i]? = some x → Pv i σ H → g x σ H fun σ2 H2 => tb { D with nx := Pv (i + 1), ct := Pv (i + 1), bk := D.nx } σ2 H2) (hd : ∀ σ H, Pv xs.length σ H → D.nx σ H) :
    ∃ W : Nat → Nat → St → Hp → Prop, (∃ m, W 0 m σ H) ∧ ∀ i m σ H, W i m σ H →
      ((Itl K a).stop i H ∧ D.nx σ H) ∨ ((Itl K a).go i H ∧ ∃ N : St → Hp → Prop, (∀ σ' H', N σ' H' → ∃ m', m' < m ∧ W (i + 1) m' σ' H') ∧ ∀ x H', (Itl K a).yld i H x H' → g x σ H' fun σ2 H2 => tb { D with nx := N, ct := N, bk := D.nx } σ2 H2) := by
  refine ⟨fun i m σ H => m = xs.length - i ∧ i ≤ xs.length ∧ Pv i σ H, ⟨xs.length, by simp, Nat.zero_le _, h0⟩, ?_⟩
  rintro i m σ H ⟨rfl, hi, p⟩
  have q := hl i σ H hi p
  by_cases hlt : i < xs.length
  · refine .inr ⟨⟨xs, xs[i], q, by simp [hlt]⟩, Pv (i + 1), fun σ' H' p' => ⟨xs.length - (i + 1), Nat.sub_succ_lt_self _ _ hlt, rfl, hlt, p'⟩, fun x H' y => ?_⟩
    obtain ⟨e, y⟩ := y
    subst e
    exact hs i x σ _ (y xs q) p
  · have e : i = xs.length := Nat.le_antisymm hi (Nat.not_lt.mp hlt)
    subst e
    exact .inl ⟨⟨xs, q, Nat.le_refl _⟩, hd σ H p⟩
theorem for_range {lo : Int} {n : Nat} {g : TG} {tb : TS} {D : Ends} {σ : St} {H : Hp} (Pv : Nat → St → Hp → Prop) (h0 : Pv 0 σ H)
    (hs : ∀ i σ H, i < n → Pv i σ H → g (.int (lo + i)) σ H fun σ2 H2 => tb { D with nx := Pv (i + 1), ct := Pv (i + 1), bk := D.nx } σ2 H2) (hd : ∀ σ H, Pv n σ H → D.nx σ H) :
    ∃ W : Nat → Nat → St → Hp → Prop, (∃ m, W 0 m σ H) ∧ ∀ i m σ H, W i m σ H →
      ((Itr lo n).stop i H ∧ D.nx σ H) ∨ ((Itr lo n).go i H ∧ ∃ N : St → Hp → Prop, (∀ σ' H', N σ' H' → ∃ m', m' < m ∧ W (i + 1) m' σ' H') ∧ ∀ x H', (Itr lo n).yld i H x H' → g x σ H' fun σ2 H2 => tb { D with nx := N, ct := N, bk := D.nx } σ2 H2) := by
  refine ⟨fun i m σ H => m = n - i ∧ i ≤ n ∧ Pv i σ H, ⟨n, by simp, Nat.zero_le _, h0⟩, ?_⟩
  rintro i m σ H ⟨rfl, hi, p⟩
  by_cases hlt : i < n
  · refine .inr ⟨hlt, Pv (i + 1), fun σ' H' p' => ⟨n - (i + 1), Nat.sub_succ_lt_self _ _ hlt, rfl, hlt, p'⟩, fun x H' y => ?_⟩
    obtain ⟨e, y⟩ := y
    subst e y
    exact hs i σ _ hlt p
  · have e : i = n := Nat.le_antisymm hi (Nat.not_lt.mp hlt)
    subst e
    exact .inl ⟨Nat.le_refl _, hd σ H p⟩
end L2

namespace L2
open PySem PySem.Spec PyProof.Rows

abbrev R2 := V → V → Hp → VK → Prop
/-- a two-place operation on values: f is binaryOp op, inplaceOp op or compareOp op -/
def OpR (X : Cx) (f : Value → Value → Sem Value) (r : R2) : Prop :=
  ∀ (pins : List (Addr × Obj)) (s : Shared) (σ : St) (H : Hp) (x y : V) (v u : Value) (Q : VK), Inv X pins σ H s → RelV x v → RelV y u → r x y H Q →
    wpAny (model X.prog X.w) X.A (f v u) (EP X pins σ Q) X.xe s
/-- a one-place operation -/
def UnR (X : Cx) (f : Value → Sem Value) (r : V → Hp → VK → Prop) : Prop :=
  ∀ (pins : List (Addr × Obj)) (s : Shared) (σ : St) (H : Hp) (x : V) (v : Value) (Q : VK), Inv X pins σ H s → RelV x v → r x H Q →
    wpAny (model X.prog X.w) X.A (f v) (EP X pins σ Q) X.xe s
/-- a call of a value that is known (a builtin, a type) with values -/
def CallR (X : Cx) (f : Value) (r : List V → Hp → VK → Prop) : Prop :=
  ∀ (pins : List (Addr × Obj)) (s : Shared) (σ : St) (H : Hp) (xs : List V) (us : List Value) (Q : VK), Inv X pins σ H s → Vals xs us → r xs H Q →
    wpAny (model X.prog X.w) X.A (call f us) (EP X pins σ Q) X.xe s
def tOp (r : R2) (ta tb : TE) : TE := fun σ H Q => ta σ H fun x H1 => tb σ H1 fun y H2 => r x y H2 Q
def tUn (r : V → Hp → VK → Prop) (ta : TE) : TE := fun σ H Q => ta σ H fun x H1 => r x H1 Q
/-- ints in, under C, and a value out -/
def rI (C : Int → Int → Prop) (g : Int → Int → V) : R2 := fun x y H Q => ∃ i j, x = .int i ∧ y = .int j ∧ C i j ∧ Q (g i j) H
def rI0 (g : Int → Int → V) : R2 := fun x y H Q => ∃ i j, x = .int i ∧ y = .int j ∧ Q (g i j) H
def rU (g : Int → V) : V → Hp → VK → Prop := fun x H Q => ∃ i, x = .int i ∧ Q (g i) H

section
variable {X : Cx} {a b c : Expr} {ta tb tc : TE} {pos : Pos}

theorem binT (ha : PE X a ta) (hb : PE X b tb) {pins : List (Addr × Obj)} {s : Shared} {σ : St} {H : Hp} {R : V → V → Hp → Prop} (I : Inv X pins σ H s)
    (h : ta σ H fun x H1 => tb σ H1 fun y H2 => R x y H2) {Q : Value → Shared → Prop} {f : Value → Value → Sem Value}
    (hf : ∀ v u s2 x y H2, Inv X pins σ H2 s2 → RelV x v → RelV y u → R x y H2 → wpAny (model X.prog X.w) X.A (f v u) Q X.xe s2) :
    wpAny (model X.prog X.w) X.A (eval a X.env) (fun v s₁ => wpAny (model X.prog X.w) X.A (eval b X.env) (fun u s₂ => wpAny (model X.prog X.w) X.A (f v u) Q X.xe s₂) X.xe s₁) X.xe s := by
  refine thn (ha pins s σ H _ I h) fun v s1 hq0 => ?_
  obtain ⟨x, H1, I1, r1, q1⟩ := hq0
  refine thn (hb pins s1 σ H1 _ I1 q1) fun u s2 hq0 => ?_
  obtain ⟨y, H2, I2, r2, q2⟩ := hq0
  exact hf v u s2 x y H2 I2 r1 r2 q2

theorem pe_op {op : Operator} {r : R2} (ho : OpR X (binaryOp op) r) (ha : PE X a ta) (hb : PE X b tb) : PE X (.BinOp a op b pos) (tOp r ta tb) := by
  intro pins s σ H Q I h
  exact wpAny_BinOp (binT ha hb I h fun v u s2 x y H2 I2 rx ry q => ho pins s2 σ H2 x y v u Q I2 rx ry q)
theorem pe_un {op : UnaryOp} {r : V → Hp → VK → Prop} (ho : UnR X (unaryOp op) r) (ha : PE X a ta) : PE X (.UnaryOp op a pos) (tUn r ta) := by
  intro pins s σ H Q I h
  exact UnaryOp_ (thn (ha pins s σ H _ I h) fun v s1 ⟨x, H1, I1, r1, q1⟩ => ho pins s1 σ H1 x v Q I1 r1 q1)
/-! ### ints -/
theorem opI {f : Value → Value → Sem Value} {C : Int → Int → Prop} {g : Int → Int → Int}
    (rule : ∀ (i j : Int) (t u : Tok) (s : Shared) (Q : Value → Shared → Prop) (E : Value → Shared → Prop), C i j → Q (.int (g i j) s.toks) { s with toks := s.toks + 1 } → wpAny (model X.prog X.w) X.A (f (.int i t) (.int j u)) Q E s) :
    OpR X f (rI C fun i j => .int (g i j)) := by
  intro pins s σ H x y v u Q I rx ry h
  obtain ⟨i, j, rfl, rfl, hc, q⟩ := h
  obtain ⟨t, rfl⟩ := rx
  obtain ⟨t', rfl⟩ := ry
  exact rule i j t t' s _ _ hc ⟨.int (g i j), H, I.tok _, ⟨_, rfl⟩, q⟩
theorem opI0 {f : Value → Value → Sem Value} {g : Int → Int → Int}
    (rule : ∀ (i j : Int) (t u : Tok) (s : Shared) (Q : Value → Shared → Prop) (E : Value → Shared → Prop), Q (.int (g i j) s.toks) { s with toks := s.toks + 1 } → wpAny (model X.prog X.w) X.A (f (.int i t) (.int j u)) Q E s) :
    OpR X f (rI0 fun i j => .int (g i j)) := by
  intro pins s σ H x y v u Q I rx ry h
  obtain ⟨i, j, rfl, rfl, q⟩ := h
  obtain ⟨t, rfl⟩ := rx
  obtain ⟨t', rfl⟩ := ry
  exact rule i j t t' s _ _ ⟨.int (g i j), H, I.tok _, ⟨_, rfl⟩, q⟩
theorem opB0 {f : Value → Value → Sem Value} {g : Int → Int → Bool}
    (rule : ∀ (i j : Int) (t u : Tok) (s : Shared) (Q : Value → Shared → Prop) (E : Value → Shared → Prop), Q (.bool (g i j)) s → wpAny (model X.prog X.w) X.A (f (.int i t) (.int j u)) Q E s) :
    OpR X f (rI0 fun i j => .bl (g i j)) := by
  intro pins s σ H x y v u Q I rx ry h
  obtain ⟨i, j, rfl, rfl, q⟩ := h
  obtain ⟨t, rfl⟩ := rx
  obtain ⟨t', rfl⟩ := ry
  exact rule i j t t' s _ _ ⟨.bl (g i j), H, I, rfl, q⟩

def CDiv (i j : Int) : Prop := 0 < j ∧ j < 1073741824
def CPow (i j : Int) : Prop := 0 ≤ j ∧ j ≤ 1000000 ∧ i.natAbs < 2 ^ 64
theorem op_add : OpR X (binaryOp .Add) (rI0 fun i j => .int (i + j)) := opI0 fun _ _ _ _ _ _ _ q => add_int q
theorem op_sub : OpR X (binaryOp .Sub) (rI0 fun i j => .int (i - j)) := opI0 fun _ _ _ _ _ _ _ q => sub_int q
/-- // by a positive divisor -/
theorem op_fdiv : OpR X (binaryOp .FloorDiv) (rI CDiv fun i j => .int (i / j)) := opI fun i j _ _ _ _ _ hc q => by
  have h1 : (0 : Int) < j := hc.1
  have h2 : j < 1073741824 := hc.2
  exact floordiv_int (by omega) (by rw [Int.fdiv_eq_ediv_of_nonneg i (by omega)]; exact q) (.inl (PyProof.noPylong_small (by omega)))
/-- % by a positive divisor of any size -/
theorem op_mod : OpR X (binaryOp .Mod) (rI (fun _ j => 0 < j) fun i j => .int (i % j)) := opI fun i j _ _ _ _ _ hc q => by
  have h1 : (0 : Int) < j := hc
  exact mod_int' (by omega) (by rw [Int.fmod_eq_emod_of_nonneg i (by omega)]; exact q)
theorem op_pow : OpR X (binaryOp .Pow) (rI CPow fun i j => .int (i ^ j.toNat)) := opI fun _ _ _ _ _ _ _ hc q => pow_int_small hc.1 hc.2.1 hc.2.2 q
theorem unI {f : Value → Sem Value} {g : Int → Int}
    (rule : ∀ (i : Int) (t : Tok) (s : Shared) (Q : Value → Shared → Prop) (E : Value → Shared → Prop), Q (.int (g i) s.toks) { s with toks := s.toks + 1 } → wpAny (model X.prog X.w) X.A (f (.int i t)) Q E s) :
    UnR X f (rU fun i => .int (g i)) := by
  intro pins s σ H x v Q I rx h
  obtain ⟨i, rfl, q⟩ := h
  obtain ⟨t, rfl⟩ := rx
  exact rule i t s _ _ ⟨.int (g i), H, I.tok _, ⟨_, rfl⟩, q⟩
theorem un_neg : UnR X (unaryOp .USub) (rU fun i => .int (-i)) := unI fun _ _ _ _ _ q => neg_int q
/-! ### bools among ints: n += (a < b) -/
end

/-! ### comparisons -/
/-- the scalars that == tells apart as data does -/
def scal : V → V → Bool
  | .non, .non => true | .non, .int _ => true | .int _, .non => true | .non, .bl _ => true | .bl _, .non => true | .non, .str _ => true | .str _, .non => true
  | .int _, .int _ => true | .bl _, .bl _ => true | .str _, .str _ => true | .byt _, .byt _ => true
  | .int _, .str _ => true | .str _, .int _ => true | .bl _, .str _ => true | .str _, .bl _ => true
  | _, _ => false
def rEq : R2 := fun x y H Q => scal x y = true ∧ Q (.bl (decide (x = y))) H
def rNe : R2 := fun x y H Q => scal x y = true ∧ Q (.bl (!decide (x = y))) H

theorem dec_int {i j : Int} : decide (V.int i = V.int j) = (i == j) := by
  rw [Bool.eq_iff_iff]
  simp
theorem dec_bl {i j : Bool} : decide (V.bl i = V.bl j) = (i == j) := by
  rw [Bool.eq_iff_iff]
  simp
theorem dec_str {i j : Str} : decide (V.str i = V.str j) = (i == j) := by
  rw [Bool.eq_iff_iff]
  simp
theorem dec_byt {i j : Array UInt8} : decide (V.byt i = V.byt j) = (i.toList == j.toList) := by
  rw [Bool.eq_iff_iff]
  cases i
  cases j
  simp

section
variable {X : Cx} {a b c : Expr} {ta tb tc : TE} {pos : Pos}
theorem fin_bl {pins : List (Addr × Obj)} {σ : St} {H : Hp} {s : Shared} {Q : VK} {k k' : Bool} (I : Inv X pins σ H s) (q : Q (.bl k) H) (e : k = k') : EP X pins σ Q (.bool k') s := by
  subst e
  exact ⟨.bl k, H, I, rfl, q⟩
theorem op_eq : OpR X (compareOp .Eq) rEq := by
  intro pins s σ H x y v u Q I rx ry h
  obtain ⟨hs, q⟩ := h
  cases x with
  | non =>
    cases rx
    cases y with
    | non => cases ry; exact PySem.EqNone.eq_none_none (fin_bl I q (by simp))
    | bl j => cases ry; exact PySem.EqNone.eq_none_bool (fin_bl I q (by simp))
    | int j => obtain ⟨t', rfl⟩ := ry; exact PySem.EqNone.eq_none_int (fin_bl I q (by simp))
    | str j => obtain ⟨t', rfl⟩ := ry; exact PySem.EqNone.eq_none_str (fin_bl I q (by simp))
    | _ => exact absurd (show false = true from hs) Bool.false_ne_true
  | bl i =>
    cases rx
    cases y with
    | non => cases ry; exact PySem.EqNone.eq_bool_none (fin_bl I q (by simp))
    | bl j => cases ry; exact eq_bool (fin_bl I q dec_bl)
    | str j => obtain ⟨t', rfl⟩ := ry; exact PySem.EqMixed.eq_bool_str (fin_bl I q (by simp))
    | _ => exact absurd (show false = true from hs) Bool.false_ne_true
  | int i =>
    obtain ⟨t, rfl⟩ := rx
    cases y with
    | non => cases ry; exact PySem.EqNone.eq_int_none (fin_bl I q (by simp))
    | int j => obtain ⟨t', rfl⟩ := ry; exact eq_int (fin_bl I q dec_int)
    | str j => obtain ⟨t', rfl⟩ := ry; exact PySem.EqMixed.eq_int_str (fin_bl I q (by simp))
    | _ => exact absurd (show false = true from hs) Bool.false_ne_true
  | str i =>
    obtain ⟨t, rfl⟩ := rx
    cases y with
    | non => cases ry; exact PySem.EqNone.eq_str_none (fin_bl I q (by simp))
    | bl j => cases ry; exact PySem.EqMixed.eq_str_bool (fin_bl I q (by simp))
    | int j => obtain ⟨t', rfl⟩ := ry; exact PySem.EqMixed.eq_str_int (fin_bl I q (by simp))
    | str j => obtain ⟨t', rfl⟩ := ry; exact eq_str (fin_bl I q dec_str)
    | _ => exact absurd (show false = true from hs) Bool.false_ne_true
  | byt i =>
    obtain ⟨t, rfl⟩ := rx
    cases y with
    | byt j => obtain ⟨t', rfl⟩ := ry; exact PySem.W.eq_bytes (fin_bl I q dec_byt)
    | _ => exact absurd (show false = true from hs) Bool.false_ne_true
  | _ => cases y <;> exact absurd (show false = true from hs) Bool.false_ne_true
theorem op_ne : OpR X (compareOp .NotEq) rNe := by
  intro pins s σ H x y v u Q I rx ry h
  obtain ⟨hs, q⟩ := h
  cases x with
  | non =>
    cases rx
    cases y with
    | non => cases ry; exact PySem.EqNone.ne_none_none (fin_bl I q (by simp))
    | bl j => cases ry; exact PySem.EqNone.ne_none_bool (fin_bl I q (by simp))
    | int j => obtain ⟨t', rfl⟩ := ry; exact PySem.EqNone.ne_none_int (fin_bl I q (by simp))
    | str j => obtain ⟨t', rfl⟩ := ry; exact PySem.EqNone.ne_none_str (fin_bl I q (by simp))
    | _ => exact absurd (show false = true from hs) Bool.false_ne_true
  | bl i =>
    cases rx
    cases y with
    | non => cases ry; exact PySem.EqNone.ne_bool_none (fin_bl I q (by simp))
    | bl j => cases ry; exact ne_bool (fin_bl I q (congrArg not dec_bl))
    | str j => obtain ⟨t', rfl⟩ := ry; exact PySem.EqMixed.ne_bool_str (fin_bl I q (by simp))
    | _ => exact absurd (show false = true from hs) Bool.false_ne_true
  | int i =>
    obtain ⟨t, rfl⟩ := rx
    cases y with
    | non => cases ry; exact PySem.EqNone.ne_int_none (fin_bl I q (by simp))
    | int j => obtain ⟨t', rfl⟩ := ry; exact ne_int (fin_bl I q (congrArg not dec_int))
    | str j => obtain ⟨t', rfl⟩ := ry; exact PySem.EqMixed.ne_int_str (fin_bl I q (by simp))
    | _ => exact absurd (show false = true from hs) Bool.false_ne_true
  | str i =>
    obtain ⟨t, rfl⟩ := rx
    cases y with
    | non => cases ry; exact PySem.EqNone.ne_str_none (fin_bl I q (by simp))
    | bl j => cases ry; exact PySem.EqMixed.ne_str_bool (fin_bl I q (by simp))
    | int j => obtain ⟨t', rfl⟩ := ry; exact PySem.EqMixed.ne_str_int (fin_bl I q (by simp))
    | str j => obtain ⟨t', rfl⟩ := ry; exact ne_str (fin_bl I q (congrArg not dec_str))
    | _ => exact absurd (show false = true from hs) Bool.false_ne_true
  | byt i =>
    obtain ⟨t, rfl⟩ := rx
    cases y with
    | byt j => obtain ⟨t', rfl⟩ := ry; exact PySem.W.ne_bytes (fin_bl I q (congrArg not dec_byt))
    | _ => exact absurd (show false = true from hs) Bool.false_ne_true
  | _ => cases y <;> exact absurd (show false = true from hs) Bool.false_ne_true

theorem op_lt : OpR X (compareOp .Lt) (rI0 fun i j => .bl (decide (i < j))) := opB0 fun _ _ _ _ _ _ _ q => lt_int q
theorem op_gt : OpR X (compareOp .Gt) (rI0 fun i j => .bl (decide (j < i))) := opB0 fun _ _ _ _ _ _ _ q => gt_int q
theorem nomark (b : Expr) {op : CmpOp} (h : op ≠ .In := by decide) (h2 : op ≠ .NotIn := by decide) : behindInMarks op b = false := by
  have e1 : (op == CmpOp.In) = false := by cases op <;> first | rfl | exact absurd rfl h
  have e2 : (op == CmpOp.NotIn) = false := by cases op <;> first | rfl | exact absurd rfl h2
  cases b <;> simp [behindInMarks, e1, e2]
/-- a comparison as a value; hm: nomark b, or (for in, not in) by with_unfolding_all rfl -/
theorem pe_cmpR {op : CmpOp} {r : R2} (ho : OpR X (compareOp op) r) (ha : PE X a ta) (hb : PE X b tb) (hm : behindInMarks op b = false) : PE X (.Compare a [op] [b] pos) (tOp r ta tb) := by
  intro pins s σ H Q I h
  exact wpAny_Compare1 (binT ha hb I h fun v u s2 x y H2 I2 rx ry q => ho pins s2 σ H2 x y v u Q I2 rx ry q) hm
/-- a reading of a value as a test -/
def tTest (t : TE) : TT := fun σ H Q => t σ H fun x H' => ∃ k, x = .bl k ∧ Q k H'
theorem pt_cmpR {op : CmpOp} {r : R2} (ho : OpR X (compareOp op) r) (ha : PE X a ta) (hb : PE X b tb) (hm : behindInMarks op b = false) : PT X (.Compare a [op] [b] pos) (tTest (tOp r ta tb)) := by
  intro pins s σ H Q I h
  refine wpAny_isTrue_Compare1 (thn (ha pins s σ H _ I h) fun v s1 ⟨x, H1, I1, r1, q1⟩ => thn (hb pins s1 σ H1 _ I1 q1) fun u s2 ⟨y, H2, I2, r2, q2⟩ =>
    thn (ho pins s2 σ H2 x y v u _ I2 r1 r2 q2) fun c s3 ⟨z, H3, I3, r3, k, e, q3⟩ => ?_) hm
  subst e
  cases r3
  exact wpAny_truthy_bool ⟨H3, I3, q3⟩
/-! ### truth -/
theorem line63 : (sizeLine : Nat) < 2 ^ 63 := by rw [sizeLine_eq]; decide
/-! ### strs and bytes -/
/-! ### scalar builtins, by CallR -/
theorem vals1 {x : V} {us : List Value} (r : Vals [x] us) : ∃ u, us = [u] ∧ RelV x u := by
  cases r with
  | cons r1 r2 => cases r2; exact ⟨_, rfl, r1⟩
theorem vals2 {x y : V} {us : List Value} (r : Vals [x, y] us) : ∃ u w', us = [u, w'] ∧ RelV x u ∧ RelV y w' := by
  cases r with
  | cons r1 r2 =>
    cases r2 with
    | cons r3 r4 => cases r4; exact ⟨_, _, rfl, r1, r3⟩
theorem call_abs : CallR X (.builtin "abs") (fun xs H Q => ∃ i, xs = [.int i] ∧ Q (.int (if i < 0 then -i else i)) H) := by
  intro pins s σ H xs us Q I r h
  obtain ⟨i, rfl, q⟩ := h
  obtain ⟨u, rfl, t, rfl⟩ := vals1 r
  exact call_abs_int fun u tk => ⟨.int (if i < 0 then -i else i), H, I.tok _, ⟨_, rfl⟩, q⟩
theorem call_int1 : CallR X (.type "int") (fun xs H Q => (∃ i, xs = [.int i] ∧ Q (.int i) H) ∨ ∃ k, xs = [.bl k] ∧ Q (.int (if k then 1 else 0)) H) := by
  intro pins s σ H xs us Q I r h
  rcases h with ⟨i, rfl, q⟩ | ⟨k, rfl, q⟩
  · obtain ⟨u, rfl, t, rfl⟩ := vals1 r
    exact call_int_int ⟨.int i, H, I, ⟨_, rfl⟩, q⟩
  · obtain ⟨u, rfl, r1⟩ := vals1 r
    cases r1
    exact call_int_bool ⟨.int (if k then 1 else 0), H, I.tok _, ⟨_, rfl⟩, q⟩
end
end L2

namespace L2
open PySem PySem.Spec PyProof.Rows

/-! ### an instance, its attributes a map -/
structure ObjM (h : Heap) (x dx C : Addr) (mA : Str → Option Value) : Prop where
  obj : h.get? x = some (PySem.W.instObj C dx)
  ns : h.Ns1 dx mA
  ne : dx ≠ x

theorem lookIn_ns {h : Heap} {dx : Addr} {mA : Str → Option Value} (n : h.Ns1 dx mA) : ∃ od, h.get? dx = some od ∧ ∀ name, PySem.W.lookIn name od = some (mA name) := by
  obtain ⟨o, es, ep, ho, hd, hk, _, hm⟩ := n
  refine ⟨o, ho, fun name => ?_⟩
  have e := hm name
  unfold nsFind findBy at e
  rw [← Array.find?_toList] at e
  unfold PySem.W.lookIn
  rw [hd]
  dsimp only
  split
  · rename_i y q
    rw [q] at e
    exact congrArg some e
  · rename_i q
    rw [q] at e
    have a : es.toList.any (·.refKey) = false := by
      rw [List.any_eq_false]
      intro y hy
      obtain ⟨z, t, hkey⟩ := hk y (Array.mem_toList_iff.mp hy)
      simp [DictEntry.refKey, hkey]
    have a' : ¬ es.toList.any (·.refKey) = true := by rw [a]; exact Bool.false_ne_true
    rw [if_neg a']
    exact congrArg some e

theorem ObjM.look {h : Heap} {x dx C : Addr} {mA : Str → Option Value} (I : ObjM h x dx C mA) : ∃ od, PySem.W.InstAt h x (PySem.W.instObj C dx) C (some od) ∧ ∀ name, PySem.W.lookIn name od = some (mA name) :=
  let ⟨od, ho, hl⟩ := lookIn_ns I.ns
  ⟨od, ⟨I.obj, rfl, rfl, ho⟩, hl⟩

section
variable {prog : Program} {w : World} {A : Around} {E : Value → Shared → Prop} {s : Shared} {K : PySem.W.Frag} {x dx C f : Addr} {mA : Str → Option Value} {name : Str} {v : Value}

theorem get_map {expr : Bool} {Q : Value → Shared → Prop} (X : K.In s.heap) (I : ObjM s.heap x dx C mA) (hg : PySem.W.plainGet K C name = true) (hh : PySem.W.hasDictIn K C = true)
    (ha : PySem.W.findIn K (.ref C) name = some none) (hv : mA name = some v) (hv' : PySem.W.handedIn v = true) (h : Q v { s with toks := s.toks + 1 }) :
    wpAny (model prog w) A (getAttr (.ref x) name expr) Q E s := by
  obtain ⟨od, J, hl⟩ := I.look
  exact PySem.W.get_value X J (PySem.W.plainGet_of hg).1 (PySem.W.findObj_own hh ha rfl (by rw [hl, hv])) hv' h

theorem get_meth {pl : Sem Bool} {Q : Value × List Value → Shared → Prop} (X : K.In s.heap) (I : ObjM s.heap x dx C mA) (hg : PySem.W.plainGet K C name = true)
    (hf : PySem.W.findIn K (.ref C) name = some (some (.ref f))) (ht : PySem.W.isFn K (.ref f) = true) (hv : mA name = none) (h : Q (.ref f, [.ref x]) s) :
    wpAny (model prog w) A (getMethod (.ref x) name pl) Q E s := by
  obtain ⟨od, J, hl⟩ := I.look
  exact PySem.W.method_fn X J (PySem.W.plainGet_of hg).1 (PySem.W.plainGet_of hg).2 hf (beq_iff_eq.mp ht) (by show (PySem.W.lookIn name od).map (·.isSome) = some false; rw [hl, hv]; rfl) h

theorem set_map {ns : List Str} {Q : Unit → Shared → Prop} (X : K.In s.heap) (I : ObjM s.heap x dx C mA)
    (hs : PySem.W.findIn K (.ref C) "__setattr__" = some (some (.builtin "object.__setattr__"))) (hp : PySem.W.plainOver K C = true) (ht : PySem.W.takerIn K C name = some none) (hh : PySem.W.hasDictIn K C = true)
    (hw : PySem.Within mA ns) (hsz : ns.length ≤ sizeLine)
    (h : ∀ h', ObjM h' x dx C (fun y => if y = name then some v else mA y) → Heap.SameBut dx s.heap h' → Q () { s with heap := h', toks := s.toks + 2 }) :
    wpAny (model prog w) A (setAttr (.ref x) name v) Q E s := by
  obtain ⟨od, J, hl⟩ := I.look
  refine PySem.W.set_plain X J hs (PySem.W.osa_open (s := { s with toks := s.toks + 1 }) (r := none) X J hp ht fun b => ?_)
  obtain ⟨cd, hc, hd'⟩ := PySem.W.any_some hh
  have hx : s.heap.get? x = some ⟨.ref C, some dx, .plain, #[]⟩ := I.obj
  refine wpAny_bind (wpAny_pure (wpAny_bind (wpAny_bind (wpAny_loadPart hx (wpAny_bind (PySem.W.Looks.here (s := { s with toks := s.toks + 1 }) (PySem.W.looks_clsIn X hc) ?_))))))
  rw [hd']
  refine wpAny_pure (a := some dx) (wpAny_bind (wpAny_pure (wpAny_bind ?_)))
  refine wpAny_nsSet1 (s := { s with toks := s.toks + 1 }) I.ns fun h' hn2 hs2 => ?_
  obtain ⟨oD, esD, epD, hoD, hdD, hcD⟩ := hn2.count (PySem.Within.cons name v hw)
  refine wpAny_bind (wpAny_lookBehind hoD (by rw [hdD]; exact pastItsLine_dict (Nat.le_trans hcD (by rw [List.length_cons]; omega))) ?_)
  exact wpAny_pure (h _ ⟨(hs2.2 _ (Ne.symm I.ne)).trans I.obj, hn2, I.ne⟩ hs2)

/-- C(..): the dict at the heap's end, the instance behind it; then its __init__ -/
theorem make_map {R : Result → Shared → Prop} {vs : List Value} {kw : List (Str × Value)} (X : K.In s.heap) (hm : PySem.W.makesIn K C = true)
    (hi : PySem.W.findIn K (.ref C) "__init__" = some (some (.ref f))) (hf : PySem.W.typeIn K (.ref f) = some (.type "function"))
    (h : codeAny (model prog w) (A.under (.builtin "type.__call__" ⟨.ref C :: vs, kw⟩)) (.call (.ref f) ⟨.ref (s.heap.objs.size + 1) :: vs, kw⟩) (PySem.W.InitBack (s.heap.objs.size + 1) R)
      { s with heap := (s.heap.push PySem.W.emptyDict).push (PySem.W.instObj C s.heap.objs.size) }) :
    codeAny (model prog w) A (.call (.ref C) ⟨vs, kw⟩) R s := by
  obtain ⟨hh, g, d, t, os⟩ := s
  exact PySem.W.make_core (PySem.W.makes_of X hm) (PySem.W.looks_findIn X hi) (fun self => PySem.W.bind_fn X self hf) (.inl rfl) h
end

/-! ### the attributes as a list of pairs -/
def putF (f : Str) (v : V) : List (Str × V) → List (Str × V)
  | [] => [(f, v)]
  | (g, x) :: r => if g = f then (g, v) :: r else (g, x) :: putF f v r
theorem lookup_putF (f g : Str) (v : V) : ∀ fs : List (Str × V), (putF f v fs).lookup g = if g = f then some v else fs.lookup g
  | [] => by
    show List.lookup g [(f, v)] = _
    by_cases h : g = f
    · have hb : (g == f) = true := beq_iff_eq.mpr h
      simp only [List.lookup, hb, if_pos h]
    · have hb : (g == f) = false := beq_eq_false_iff_ne.mpr h
      simp only [List.lookup, hb, if_neg h]
  | (k, x) :: r => by
    have ih := lookup_putF f g v r
    rw [show putF f v ((k, x) :: r) = (if k = f then (k, v) :: r else (k, x) :: putF f v r) from rfl]
    by_cases hk : k = f
    · rw [if_pos hk]
      by_cases h : g = k
      · have hb : (g == k) = true := beq_iff_eq.mpr h
        simp only [List.lookup, hb, if_pos (h.trans hk)]
      · have hb : (g == k) = false := beq_eq_false_iff_ne.mpr h
        simp only [List.lookup, hb, if_neg (fun e : g = f => h (e.trans hk.symm))]
    · rw [if_neg hk]
      by_cases h : g = k
      · have hb : (g == k) = true := beq_iff_eq.mpr h
        simp only [List.lookup, hb, if_neg (fun e : g = f => hk (h.symm.trans e))]
      · have hb : (g == k) = false := beq_eq_false_iff_ne.mpr h
        simp only [List.lookup, hb]
        exact ih
theorem keys_putF (f : Str) (v : V) : ∀ fs : List (Str × V), f ∈ (putF f v fs).map (·.1) ∧ ∀ g, g ∈ fs.map (·.1) → g ∈ (putF f v fs).map (·.1)
  | [] => ⟨by simp [putF], fun g h => by simp at h⟩
  | (k, x) :: r => by
    obtain ⟨i1, i2⟩ := keys_putF f v r
    rw [show putF f v ((k, x) :: r) = (if k = f then (k, v) :: r else (k, x) :: putF f v r) from rfl]
    by_cases hk : k = f
    · rw [if_pos hk]
      subst hk
      exact ⟨by simp, fun g h => by simpa using h⟩
    · rw [if_neg hk]
      refine ⟨?_, fun g h => ?_⟩
      · rw [List.map_cons]
        exact List.mem_cons_of_mem _ i1
      · rw [List.map_cons] at h ⊢
        rcases List.mem_cons.mp h with e | e
        · exact List.mem_cons.mpr (.inl e)
        · exact List.mem_cons_of_mem _ (i2 g e)
theorem length_putF (f : Str) (v : V) : ∀ fs : List (Str × V), (putF f v fs).length ≤ fs.length + 1
  | [] => by simp [putF]
  | (k, x) :: r => by
    have ih := length_putF f v r
    rw [show putF f v ((k, x) :: r) = (if k = f then (k, v) :: r else (k, x) :: putF f v r) from rfl]
    by_cases hk : k = f
    · rw [if_pos hk, List.length_cons, List.length_cons]; omega
    · rw [if_neg hk, List.length_cons, List.length_cons]; omega

theorem RelO.some_of {v : V} {o : Option Value} (r : RelO (some v) o) : ∃ u, o = some u ∧ RelV v u := by
  cases o with
  | none => exact (show False from r).elim
  | some u => exact ⟨u, rfl, r⟩
theorem RelO.none_of {o : Option Value} (r : RelO none o) : o = none := by
  cases o with
  | none => rfl
  | some u => exact (show False from r).elim
theorem handed_of {v : V} {u : Value} (r : RelV v u) : PySem.W.handedIn u = true := by
  cases v with
  | non => cases (show u = Value.none from r); rfl
  | bl b => cases (show u = Value.bool b from r); rfl
  | int i => obtain ⟨t, e⟩ := (show ∃ t, u = Value.int i t from r); cases e; rfl
  | str x => obtain ⟨t, e⟩ := (show ∃ t, u = Value.str x t from r); cases e; rfl
  | byt b => obtain ⟨t, e⟩ := (show ∃ t, u = Value.bytes b t from r); cases e; rfl
  | flt b => obtain ⟨t, e⟩ := (show ∃ t, u = Value.float b t from r); cases e; rfl
  | ref a => cases (show u = Value.ref a from r); rfl
  | ty n => cases (show u = Value.type n from r); rfl

section
variable {P : Program} {w : World} {H H' : Hp} {h h' : Heap} {a C dx : Addr} {fs fs' : List (Str × V)}
theorem ins_get (hok : HOk P w H h) (e : H a = some (.ins C dx fs)) : ∃ mA, ObjM h a dx C mA ∧ (∀ f, RelO (fs.lookup f) (mA f)) ∧ PySem.Within mA (fs.map (·.1)) ∧ fs.length ≤ 1000 ∧ H dx = some (.own a) := by
  obtain ⟨d, z, ne, ob, mA, n, r, q⟩ := (show ObjOk P w H h a (.ins C dx fs) from hok a _ e)
  exact ⟨mA, ⟨ob, n, ne⟩, r, q, z, d⟩
end

/-! ### what of the text a class must have -/
structure Cls (K : PySem.W.Frag) (C : Addr) : Prop where
  pg : PySem.W.plainGet K C Str.empty = true
  hd : PySem.W.hasDictIn K C = true
  po : PySem.W.plainOver K C = true
  sa : PySem.W.findIn K (.ref C) "__setattr__" = some (some (.builtin "object.__setattr__"))
theorem Cls.get {K : PySem.W.Frag} {C : Addr} (c : Cls K C) (f : Str) : PySem.W.plainGet K C f = true := c.pg
/-- no class of it has the name -/
def NoAttr (K : PySem.W.Frag) (C : Addr) (f : Str) : Prop := PySem.W.findIn K (.ref C) f = some none
theorem NoAttr.taker {K : PySem.W.Frag} {C : Addr} {f : Str} (n : NoAttr K C f) : PySem.W.takerIn K C f = some none := by
  unfold PySem.W.takerIn
  rw [show PySem.W.findIn K (.ref C) f = some none from n]
  rfl
/-- a method: a plain def of the class or of one above it -/
structure Meth (K : PySem.W.Frag) (C : Addr) (m : Str) (f : Addr) : Prop where
  at_ : PySem.W.findIn K (.ref C) m = some (some (.ref f))
  fn : PySem.W.isFn K (.ref f) = true
  kp : PySem.W.keepIn K (.ref f) = true

section
variable {X : Cx} {pins : List (Addr × Obj)} {σ : St} {H : Hp} {s : Shared} {a C dx : Addr} {fs : List (Str × V)} {f : Str} {v : V} {A : Around} {E : Value → Shared → Prop}

theorem getattr_ok {b : Bool} {Q : Value → Shared → Prop} (I : Inv X pins σ H s) (e : H a = some (.ins C dx fs)) (c : Cls X.K C) (n : NoAttr X.K C f) (l : fs.lookup f = some v)
    (h : ∀ u s', Inv X pins σ H s' → RelV v u → Q u s') : wpAny (model X.prog X.w) A (getAttr (.ref a) f b) Q E s := by
  obtain ⟨mA, O, r, _, _, _⟩ := ins_get I.hok e
  obtain ⟨u, hu, ru⟩ := RelO.some_of (v := v) (o := mA f) (by rw [← l]; exact r f)
  exact get_map I.kIn O (c.get f) c.hd n hu (handed_of ru) (h u _ (I.tok _) ru)

theorem getmeth_ok {m : Str} {g : Addr} {pl : Sem Bool} {Q : Value × List Value → Shared → Prop} (I : Inv X pins σ H s) (e : H a = some (.ins C dx fs)) (c : Cls X.K C) (k : Meth X.K C m g) (l : fs.lookup m = none)
    (h : Q (.ref g, [.ref a]) s) : wpAny (model X.prog X.w) A (getMethod (.ref a) m pl) Q E s := by
  obtain ⟨mA, O, r, _, _, _⟩ := ins_get I.hok e
  have hn : mA m = none := RelO.none_of (by rw [← l]; exact r m)
  exact get_meth I.kIn O (c.get m) k.at_ k.fn hn h

theorem setattr_ok {y : V} {u : Value} {Q : Unit → Shared → Prop} (I : Inv X pins σ H s) (e : H a = some (.ins C dx fs)) (c : Cls X.K C) (n : NoAttr X.K C f) (hl : fs.length < 1000) (ry : RelV y u)
    (h : ∀ s', Inv X pins σ (upd H a (.ins C dx (putF f y fs))) s' → Q () s') : wpAny (model X.prog X.w) A (setAttr (.ref a) f u) Q E s := by
  obtain ⟨mA, O, r, wi, _, ho⟩ := ins_get I.hok e
  have hz : (fs.map (·.1)).length ≤ sizeLine := by rw [List.length_map, sizeLine_eq]; omega
  refine set_map I.kIn O c.sa c.po n.taker c.hd wi hz fun h' O' sb => h _ ?_
  have hd : ∃ o, h'.get? dx = some o := let ⟨o, _, _, e', _⟩ := O'.ns; ⟨o, e'⟩
  refine I.write (x := a) (e := dx) (by rw [e]; exact True.intro) (.inr ho) (fun b q hb z => (sb.2 b hb).trans z) hd ?_
  refine ⟨by rw [upd_ne O.ne]; exact ho, ?_, O.ne, O'.obj, _, O'.ns, fun g => ?_, fun g hg => ?_⟩
  · have := length_putF f y fs; omega
  · show RelO ((putF f y fs).lookup g) (if g = f then some u else mA g)
    rw [lookup_putF]
    by_cases q : g = f
    · rw [if_pos q, if_pos q]; exact ry
    · rw [if_neg q, if_neg q]; exact r g
  · by_cases q : g = f
    · rw [q]; exact (keys_putF f y fs).1
    · refine (keys_putF f y fs).2 g (wi g fun z => hg ?_)
      show (if g = f then some u else mA g) = none
      rw [if_neg q]; exact z

/-- a new instance, tracked, without attributes -/
theorem Inv.made (I : Inv X pins σ H s) : Inv X pins σ (upd (upd H s.heap.objs.size (.own (s.heap.objs.size + 1))) (s.heap.objs.size + 1) (.ins C s.heap.objs.size []))
    { s with heap := (s.heap.push PySem.W.emptyDict).push (PySem.W.instObj C s.heap.objs.size) } := by
  have e1 : (s.heap.push PySem.W.emptyDict).get? s.heap.objs.size = some PySem.W.emptyDict := Heap.get?_push_size s.heap rfl
  have e2 : ((s.heap.push PySem.W.emptyDict).push (PySem.W.instObj C s.heap.objs.size)).get? (s.heap.objs.size + 1) = some (PySem.W.instObj C s.heap.objs.size) := by
    have := Heap.get?_push_size (s.heap.push PySem.W.emptyDict) (o := PySem.W.instObj C s.heap.objs.size) rfl
    rwa [Heap.size_push] at this
  have e3 : (s.heap.push PySem.W.emptyDict).Ns s.heap.objs.size (fun _ => none) := ⟨PySem.W.emptyDict, #[], _, e1, rfl, (fun e he => absurd he (by simp)), fun _ => rfl⟩
  have I1 := I.laid (a := s.heap.objs.size) (o := .own (s.heap.objs.size + 1)) (h' := s.heap.push PySem.W.emptyDict) (t' := s.toks) (fun b u q => Heap.get?_push_of_some _ q) (Nat.le_refl _) ⟨_, e1⟩
  refine I1.laid (a := s.heap.objs.size + 1) (o := .ins C s.heap.objs.size []) (t' := s.toks) (fun b u q => Heap.get?_push_of_some _ q) (Nat.le_of_eq (Heap.size_push _ _)) ?_
  have ne : s.heap.objs.size ≠ s.heap.objs.size + 1 := Nat.ne_of_lt (Nat.lt_succ_self _)
  refine ⟨by rw [upd_ne ne, upd_same], Nat.zero_le _, ne, e2, fun _ => none, (Heap.Ns1.of_empty e3).at fun o q => Heap.get?_push_of_some _ q, fun _ => True.intro, fun y hy => absurd rfl hy⟩

/-- e.f where nothing but the object is asked: through attributeBase (super) and the last hold -/
theorem attr_of {prog : Program} {w : World} {env : Env} {e : Expr} {f : Str} {pos : Pos} {s : Shared} {Q : Value → Shared → Prop} (hb : attributeBase e f env (eval e env) = eval e env)
    (h : wpAny (model prog w) A (eval e env) (fun o s₁ => wpAny (model prog w) A (getAttr o f true) Q E s₁) E s) : wpAny (model prog w) A (eval (.Attribute e f pos) env) Q E s :=
  Attribute_any_ h (by rw [arm_eval_Attribute, hb])
end

/-! ### readings and rules -/
/-- e.f, an attribute of the instance -/
def tFld (K : PySem.W.Frag) (ta : TE) (f : Str) : TE := fun σ H Q => ta σ H fun x H1 => ∃ a C dx fs v, x = .ref a ∧ H1 a = some (.ins C dx fs) ∧ Cls K C ∧ NoAttr K C f ∧ fs.lookup f = some v ∧ Q v H1
/-- e.f = value -/
def sFld (K : PySem.W.Frag) (ta tv : TE) (f : Str) : TS := fun D σ H => tv σ H fun y H1 => ta σ H1 fun x H2 => ∃ a C dx fs, x = .ref a ∧ H2 a = some (.ins C dx fs) ∧ Cls K C ∧ NoAttr K C f ∧ fs.length < 1000 ∧
  D.nx σ (upd H2 a (.ins C dx (putF f y fs)))
section
variable {X : Cx} {o e value : Expr} {f : Str} {pos pos' tpos : Pos} {ta tv : TE}
theorem pe_fld (he : PE X e ta) (hb : attributeBase e f X.env (eval e X.env) = eval e X.env) : PE X (.Attribute e f pos) (tFld X.K ta f) := by
  intro pins s σ H Q I h
  refine attr_of hb (thn (he pins s σ H _ I h) fun u s1 hq0 => ?_)
  obtain ⟨x, H1, I1, rx, a, C, dx, fs, v, ex, ea, c, n, l, q⟩ := hq0
  subst ex
  obtain rfl : u = Value.ref a := rx
  exact getattr_ok I1 ea c n l fun u' s2 I2 ru => ⟨v, H1, I2, ru, q⟩
theorem ps_fld (ha : PE X o ta) (hv : PE X value tv) (hs : swapsWith value (some (.Attribute o f pos')) pos.line X.env = pure false) : PS X (.Assign [.Attribute o f pos'] value pos) (sFld X.K ta tv f) := by
  intro pins s σ H D I h
  refine plainObj_wpAny_Assign_Attribute (thn (hv pins s σ H _ I h) fun u s1 ⟨y, H1, I1, ry, q⟩ => thn (ha pins s1 σ H1 _ I1 q) fun ov s2 hq0 => ?_) hs
  obtain ⟨x, H2, I2, rx, a, C, dx, fs, ex, ea, c, n, l, q2⟩ := hq0
  subst ex
  obtain rfl : ov = Value.ref a := rx
  exact setattr_ok I2 ea c n l ry fun s3 I3 => ⟨σ, _, I3, q2⟩
end

/-! ### isinstance -/
section
variable {X : Cx} {pins : List (Addr × Obj)} {σ : St} {H : Hp} {s : Shared} {A : Around} {E : Value → Shared → Prop} {Q : Value → Shared → Prop} {c : Value} {b : Bool}
end
end L2

namespace L2
open PySem PySem.Spec PyProof.Rows

/-! ### room -/
structure Room (k : Nat) (A : Around) : Prop where
  hd : A.handled = none
  dp : A.depth + 3 * k + 5 < recursionLimit
  un : A.units + 16 * k + 200 < cLine
theorem rm {d a b k m L : Nat} (hab : a ≤ b) (h : d + b * (k + 1) + m < L) : d + a + b * k + m < L := by
  rw [Nat.mul_succ] at h
  exact Nat.lt_of_le_of_lt (Nat.add_le_add_right (by rw [Nat.add_assoc, Nat.add_comm a]; exact Nat.add_le_add_left (Nat.add_le_add_left hab _) _) m) h
theorem Room.mono {j k : Nat} {A : Around} (r : Room k A) (h : j ≤ k) : Room j A := ⟨r.hd, by have := r.dp; exact Nat.lt_of_le_of_lt (Nat.add_le_add_right (Nat.add_le_add_left (Nat.mul_le_mul_left 3 h) _) 5) this, by have := r.un; exact Nat.lt_of_le_of_lt (Nat.add_le_add_right (Nat.add_le_add_left (Nat.mul_le_mul_left 16 h) _) 200) this⟩
theorem Room.deeper {k : Nat} {A : Around} (r : Room (k + 1) A) (env : Env) : Room k (A.deeper env) :=
  ⟨r.hd, by have := r.dp; show A.depth + 1 + 3 * k + 5 < _; exact rm (by decide) this, by have := r.un; show A.units + 3 + 16 * k + 200 < _; exact rm (by decide) this⟩
theorem make_depth {A : Around} {C : Addr} {us : List Value} {kw : List (Str × Value)} : (A.under (.builtin "type.__call__" ⟨.ref C :: us, kw⟩)).depth = A.depth + 1 := by
  first | rfl | simp [Around.under, Code.weight, Code.isCreation, Code.isGuard, Code.isCaller, Code.frames, Code.isFrame, guardIds]
theorem make_units {A : Around} {C : Addr} {us : List Value} {kw : List (Str × Value)} : (A.under (.builtin "type.__call__" ⟨.ref C :: us, kw⟩)).units = A.units + 1 := by
  first | rfl | simp [Around.under, Code.cUnits, Code.frames, Code.isFrame]
theorem Room.make {k : Nat} {A : Around} (r : Room (k + 1) A) (C : Addr) (us : List Value) (kw : List (Str × Value)) : Room k (A.under (.builtin "type.__call__" ⟨.ref C :: us, kw⟩)) :=
  ⟨r.hd, by have := r.dp; rw [make_depth]; exact rm (by decide) this, by have := r.un; rw [make_units]; exact rm (by decide) this⟩
theorem Room.depth {k : Nat} {A : Around} (r : Room k A) : A.depth < recursionLimit := by have := r.dp; exact Nat.lt_of_le_of_lt (Nat.le_trans (Nat.le_add_right _ _) (Nat.le_add_right _ _)) this
theorem Room.units {k : Nat} {A : Around} (r : Room k A) : A.units + 64 < cLine := by have := r.un; exact Nat.lt_of_le_of_lt (Nat.add_le_add (Nat.le_add_right _ _) (by decide)) this
/-! ### argument lists and displays -/
def tNil : TA := fun _ H Q => Q [] H
def tCons (ta : TE) (tr : TA) : TA := fun σ H Q => ta σ H fun x H1 => tr σ H1 fun xs H2 => Q (x :: xs) H2
section
variable {X : Cx} {e : Expr} {es : List Expr} {te : TE} {t : TA} {pos : Pos}
theorem pa_nil : PA X [] tNil := fun _ _ _ _ H Q I h => Calls.spliced_nil ⟨[], H, I, .nil, h⟩
theorem pa_cons (ha : PE X e te) (hr : PA X es t) (hs : starEach (e :: es) X.env = (false, eval e X.env) :: starEach es X.env := by rfl) : PA X (e :: es) (tCons te t) := by
  intro pos pins s σ H Q I h
  rw [hs]
  show wpAny _ _ (spliced ((false, eval e X.env) :: backTo pos (starEach es X.env))) _ _ s
  refine Calls.spliced_cons (thn (ha pins s σ H _ I h) fun u s1 hq0 => ?_)
  obtain ⟨x, H1, I1, r1, q1⟩ := hq0
  exact thn (hr pos pins s1 σ H1 _ I1 q1) fun us s2 ⟨xs, H2, I2, r2, q2⟩ => ⟨x :: xs, H2, I2, .cons r1 r2, q2⟩

def tLst (t : TA) : TE := fun σ H Q => t σ H fun xs H1 => xs.length ≤ sizeLine ∧ ∀ p, H1 p = none → Q (.ref p) (upd H1 p (.lst xs))
theorem pe_lst (h : PA X es t) : PE X (.List es pos) (tLst t) := by
  intro pins s σ H Q I hq
  refine wpAny_List_spliced (thn (h pos pins s σ H _ I hq) fun us s1 ⟨xs, H1, I1, r, z, q⟩ => ⟨by rw [← r.length]; exact z, ?_⟩)
  have hf : H1 s1.heap.objs.size = none := I1.hok.fresh (Nat.le_refl _)
  refine ⟨.ref s1.heap.objs.size, upd H1 s1.heap.objs.size (.lst xs), I1.laid (t' := s1.toks) (fun b u e => Heap.get?_push_of_some _ e) (Nat.le_refl _) ?_, rfl, q _ hf⟩
  exact ⟨z, us, 0, r, Heap.get?_push_size _ rfl⟩
end

/-! ### what a def promises -/
/-- a def's promise: the bound arguments in the parameters' order, the heap, the wanted end, the wanted exception -/
abbrev Sp := List V → Hp → VK → XK → Prop
/-- how an exception lies behind a call (file 08 gives it): the callers' frames, abstract heap and state ahead of the call, the wish, the exception, the state -/
abbrev CXT := List Env → Hp → Shared → XK → Value → Shared → Prop

/-- the state at a call -/
structure Env0 (P : Program) (w : World) (K : PySem.W.Frag) (mg : Str → Option Value) (base : Heap) (A : Around) (outer : List Env) (s : Shared) (H : Hp) : Prop where
  frames : A.frames = some outer
  mod : Mod K mg base
  bs : ∀ b o, base.get? b = some o → s.heap.get? b = some o ∧ H b = none
  bsz : base.objs.size ≤ s.heap.objs.size
  funs : s.heap.FunFrames base outer
  frf : ∀ b ∈ frs outer, H b = none
  hok : HOk P w H s.heap
  bare : AllBare s.gens
/-- a call's end -/
def CE (outer : List Env) (P : Program) (w : World) (H : Hp) (s : Shared) (Q : VK) (u : Value) (s' : Shared) : Prop :=
  ∃ v H', s'.os = s.os ∧ AllBare s'.gens ∧ Un (frs outer) [] H H' s.heap s'.heap ∧ HOk P w H' s'.heap ∧ RelV v u ∧ Q v H'
def CR (CX : CXT) (outer : List Env) (P : Program) (w : World) (H : Hp) (s : Shared) (Q : VK) (E : XK) (r : Result) (s' : Shared) : Prop :=
  match r with
  | .ok (.ret u) => CE outer P w H s Q u s'
  | .ok _ => False
  | .error e => CX outer H s E e s'
structure FnOk (P : Program) (w : World) (K : PySem.W.Frag) (mg : Str → Option Value) (base : Heap) (CX : CXT) (k : Nat) (f : Addr) (fd : FuncData) (ps : List Str) (sp : Sp) : Prop where
  len : ∀ vs H Q E, sp vs H Q E → vs.length = ps.length
  run : ∀ (A : Around) (outer : List Env) (s : Shared) (H : Hp) (args : Args) (us : List Value) (vs : List V) (Q : VK) (E : XK), Room k A → Env0 P w K mg base A outer s H → BindsTo s fd args (ps.zip us) → Vals vs us → sp vs H Q E →
    codeAny (model P w) A (.call (.ref f) args) (CR CX outer P w H s Q E) s
theorem Env0.make {P : Program} {w : World} {K : PySem.W.Frag} {mg : Str → Option Value} {base : Heap} {A : Around} {outer : List Env} {s : Shared} {H : Hp} (e : Env0 P w K mg base A outer s H) (C : Addr) (us : List Value) (kw : List (Str × Value)) :
    Env0 P w K mg base (A.under (.builtin "type.__call__" ⟨.ref C :: us, kw⟩)) outer s H := ⟨by first | exact e.frames | (simpa [Around.under, Code.envs, Code.isFrame, pushEnvs] using e.frames), e.mod, e.bs, e.bsz, e.funs, e.frf, e.hok, e.bare⟩
section
variable {X : Cx} {pins : List (Addr × Obj)} {σ : St} {H : Hp} {s s' : Shared}
/-- from a body: what a callee wants -/
theorem Inv.env0 (I : Inv X pins σ H s) : Env0 X.prog X.w X.K X.mg X.base X.A X.stack s H :=
  ⟨I.ok.frames, I.ok.mod, I.bs, Nat.le_trans I.ok.bsz I.sz, I.stack, I.stkFree, I.hok, I.bare⟩
/-- behind a call -/
theorem Inv.after {Q : VK} {u : Value} (I : Inv X pins σ H s) (h : CE X.stack X.prog X.w H s Q u s') : EP X pins σ Q u s' := by
  obtain ⟨v, H', os, bare, un, hok, r, q⟩ := h
  obtain ⟨hh, g, d, t, os'⟩ := s'
  obtain rfl : os' = s.os := os
  exact ⟨v, H', I.call (h' := hh) (g' := g) (d' := d) (t' := t) (ch := []) un hok bare (fun b z => absurd z (by simp)), r, q⟩
end

/-! ### calls -/
/-- f(..): the written arguments, then the defaults dvs; E: what is wanted of an exception -/
def tCall (sp : Sp) (dvs : List V) (E : XK) (t : TA) : TE := fun σ H Q => t σ H fun vs H1 => sp (vs ++ dvs) H1 Q E
/-- how the parameters are bound: us the positional arguments, kw the keywords' values by name, ds the defaults that fill up -/
def Binds (K : PySem.W.Frag) (fd : FuncData) (ps : List Str) (ds : List Value) : Prop :=
  ∀ (s : Shared) (us : List Value), K.In s.heap → (us ++ ds).length = ps.length → BindsTo s fd ⟨us, []⟩ (ps.zip (us ++ ds))
/-- every parameter is given -/
theorem Binds.all {K : PySem.W.Frag} {fd : FuncData} {ps : List Str} (h : ∀ us : List Value, us.length = ps.length → bindArgs fd ⟨us, []⟩ = pure (ps.zip us)) : Binds K fd ps [] := fun s us _ hl => by
  rw [List.append_nil] at hl ⊢
  exact .of_eq (h us hl)

/-- an exception of a callee reaches what this body wants of exceptions -/
def Passes (CX : CXT) (X : Cx) (E : XK) : Prop := ∀ (pins : List (Addr × Obj)) (σ : St) (H : Hp) (s : Shared) (e : Value) (s' : Shared), Inv X pins σ H s → CX X.stack H s E e s' → X.xe e s'

section
variable {X : Cx} {CX : CXT} {k : Nat} {f C : Addr} {fd : FuncData} {ps : List Str} {sp : Sp} {dvs : List V} {ds : List Value} {E : XK} {x m : Str} {p pos apos : Pos} {e o : Expr} {es : List Expr} {ta : TE} {t : TA}

/-- the callee runs -/
theorem run_fn {pins : List (Addr × Obj)} {σ : St} {H : Hp} {s : Shared} {Q : VK} {us : List Value} {vs : List V} (F : FnOk X.prog X.w X.K X.mg X.base CX k f fd ps sp) (hr : Room k X.A) (hb : Binds X.K fd ps ds) (hd : Vals dvs ds) (hx : Passes CX X E)
    (I : Inv X pins σ H s) (r : Vals vs us) (h : sp (vs ++ dvs) H Q E) : wpAny (model X.prog X.w) X.A (call (.ref f) us) (EP X pins σ Q) X.xe s := by
  have r2 : Vals (vs ++ dvs) (us ++ ds) := r.append hd
  have hl : (us ++ ds).length = ps.length := by rw [← r2.length]; exact F.len _ _ _ _ h
  refine wpAny_call (codeAny_mono (F.run X.A X.stack s H ⟨us, []⟩ (us ++ ds) (vs ++ dvs) Q E hr I.env0 (hb s us I.kIn hl) r2 h) fun r s' hq => ?_)
  cases r with
  | error e => exact hx pins σ H s e s' I hq
  | ok fl =>
    cases fl with
    | ret u => exact I.after hq
    | next => exact False.elim hq
    | brk => exact False.elim hq
    | cont => exact False.elim hq

theorem pe_call (F : FnOk X.prog X.w X.K X.mg X.base CX k f fd ps sp) (hr : Room k X.A) (hg : Gl X x) (hm : X.mg x = some (.ref f)) (hk : PySem.W.keepIn X.K (.ref f) = true) (hb : Binds X.K fd ps ds) (hd : Vals dvs ds) (hx : Passes CX X E)
    (ha : PA X (e :: es) t) (hdb : (x == ("__debug__" : Str)) = false := by decide) (he : starEach (e :: es) X.env = (false, eval e X.env) :: starEach es X.env := by rfl) (hpl : (backTo pos (starEach es X.env)).any (·.1) = false := by rfl) :
    PE X (.Call (.Name x p) (e :: es) [] pos) (tCall sp dvs E t) := by
  intro pins s σ H Q I h
  refine wpAny_Call_Name_kw (ld_glob I hg hm ?_ hdb)
  refine PySem.W.callWith_K (h₀ := X.base) I.ok.mod.kin hk (thn (ha pos pins s σ H _ I h) fun us s1 ⟨vs, H1, I1, r, q⟩ => ⟨I1.kIn, ?_⟩) he hpl
  exact run_fn F hr hb hd hx I1 r q
/-- what a class must have to be made -/
structure Mk (K : PySem.W.Frag) (C f : Addr) : Prop where
  makes : PySem.W.makesIn K C = true
  init : PySem.W.findIn K (.ref C) "__init__" = some (some (.ref f))
  fn : PySem.W.isFn K (.ref f) = true
  kp : PySem.W.keepIn K (.ref C) = true

end

/-! ### keywords -/
section
variable {X : Cx} {CX : CXT} {k : Nat} {f C : Addr} {fd : FuncData} {ps ks : List Str} {sp : Sp} {E : XK} {x m : Str} {p pos apos kpos : Pos} {e o : Expr} {es : List Expr} {kws : List Keyword} {te ta : TE} {t tk : TA} {nm : Option Str}
variable {g : List Value → List Value → List Value} {gV : List V → List V → List V}
end

/-! ### a def's body keeps its promise -/
/-- names: the parameters first -/
structure FnScope (N P : List Str) (sc : Scope) : Prop where
  kind : sc.kind = .function
  co : sc.isCoroutine = false
  gen : sc.isGenerator = false
  nd : N.Nodup
  pre : N.take P.length = P
  par : ∀ x ∈ P, sc.names.lookup x = some .local ∨ sc.names.lookup x = some .cell
  nofree : ∀ y ∈ sc.names, y.2 ≠ .free

theorem bindL_out {kindOf : Str → Option NameKind} {x : Str} : ∀ {binds : List (Str × Value)} {m : Str → Option Value}, (∀ v, (x, v) ∉ binds) → bindL kindOf binds m x = m x
  | [], _, _ => rfl
  | (n, v) :: r, m, h => by
    unfold bindL
    rw [bindL_out fun w hw => h w (List.mem_cons_of_mem _ hw)]
    split
    · have : x ≠ n := by rintro rfl; exact h v List.mem_cons_self
      simp [this]
    · rfl
theorem bindC_out {kindOf : Str → Option NameKind} {x : Str} : ∀ {binds : List (Str × Value)} {m : Str → Option Value}, (∀ v, (x, v) ∉ binds) → bindC kindOf binds m x = m x
  | [], _, _ => rfl
  | (n, v) :: r, m, h => by
    unfold bindC
    rw [bindC_out fun w hw => h w (List.mem_cons_of_mem _ hw)]
    split
    · rfl
    · have : x ≠ n := by rintro rfl; exact h v List.mem_cons_self
      simp [this]
theorem bindL_get {kindOf : Str → Option NameKind} {x : Str} {v : Value} : ∀ {P : List Str} {vs : List Value} {i : Nat} {m : Str → Option Value}, P.Nodup → P[i]? = some x → vs[i]? = some v → kindOf x = some .local →
    bindL kindOf (P.zip vs) m x = some v
  | [], _, _, _, _, h, _, _ => by simp at h
  | _ :: _, [], _, _, _, _, h, _ => by simp at h
  | p :: P, w :: vs, 0, m, nd, h1, h2, hk => by
    simp at h1 h2; subst h1; subst h2
    show bindL kindOf ((p, w) :: P.zip vs) m p = _
    unfold bindL
    rw [bindL_out fun v hv => (List.nodup_cons.mp nd).1 (List.of_mem_zip hv).1, if_pos hk]
    simp
  | p :: P, w :: vs, i + 1, m, nd, h1, h2, hk => by
    show bindL kindOf ((p, w) :: P.zip vs) m x = _
    unfold bindL
    exact bindL_get (i := i) (List.nodup_cons.mp nd).2 (by simpa using h1) (by simpa using h2) hk
theorem bindC_get {kindOf : Str → Option NameKind} {x : Str} {v : Value} : ∀ {P : List Str} {vs : List Value} {i : Nat} {m : Str → Option Value}, P.Nodup → P[i]? = some x → vs[i]? = some v → kindOf x ≠ some .local →
    bindC kindOf (P.zip vs) m x = some v
  | [], _, _, _, _, h, _, _ => by simp at h
  | _ :: _, [], _, _, _, _, h, _ => by simp at h
  | p :: P, w :: vs, 0, m, nd, h1, h2, hk => by
    simp at h1 h2; subst h1; subst h2
    show bindC kindOf ((p, w) :: P.zip vs) m p = _
    unfold bindC
    rw [bindC_out fun v hv => (List.nodup_cons.mp nd).1 (List.of_mem_zip hv).1, if_neg hk]
    simp
  | p :: P, w :: vs, i + 1, m, nd, h1, h2, hk => by
    show bindC kindOf ((p, w) :: P.zip vs) m x = _
    unfold bindC
    exact bindC_get (i := i) (List.nodup_cons.mp nd).2 (by simpa using h1) (by simpa using h2) hk

/-- the names' values at the entry -/
def start (N : List Str) (vs : List V) : St := vs.map some ++ List.replicate (N.length - vs.length) none

/-- the context of a def's body, at its entry; an exception leaves the frame, then lies as CX says -/
def cxOf (CX : CXT) (P : Program) (w : World) (K : PySem.W.Frag) (mg : Str → Option Value) (base : Heap) (N : List Str) (qual : Str) (scope : Scope) (f : Addr) (cd : Value) (A : Around) (outer : List Env) (s : Shared) (H : Hp) (E : XK) : Cx where
  prog := P
  w := w
  K := K
  mg := mg
  base := base
  A := A.deeper (envOfC qual scope s.heap.objs.size f cd)
  N := N
  s₀ := s
  H₀ := H
  env := envOfC qual scope s.heap.objs.size f cd
  outer := outer
  stack := envOfC qual scope s.heap.objs.size f cd :: outer
  ex := []
  calm := true
  fn := fun _ => true
  pn := []
  xe := fun e s' => wpAny (model P w) (A.deeper (envOfC qual scope s.heap.objs.size f cd)) (leaving (envOfC qual scope s.heap.objs.size f cd) e) (fun _ s'' => CX outer H s E e s'') (fun e' s'' => CX outer H s E e' s'') s'

theorem cell_has {sc : Scope} {n : Nat} {x : Str} (h : sc.names.lookup x = some .cell) : ∃ c, (cellsFrom n sc.names []).lookup x = some c := by
  have q := PySem.W.cellsFrom_some sc.names n [] (.inl h)
  exact Option.isSome_iff_exists.mp q

theorem inv_start {CX : CXT} {P : Program} {w : World} {K : PySem.W.Frag} {mg : Str → Option Value} {base : Heap} {N ps : List Str} {qual : Str} {scope : Scope} {f : Addr} {cd : Value} {A : Around} {outer : List Env} {s s1 : Shared} {H : Hp} {E : XK} {us : List Value} {vs : List V}
    (S : FnScope N ps scope) (hd : A.handled = none) (e0 : Env0 P w K mg base A outer s H) (hl : vs.length = ps.length) (r : Vals vs us)
    (x : InCallC s s.heap.objs.size (bindL (envOfC qual scope s.heap.objs.size f cd).kindOf (ps.zip us) fun _ => none) (cellsFrom (s.heap.objs.size + 1) scope.names []) (bindC (envOfC qual scope s.heap.objs.size f cd).kindOf (ps.zip us) fun _ => none) s1) :
    Inv (cxOf CX P w K mg base N qual scope f cd A outer s H E) [] (start N vs) H s1 := by
  have hpl : ps.length ≤ N.length := by have := congrArg List.length S.pre; rw [List.length_take] at this; omega
  obtain ⟨h1, tk, rfl, hk⟩ := x.done
  have noA : ∀ b : Addr, b ∉ (cxOf CX P w K mg base N qual scope f cd A outer s H E).ex := fun b z => absurd (show b ∈ ([] : List Addr) from z) (by simp)
  refine ⟨⟨e0.mod, S.kind, rfl, rfl, Nat.le_refl _, fun y z c h1 h2 => ?_, fun y hy => ?_, fun y c _ h => ?_, fun _ => hd, Around.frames_deeper e0.frames, .inr ⟨rfl, rfl⟩, fun b z => absurd z (noA b), e0.bs, e0.bsz, fun b _ _ => noA b, fun b z => absurd z (noA b), e0.funs, e0.frf⟩,
    rfl, e0.bare, Un.kept hk, ⟨_, x.toInCall.ns, fun i y v h1 h2 h3 => ?_⟩, fun y c h => ⟨_, x.cell y c h⟩, e0.hok.fresh (Nat.le_refl _), fun y c h => ?_, fun p hp => absurd (show p ∈ ([] : List (Addr × Obj)) from hp) (by simp), e0.hok.kept hk, ?_⟩
  · exact name_of_addr x.apart (PySem.mem_of_lookup h1) (PySem.mem_of_lookup h2)
  · have hy : scope.names.lookup y = some .cell ∨ scope.names.lookup y = some .free := hy
    rcases hy with hy | hy
    · exact cell_has hy
    · exact absurd rfl (S.nofree _ (PySem.mem_of_lookup hy))
  · exact Nat.le_of_lt (x.above y c (PySem.mem_of_lookup h))
  · have hi : i < vs.length := by
      unfold start at h2
      by_cases hi : i < vs.length
      · exact hi
      · rw [List.getElem?_append_right (by simpa using hi)] at h2
        rw [List.getElem?_replicate] at h2
        split at h2 <;> cases h2
    have ha : vs[i]? = some v := by
      unfold start at h2
      rw [List.getElem?_append_left (by simpa using hi), List.getElem?_map] at h2
      cases e : vs[i]? with
      | none => rw [e] at h2; cases h2
      | some a => rw [e] at h2; cases h2; rfl
    obtain ⟨u, hu, rv⟩ := r.get ha
    have hp : ps[i]? = some y := by
      rw [← S.pre, List.getElem?_take_of_lt (by omega)]; exact h1
    have ndP : ps.Nodup := by rw [← S.pre]; exact S.nd.sublist (List.take_sublist _ _)
    refine ⟨u, rv, ?_⟩
    rcases S.par y (List.mem_of_getElem? hp) with k | k
    · exact .inl ⟨k, bindL_get ndP hp hu k⟩
    · obtain ⟨c, e⟩ := cell_has (n := s.heap.objs.size + 1) k
      refine .inr ⟨.inl k, c, e, ?_⟩
      have q := x.cell y c e
      rw [bindC_get ndP hp hu (by show scope.names.lookup y ≠ _; rw [k]; decide)] at q
      exact q
  · exact e0.hok.fresh (Nat.le_of_lt (x.above y c (PySem.mem_of_lookup h)))
  · unfold start
    show _ = N.length
    rw [List.length_append, List.length_map, List.length_replicate]
    omega

/-- THE RULE: a def (or a method) of the text, by its body. The body's reading t is chosen for each entry; it is run at the parameters' values -/
theorem fn_of {CX : CXT} {P : Program} {w : World} {K : PySem.W.Frag} {mg : Str → Option Value} {base : Heap} {k : Nat} {f : Addr} {name qual : Str} {params : Arguments} {body : List Stmt} {scope : Scope} {dV kV doc pm cdv ct oc : Value} {an od : Option Addr}
    {osl : Array (Option Value)} {N ps : List Str} {sp : Sp} (lk : K.lookup f = some ⟨oc, od, .func (PySem.W.fnOf name qual params body scope dV kV doc pm an cdv ct), osl⟩) (hcd : PySem.W.codeIn K cdv qual = true) (S : FnScope N ps scope)
    (len : ∀ vs H Q E, sp vs H Q E → vs.length = ps.length)
    (hbody : ∀ (A : Around) (outer : List Env) (s : Shared) (H : Hp) (vs : List V) (Q : VK) (E : XK), Room k (A.deeper (envOfC qual scope s.heap.objs.size f cdv)) → sp vs H Q E →
      ∃ t, PSs (cxOf CX P w K mg base N qual scope f cdv A outer s H E) body t ∧ t { nx := fun _ H' => Q .non H', rt := Q } (start N vs) H) :
    FnOk P w K mg base CX (k + 1) f (PySem.W.fnOf name qual params body scope dV kV doc pm an cdv ct) ps sp := by
  refine ⟨len, fun A outer s H args us vs Q E hr e0 hb r hsp => ?_⟩
  have hl := len _ _ _ _ hsp
  have KX : K.In s.heap := e0.mod.kin.keeps fun b o e => (e0.bs b o e).1
  have lim : s.heap.NoLimit := e0.mod.nolimit.keeps fun b o e => (e0.bs b o e).1
  have hkind : ∀ y ∈ ps.zip us, scope.names.lookup y.1 = some .local ∨ (scope.names.lookup y.1 = some .cell ∧ ((cellsFrom (s.heap.objs.size + 1) scope.names []).lookup y.1).isSome = true) := fun ⟨n, v⟩ hy => by
    rcases S.par n (List.of_mem_zip hy).1 with q | q
    · exact .inl q
    · exact .inr ⟨q, PySem.W.cellsFrom_some _ _ _ (.inl q)⟩
  refine codeAny_call_function hr.depth (KX _ _ lk) rfl S.co S.gen rfl (PySem.W.codeRec_of KX hcd) (hb _ _ _ _ ?_)
  refine wpAny_newFunctionEnv_cells S.kind hkind fun env he s1 x => ?_
  subst he
  refine ⟨lim.keeps x.toInCall.keep, codeAny_func ?_⟩
  obtain ⟨t, ht, hq⟩ := hbody A outer s H vs Q E (hr.deeper _) hsp
  have I : Inv (cxOf CX P w K mg base N qual scope f cdv A outer s H E) [] (start N vs) H s1 := inv_start S hr.hd e0 hl r x
  refine wpAny_mono (ht [] s1 (start N vs) H _ I hq) (fun fl s' hs => ?_) fun e s' hs => hs
  have fin : ∀ {σ' : St} {H' : Hp} {v : V} {u : Value}, Inv (cxOf CX P w K mg base N qual scope f cdv A outer s H E) [] σ' H' s' → RelV v u → Q v H' → CE outer P w H s Q u s' :=
    fun {σ' H' v u} J rv q => ⟨v, H', J.os, J.bare, J.base, J.hok, rv, q⟩
  cases fl with
  | ret u =>
    obtain ⟨v, σ', H', J, rv, q⟩ := hs
    exact fin J rv q
  | next =>
    obtain ⟨σ', H', J, q⟩ := hs
    exact fin (v := V.non) (u := Value.none) J rfl q
  | brk =>
    obtain ⟨_, _, _, q⟩ := hs
    exact False.elim q
  | cont =>
    obtain ⟨_, _, _, q⟩ := hs
    exact False.elim q
end L2

namespace L2
open PySem PySem.Spec PyProof.Rows
section
variable {X : Cx} {x : Str} {p pos : Pos} {e : Expr} {es : List Expr} {t : TA} {id T : String} {r : List V → Hp → VK → Prop}

def tCB (r : List V → Hp → VK → Prop) (t : TA) : TE := fun σ H Q => t σ H fun vs H1 => r vs H1 Q
/-- f(e, ..), f a built-in function -/
theorem pe_callB (hc : CallR X (.builtin id) r) (hg : Gl X x) (hm : X.mg x = none) (hv : bootBuiltins x = some (.builtin id)) (ha : PA X (e :: es) t) (hn : x ≠ "__name__" := by decide) (hdb : (x == ("__debug__" : Str)) = false := by decide)
    (he : starEach (e :: es) X.env = (false, eval e X.env) :: starEach es X.env := by rfl) (hpl : (backTo pos (starEach es X.env)).any (·.1) = false := by rfl) : PE X (.Call (.Name x p) (e :: es) [] pos) (tCB r t) := by
  intro pins s σ H Q I h
  refine wpAny_Call_Name_kw (ld_blt I hg hm hv ?_ hn hdb)
  exact PyProof.Rows.callWith_builtin1 (thn (ha pos pins s σ H _ I h) fun us s1 ⟨vs, H1, I1, r1, q1⟩ => hc pins s1 σ H1 vs us Q I1 r1 q1) he hpl
/-- T(e, ..), T a built-in type -/
theorem pe_callTy (hc : CallR X (.type T) r) (hg : Gl X x) (hm : X.mg x = none) (hv : bootBuiltins x = some (.type T)) (ha : PA X (e :: es) t) (hn : x ≠ "__name__" := by decide) (hdb : (x == ("__debug__" : Str)) = false := by decide)
    (he : starEach (e :: es) X.env = (false, eval e X.env) :: starEach es X.env := by rfl) (hpl : (backTo pos (starEach es X.env)).any (·.1) = false := by rfl) : PE X (.Call (.Name x p) (e :: es) [] pos) (tCB r t) := by
  intro pins s σ H Q I h
  refine wpAny_Call_Name_kw (ld_blt I hg hm hv ?_ hn hdb)
  exact PyProof.Rows.callWith_type1 (thn (ha pos pins s σ H _ I h) fun us s1 ⟨vs, H1, I1, r1, q1⟩ => hc pins s1 σ H1 vs us Q I1 r1 q1) he hpl
end
end L2

namespace HT
open PySem PyProof.Rows

section
open PySem.SeqAt
open PySem.AutoSeq1 (wpAny_loadPart')
open PySem.MeetsSeq PySem.MeetsSeq2 PySem.MeetsSeq3

end

section
variable {prog : Program} {w : World} {A : Around} {E : Value → Shared → Prop} {s : Shared}

/-! ### t[a:b], not the whole -/
/-- a slice's bound as a place among n (d where it is left out) -/
def sIx (n d : Nat) : Option Int → Nat
  | none => d
  | some v => if v < 0 then (v + (n : Int)).toNat else min v.toNat n
theorem sIx_none (n d : Nat) : sIx n d none = d := rfl
theorem sIx_nat (n d k : Nat) : sIx n d (some (k : Int)) = min k n := by
  show (if (k : Int) < 0 then ((k : Int) + (n : Int)).toNat else min (k : Int).toNat n) = min k n
  rw [if_neg (by omega), Int.toNat_natCast]
end
end HT

namespace L2
open PySem PySem.Spec PyProof.Rows

/-! ### the parts of a slice -/
abbrev TO := St → Hp → (Option Int → Hp → Prop) → Prop
/-- a slice's part (left out, or an int) -/
def PO (X : Cx) (e : Option Expr) (t : TO) : Prop :=
  ∀ (pins : List (Addr × Obj)) (s : Shared) (σ : St) (H : Hp) (Q : Option Int → Hp → Prop), Inv X pins σ H s → t σ H Q →
    wpAny (model X.prog X.w) X.A (evalPart e X.env) (fun u s' => ∃ o H', Inv X pins σ H' s' ∧ IsPart u o ∧ Q o H') X.xe s
def tNoPart : TO := fun _ H Q => Q none H
def tPart (t : TE) : TO := fun σ H Q => t σ H fun x H1 => ∃ i, x = .int i ∧ Q (some i) H1

theorem intsAre_of {ns : List Int} : ∀ {us : List Value}, Vals (ns.map V.int) us → IntsAre us ns := by
  induction ns with
  | nil => intro us r; rw [List.map_nil] at r; cases r; exact .nil
  | cons n ns ih =>
    intro us r
    rw [List.map_cons] at r
    cases r with
    | cons r1 r2 =>
      obtain ⟨t, e⟩ := r1
      subst e
      exact .cons n t (ih r2)

section
variable {X : Cx} {e : Expr} {te : TE} {lo hi : Option Expr} {tl th : TO} {pos p2 : Pos}

theorem po_none : PO X none tNoPart := by
  intro pins s σ H Q I h
  rw [evalPart_none]
  exact wpAny_pure ⟨none, H, I, .none, h⟩
theorem po_some (h : PE X e te) : PO X (some e) (tPart te) := by
  intro pins s σ H Q I hw
  rw [evalPart_some]
  refine thn (h pins s σ H _ I hw) fun u s1 hq0 => ?_
  obtain ⟨x, H1, I1, r1, q1⟩ := hq0
  obtain ⟨i, rfl, q⟩ := q1
  obtain ⟨t, rfl⟩ := r1
  exact ⟨some i, H1, I1, .int i t, q⟩

/-- what a slice of a value is, by values: the slice object stands at sl -/
def SlR (X : Cx) (r : V → Option Int → Option Int → Hp → VK → Prop) : Prop :=
  ∀ (pins : List (Addr × Obj)) (s : Shared) (σ : St) (H : Hp) (x : V) (v vl vu : Value) (lo hi : Option Int) (sl : Addr) (Q : VK), Inv X pins σ H s → RelV x v → s.heap.IsSliceOf sl vl vu .none → IsPart vl lo → IsPart vu hi → r x lo hi H Q →
    ∃ T id, typeLookup (.type T) "__getitem__" = pure (some (.builtin id)) ∧ s.TypeIs v T ∧ wpAny (model X.prog X.w) X.A (getItem v (.ref sl)) (EP X pins σ Q) X.xe s
def tSl (r : V → Option Int → Option Int → Hp → VK → Prop) (te : TE) (tl th : TO) : TE := fun σ H Q => te σ H fun x H1 => tl σ H1 fun l H2 => th σ H2 fun u H3 => r x l u H3 Q
/-- a[lo:hi], any a -/
theorem pe_slice {r : V → Option Int → Option Int → Hp → VK → Prop} (hr : SlR X r) (he : PE X e te) (hl : PO X lo tl) (hu : PO X hi th) : PE X (.Subscript e (.Slice lo hi none p2) pos) (tSl r te tl th) := by
  intro pins s σ H Q I h
  refine Subscript_ (thn (he pins s σ H _ I h) fun v s1 hq0 => ?_)
  obtain ⟨x, H1, I1, r1, q1⟩ := hq0
  refine wpAny_Slice (thn (hl pins s1 σ H1 _ I1 q1) fun vl s2 ⟨l, H2, I2, pl, q2⟩ => thn (hu pins s2 σ H2 _ I2 q2) fun vu s3 hq0 => ?_)
  obtain ⟨u, H3, I3, pu, q3⟩ := hq0
  rw [evalPart_none]
  refine wpAny_pure ?_
  have I4 : Inv X pins σ H3 { s3 with heap := s3.heap.push { cls := .type "slice", data := .fields #[vl, vu, .none] } } := I3.kept (t' := s3.toks) fun b ob q => Heap.get?_push_of_some _ q
  obtain ⟨T, id, hT, ht, hg⟩ := hr pins { s3 with heap := s3.heap.push { cls := .type "slice", data := .fields #[vl, vu, .none] } } σ H3 x v vl vu l u s3.heap.objs.size Q I4 r1 (Heap.IsSliceOf.new ..) pl pu q3
  show wpAny (model X.prog X.w) X.A (subscriptTail e (.Slice lo hi none p2) v (.ref s3.heap.objs.size)) (EP X pins σ Q) X.xe { s3 with heap := s3.heap.push { cls := .type "slice", data := .fields #[vl, vu, .none] } }
  exact tail_any (ops := [.ref s3.heap.objs.size, v]) ht hT hg (by with_unfolding_all rfl)

/-- the items of xs[lo:hi] -/
def cutV (xs : List V) (lo hi : Option Int) : List V := (xs.drop (HT.sIx xs.length 0 lo)).take (HT.sIx xs.length xs.length hi - HT.sIx xs.length 0 lo)
theorem cutV_length (xs : List V) (lo hi : Option Int) : (cutV xs lo hi).length ≤ xs.length := by
  unfold cutV
  rw [List.length_take, List.length_drop]
  exact Nat.le_trans (Nat.min_le_right _ _) (Nat.sub_le _ _)
/-! ### t < u, t + u -/
end
end L2

namespace L2
open PySem PySem.Spec PyProof.Rows

/-! ### places -/
/-- the place that an index of any sign means -/
def ixN (n : Nat) (i : Int) : Option Nat := if 0 ≤ i then (if i < n then some i.toNat else none) else if -(n : Int) ≤ i then some (i + n).toNat else none
def atI {α : Type} (xs : List α) (i : Int) : Option α := (ixN xs.length i).bind fun j => xs[j]?
theorem ixN_seq {n : Nat} {i : Int} {j : Nat} (h : ixN n i = some j) : seqIndex? i n = some j ∧ j < n ∧ -(n : Int) ≤ i ∧ i < n := by
  unfold ixN at h
  by_cases h0 : 0 ≤ i
  · rw [if_pos h0] at h
    by_cases h1 : i < n
    · rw [if_pos h1] at h
      have e : i.toNat = j := Option.some.inj h
      exact ⟨by rw [seqIndex_of h0 h1, e], by rw [← e]; exact (Int.toNat_lt h0).mpr h1, Int.le_trans (Int.neg_nonpos_of_nonneg (Int.natCast_nonneg n)) h0, h1⟩
    · rw [if_neg h1] at h; cases h
  · rw [if_neg h0] at h
    by_cases h1 : -(n : Int) ≤ i
    · rw [if_pos h1] at h
      have e : (i + n).toNat = j := Option.some.inj h
      exact ⟨by rw [seqIndex_neg (Int.not_le.mp h0) h1, e], by omega, h1, Int.lt_of_lt_of_le (Int.not_le.mp h0) (Int.natCast_nonneg n)⟩
    · rw [if_neg h1] at h; cases h
theorem atI_get {α : Type} {xs : List α} {i : Int} {v : α} (h : atI xs i = some v) : ∃ j, seqIndex? i xs.length = some j ∧ xs[j]? = some v ∧ j < xs.length ∧ -(xs.length : Int) ≤ i ∧ i < xs.length := by
  unfold atI at h
  cases e : ixN xs.length i with
  | none => rw [e] at h; cases h
  | some j =>
    rw [e] at h
    obtain ⟨h1, h2, h3, h4⟩ := ixN_seq e
    exact ⟨j, h1, h, h2, h3, h4⟩
theorem atI_nat {α : Type} {xs : List α} {j : Nat} {v : α} (h : xs[j]? = some v) : atI xs (j : Int) = some v := by
  have hj : j < xs.length := (List.getElem?_eq_some_iff.mp h).1
  have e : ixN xs.length (j : Int) = some j := by
    unfold ixN
    rw [if_pos (by omega), if_pos (by omega)]; simp
  unfold atI; rw [e]; exact h
/-! ### what may be subscripted -/
/-- what stands as an index of a plain subscript -/
def PlainIx (b : Expr) : Prop := ∀ o i, subscripted b false o i = operate [o, i] (getItem o i)
/-- a subscript by values -/
def IxR (X : Cx) (r : R2) : Prop :=
  ∀ (value slice : Expr) (pins : List (Addr × Obj)) (s : Shared) (σ : St) (H : Hp) (x y : V) (v u : Value) (Q : VK), Inv X pins σ H s → RelV x v → RelV y u → r x y H Q →
    subscripted slice false v u = operate [v, u] (getItem v u) → wpAny (model X.prog X.w) X.A (subscriptTail value slice v u) (EP X pins σ Q) X.xe s
/-- a call of a builtin's method by values: the receiver, the arguments -/
def MtR (X : Cx) (id : String) (r : V → List V → Hp → VK → Prop) : Prop :=
  ∀ (pins : List (Addr × Obj)) (s : Shared) (σ : St) (H : Hp) (x : V) (xs : List V) (v : Value) (us : List Value) (Q : VK), Inv X pins σ H s → RelV x v → Vals xs us → r x xs H Q →
    wpAny (model X.prog X.w) X.A (call (.builtin id) (v :: us)) (EP X pins σ Q) X.xe s
section
variable {X : Cx} {a b : Expr} {ta tb : TE} {pos : Pos}
/-- a[b] -/
theorem pe_ix {r : R2} (hr : IxR X r) (ha : PE X a ta) (hb : PE X b tb) (hs : PlainIx b) : PE X (.Subscript a b pos) (tOp r ta tb) := by
  intro pins s σ H Q I h
  exact Subscript_ (binT ha hb I h fun v u s2 x y H2 I2 rx ry q => hr a b pins s2 σ H2 x y v u Q I2 rx ry q (hs _ _))

def rIxL (K : PySem.W.Frag) : R2 := fun x y H Q => ∃ p xs i v, x = .ref p ∧ y = .int i ∧ SqL K H p xs ∧ atI xs i = some v ∧ Q v H
theorem ix_list : IxR X (rIxL X.K) := by
  intro value slice pins s σ H x y v u Q I rx ry h hs
  obtain ⟨p, xs, i, z, rfl, rfl, hq, he, q⟩ := h
  cases rx
  obtain ⟨t, rfl⟩ := ry
  obtain ⟨its, r, pl, hz⟩ := I.list hq
  obtain ⟨j, h1, h2, h3, h4, h5⟩ := atI_get he
  obtain ⟨w, ew, rw'⟩ := r.get h2
  have hl := r.length
  have hn := line63
  have fin : EP X pins σ Q w s := ⟨z, H, I, rw', q⟩
  by_cases h0 : 0 ≤ i
  · have hj : i.toNat = j := by
      rw [seqIndex_of h0 h5] at h1
      exact Option.some.inj h1
    exact item_listR pl.isList h0 (by omega) (by rw [hj]; simpa using ew) fin hs
  · have hj : (i + (its.toArray.size : Int)).toNat = j := by
      rw [seqIndex_neg (by omega) h4] at h1
      rw [List.size_toArray, ← hl]
      exact Option.some.inj h1
    exact subscriptTail_builtinR (x := w) pl.isList.typeIs slot_list_getitem.lookup
      (wpAny_getItem_list_neg (Q := fun r s' => r = w ∧ EP X pins σ Q r s') pl.isList (by omega) (by rw [List.size_toArray] <;> omega) (by omega) (by rw [hj]; simpa using ew) ⟨rfl, fin⟩) hs
/-! ### xs[i] = v, any sign -/
/-! ### slices -/
theorem sb1 {i : Int} {n : Nat} (h : i < 0) : max 0 (min (i + n) n) = (((i + n).toNat : Nat) : Int) := by
  have l := Int.add_le_add_right (Int.le_of_lt h) n
  rw [Int.zero_add] at l
  rw [Int.min_eq_left l, Int.max_comm, Int.toNat_eq_max]
theorem sb2 {i : Int} {n : Nat} (h : ¬ i < 0) : max 0 (min i n) = ((min i.toNat n : Nat) : Int) := by
  obtain ⟨k, rfl⟩ := Int.eq_ofNat_of_zero_le (Int.not_lt.mp h)
  show max 0 (min (k : Int) n) = ((min k n : Nat) : Int)
  rcases Nat.le_total k n with l | l
  · rw [Int.min_eq_left (Int.ofNat_le.mpr l), Nat.min_eq_left l, Int.max_eq_right (Int.natCast_nonneg _)]
  · rw [Int.min_eq_right (Int.ofNat_le.mpr l), Nat.min_eq_right l, Int.max_eq_right (Int.natCast_nonneg _)]
theorem slice_bounds (lo hi : Option Int) (n : Nat) : (sliceBounds lo hi none n).1 = ((HT.sIx n 0 lo : Nat) : Int) ∧ (sliceBounds lo hi none n).2.1 = ((HT.sIx n n hi : Nat) : Int) ∧ (sliceBounds lo hi none n).2.2 = 1 := by
  refine ⟨?_, ?_, rfl⟩
  · cases lo with
    | none => simp [sliceBounds, HT.sIx]
    | some i =>
      simp only [sliceBounds, HT.sIx, Option.getD_none, show (1 : Int) > 0 by decide, if_true]
      by_cases h : i < 0
      · simp only [h, if_true] <;> exact sb1 h
      · simp only [h, if_false] <;> exact sb2 h
  · cases hi with
    | none => simp [sliceBounds, HT.sIx]
    | some i =>
      simp only [sliceBounds, HT.sIx, Option.getD_none, show (1 : Int) > 0 by decide, if_true]
      by_cases h : i < 0
      · simp only [h, if_true] <;> exact sb1 h
      · simp only [h, if_false] <;> exact sb2 h
theorem slicePick_cut (its : List Value) (lo hi : Option Int) : slicePick its.toArray lo hi none = ((its.drop (HT.sIx its.length 0 lo)).take (HT.sIx its.length its.length hi - HT.sIx its.length 0 lo)).toArray := by
  obtain ⟨h1, h2, h3⟩ := slice_bounds lo hi its.toArray.size
  unfold slicePick
  rw [h1, h2, h3]
  simp only [sliceRange_one, pick_run, List.size_toArray] <;> rfl
/-- xs[lo:hi] of a list: a new list -/
def rSlL (K : PySem.W.Frag) : V → Option Int → Option Int → Hp → VK → Prop := fun x lo hi H Q => ∃ a xs, x = .ref a ∧ SqL K H a xs ∧ ∀ p, H p = none → Q (.ref p) (upd H p (.lst (cutV xs lo hi)))
theorem sl_list : SlR X (rSlL X.K) := by
  intro pins s σ H x v vl vu lo hi sl Q I rx hs pl pu h
  obtain ⟨a, xs, rfl, hx, q⟩ := h
  cases rx
  obtain ⟨its, r, ht, hz⟩ := I.list hx
  have hlen := r.length
  refine ⟨"list", _, slot_list_getitem.lookup, ht.isList.typeIs, ?_⟩
  refine wpAny_getItem_list_slice ht.isList hs pl pu .none (by simp) ?_ (by rw [List.size_toArray] <;> omega)
  rw [slicePick_cut, ← hlen]
  refine ⟨.ref s.heap.objs.size, _, I.laid (t' := s.toks) (o := .lst (cutV xs lo hi)) (fun b ob q => Heap.get?_push_of_some _ q) (Nat.le_refl _) ?_, rfl, q _ (I.hok.fresh (Nat.le_refl _))⟩
  exact ⟨Nat.le_trans (cutV_length xs lo hi) hz, _, 0, (r.drop (HT.sIx xs.length 0 lo)).take (HT.sIx xs.length xs.length hi - HT.sIx xs.length 0 lo), Heap.get?_push_size _ rfl⟩

/-! ### in, not in: flat items -/
/-! ### len, list(x), tuple(x) of any list or tuple that is read -/
theorem call_len_seq : CallR X (.builtin "len") (fun xs H Q => ∃ p ys, xs = [.ref p] ∧ (SqL X.K H p ys ∨ SqT X.K H p ys) ∧ Q (.int ys.length) H) := by
  intro pins s σ H xs us Q I r h
  obtain ⟨p, ys, rfl, hq, q⟩ := h
  obtain ⟨u, rfl, rx⟩ := vals1 r
  cases rx
  have hn := line63
  rcases hq with hq | hq
  · obtain ⟨its, r', pl, hz⟩ := I.list hq
    have hlen := r'.length
    exact Calls.call_len_list pl.isList (by simp only [List.size_toArray] <;> omega) ⟨.int ys.length, H, I.tok _, ⟨s.toks + 1, by rw [List.size_toArray, hlen]⟩, q⟩
  · obtain ⟨its, r', pl, hz⟩ := I.tuple hq
    have hlen := r'.length
    exact len_tuple pl (by simp only [List.size_toArray] <;> omega) ⟨.int ys.length, H, I.tok _, ⟨s.toks + 1, by rw [List.size_toArray, hlen]⟩, q⟩
theorem call_list_of : CallR X (.type "list") (fun xs H Q => ∃ p ys, xs = [.ref p] ∧ (SqL X.K H p ys ∨ SqT X.K H p ys) ∧ ∀ l, H l = none → Q (.ref l) (upd H l (.lst ys))) := by
  intro pins s σ H xs us Q I r h
  obtain ⟨p, ys, rfl, hq, q⟩ := h
  obtain ⟨u, rfl, rx⟩ := vals1 r
  cases rx
  have fin : ∀ (its : List Value), Vals ys its → ys.length ≤ sizeLine → ∀ (h' : Heap) (c' : Nat), (∀ b o', s.heap.get? b = some o' → h'.get? b = some o') →
      h'.get? s.heap.objs.size = some { cls := .type "list", dict := none, data := .seq its.toArray c', slots := #[] } → EP X pins σ Q (.ref s.heap.objs.size) { s with heap := h' } := fun its r' hz h' c' kp e =>
    ⟨.ref s.heap.objs.size, _, I.laid (t' := s.toks) kp (Nat.le_refl _) (show ObjOk X.prog X.w _ h' _ (.lst ys) from ⟨hz, its, c', r', e⟩), rfl, q _ (I.hok.fresh (Nat.le_refl _))⟩
  rcases hq with hq | hq
  · obtain ⟨its, r', pl, hz⟩ := I.list hq
    have hlen := r'.length
    obtain ⟨o, ho, hc, n, hd⟩ := pl.isList
    exact call_list_seq p (.inl rfl) ho hc hd (fun h' c' kp e => fin its r' hz h' c' kp e) (by simp only [List.size_toArray] <;> omega)
  · obtain ⟨its, r', pl, hz⟩ := I.tuple hq
    have hlen := r'.length
    obtain ⟨o, ho, hc, n, hd⟩ := pl
    exact call_list_seq p (.inr rfl) ho hc hd (fun h' c' kp e => fin its r' hz h' c' kp e) (by simp only [List.size_toArray] <;> omega)
/-! ### the call of a builtin's method: o.m(..) -/
/-- the value is of that builtin type -/
def tyV (K : PySem.W.Frag) (T : String) (x : V) (H : Hp) : Prop := match x with
  | .str _ => T = "str"
  | .int _ => T = "int"
  | .ref p => (T = "list" ∧ ∃ xs, SqL K H p xs) ∨ (T = "tuple" ∧ ∃ o, K.lookup p = some o ∧ o.cls = .type "tuple" ∧ o.dict = none) ∨
      (T = "dict" ∧ ((∃ kvs, H p = some (.dK kvs)) ∨ ∃ kvs, H p = some (.dT kvs))) ∨ (T = "set" ∧ ∃ S n, H p = some (.set S n))
  | _ => False
theorem tyV_is {pins : List (Addr × Obj)} {σ : St} {H : Hp} {s : Shared} {T : String} {x : V} {v : Value} (I : Inv X pins σ H s) (r : RelV x v) (ty : tyV X.K T x H) :
    s.TypeIs v T ∧ ∀ a, v = .ref a → ∃ ob, s.heap.get? a = some ob ∧ ob.dict = none := by
  cases x with
  | str z =>
    obtain ⟨t, rfl⟩ := r
    cases (show T = "str" from ty)
    exact ⟨typeIs_str s z t, fun _ e => nomatch e⟩
  | int i =>
    obtain ⟨t, rfl⟩ := r
    cases (show T = "int" from ty)
    exact ⟨typeIs_int s i t, fun _ e => nomatch e⟩
  | ref p =>
    cases r
    rcases ty with ⟨rfl, xs, hq⟩ | ⟨rfl, o, hk, hc, hd⟩ | ⟨rfl, hk⟩ | ⟨rfl, S, n, hk⟩
    · obtain ⟨its, _, pl, _⟩ := I.list hq
      refine ⟨pl.isList.typeIs, fun a e => ?_⟩
      cases e
      obtain ⟨o, n, e, c, hd, _⟩ := pl
      exact ⟨o, e, hd⟩
    · refine ⟨⟨o, I.kIn p o hk, hc⟩, fun a e => ?_⟩
      cases e
      exact ⟨o, I.kIn _ o hk, hd⟩
    · have z : ∃ o, s.heap.get? p = some o ∧ o.ExactDict := by
        rcases hk with ⟨kvs, hk⟩ | ⟨kvs, hk⟩
        · obtain ⟨_, _, _, _, o, _, _, e, ex, _⟩ := I.hok p _ hk
          exact ⟨o, e, ex⟩
        · obtain ⟨_, _, _, _, o, _, _, e, ex, _⟩ := I.hok p _ hk
          exact ⟨o, e, ex⟩
      obtain ⟨o, e, ex⟩ := z
      refine ⟨⟨o, e, ex.1⟩, fun a e2 => ?_⟩
      cases e2
      exact ⟨o, e, ex.2.1⟩
    · obtain ⟨o, _, _, _, e, ex, _⟩ := I.hok p _ hk
      refine ⟨⟨o, e, ex.1⟩, fun a e2 => ?_⟩
      cases e2
      exact ⟨o, e, ex.2.1⟩
  | _ => exact False.elim ty
def tBM (K : PySem.W.Frag) (T : String) (r : V → List V → Hp → VK → Prop) (to : TE) (t : TA) : TE := fun σ H Q => to σ H fun x H1 => tyV K T x H1 ∧ t σ H1 fun xs H2 => r x xs H2 Q
variable {o e : Expr} {es : List Expr} {to : TE} {t : TA} {name : Str} {apos cpos : Pos} {T id : String} {r : V → List V → Hp → VK → Prop}
theorem pe_bm (pa : PlainAttrs T) (slot : Slot T name id) (hty : typeOf (.builtin id) = pure (.type "method_descriptor")) (hm : MtR X id r) (ho : PE X o to) (ha : PA X (e :: es) t)
    (hbase : attributeBase o name X.env (eval o X.env) = eval o X.env := by rfl)
    (hfew : ((backTo cpos (starEach (e :: es) X.env)).all (fun x => !x.1) && (backToKw cpos (keywordEach [] X.env)).all (fun x => x.1.isSome)
      && decide ((e :: es).length + ([] : List Keyword).length + (if ([] : List Keyword).isEmpty then 0 else 1) < 30)) = true := by rfl)
    (hline : (apos.endLine == cpos.line) = true := by rfl) (hs : starEach (e :: es) X.env = (false, eval e X.env) :: starEach es X.env := by rfl) (hplain : (backTo cpos (starEach es X.env)).any (·.1) = false := by rfl) :
    PE X (.Call (.Attribute o name apos) (e :: es) [] cpos) (tBM X.K T r to t) := by
  intro pins s σ H Q I h
  refine wpAny_Call_method_late hbase hfew hline rfl (thn (ho pins s σ H _ I h) fun v s1 hq0 => ?_)
  obtain ⟨x, H1, I1, r1, ty, q1⟩ := hq0
  obtain ⟨h1, h2⟩ := tyV_is I1 r1 ty
  refine ⟨T, id, pa, slot, hty, h1, h2, ?_⟩
  have hA := ha cpos pins s1 σ H1 _ I1 q1
  rw [hs] at hA ⊢
  refine Calls.callWith_builtin (by show (false || (backTo cpos (starEach es X.env)).any (·.1)) = false; rw [hplain] <;> rfl) (Calls.evalArgs_plain ?_)
  exact thn hA fun us s2 ⟨vs, H2, I2, r2, q2⟩ => hm pins s2 σ H2 x vs v us Q I2 r1 r2 q2
/- xs.append(e), list.index on a module's tuple .. are MtR facts of 06m -/
end
end L2

namespace L2
open PySem PySem.Spec PyProof.Rows

def MtM (X : Cx) (id : String) (r : V → List V → Hp → VK → Prop) : Prop :=
  ∀ (pins : List (Addr × Obj)) (s : Shared) (σ : St) (H : Hp) (x : V) (xs : List V) (v : Value) (us : List Value) (Q : VK), Inv X pins σ H s → RelV x v → Vals xs us → r x xs H Q →
    wpAny (model X.prog X.w) X.A (call (.builtin id) (v :: us)) (EP X pins σ Q) X.xe s

/-! ### lists of values -/
theorem Vals.one : ∀ {x : V} {us : List Value}, Vals [x] us → ∃ u, us = [u] ∧ RelV x u
  | _, _, .cons r .nil => ⟨_, rfl, r⟩
theorem Vals.eraseIdx : ∀ {xs : List V} {us : List Value} (i : Nat), Vals xs us → Vals (xs.eraseIdx i) (us.eraseIdx i)
  | _, _, _, .nil => .nil
  | _, _, 0, .cons _ t => t
  | _, _, i + 1, .cons r t => .cons r (Vals.eraseIdx i t)
theorem Vals.rep {xs : List V} {us : List Value} (h : Vals xs us) : ∀ k : Nat, Vals (List.replicate k xs).flatten (List.replicate k us).flatten
  | 0 => .nil
  | k + 1 => by
    rw [List.replicate_succ, List.replicate_succ, List.flatten_cons, List.flatten_cons]
    exact Vals.append h (Vals.rep h k)
theorem len_erase {α : Type} : ∀ (l : List α) (i : Nat), (l.eraseIdx i).length ≤ l.length
  | [], _ => Nat.le_refl _
  | _ :: _, 0 => Nat.le_succ _
  | _ :: r, i + 1 => Nat.succ_le_succ (len_erase r i)
theorem foldl_rep (its : List Value) : ∀ (k : Nat) (acc : List Value),
    List.foldl (fun x1 x2 => x1 ++ x2) acc.toArray (List.replicate k its.toArray) = (acc ++ (List.replicate k its).flatten).toArray
  | 0, acc => by simp
  | k + 1, acc => by
    have e : acc.toArray ++ its.toArray = (acc ++ its).toArray := by simp
    have e2 : (acc ++ its) ++ (List.replicate k its).flatten = acc ++ (List.replicate (k + 1) its).flatten := by
      rw [List.replicate_succ, List.flatten_cons, List.append_assoc]
    rw [← e2, ← foldl_rep its k (acc ++ its), ← e, List.replicate_succ, List.foldl_cons]

section
variable {X : Cx} {pins : List (Addr × Obj)} {σ : St} {H : Hp} {s : Shared} {l b : Addr} {xs ys zs : List V}

/-! ### the two steps: a tracked list is rewritten, a new list is laid -/
theorem Inv.lset {its its' : List Value} {n : Nat} {f : Array Value → Array Value} {t' : Nat} (I : Inv X pins σ H s) (hH : H l = some (.lst xs))
    (e : s.heap.get? l = some { cls := .type "list", data := .seq its.toArray n }) (hf : f its.toArray = its'.toArray) (hv : Vals ys its') (hz : ys.length ≤ sizeLine) :
    Inv X pins σ (upd H l (.lst ys)) { s with heap := s.heap.update l (Obj.mapSeq f), toks := t' } := by
  have q := PySem.IsL.update e f
  rw [hf] at q
  refine I.write (x := l) (e := l) (by rw [hH]; exact trivial) (.inl rfl) (fun b' u hb hu => (Heap.get?_update_other s.heap (Obj.mapSeq f) (Ne.symm hb)).trans hu) ⟨_, q⟩ ?_
  exact ⟨hz, its', _, hv, q⟩
theorem Inv.lnew {its : List Value} {t' : Nat} (I : Inv X pins σ H s) (hv : Vals ys its) (hz : ys.length ≤ sizeLine) :
    Inv X pins σ (upd H s.heap.objs.size (.lst ys)) { s with heap := s.heap.push { cls := .type "list", data := .seq its.toArray }, toks := t' } :=
  I.laid (fun _ _ q => Heap.get?_push_of_some _ q) (Nat.le_refl _) ⟨hz, its, 0, hv, Heap.get?_push_size _ rfl⟩
theorem Inv.fresh (I : Inv X pins σ H s) : H s.heap.objs.size = none := I.hok.fresh (Nat.le_refl _)
theorem Inv.lstM (I : Inv X pins σ H s) (hH : H l = some (.lst xs)) : xs.length ≤ sizeLine ∧ ∃ (its : List Value) (n : Nat), Vals xs its ∧ xs.length = its.length ∧ s.heap.get? l = some { cls := .type "list", data := .seq its.toArray n } := by
  obtain ⟨z, its, n, r, e⟩ := I.hok l _ hH
  exact ⟨z, its, n, r, r.length, e⟩

theorem notLongL {n : Nat} (h : n ≤ sizeLine) : Builtin.List.listTooLong n = false := by
  unfold Builtin.List.listTooLong
  exact decide_eq_false (by omega)
end

section
variable {X : Cx}

/-! ### methods -/
def rAppend : V → List V → Hp → VK → Prop := fun x vs H Q => ∃ l xs y, x = .ref l ∧ vs = [y] ∧ H l = some (.lst xs) ∧ xs.length < sizeLine ∧ Q .non (upd H l (.lst (xs ++ [y])))
theorem mt_append : MtM X "list.append" rAppend := by
  intro pins s σ H x vs v us Q I rx rv h
  obtain ⟨l, xs, y, rfl, rfl, hH, hz, q⟩ := h
  cases rx
  obtain ⟨u, rfl, ru⟩ := rv.one
  obtain ⟨z, its, n, r, hl, e⟩ := I.lstM hH
  refine call_meets F.slot_list_append ⟨_, e, rfl⟩ F.entry_list_append (F.args_list_append_2 _ _) (PySem.list_append l its.toArray n u (by rw [List.size_toArray]; omega)) ⟨e, ?_⟩
  refine ⟨.non, _, I.lset (its' := its ++ [u]) hH e (by simp) (r.append (.cons ru .nil)) ?_, rfl, q⟩
  rw [List.length_append, List.length_singleton]
  omega

def rPopAt : V → List V → Hp → VK → Prop := fun x vs H Q => ∃ l xs i k y, x = .ref l ∧ vs = [.int i] ∧ H l = some (.lst xs) ∧ -(2 ^ 63) ≤ i ∧ i < 2 ^ 63 ∧ seqIndex? i xs.length = some k ∧ xs[k]? = some y ∧ Q y (upd H l (.lst (xs.eraseIdx k)))
theorem mt_popAt : MtM X "list.pop" rPopAt := by
  intro pins s σ H x vs v us Q I rx rv h
  obtain ⟨l, xs, i, k, y, rfl, rfl, hH, h1, h2, hk, hy, q⟩ := h
  cases rx
  obtain ⟨u, rfl, ru⟩ := rv.one
  obtain ⟨t, rfl⟩ := ru
  obtain ⟨z, its, n, r, hl, e⟩ := I.lstM hH
  obtain ⟨w, hw, rw'⟩ := r.get hy
  refine call_meets F.slot_list_pop ⟨_, e, rfl⟩ F.entry_list_pop (F.args_list_pop_2 _ _)
    (MeetsSeq.list_pop_at l its.toArray n i t k w (fitsIndex_both h1 h2) (by rw [List.size_toArray, ← hl]; exact hk) (by rw [← Array.getElem?_toList]; exact hw) (by rw [List.size_toArray]; omega)) ⟨e, ?_⟩
  refine ⟨y, _, I.lset (its' := its.eraseIdx k) hH e ?_ (r.eraseIdx k) ?_, rw', q⟩
  · show its.toArray.eraseIdxIfInBounds k = (its.eraseIdx k).toArray
    rw [List.eraseIdxIfInBounds_toArray]
  · have := len_erase xs k
    omega

/-! ### list + list, list += list, list * int -/
def rCat : R2 := fun x y H Q => ∃ l b xs zs, x = .ref l ∧ y = .ref b ∧ H l = some (.lst xs) ∧ H b = some (.lst zs) ∧ xs.length + zs.length ≤ sizeLine ∧ ∀ p, H p = none → Q (.ref p) (upd H p (.lst (xs ++ zs)))
theorem op_cat : OpR X (binaryOp .Add) rCat := by
  intro pins s σ H x y v u Q I rx ry h
  obtain ⟨l, b, xs, zs, rfl, rfl, hH, hB, hz, q⟩ := h
  cases rx
  cases ry
  obtain ⟨z, its, n, r, hl, e⟩ := I.lstM hH
  obtain ⟨z2, its2, n2, r2, hl2, e2⟩ := I.lstM hB
  refine PySem.P.add_list e e2 ?_ (by rw [List.size_toArray, List.size_toArray]; omega)
  have ea : its.toArray ++ its2.toArray = (its ++ its2).toArray := by simp
  rw [ea]
  exact ⟨.ref _, _, I.lnew (t' := s.toks) (r.append r2) (by rw [List.length_append]; omega), rfl, q _ I.fresh⟩
/-- a list times an int (a negative one is nothing) -/
def rRep : R2 := fun x y H Q => ∃ l k xs, x = .ref l ∧ y = .int k ∧ H l = some (.lst xs) ∧ -(2 ^ 63) ≤ k ∧ k < 2 ^ 63 ∧ xs.length * k.toNat ≤ sizeLine ∧
  ∀ p, H p = none → Q (.ref p) (upd H p (.lst (List.replicate k.toNat xs).flatten))
theorem len_rep {α : Type} (xs : List α) (k : Nat) : (List.replicate k xs).flatten.length = k * xs.length := by
  induction k with
  | zero => simp
  | succ k ih => rw [List.replicate_succ, List.flatten_cons, List.length_append, ih, Nat.succ_mul, Nat.add_comm]
theorem op_rep : OpR X (binaryOp .Mult) rRep := by
  intro pins s σ H x y v u Q I rx ry h
  obtain ⟨l, k, xs, rfl, rfl, hH, h1, h2, hz, q⟩ := h
  cases rx
  obtain ⟨t, rfl⟩ := ry
  obtain ⟨z, its, n, r, hl, e⟩ := I.lstM hH
  have hlen : its.toArray.size * k.toNat ≤ sizeLine := by rw [List.size_toArray, ← hl]; exact hz
  have hcap : ¬ its.toArray.size * k.toNat > (2 ^ 63 - 1) / 8 := by
    have : (sizeLine : Nat) ≤ (2 ^ 63 - 1) / 8 := by decide
    omega
  have hfit : ¬ (!Builtin.List.listFitsIndex k) = true := by
    rw [fitsIndex_both h1 h2]
    exact Bool.false_ne_true
  have hlong : ¬ Builtin.List.listTooLong (its.toArray.size * k.toNat) = true := by
    rw [notLongL hlen]
    exact Bool.false_ne_true
  have hnew : List.foldl (fun x1 x2 => x1 ++ x2) #[] (List.replicate (if its.toArray.isEmpty = true then 0 else k.toNat) its.toArray) = (List.replicate k.toNat its).flatten.toArray := by
    have f0 : ∀ m : Nat, List.foldl (fun x1 x2 => x1 ++ x2) #[] (List.replicate m its.toArray) = (List.replicate m its).flatten.toArray := fun m => by
      have := foldl_rep its m []
      rw [List.nil_append] at this
      exact this
    rw [f0]
    cases its with
    | nil => simp
    | cons a r' => rw [if_neg (by simp)]
  refine wpAny_binaryOp_repeat_ref (T := "list") (U := "int") (by decide) ⟨_, e, rfl⟩ (fun s' => typeIs_int s' k t) noFill_list_mul F.fills_int_mul F.slot_int_rmul repeat_list F.slot_int_index.lookup
    (call_meets F.slot_int_rmul (typeIs_int s k t) F.entry_int_rmul (F.args_int_rmul_2 _ _) (int___rmul___int_list k t l its.toArray n)
      ⟨e, rfl, ⟨_, e, rfl⟩, call_meets F.slot_list_mul ⟨_, e, rfl⟩ F.entry_list_mul (F.args_list_mul_2 _ _) (AutoListH.list___mul___list_int_3 l its.toArray n k t hfit hcap hlong) ⟨e, ?_⟩⟩)
  rw [hnew]
  exact ⟨.ref _, _, I.lnew (t' := s.toks) (r.rep k.toNat) (by rw [len_rep, Nat.mul_comm]; exact hz), rfl, q _ I.fresh⟩

/-! ### del xs[i] -/
end

/-! ### xs[a:b] = ys -/
section
variable {prog : Program} {w : World} {A : Around} {E : Value → Shared → Prop} {s : Shared}
end

section
variable {X : Cx}
end
end L2

namespace Att
open PySem PySem.W PySem.Calls PyProof.Rows

/-! ### the script -/
theorem ints_of_wellAll {P : Params} {h : Heap} : ∀ (ns : List Int) (vs : List Value), WellAll P h vs (ns.map WData.int) → IntsAre vs ns := by
  intro ns
  induction ns with
  | nil =>
    intro vs w
    rw [List.map_nil] at w
    cases w
    exact .nil
  | cons n ns ih =>
    intro vs w
    rw [List.map_cons] at w
    cases w with
    | cons a b =>
      cases a
      exact .cons _ _ (ih _ b)

theorem script_of {l : OpenLaw} {n : Nat} (hn : l.most = some n) {P : Params} {h : Heap} {args : List WData} {vals : List Value}
    (hpre : l.row.toRowW.claim.pre args = true) (hwl : WellAll P h vals args) :
    ∃ a vs ns, vals = [Value.ref a] ∧ args = [WData.list (ns.map WData.int)] ∧ h.get? a = some { cls := .type "list", data := .seq vs.toArray } ∧ IntsAre vs ns ∧ ns.length ≤ n := by
  have hsh : WShape.hasAll [] args [.list .int] = true := (pre_splitW hpre).1
  have hc : l.pre.holds [] { args := args } = true := (pre_splitW hpre).2
  obtain ⟨d, r, rfl, h1, h2⟩ := hasAllW_cons hsh
  obtain rfl := hasAllW_nil h2
  obtain ⟨xs, rfl, h3⟩ := hasW_list h1
  obtain ⟨ns, rfl⟩ := items_int h3
  have hlen : ns.length ≤ n := by
    unfold OpenLaw.pre at hc
    have h4 : (WTm.not (.lt (.lit (.int (n : Int))) (.len (.arg 0)))).holds [] { args := [.list (ns.map .int)] } = true := by
      have h4 := (holds_andW hc).1
      rw [hn] at h4
      exact h4
    have h5 := condW_of h4 (w_not (w_lt w_lit (w_len_list (w_arg rfl))))
    rw [List.length_map] at h5
    refine Nat.le_of_not_lt fun q => ?_
    have q' : (n : Int) < ((ns.length : Nat) : Int) := by omega
    first
      | (rw [decide_eq_true q'] at h5; exact absurd h5 (by decide))
      | (simp at h5; omega)
  cases hwl with
  | cons w1 w2 =>
    cases w2
    cases w1 with
    | list ho hall => exact ⟨_, _, ns, rfl, rfl, ho, ints_of_wellAll ns _ hall, hlen⟩

theorem post_true (l : OpenLaw) (args : List WData) : l.row.toRowW.claim.post args (.bool true) args = true :=
  postW_of (r := l.row.toRowW) (X := (true == true))
    (show WShape.has [] (.bool true) .bool = true by first | rfl | decide | simp [WShape.has, WShape.arms, WShape.armsAll])
    (show (WTm.eq .res (.lit (.bool true))).value [] { args := args, res := some (.bool true), after := args } = some (.bool (true == true)) from w_eq_bool (w_res rfl) w_lit) rfl

/-! ### the attachment: holds_open's last premise (the goal 'hc' behind k_head) from a wpAny of the law's body -/
/-- the same from a codeAny of the CALL (for a layer whose function contracts speak of calls) -/
theorem attach_call {l : OpenLaw} {n : Nat} {q : Program} {loose : List Str} {XP : (Str → Option Value) → Heap → Prop} {YP : World → Heap → Prop} {d : DefRec}
    (hn : l.most = some n) (hdf : d.params.defaults = [])
    (call : ∀ (w : World) (s₀ s₁ : Shared) (mg mb : Str → Option Value) (fa : Addr) (o : Obj) (pm cd doc : Value) (a : Addr) (vs : List Value) (ns : List Int),
      Ground q loose [] XP w s₀ mg mb s₁.heap → YP w s₁.heap →
      s₁.heap.get? fa = some o → o.data = .func (docDef d.name d.params d.body d.scope pm cd doc) → s₁.heap.CodeRec cd d.name → mg d.name = some (.ref fa) →
      s₁.heap.get? a = some { cls := .type "list", data := .seq vs.toArray } → IntsAre vs ns → ns.length ≤ n → s₁.gens = #[] →
      codeAny (model l.prog w) callerA (.call (.ref fa) ⟨[.ref a], []⟩) (fun r s' => r = .ok (.ret (.bool true)) ∧ OldK s₁.heap s'.heap ∧ s'.os = s₁.os ∧ AllBare s'.gens) s₁) :
    WalkO q loose XP YP l.row.toRowW d [] (fun f vs => PySem.call f vs) := by
  intro w s₀ s₁ mg mb G Y fa o pm cd doc dV kV ho hd hcd hD hmg hg args vals as hpre hlay hrd hwl hlo
  obtain rfl : dV = .none := Dflts.none hD hdf
  obtain rfl : kV = .none := Dflts.noKw hD
  obtain ⟨a, vs, ns, rfl, rfl, hobj, hints, hlen⟩ := script_of hn hpre hwl
  refine enter_call (codeAny_mono (call w s₀ s₁ mg mb fa o pm cd doc a vs ns G Y ho (fd_plain hd) hcd hmg hobj hints hlen hg) fun r s' hq => ?_)
  obtain ⟨rfl, h2, h3, h4⟩ := hq
  exact ⟨.inl ⟨.bool true, .bool true, [], rfl, fun _ => rfl, .bool true, post_true l _, fun _ => ⟨List.Pairwise.nil, fun _ hm => (nomatch hm)⟩⟩, h2, h3, h4⟩

/-! ### rules over ANY heap (no ledger) from facts about the written part K: the library's own take a ledger (News) for what they write -/
section
variable {prog : Program} {w : World} {A : Around} {E : Value → Shared → Prop} {s : Shared} {K : Frag}

/-! the whole heap as the ledger: makes every rule that writes through a ledger a rule over any heap -/
end
end Att

namespace L2
open PySem PySem.Spec PyProof.Rows

theorem vals_ints : ∀ {vs : List Value} {ns : List Int}, IntsAre vs ns → Vals (ns.map V.int) vs
  | _, _, .nil => .nil
  | _, _, .cons n t h => .cons ⟨t, rfl⟩ (vals_ints h)

/-- nothing is tracked but the script, known to the object (or it is an object of the module) -/
def Only (H : Hp) : Prop := ∀ b, H b = none ∨ ∃ o xs, H b = some (.frz o (.lst xs))

/-- THE HEAD: the law's promise, at the heap behind the top. F, the promise of the law's def, may use that base is part of the heap (so K.In base, base.Ns mainGlobals mg stand in Mod) -/
theorem law_call {P : Program} {w : World} {K : PySem.W.Frag} {mg mb : Str → Option Value} {CX : CXT} {k : Nat} {fa a : Addr} {fd : FuncData} {x : Str} {sp : Sp} {s₁ : Shared} {vs : List Value} {ns : List Int}
    (KX : K.In s₁.heap) (hns : s₁.heap.Ns mainGlobals mg) (hb : s₁.heap.Ns builtinsNs mb) (hbb : ∀ x : Str, x ≠ "__name__" → mb x = bootBuiltins x) (hlim : s₁.heap.NoLimit) (hg : s₁.gens = #[])
    (ha : s₁.heap.get? a = some { cls := .type "list", data := .seq vs.toArray }) (hi : IntsAre vs ns) (hl : ns.length ≤ sizeLine) (hr : Room k callerA)
    (F : ∀ base : Heap, K.In base → base.Ns mainGlobals mg → FnOk P w K mg base CX k fa fd [x] sp) (hbind : ∀ (s : Shared) (u : Value), BindsTo s fd ⟨[u], []⟩ [(x, u)])
    (hsp : ∀ H : Hp, Only H → SqL K H a (ns.map V.int) → sp [.ref a] H (fun v _ => v = .bl true) fun _ _ _ => False)
    (hCX : ∀ H e s', CX [] H s₁ (fun _ _ _ => False) e s' → False) :
    codeAny (model P w) callerA (.call (.ref fa) ⟨[.ref a], []⟩) (fun r s' => r = .ok (.ret (.bool true)) ∧ OldK s₁.heap s'.heap ∧ s'.os = s₁.os ∧ AllBare s'.gens) s₁ := by
  have rv := vals_ints hi
  have lenV := hi.length
  -- from an abstract heap in which nothing but the script may be tracked
  have core : ∀ H : Hp, Only H → SqL K H a (ns.map V.int) → HOk P w H s₁.heap → (∀ b, H b ≠ none → b = a) → (H a ≠ none → K.lookup a = none) →
      codeAny (model P w) callerA (.call (.ref fa) ⟨[.ref a], []⟩) (fun r s' => r = .ok (.ret (.bool true)) ∧ OldK s₁.heap s'.heap ∧ s'.os = s₁.os ∧ AllBare s'.gens) s₁ := by
    intro H hO hS hok hA hK
    have base_of : ∀ {b : Addr} {o : Obj}, s₁.heap.get? b = some o → H b = none → (hidT s₁.heap H).get? b = some o := fun e n => hidT_get e n
    have noA : ∀ {b : Addr} {o : Obj} {es : Array DictEntry} {ep : Nat}, s₁.heap.get? b = some o → o.data = .dict es ep → H b = none := fun {b o es ep} e d => by
      cases q : H b with
      | none => rfl
      | some u =>
        have e' : b = a := hA b (by rw [q]; simp)
        subst e'
        rw [ha] at e; cases e
        have d' : Data.seq vs.toArray _ = Data.dict es ep := d
        cases d'
    have nsK : ∀ {b : Addr} {m : Str → Option Value}, s₁.heap.Ns b m → (hidT s₁.heap H).Ns b m := fun {b m} ⟨o, es, ep, e, d, r⟩ => ⟨o, es, ep, base_of e (noA e d), d, r⟩
    have hKb : K.In (hidT s₁.heap H) := fun b o e => base_of (KX b o e) (by
      cases q : H b with
      | none => rfl
      | some u =>
        have e' : b = a := hA b (by rw [q]; simp)
        subst e'
        rw [hK (by rw [q]; simp)] at e; cases e)
    have hM : Mod K mg (hidT s₁.heap H) := ⟨hKb, nsK hns, ⟨mb, nsK hb, hbb⟩, let ⟨mc, h1, h2⟩ := hlim; ⟨mc, nsK h1, h2⟩⟩
    have e0 : Env0 P w K mg (hidT s₁.heap H) callerA [] s₁ H := ⟨rfl, hM, fun b o e => of_hidT e, Nat.le_of_eq (hidT_size _ _), trivial, fun b hb => absurd (show b ∈ ([] : List Addr) from hb) (by simp), hok, .of_eq hg⟩
    refine codeAny_mono ((F _ hKb (nsK hns)).run callerA [] s₁ H ⟨[.ref a], []⟩ [.ref a] [.ref a] _ _ hr e0 (hbind s₁ (.ref a)) (.cons rfl .nil) (hsp H hO hS)) fun r s' h => ?_
    cases r with
    | error e => exact (hCX H e s' h).elim
    | ok fl =>
      cases fl with
      | next => exact False.elim h
      | brk => exact False.elim h
      | cont => exact False.elim h
      | ret u =>
        obtain ⟨v, H', os, bare, un, hok', r', q⟩ := h
        have q' : v = .bl true := q
        subst q'
        obtain rfl : u = Value.bool true := r'
        refine ⟨rfl, OldK.of_keep fun b o e => ?_, os, bare⟩
        cases q : H b with
        | none => exact un.keep b o e q (by intro z; exact absurd (show b ∈ ([] : List Addr) from z) (by simp)) (by simp)
        | some u =>
          rcases hO b with z | ⟨ob, xs, z⟩
          · rw [q] at z; cases z
          · have z2 := un.frzs b ob _ z
            obtain ⟨e1, _⟩ := hok b _ z
            obtain ⟨e2, _⟩ := hok' b _ z2
            rw [e] at e1; cases e1
            exact e2
  cases hk : K.lookup a with
  | some o =>
    -- the script is one of the module's own objects
    have e := KX a o hk
    rw [ha] at e
    cases e
    refine core (fun _ => none) (fun _ => .inl rfl) (.inr ⟨_, vs.toArray, _, hk, rfl, rfl, rfl, by rw [List.size_toArray, lenV]; exact hl, by simpa using rv⟩) (fun b u z => by have z' : (none : Option HO) = some u := z; cases z') (fun b z => absurd rfl z) fun z => absurd rfl z
  | none =>
    refine core (fun b => if b = a then some (.frz { cls := .type "list", data := .seq vs.toArray } (.lst (ns.map V.int))) else none) (fun b => ?_) (.inl (.inr ⟨{ cls := .type "list", data := .seq vs.toArray }, if_pos rfl⟩)) (fun b u z => ?_) (fun b z => ?_) fun _ => hk
    · by_cases hb : b = a
      · exact .inr ⟨_, _, if_pos hb⟩
      · exact .inl (if_neg hb)
    · by_cases hb : b = a
      · have z' := (if_pos hb).symm.trans z
        cases z'
        subst hb
        exact ⟨ha, by rw [List.length_map]; exact hl, vs, _, rv, ha⟩
      · have z' := (if_neg hb).symm.trans z
        cases z'
    · by_cases hb : b = a
      · exact hb
      · exact absurd (if_neg hb) z
end L2

namespace L2
open PySem PySem.Spec PyProof.Rows

abbrev KOf {K : PySem.W.Frag} {h : Heap} (_ : K.In h) : PySem.W.Frag := K

/-- the goal that k_head leaves (case hc), from the law's promise. F gives the function object fd (K's own) once, then the promise over every base -/
theorem walk_of {l : PySem.W.OpenLaw} {n k : Nat} {q : Program} {loose : List Str} {XP : (Str → Option Value) → Heap → Prop} {YP : World → Heap → Prop} {d : DefRec} {K : Params → PySem.W.Frag} {CX : World → CXT} {sp : World → Sp} {x : Str}
    (hn : l.most = some n) (hn2 : n ≤ sizeLine) (hdf : d.params.defaults = []) (hr : Room k callerA)
    (hY : ∀ (w : World) (h : Heap), YP w h → (K w.params).In h)
    (F : ∀ (w : World) (mg : Str → Option Value) (fa : Addr) (h : Heap), (K w.params).In h → h.Ns mainGlobals mg → mg d.name = some (.ref fa) →
      ∃ fd : FuncData, (∀ (s : Shared) (u : Value), BindsTo s fd ⟨[u], []⟩ [(x, u)]) ∧
        ∀ base : Heap, (K w.params).In base → base.Ns mainGlobals mg → FnOk l.prog w (K w.params) mg base (CX w) k fa fd [x] (sp w))
    (hsp : ∀ (w : World) (H : Hp) (a : Addr) (ns : List Int), ns.length ≤ n → Only H → SqL (K w.params) H a (ns.map V.int) → sp w [.ref a] H (fun v _ => v = .bl true) fun _ _ _ => False)
    (hCX : ∀ (w : World) (H : Hp) (s : Shared) (e : Value) (s' : Shared), CX w [] H s (fun _ _ _ => False) e s' → False) :
    PySem.W.WalkO q loose XP YP l.row.toRowW d [] (fun f vs => PySem.call f vs) := by
  refine Att.attach_call hn hdf fun w s₀ s₁ mg mb fa o pm cd doc a vs ns G Y ho hd hcd hmg hobj hints hlen hg => ?_
  have KX := hY w _ Y
  obtain ⟨fd, hb, hF⟩ := F w mg fa _ KX G.T.g hmg
  exact law_call KX G.T.g G.T.b G.T.builtins G.T.nolimit hg hobj hints (Nat.le_trans hlen hn2) hr hF hb (fun H hO hS => hsp w H a ns hlen hO hS) fun H e s' => hCX w H s₁ e s'
end L2

/- THE LAST THEOREM (shape; LID, My.* are yours):
   My.Adr: a structure of the addresses that your layer names (classes, functions); My.Txt K t: a structure (Prop) of the equations over K;
   My.txt_mk : {K} {implicit addresses ..} (e1 : nsIn K mainGlobals "law" = some (some (.ref f))) (e2 : K.lookup f = some ⟨oc, od, .func (fnOf "law" "law" params body scope dV kV doc pm an cdv ct), sl⟩) (e3 : codeIn K cdv "law" = true) .. : ∃ t, My.Txt K t

set_option maxRecDepth 100000 in
set_option maxHeartbeats 0 in
theorem PySem.Challenge.cw_LID_holds : PySem.Challenge.rw_LID.Holds := by
  w_on; o_law; k_head; (case hw => w_witness2)
  k_fill
  refine L2.walk_of (l := PySem.Challenge.rw_LID) (n := 63) (k := 40) (x := "script") (CX := fun w => ..) (sp := fun _ => My.sp_law) rfl (by decide) rfl ⟨rfl, by decide, by decide⟩ (fun w h Y => PySem.W.kIn_of Y) ?F ?S ?C
  case F =>
    intro w mg fa h KX G hmg
    have T : ∃ t, My.Txt (L2.KOf KX) t := by
      dsimp only [L2.KOf]                          -- K must stand as «<heap const> w.params» for k_is
      refine' My.txt_mk ?e1 ?e2 ?e3 ..
      (case e1 => PySem.W.k_is)                    -- in the order: a name -> its address -> its object -> its parts
      (case e2 => PySem.W.k_is)
      ..
    obtain ⟨t, T⟩ := T
    have e0 := hmg.symm.trans (PySem.W.mg_of KX G T.law)
    cases e0                                       -- fa is the law's own address
    exact ⟨_, fun s u => .of_eq rfl, fun base kb nb => My.law_fn T kb nb⟩     -- if «.of_eq rfl» comes too early: refine' ⟨_, ?b, fun base kb nb => My.law_fn T kb nb⟩; exact fun s u => .of_eq rfl
  case S => exact fun w H a ns hl hO hS => ..
  case C => exact ..
(the tactic k_is has no namespace: write k_is) -/

/-! SHORT WORDS over the layer: a def of the text, its body, what a loop and a test want. -/
namespace L2
open PySem PySem.Spec PyProof.Rows

/-! ### the text by places -/
/-- the j-th statement of a class's body -/
def inClass (s : Stmt) (j : Nat) : Stmt := match s with
  | .ClassDef _ _ _ body _ _ _ _ _ _ _ => body.getD j (.Pass ⟨0, 0, 0, 0⟩)
  | _ => .Pass ⟨0, 0, 0, 0⟩
def defArgs (s : Stmt) : Arguments := match s with
  | .FunctionDef _ a _ _ _ _ _ _ _ _ => a
  | _ => { posonlyargs := [], args := [], vararg := none, kwonlyargs := [], kw_defaults := [], kwarg := none, defaults := [] }
def defBody (s : Stmt) : List Stmt := match s with
  | .FunctionDef _ _ b _ _ _ _ _ _ _ => b
  | _ => []
def defScope (s : Stmt) : Scope := match s with
  | .FunctionDef _ _ _ _ _ _ sc _ _ _ => sc
  | _ => { kind := .function, names := [], isGenerator := false, isCoroutine := false }

/-! ### no exception leaves a def -/
abbrev CX0 : CXT := fun _ _ _ _ _ _ => False
abbrev E0 : XK := fun _ _ _ => False
theorem pass0 {X : Cx} : Passes CX0 X E0 := fun _ _ _ _ _ _ _ h => h.elim

/-! ### a def (or method) of the text as it stands behind the top -/
structure Fun (K : PySem.W.Frag) (x qual : Str) (st : Stmt) (f : Addr) (fd : FuncData) : Prop where
  ex : ∃ (oc : Value) (od : Option Addr) (kV doc pm : Value) (an : Option Addr) (cdv ct : Value) (osl : Array (Option Value)),
    fd = PySem.W.fnOf x qual (defArgs st) (defBody st) (defScope st) .none kV doc pm an cdv ct ∧ K.lookup f = some ⟨oc, od, .func fd, osl⟩ ∧ PySem.W.codeIn K cdv qual = true
  kp : PySem.W.keepIn K (.ref f) = true
section
variable {P : Program} {w : World} {K : PySem.W.Frag} {mg : Str → Option Value} {base : Heap}
/-- THE RULE for a def: its body as a term of rules, and the reading of that term -/
theorem Fun.ok {x qual : Str} {st : Stmt} {f : Addr} {fd : FuncData} {N ps : List Str} {k : Nat} {sp : Sp} (F : Fun K x qual st f fd) (S : FnScope N ps (defScope st)) (len : ∀ vs H Q E, sp vs H Q E → vs.length = ps.length)
    (hbody : ∀ (cdv : Value) (A : Around) (outer : List Env) (s : Shared) (H : Hp) (vs : List V) (Q : VK) (E : XK), Room k (A.deeper (envOfC qual (defScope st) s.heap.objs.size f cdv)) → sp vs H Q E →
      ∃ t, PSs (cxOf CX0 P w K mg base N qual (defScope st) f cdv A outer s H E).nox (defBody st) t ∧ t { nx := fun _ H' => Q .non H', rt := Q } (start N vs) H) : FnOk P w K mg base CX0 (k + 1) f fd ps sp := by
  obtain ⟨oc, od, kV, doc, pm, an, cdv, ct, osl, rfl, lk, hcd⟩ := F.ex
  refine fn_of lk hcd S len fun A outer s H vs Q E hr hsp => ?_
  obtain ⟨t, h, q⟩ := hbody cdv A outer s H vs Q E hr hsp
  exact ⟨t, h.nox, q⟩
/-- how its arguments bind (no defaults): h is «fun _ _ _ _ _ _ us hl => match us, hl with | [_, _], _ => rfl», one _ a parameter -/
theorem Fun.binds {x qual : Str} {st : Stmt} {f : Addr} {fd : FuncData} {ps : List Str} (F : Fun K x qual st f fd)
    (h : ∀ (kV doc pm : Value) (an : Option Addr) (cdv ct : Value) (us : List Value), us.length = ps.length → bindArgs (PySem.W.fnOf x qual (defArgs st) (defBody st) (defScope st) .none kV doc pm an cdv ct) ⟨us, []⟩ = pure (ps.zip us)) : Binds K fd ps [] := by
  obtain ⟨oc, od, kV, doc, pm, an, cdv, ct, osl, rfl, lk, hcd⟩ := F.ex
  exact .all (h kV doc pm an cdv ct)
theorem fun_mk {x qual : Str} {st : Stmt} {f : Addr} {oc : Value} {od an : Option Addr} {osl : Array (Option Value)} {kV doc pm cdv ct : Value} (l : K.lookup f = some ⟨oc, od, .func (PySem.W.fnOf x qual (defArgs st) (defBody st) (defScope st) .none kV doc pm an cdv ct), osl⟩)
    (c : PySem.W.codeIn K cdv qual = true) (k : PySem.W.keepIn K (.ref f) = true) : Fun K x qual st f (PySem.W.fnOf x qual (defArgs st) (defBody st) (defScope st) .none kV doc pm an cdv ct) := ⟨⟨oc, od, kV, doc, pm, an, cdv, ct, osl, rfl, l, c⟩, k⟩
end
theorem small1000 {n : Nat} (h : n ≤ 1000) : n < sizeLine := Nat.lt_of_le_of_lt h (by decide)

/-! ### expressions in short: the name that stands in the i-th slot -/
section
variable {X : Cx}
theorem pv (i : Nat) {x : Str} {pos : Pos} (hN : X.N[i]? = some x := by rfl) (hv : Vis X.env.scope x := by first | exact Or.inl rfl | exact Or.inr (Or.inl rfl) | exact Or.inr (Or.inr rfl)) (hd : (x == ("__debug__" : Str)) = false := by decide)
    (hcd : (x == ("__classdict__" : Str)) = false := by decide) : PE X (.Name x pos) (tVar i) := pe_var hN hv hd hcd
end

/-! ### tests -/
theorem iteF {A B : Prop} (h : B) : if false = true then A else B := by
  rw [if_neg Bool.false_ne_true]
  exact h
theorem iteT {A B : Prop} (h : A) : if true = true then A else B := by
  rw [if_pos rfl]
  exact h
theorem iteNS {c A B : Prop} [Decidable c] (hc : c) (h : B) : if (!decide c) = true then A else B := by
  rw [decide_eq_true hc]
  exact iteF h

/-! ### heaps -/
/-- all that was tracked is as it was -/
def Same (H H' : Hp) : Prop := ∀ b o, H b = some o → H' b = some o
theorem Same.refl (H : Hp) : Same H H := fun _ _ h => h
theorem Same.trans {H H1 H2 : Hp} (a : Same H H1) (b : Same H1 H2) : Same H H2 := fun c o h => b c o (a c o h)
theorem Same.free {H H' : Hp} (e : Same H H') {l : Addr} (h : H' l = Option.none) : H l = Option.none := by
  cases q : H l with
  | none => rfl
  | some o =>
    rw [e l o q] at h
    cases h
theorem Same.seq {K : PySem.W.Frag} {H H' : Hp} {a : Addr} {xs : List V} (e : Same H H') (h : SqL K H a xs) : SqL K H' a xs := by
  rcases h with (h | ⟨o, h⟩) | h
  · exact .inl (.inl (e _ _ h))
  · exact .inl (.inr ⟨o, e _ _ h⟩)
  · exact .inr h

end L2

set_option linter.all false
set_option maxRecDepth 100000
set_option maxHeartbeats 4000000

namespace Fs
/-- the ints from lo up to below hi -/
def upTo (lo hi : Int) : List Int := (List.range (hi - lo).toNat).map fun k => lo + (k : Nat)
theorem length_upTo (lo hi : Int) : (upTo lo hi).length = (hi - lo).toNat := by simp [upTo]
theorem get_upTo {lo hi : Int} {k : Nat} (h : k < (hi - lo).toNat) : (upTo lo hi)[k]? = some (lo + (k : Nat)) := by
  simp [upTo, h]
theorem mem_upTo {lo hi x : Int} : x ∈ upTo lo hi ↔ lo ≤ x ∧ x < hi := by
  simp only [upTo, List.mem_map, List.mem_range]
  constructor
  · rintro ⟨k, hk, rfl⟩
    omega
  · rintro ⟨h1, h2⟩
    exact ⟨(x - lo).toNat, by omega, by omega⟩
theorem sorted_upTo (lo hi : Int) : (upTo lo hi).Pairwise (· < ·) := by
  unfold upTo
  rw [List.pairwise_map]
  refine List.Pairwise.imp (fun {a b} h => ?_) (List.pairwise_lt_range (n := (hi - lo).toNat))
  omega
theorem sorted_eq : ∀ {l1 l2 : List Int}, l1.Perm l2 → l1.Pairwise (· ≤ ·) → l2.Pairwise (· ≤ ·) → l1 = l2
  | [], l2, p, _, _ => by simpa using p.symm.eq_nil
  | a :: l1, [], p, _, _ => by simpa using p.eq_nil
  | a :: l1, b :: l2, p, h1, h2 => by
    have ha : a ∈ b :: l2 := p.mem_iff.mp (by simp)
    have hb : b ∈ a :: l1 := p.mem_iff.mpr (by simp)
    rw [List.pairwise_cons] at h1 h2
    have e : a = b := by
      rcases List.mem_cons.mp ha with e | ha
      · exact e
      · rcases List.mem_cons.mp hb with e | hb
        · exact e.symm
        · exact Int.le_antisymm (h1.1 b hb) (h2.1 a ha)
    subst e
    rw [sorted_eq (List.Perm.cons_inv p) h1.2 h2.2]
theorem erase_perm : ∀ (l : List Int) (j : Nat), j < l.length → ([l.getD j 0] ++ l.eraseIdx j).Perm l
  | [], _, h => absurd h (Nat.not_lt_zero _)
  | x :: l, 0, _ => List.Perm.refl _
  | x :: l, j + 1, h => by
    have ih := erase_perm l j (by simpa using h)
    show (l.getD j 0 :: x :: l.eraseIdx j).Perm (x :: l)
    exact (List.Perm.swap _ _ _).trans (ih.cons x)
/-- a plain pile -/
structure Plain (xs : List Int) : Prop where
  pos : 1 ≤ xs.length
  perm : xs.Perm (upTo 1 (xs.length + 1))
def absI (i : Int) : Int := if i < 0 then -i else i
theorem Plain.mem {xs : List Int} (p : Plain xs) {x : Int} (h : x ∈ xs) : 1 ≤ x ∧ x ≤ xs.length := by
  have := mem_upTo.mp (p.perm.mem_iff.mp h)
  omega
theorem Plain.abs {xs : List Int} (p : Plain xs) : xs.map absI = xs := by
  have : ∀ x ∈ xs, absI x = x := fun x h => by
    have := p.mem h
    unfold absI
    rw [if_neg (by omega)]
  exact (List.map_congr_left this).trans (List.map_id _)
/-- what sorted(xs) != list(range(1, n + 1)) asks -/
theorem Plain.sorted {xs ms : List Int} (p : Plain xs) (h : ms.Perm xs) (hs : ms.Pairwise (· ≤ ·)) : ms = upTo 1 (xs.length + 1) :=
  sorted_eq (h.trans p.perm) hs ((sorted_upTo _ _).imp fun h => Int.le_of_lt h)
end Fs


namespace Fs
end Fs


namespace Fs
theorem nodup_upTo (lo hi : Int) : (upTo lo hi).Nodup := (sorted_upTo lo hi).imp fun h => Int.ne_of_lt h
theorem Plain.nodup {xs : List Int} (p : Plain xs) : xs.Nodup := p.perm.nodup_iff.mpr (nodup_upTo _ _)
end Fs


namespace Fs
end Fs
namespace Fs
end Fs


/-! LIST COMPREHENSIONS over the layer: the block as a context of its own. -/
namespace L2
open PySem PySem.Spec PyProof.Rows

theorem closure_ex {sc : Scope} {env : Env} (h : ∀ x ∈ sc.names, x.2 = NameKind.free → ∃ c, env.cells.lookup x.1 = some c) :
    ∃ cl : List (Str × Addr), closureFor sc env = pure cl ∧ (∀ x c, cl.lookup x = some c → env.cells.lookup x = some c) ∧ ∀ x, (x, NameKind.free) ∈ sc.names → (cl.lookup x).isSome = true := by
  have key : ∀ (f : Str × NameKind → List (Str × Addr) → Sem (ForInStep (List (Str × Addr)))) (hf : ∀ n k cs, f (n, k) cs = if (k == NameKind.free) = true then (cellOf env n >>= fun a => pure (ForInStep.yield ((n, a) :: cs))) else pure (ForInStep.yield cs))
      (names : List (Str × NameKind)) (cs : List (Str × Addr)), (∀ x ∈ names, x.2 = NameKind.free → ∃ c, env.cells.lookup x.1 = some c) → (∀ x c, cs.lookup x = some c → env.cells.lookup x = some c) →
      ∃ cl, (forIn names cs f : Sem _) = pure cl ∧ (∀ x c, cl.lookup x = some c → env.cells.lookup x = some c) ∧ (∀ x, (cs.lookup x).isSome = true → (cl.lookup x).isSome = true) ∧ ∀ x, (x, NameKind.free) ∈ names → (cl.lookup x).isSome = true := by
    intro f hf names
    induction names with
    | nil => intro cs _ h2; exact ⟨cs, rfl, h2, fun _ q => q, fun x q => nomatch q⟩
    | cons a r ih =>
      intro cs h1 h2
      obtain ⟨n, k⟩ := a
      rw [List.forIn_cons, hf]
      by_cases hk : k = .free
      · subst hk
        obtain ⟨c, hc⟩ := h1 (n, .free) List.mem_cons_self rfl
        have hc' : env.cells.lookup n = some c := hc
        have e : cellOf env n = pure c := by unfold cellOf; rw [hc']
        rw [if_pos (show (NameKind.free == NameKind.free) = true from rfl), e]
        simp only [pure_bind]
        obtain ⟨cl, e1, e2, e3, e4⟩ := ih ((n, c) :: cs) (fun x hx => h1 x (List.mem_cons_of_mem _ hx)) (fun x c' q => by
          rw [List.lookup_cons] at q
          cases hx : x == n with
          | true => rw [hx] at q; cases q; rw [eq_of_beq hx]; exact hc'
          | false => rw [hx] at q; exact h2 x c' q)
        refine ⟨cl, e1, e2, fun x q => e3 x ?_, fun x q => ?_⟩
        · rw [List.lookup_cons]
          cases hx : x == n with
          | true => rfl
          | false => exact q
        · rcases List.mem_cons.mp q with z | z
          · cases z; exact e3 n (by rw [List.lookup_cons, beq_self_eq_true]; rfl)
          · exact e4 x z
      · have hb : (k == NameKind.free) = false := by simpa using hk
        rw [if_neg (by rw [hb]; exact Bool.false_ne_true)]
        simp only [pure_bind]
        obtain ⟨cl, e1, e2, e3, e4⟩ := ih cs (fun x hx => h1 x (List.mem_cons_of_mem _ hx)) h2
        refine ⟨cl, e1, e2, e3, fun x q => ?_⟩
        rcases List.mem_cons.mp q with z | z
        · cases z; exact absurd rfl hk
        · exact e4 x z
  obtain ⟨cl, e1, e2, _, e4⟩ := key (fun x r => match x with | (name, kind) => if (kind == NameKind.free) = true then (cellOf env name >>= fun a => pure (ForInStep.yield ((name, a) :: r))) else pure (ForInStep.yield r)) (fun _ _ _ => rfl) sc.names [] h (fun x c q => nomatch q)
  refine ⟨cl, ?_, e2, e4⟩
  unfold closureFor
  show (forIn sc.names [] _ >>= fun cs => pure cs) = pure cl
  first
  | (rw [e1]; rfl)
  | (refine Eq.trans (congrArg (· >>= fun cs => pure cs) (Eq.trans (congrArg (forIn sc.names []) (funext fun x => funext fun r => ?_)) e1)) rfl; obtain ⟨n, k⟩ := x; rfl)

/-- a name of the block as it is called behind relabel -/
theorem relabel_lookup {env : Env} : ∀ (names : List (Str × NameKind)) (x : Str) (k : NameKind),
    (names.map fun (n, k) => if (k == NameKind.free && env.scope.kind == .function && env.kindOf n == some .cell) then (n, NameKind.cell) else (n, k)).lookup x = some k →
    ∃ k', names.lookup x = some k' ∧ (k = k' ∨ (k' = .free ∧ k = .cell))
  | [], _, _, h => nomatch h
  | (n, k0) :: r, x, k, h => by
    have ih := relabel_lookup (env := env) r x k
    rw [List.map_cons, List.lookup_cons] at h
    rw [List.lookup_cons]
    by_cases hc : (k0 == NameKind.free && env.scope.kind == .function && env.kindOf n == some .cell) = true
    · simp only [hc, if_true] at h
      cases hx : x == n with
      | true =>
        rw [hx] at h
        cases h
        refine ⟨k0, rfl, .inr ⟨?_, rfl⟩⟩
        simp only [Bool.and_eq_true] at hc
        exact eq_of_beq hc.1.1
      | false => rw [hx] at h; exact ih h
    · simp only [if_neg hc] at h
      cases hx : x == n with
      | true =>
        rw [hx] at h
        cases h
        exact ⟨k0, rfl, .inl rfl⟩
      | false => rw [hx] at h; exact ih h

/-- the block's context -/
def Cx.block (X : Cx) (sc : Scope) (cl : List (Str × Addr)) (Nc : List Str) (s : Shared) (H : Hp) (fp : List Addr) : Cx :=
  { X with N := Nc, s₀ := s, H₀ := H, env := compEnvC sc cl s.heap.objs.size X.env, outer := X.stack, ex := fp, fn := fun _ => false, pn := [], xe := fun _ _ => False }

/-- which of the block's names are the def's own (its slot there), which the block's -/
structure CapOk (X : Cx) (sc : Scope) (Nc : List Str) (cap : List (Option Nat)) : Prop where
  len : cap.length = Nc.length
  ok : ∀ (j i : Nat), cap[j]? = some (some i) → ∃ x, Nc[j]? = some x ∧ X.N[i]? = some x ∧ X.env.scope.names.lookup x = some .cell ∧ sc.names.lookup x = some .free
theorem cap_nil {X : Cx} {sc : Scope} : CapOk X sc [] [] := ⟨rfl, fun _ _ e => by simp at e⟩
theorem cap_own {X : Cx} {sc : Scope} {Nc : List Str} {cap : List (Option Nat)} {x : Str} (h : CapOk X sc Nc cap) : CapOk X sc (x :: Nc) (none :: cap) := by
  refine ⟨by simp [h.len], fun j i e => ?_⟩
  cases j with
  | zero => simp at e
  | succ j => obtain ⟨y, e1, e2⟩ := h.ok j i (by simpa using e); exact ⟨y, by simpa using e1, e2⟩
theorem cap_free {X : Cx} {sc : Scope} {Nc : List Str} {cap : List (Option Nat)} {x : Str} {i : Nat} (h : CapOk X sc Nc cap) (h1 : X.N[i]? = some x := by rfl) (h2 : X.env.scope.names.lookup x = some .cell := by rfl)
    (h3 : sc.names.lookup x = some .free := by rfl) : CapOk X sc (x :: Nc) (some i :: cap) := by
  refine ⟨by simp [h.len], fun j k e => ?_⟩
  cases j with
  | zero => simp at e; subst e; exact ⟨x, rfl, h1, h2, h3⟩
  | succ j => obtain ⟨y, e1, e2⟩ := h.ok j k (by simpa using e); exact ⟨y, by simpa using e1, e2⟩
theorem CapOk.frees {X : Cx} {sc : Scope} {Nc : List Str} {cap : List (Option Nat)} (h : CapOk X sc Nc cap) (hfr : (sc.names.all fun x => !(x.2 == NameKind.free) || (Nc.zip cap).any fun p => p.1 == x.1 && p.2.isSome) = true) :
    ∀ x ∈ sc.names, x.2 = NameKind.free → X.env.scope.names.lookup x.1 = some .cell := fun x hx hf => by
  have h1 := List.all_eq_true.mp hfr x hx
  rw [hf] at h1
  have h2 : ((Nc.zip cap).any fun p => p.1 == x.1 && p.2.isSome) = true := by simpa using h1
  obtain ⟨p, hp, hq⟩ := List.any_eq_true.mp h2
  rw [Bool.and_eq_true] at hq
  obtain ⟨j, hj⟩ := List.mem_iff_getElem?.mp hp
  rw [List.getElem?_zip_eq_some] at hj
  obtain ⟨i, hi⟩ := Option.isSome_iff_exists.mp hq.2
  obtain ⟨y, e1, _, e3, _⟩ := h.ok j i (by rw [hj.2, hi])
  rw [hj.1] at e1
  cases e1
  rw [← eq_of_beq hq.1]
  exact e3
/-- the block's slots at the start of a turn -/
def capSt (cap : List (Option Nat)) (σ : St) : St := cap.map fun o => o.bind fun i => (σ[i]?).join

/-- the target leaves the def's own names as they are -/
def GKeep (cap : List (Option Nat)) (g : TG) : Prop := ∀ (x : V) (σ0 : St) (H : Hp) (Q : St → Hp → Prop), g x σ0 H Q → g x σ0 H fun σ' H' => Q σ' H' ∧ ∀ (j k : Nat), cap[j]? = some (some k) → σ'[j]? = σ0[j]?
theorem keep_name {cap : List (Option Nat)} {i : Nat} (h : cap[i]? = some none := by rfl) : GKeep cap (gName i) := fun x σ0 H Q q => ⟨q, fun j k e => by
  refine List.getElem?_set_ne fun z => ?_
  subst z
  rw [h] at e
  cases e⟩
/-- the tests of a clause -/
def PIf (X : Cx) (ifs : List Expr) (tt : TT) : Prop :=
  ∀ (pins : List (Addr × Obj)) (s : Shared) (σ : St) (H : Hp) (Q : Bool → Hp → Prop), Inv X pins σ H s → tt σ H Q →
    wpAny (model X.prog X.w) X.A (forIn ifs true fun c r => if r = true then do let ok ← isTrue c X.env (eval c X.env); pure (ForInStep.yield ok) else pure (ForInStep.yield r)) (TP X pins σ Q) X.xe s
def tTrue : TT := fun _ H Q => Q true H
theorem pif_nil {X : Cx} : PIf X [] tTrue := fun _ _ _ H _ I h => wpAny_tests_nil ⟨H, I, h⟩
theorem pif_one {X : Cx} {c : Expr} {tt : TT} (h : PT X c tt) : PIf X [c] tt := fun pins s σ H Q I q => wpAny_tests_one (h pins s σ H Q I q)

section
variable {prog : Program} {w : World} {A : Around} {R : Result → Shared → Prop} {s : Shared}
theorem comp_loop {elt target iter : Expr} {ifs : List Expr} {scope : Scope} {pos : Pos} {it acc : Value} {env : Env} (I : Nat → Shared → Prop)
    (turn : ∀ n s, I n s → wpAny (model prog w) A (pyNext it) (fun r s₁ => match r with
      | none => R (.ok .next) s₁
      | some v => wpAny (model prog w) A (letOwnedTupleGo target it v) (fun _ s₁ => wpAny (model prog w) A (assign target env v) (fun _ s₂ =>
          wpAny (model prog w) A (forIn ifs true fun c r => if r = true then do let ok ← isTrue c env (eval c env); pure (ForInStep.yield ok) else pure (ForInStep.yield r)) (fun ok s₃ =>
            if ok = true then wpAny (model prog w) A (eval elt env) (fun x s₄ =>
              wpAny (model prog w) A (call (.builtin "list.append") [acc, x]) (fun _ s₅ => ∃ m, m < n ∧ I m s₅) (fun _ _ => False) s₄) (fun _ _ => False) s₃
            else ∃ m, m < n ∧ I m s₃) (fun _ _ => False) s₂) (fun _ _ => False) s₁) (fun _ _ => False) s₁) (fun _ _ => False) s)
    (n : Nat) (h : I n s) :
    codeAny (model prog w) A (.compLoop (.ListComp elt [⟨target, iter, ifs, 0⟩] scope pos) 0 it acc env) R s := by
  refine codeAny_loop rfl I (fun n s hI => ?_) n h
  show wpAny _ A ((compTurn (.ListComp elt [⟨target, iter, ifs, 0⟩] scope pos) 0 it acc env).onRaise (fun x => do noteFrame x env; theTreesLotGoes x)) _ _ s
  refine wpAny_noted ?_
  rw [compTurn_list]
  refine wpAny_bind (wpAny_standAt (wpAny_bind (wpAny_mono (turn n s hI) (fun r s₁ h₁ => ?_) fun _ _ h' => h'.elim)))
  cases r with
  | none => exact wpAny_pure h₁
  | some v =>
    refine wpAny_bind (wpAny_mono h₁ (fun _ s₁ h₁ => ?_) fun _ _ h' => h'.elim)
    refine wpAny_bind (wpAny_mono h₁ (fun _ s₂ h₂ => wpAny_bind (wpAny_mono h₂ (fun ok s₃ h₃ => ?_) fun _ _ h' => h'.elim)) fun _ _ h' => h'.elim)
    cases ok with
    | false => exact wpAny_pure ⟨rfl, h₃⟩
    | true =>
      exact wpAny_bind (wpAny_bind (wpAny_mono h₃ (fun x s₄ h₄ => wpAny_bind (wpAny_mono h₄ (fun _ s₅ h₅ => wpAny_pure (wpAny_pure ⟨rfl, h₅⟩)) fun _ _ h' => h'.elim)) fun _ _ h' => h'.elim))
end

section
variable {X : Cx} {tg iter elt : Expr} {ifs : List Expr} {sc : Scope} {pos : Pos} {wi : TI} {g : TG} {tt : TT} {te : TE} {Nc : List Str} {cap : List (Option Nat)}

/-- what the walk of a comprehension wants (tComp's inner part) -/
def CompW (cap : List (Option Nat)) (σ : St) (J : It) (H1 : Hp) (g : TG) (tt : TT) (te : TE) (Q : VK) : Prop := ∀ acc, H1 acc = none →
  ∃ W : Nat → Nat → List V → Hp → Prop, (∃ m, W 0 m [] (upd H1 acc (.lst []))) ∧ ∀ i m ys H2, W i m ys H2 → H2 acc = some (.lst ys) ∧
    ((J.stop i H2 ∧ Q (.ref acc) H2) ∨ (J.go i H2 ∧ ys.length < sizeLine ∧ ∀ x H3, J.yld i H2 x H3 → g x (capSt cap σ) H3 fun σ2 H4 => tt σ2 H4 fun b H5 =>
      if b = true then te σ2 H5 fun y H6 => H6 acc = some (.lst ys) ∧ ∃ m', m' < m ∧ W (i + 1) m' (ys ++ [y]) (upd H6 acc (.lst (ys ++ [y]))) else ∃ m', m' < m ∧ W (i + 1) m' ys H5))
/-- [elt for tg in iter if ..]: acc is the new list; W the word by the turn, a measure, the items so far -/
def tComp (cap : List (Option Nat)) (wi : TI) (g : TG) (tt : TT) (te : TE) : TE := fun σ H Q => wi σ H fun J H1 => CompW cap σ J H1 g tt te Q

/-- the block's run, for whatever is wanted behind it -/
theorem comp_block {pins : List (Addr × Obj)} {σ : St} {s2 : Shared} {H2 : Hp} {cl : List (Str × Addr)} {it : Addr} {fp : List Addr} {tn : Nat → Heap → Prop} {J : It} {Q : VK} {RR : Value → Addr → Result → Shared → Prop} {E : Value → Shared → Prop}
    (hc : X.calm = true) (cp : CapOk X sc Nc cap) (hk : GKeep cap g)
    (hg : ∀ cl s H fp, PG (X.block sc cl Nc s H fp) tg g) (ht : ∀ cl s H fp, PIf (X.block sc cl Nc s H fp) ifs tt) (he : ∀ cl s H fp, PE (X.block sc cl Nc s H fp) elt te)
    (hcell : ∀ x ∈ sc.names, x.2 ≠ NameKind.cell) (hkind : sc.kind = .function)
    (hcl1 : ∀ x c, cl.lookup x = some c → X.env.cells.lookup x = some c) (hcl2 : ∀ x, (x, NameKind.free) ∈ sc.names → (cl.lookup x).isSome = true)
    (I2 : Inv X pins σ H2 s2) (T : Turn X.prog X.w X.K tg J fp it tn) (st2 : tn 0 s2.heap) (f2 : ∀ b ∈ fp, FpOk X pins H2 b)
    (h : CompW cap σ J H2 g tt te Q)
    (hRR : ∀ (acc C : Addr) (s' : Shared) (H' : Hp) (oC : Obj) (m : Str → Option Value), Inv X pins σ H' s' → s'.heap.get? C = some oC → s'.heap.Ns C m → H' C = none → X.s₀.heap.objs.size ≤ C → C ≠ X.env.locals → C ∉ X.fs →
      (∀ x c, X.env.cells.lookup x = some c → c ≠ C) → (∀ p ∈ X.pn ++ pins, p.1 ≠ C) → Q (.ref acc) H' → RR (.ref acc) C (.ok .next) s') :
    wpAny (model X.prog X.w) X.A (newList []) (fun acc s₃ => wpAny (model X.prog X.w) X.A (newFunctionEnv sc X.env.globals cl [] X.env.qual none .none (some X.env)) (fun cenv s₄ =>
      codeAny (model X.prog X.w) X.A (.compStart (.ListComp elt [⟨tg, iter, ifs, 0⟩] sc pos) 0 (.ref it) acc { cenv with scope := relabel sc X.env }) (RR acc cenv.locals) s₄) E s₃) E s2 := by
  refine wpAny_newObj_type (wpAny_newFunctionEnv hcell (by intro y hy; simp at hy) (fun h₁ hns₁ hsb₁ => ?_) hkind)
  dsimp only at hns₁ hsb₁ ⊢
  -- the new list
  have I3 : Inv X pins σ (upd H2 s2.heap.objs.size (.lst [])) { s2 with heap := s2.heap.push { cls := .type "list", dict := none, data := .seq ([] : List Value).toArray } } :=
    I2.lnew (ys := []) (its := []) (t' := s2.toks) .nil (Nat.zero_le _)
  have facc : H2 s2.heap.objs.size = none := I2.fresh
  obtain ⟨W, ⟨m0, w0⟩, turn⟩ := h s2.heap.objs.size facc
  have fpold : ∀ b ∈ fp, b < s2.heap.objs.size := fun b hb => by
    obtain ⟨o, e, _⟩ := T.obj _ _ st2 b hb
    exact Heap.lt_size e
  generalize hs3 : ({ s2 with heap := s2.heap.push { cls := .type "list", dict := none, data := .seq ([] : List Value).toArray } } : Shared) = s3 at I3
  have hh3 : s3.heap = s2.heap.push { cls := .type "list", dict := none, data := .seq ([] : List Value).toArray } := by rw [← hs3]
  rw [← hh3] at hns₁ hsb₁ ⊢
  have h3sz : s3.heap.objs.size = s2.heap.objs.size + 1 := by rw [hh3, Heap.size_push]
  generalize hacc : s2.heap.objs.size = acc at *
  generalize hH3 : upd H2 acc (.lst []) = H3 at *
  have f3 : ∀ b ∈ fp, FpOk X pins H3 b := fun b hb => by
    obtain ⟨f0, fr⟩ := f2 b hb
    refine ⟨?_, fr⟩
    rw [← hH3, upd_ne (Nat.ne_of_lt (fpold b hb))]
    exact f0
  have old : ∀ b o, s3.heap.get? b = some o → h₁.get? b = some o := fun b o e => hsb₁.extBut b o (Nat.ne_of_lt (Heap.lt_size e)) (Heap.get?_push_of_some _ e)
  -- the block's context
  have okB : (X.block sc cl Nc s3 H3 fp).Ok := by
    refine ⟨I3.ok.mod, hkind, I3.ok.glob, I3.ok.blt, Nat.le_refl _, fun x y c e1 e2 => I3.ok.inj x y c (hcl1 x c e1) (hcl1 y c e2), fun x hx => ?_, fun x c hf => ?_, I3.ok.hd, I3.ok.frames, .inl rfl, fun b hb => ?_, I3.bs, Nat.le_trans I3.ok.bsz I3.sz, fun b o e hb => ?_, fun b hb hm => ?_, I3.stack, I3.stkFree⟩
    · have key : ∀ k, (relabel sc X.env).names.lookup x = some k → (k = .cell ∨ k = .free) → ∃ c, cl.lookup x = some c := fun k e hk => by
        obtain ⟨k', e', z⟩ := relabel_lookup (env := X.env) sc.names x k e
        have mem := PySem.mem_of_lookup e'
        have hf : k' = .free := by
          rcases z with z | z
          · subst z
            rcases hk with hk | hk
            · exact absurd hk (hcell _ mem)
            · exact hk
          · exact z.1
        subst hf
        exact Option.isSome_iff_exists.mp (hcl2 x mem)
      rcases hx with hx | hx
      · exact key _ hx (.inl rfl)
      · exact key _ hx (.inr rfl)
    · exact absurd (show false = true from hf) Bool.false_ne_true
    · obtain ⟨_, _, _, _, fc, _⟩ := f3 b hb
      refine ⟨Nat.ne_of_lt (show b < s3.heap.objs.size by rw [h3sz]; exact Nat.lt_succ_of_lt (fpold b hb)), fun x c e => fc x c (hcl1 x c e)⟩
    · obtain ⟨_, _, _, fx, _, _⟩ := f3 b hb
      rcases fx with z | z
      · exact I3.ok.noex b o e z
      · exact absurd (Nat.lt_of_lt_of_le (Heap.lt_size e) (Nat.le_trans I3.ok.bsz z)) (Nat.lt_irrefl _)
    · obtain ⟨_, fl, ff, _, _, _⟩ := f3 b hb
      rcases List.mem_cons.mp (I3.stkSub b hm) with z | z
      · exact fl z
      · exact ff z
  have h1eq' : ({ s2 with heap := h₁, toks := s2.toks + ([] : List (Str × Value)).length } : Shared) = { s3 with heap := h₁ } := by rw [← hs3]; rfl
  have IB : Inv (X.block sc cl Nc s3 H3 fp) [] (capSt cap σ) H3 { s3 with heap := h₁ } := by
    refine ⟨okB, rfl, I3.bare, Un.kept old, ⟨_, hns₁, fun j x v e1 e2 e3 => ?_⟩, fun x c e => ?_, I3.fresh, fun x c e => I3.freeC x c (hcl1 x c e), fun p hp => absurd hp (by simp [Cx.block]), I3.hok.kept old, ?_⟩
    · have e1 : Nc[j]? = some x := e1
      have ej : ∃ o : Option Nat, cap[j]? = some o ∧ (o.bind fun i => (σ[i]?).join) = some v := by
        unfold capSt at e2
        rw [List.getElem?_map] at e2
        cases q : cap[j]? with
        | none => rw [q] at e2; cases e2
        | some o => rw [q] at e2; exact ⟨o, rfl, Option.some.inj e2⟩
      obtain ⟨o, ej, ev⟩ := ej
      cases o with
      | none => cases ev
      | some i =>
        obtain ⟨y, c1, c2, c3, c4⟩ := cp.ok j i ej
        rw [e1] at c1; cases c1
        have eσ : σ[i]? = some (some v) := by
          have ev : (σ[i]?).join = some v := ev
          cases q : σ[i]? with
          | none => rw [q] at ev; cases ev
          | some z => rw [q] at ev; have ev : z = some v := ev; rw [ev]
        obtain ⟨m, hn, hl⟩ := I3.loc
        obtain ⟨u, r, l⟩ := hl i x v c2 eσ (.inr (.inl c3))
        refine ⟨u, r, .inr ?_⟩
        rcases l with ⟨k, _⟩ | ⟨_, c, e, z⟩
        · exact absurd (show some NameKind.cell = some NameKind.local from c3.symm.trans k) (by decide)
        · obtain ⟨c', ec'⟩ := Option.isSome_iff_exists.mp (hcl2 x (PySem.mem_of_lookup c4))
          have : c' = c := Option.some.inj ((hcl1 x c' ec').symm.trans e)
          subst this
          refine ⟨?_, c', ec', ?_⟩
          · rcases e3 with q | q | q
            · obtain ⟨k', ek', z'⟩ := relabel_lookup (env := X.env) sc.names x .local q
              rw [c4] at ek'
              cases ek'
              rcases z' with z' | z'
              · cases z'
              · cases z'.2
            · exact .inl q
            · exact .inr q
          · obtain ⟨o, ho, hd⟩ := z
            exact ⟨o, old _ _ ho, hd⟩
    · obtain ⟨v, o, ho, hd⟩ := I3.cell x c (hcl1 x c e)
      exact ⟨v, o, old _ _ ho, hd⟩
    · show (capSt cap σ).length = Nc.length
      unfold capSt
      rw [List.length_map, cp.len]
  have stat : ∀ {H' : Hp}, (∀ b ∈ fp, H' b = none) → ∀ b ∈ fp, FpOk (X.block sc cl Nc s3 H3 fp) [] H' b := fun hn b hb => by
    obtain ⟨_, _, _, _, fc, _⟩ := f3 b hb
    refine ⟨hn b hb, (okB.exf b hb).1, okB.exfs b hb, .inl hb, fun x c e => fc x c (hcl1 x c e), fun p hp => absurd hp (by simp [Cx.block])⟩
  have loop : codeAny (model X.prog X.w) X.A (.compLoop (.ListComp elt [⟨tg, iter, ifs, 0⟩] sc pos) 0 (.ref it) (.ref acc) (compEnvC sc cl s3.heap.objs.size X.env)) (RR (.ref acc) s3.heap.objs.size) { s3 with heap := h₁ } := by
    refine comp_loop (fun n s' => ∃ i ys H', Inv (X.block sc cl Nc s3 H3 fp) [] (capSt cap σ) H' s' ∧ tn i s'.heap ∧ (∀ b ∈ fp, H' b = none) ∧ W i n ys H') ?_ m0
      ⟨0, [], H3, IB, T.keep _ _ _ st2 (fun b hb o e => old b o (by rw [hh3]; exact Heap.get?_push_of_some _ e)), fun b hb => (f3 b hb).1, w0⟩
    rintro n s' ⟨i, ys, H', I', st', fr', w'⟩
    obtain ⟨ea, tr⟩ := turn i n ys H' w'
    rcases tr with ⟨stop, q⟩ | ⟨go, hlen, step⟩
    · refine thn (T.done (X.block sc cl Nc s3 H3 fp) rfl rfl rfl hc i [] s' _ H' _ I' (stat fr') st' stop) fun r s4 hq0 => ?_
      obtain ⟨hr, I4⟩ := hq0
      subst hr
      obtain ⟨m, ns, _⟩ := I4.loc
      obtain ⟨oC, _, _, hoC, _⟩ := id ns
      have IX : Inv X pins σ H' s4 := I3.call' (ch := fp) I4.os I4.base I4.hok I4.bare fun b hb => by
        obtain ⟨_, fl, _, fx, fc, fpn⟩ := f3 b hb
        exact ⟨fx, fl, fc, fpn⟩
      refine hRR acc _ s4 H' oC m IX hoC ns I4.free I3.sz (Nat.ne_of_gt I3.lt) (I3.nofs (Nat.le_refl _)) (fun x c e z => ?_) (fun p hp z => ?_) q
      · obtain ⟨v, k⟩ := I3.cell x c e
        exact absurd k.lt (by rw [z]; exact Nat.lt_irrefl _)
      · exact absurd (Heap.lt_size (I3.pin p hp).1) (by rw [z]; exact Nat.lt_irrefl _)
    · refine thn (T.item (X.block sc cl Nc s3 H3 fp) rfl rfl rfl hc i [] s' _ H' _ I' (stat fr') st' go) fun r s4 hq0 => ?_
      obtain ⟨u, hr, h4⟩ := hq0
      subst hr
      refine thn h4 fun _ s5 hq0 => ?_
      obtain ⟨x, H5, I5, r5, y5, st5, fr5⟩ := hq0
      have I5' := I5.pinned (stat fr5) (T.obj _ _ st5)
      refine thn (hg cl s3 H3 fp _ s5 _ H5 x u _ I5' r5 (hk x _ H5 _ (step x H5 y5))) fun _ s6 hq0 => ?_
      obtain ⟨σ6, H6, I6, q6, k6⟩ := hq0
      have again : ∀ {m' : Nat} {ys' : List V} {H7 : Hp} {s7 : Shared}, Inv (X.block sc cl Nc s3 H3 fp) ([] ++ pinsAt fp s5.heap) σ6 H7 s7 → W (i + 1) m' ys' H7 →
          ∃ i ys H', Inv (X.block sc cl Nc s3 H3 fp) [] (capSt cap σ) H' s7 ∧ tn i s7.heap ∧ (∀ b ∈ fp, H' b = none) ∧ W i m' ys H' := fun {m' ys' H7 s7} I7 w7 => by
        refine ⟨i + 1, ys', H7, I7.unpinned.weak (I'.len.trans I7.len.symm) (fun j v e => ?_), T.keep _ _ _ st5 fun b hb o e => (I7.pin (b, o) (List.mem_append_right _ (List.mem_append_right _ (mem_pinsAt hb e)))).1, fun b hb => ?_, w7⟩
        · have e' := e
          unfold capSt at e'
          rw [List.getElem?_map] at e'
          cases q : cap[j]? with
          | none => rw [q] at e'; cases e'
          | some o =>
            rw [q] at e'
            cases o with
            | none => cases (Option.some.inj e')
            | some k => rw [k6 j k q]; exact e
        · obtain ⟨o, e, d⟩ := T.obj _ _ st5 b hb
          exact (I7.pin (b, o) (List.mem_append_right _ (List.mem_append_right _ (mem_pinsAt hb e)))).2.1
      refine thn (ht cl s3 H3 fp _ s6 σ6 H6 _ I6 q6) fun b s7 hq0 => ?_
      obtain ⟨H7, I7, q7⟩ := hq0
      cases b with
      | false =>
        have q7 : ∃ m', m' < n ∧ W (i + 1) m' ys H7 := q7
        obtain ⟨m', hm, w7⟩ := q7
        exact ⟨m', hm, again I7 w7⟩
      | true =>
        refine thn (he cl s3 H3 fp _ s7 σ6 H7 _ I7 q7) fun y s8 hq0 => ?_
        obtain ⟨yv, H8, I8, r8, ea8, m', hm, w8⟩ := hq0
        refine thn (mt_append (X := X.block sc cl Nc s3 H3 fp) _ s8 σ6 H8 (.ref acc) [yv] (.ref acc) [y] (fun v Hq => Hq = upd H8 acc (.lst (ys ++ [yv]))) I8 rfl (.cons r8 .nil) ⟨acc, ys, yv, rfl, rfl, ea8, hlen, rfl⟩) fun _ s9 hq0 => ?_
        obtain ⟨v9, H9, I9, r9, e9⟩ := hq0
        subst e9
        exact ⟨m', hm, again I9 w8⟩
  show codeAny _ _ (.compStart (.ListComp elt [⟨tg, iter, ifs, 0⟩] sc pos) 0 (.ref it) (.ref acc) (compEnvC sc cl s3.heap.objs.size X.env)) (RR (.ref acc) s3.heap.objs.size) _
  rw [h1eq']
  exact codeAny_compStart_list loop (T.self X.A 0 _ _ _ (T.keep _ _ _ st2 (fun b hb o e => old b o (by rw [hh3]; exact Heap.get?_push_of_some _ e))) loop)

/-- [elt for tg in iter if ..] as an expression -/
theorem pe_comp (hc : X.calm = true) (hi : PI X tg iter wi) (cp : CapOk X sc Nc cap) (hk : GKeep cap g)
    (hg : ∀ cl s H fp, PG (X.block sc cl Nc s H fp) tg g) (ht : ∀ cl s H fp, PIf (X.block sc cl Nc s H fp) ifs tt) (he : ∀ cl s H fp, PE (X.block sc cl Nc s H fp) elt te)
    (hfr : (sc.names.all fun x => !(x.2 == NameKind.free) || (Nc.zip cap).any fun p => p.1 == x.1 && p.2.isSome) = true := by decide +kernel) (hcell : ∀ x ∈ sc.names, x.2 ≠ NameKind.cell := by decide +kernel) (hkind : sc.kind = .function := by rfl)
    (hnames : ∀ x ∈ sc.names, x.2 = NameKind.local → sc.names.lookup x.1 = some .local := by decide +kernel)
    (hs : ∀ x, foldedSetIterable iter X.env x = pure x := by intro _; rfl) : PE X (.ListComp elt [⟨tg, iter, ifs, 0⟩] sc pos) (tComp cap wi g tt te) := by
  intro pins s σ H Q I h
  obtain ⟨cl, hclos, hcl1, hcl2⟩ := closure_ex (sc := sc) (env := X.env) fun x hx hf => I.ok.has x.1 (.inl (cp.frees hfr x hx hf))
  rw [eval_ListComp]
  refine wpAny_comprehension_free (use := none) rfl hs hclos hkind hnames (thn (hi pins s σ H _ I h) fun v s1 h1 => thn h1 fun itv s2 h2 => ?_)
  obtain ⟨it, fp, tn, J, H2, e, I2, T, st2, f2, h2⟩ := h2
  subst e
  refine comp_block (Q := Q) (RR := fun acc C => compPost (model X.prog X.w) X.A X.xe none (EP X pins σ Q) acc C) hc cp hk hg ht he hcell hkind hcl1 hcl2 I2 T st2 f2 h2 ?_
  intro acc C s' H' oC m IX hoC ns hn hz hl hf hcc hpp q
  refine ⟨m, ns, fun h' sb => ⟨.ref acc, H', ?_, rfl, q⟩⟩
  exact IX.turned (t' := s'.toks) (fun b o hb e => sb.extBut b o hb e) hn hl (.inr hz) hcc hpp

/-- x = [elt for tg in iter if ..], the store within the comprehension -/
theorem ps_setc {y : Str} {py spos : Pos} {i : Nat} (hN : X.N.Nodup) (hi' : X.N[i]? = some y) (hy : Loc X.env.scope y) (hc : X.calm = true) (hi : PI X tg iter wi) (cp : CapOk X sc Nc cap) (hk : GKeep cap g)
    (hg : ∀ cl s H fp, PG (X.block sc cl Nc s H fp) tg g) (ht : ∀ cl s H fp, PIf (X.block sc cl Nc s H fp) ifs tt) (he : ∀ cl s H fp, PE (X.block sc cl Nc s H fp) elt te)
    (hsw : swapsWith (.ListComp elt [⟨tg, iter, ifs, 0⟩] sc pos) (some (.Name y py)) spos.line X.env = pure true)
    (hfr : (sc.names.all fun x => !(x.2 == NameKind.free) || (Nc.zip cap).any fun p => p.1 == x.1 && p.2.isSome) = true := by decide +kernel) (hcell : ∀ x ∈ sc.names, x.2 ≠ NameKind.cell := by decide +kernel) (hkind : sc.kind = .function := by rfl)
    (hnames : ∀ x ∈ sc.names, x.2 = NameKind.local → sc.names.lookup x.1 = some .local := by decide +kernel)
    (hs : ∀ x, foldedSetIterable iter X.env x = pure x := by intro _; rfl) (hf : X.fn y = true ∨ X.env.scope.names.lookup y = some .local := by first | exact .inl rfl | exact .inr rfl | assumption) :
    PS X (.Assign [.Name y py] (.ListComp elt [⟨tg, iter, ifs, 0⟩] sc pos) spos) (tAsg (tComp cap wi g tt te) (gName i)) := by
  intro pins s σ H D I h
  obtain ⟨cl, hclos, hcl1, hcl2⟩ := closure_ex (sc := sc) (env := X.env) fun x hx hf => I.ok.has x.1 (.inl (cp.frees hfr x hx hf))
  rw [exec_Assign_Name_used _ _ _ _ hsw]
  refine wpAny_bind (wpAny_standAt (wpAny_bind ?_))
  show wpAny _ X.A (do let _ ← comprehension (.ListComp elt [⟨tg, iter, ifs, 0⟩] sc pos) sc X.env _ (newList []) false (eval iter X.env) (some (assign (.Name y py) X.env))) _ _ s
  refine wpAny_bind (wpAny_mono (wpAny_comprehension_free (use := some (assign (.Name y py) X.env)) (Q := fun _ s' => SP X pins D .next s') rfl hs hclos hkind hnames
    (thn (hi pins s σ H _ I h) fun v s1 h1 => thn h1 fun itv s2 h2 => ?_)) (fun _ s' hq => wpAny_pure (wpAny_pure hq)) fun _ _ e => e)
  obtain ⟨it, fp, tn, J, H2, e, I2, T, st2, f2, h2⟩ := h2
  subst e
  refine comp_block (Q := fun x H1 => gName i x σ H1 D.nx) (RR := fun acc C => compPost (model X.prog X.w) X.A X.xe (some (assign (.Name y py) X.env)) (fun _ s' => SP X pins D .next s') acc C) hc cp hk hg ht he hcell hkind hcl1 hcl2 I2 T st2 f2 h2 ?_
  intro acc C s' H' oC m IX hoC ns hn hz hl hfs hcc hpp q
  show wpAny _ X.A (assign (.Name y py) X.env (.ref acc)) _ _ _
  have IP : Inv X (pins ++ [(C, oC)]) σ H' s' := IX.pins_of fun p hp => (List.mem_append.mp hp).elim (fun z => IX.pin p (List.mem_append_right _ z)) fun z => by
    have e : p = (C, oC) := by simpa using z
    subst e
    refine ⟨hoC, hn, hl, hfs, fun v z => ?_⟩
    obtain ⟨o, es, ep, e1, e2, _⟩ := ns
    rw [hoC] at e1
    cases e1
    rw [e2] at z
    cases z
  refine wpAny_assign_Name (store_ok IP hN hi' hy (v := .ref acc) rfl (fun s'' I'' => ?_) hf)
  have hC : s''.heap.get? C = some oC := (I''.pin (C, oC) (List.mem_append_right _ (List.mem_append_right _ (by simp)))).1
  have ns' : s''.heap.Ns C m := by
    obtain ⟨o, es, ep, e1, r⟩ := ns
    rw [hoC] at e1
    cases e1
    exact ⟨oC, es, ep, hC, r⟩
  refine ⟨m, ns', fun h' sb => ⟨_, H', ?_, q⟩⟩
  exact I''.unpinned.turned (t' := s''.toks) (fun b o hb e => sb.extBut b o hb e) hn hl (.inr hz) hcc hpp
end
end L2


/-! CALLS over the layer: sorted, list(range(a, b)), list(reversed(xs)), == and != of lists, index, isinstance. -/
namespace L2
open PySem PySem.Spec PyProof.Rows

theorem vals_of_get : ∀ {xs : List V} {us : List Value}, xs.length = us.length → (∀ (j : Nat) x u, xs[j]? = some x → us[j]? = some u → RelV x u) → Vals xs us
  | [], [], _, _ => .nil
  | [], _ :: _, h, _ => by simp at h
  | _ :: _, [], h, _ => by simp at h
  | x :: xs, u :: us, h, k => .cons (k 0 x u rfl rfl) (vals_of_get (by simpa using h) fun j y v e1 e2 => k (j + 1) y v (by simpa using e1) (by simpa using e2))

theorem bt_list : bootBuiltins "list" = some (.type "list") := by decide +kernel
theorem bt_range : bootBuiltins "range" = some (.type "range") := by decide +kernel
theorem bt_int : bootBuiltins "int" = some (.type "int") := by decide +kernel
theorem bt_len : bootBuiltins "len" = some (.builtin "len") := by decide +kernel
theorem bt_abs : bootBuiltins "abs" = some (.builtin "abs") := by decide +kernel
theorem bt_sorted : bootBuiltins "sorted" = some (.builtin "sorted") := by decide +kernel
theorem bt_isinstance : bootBuiltins "isinstance" = some (.builtin "isinstance") := by decide +kernel

section
variable {X : Cx}
/-- sorted(xs) of fewer than 64 ints -/
theorem call_sorted : CallR X (.builtin "sorted") (fun xs H Q => ∃ (p : Addr) (ns : List Int), xs = [.ref p] ∧ SqL X.K H p (ns.map V.int) ∧ ns.length < 64 ∧ ∀ (l : Addr) (ms : List Int), H l = none → ms.Perm ns → ms.Pairwise (· ≤ ·) → Q (.ref l) (upd H l (.lst (ms.map V.int)))) := by
  intro pins s σ H xs us Q I r h
  obtain ⟨p, ns, rfl, hq, hl, q⟩ := h
  obtain ⟨u, rfl, rx⟩ := vals1 r
  cases rx
  obtain ⟨its, r', pl, hz⟩ := I.list hq
  have hlen : ns.length = its.length := by have := r'.length; simpa using this
  refine sorted_ints pl.isList (intsAre_of r') (by omega) fun out ms a1 a2 a3 => ?_
  obtain ⟨e, he⟩ := sortedAll_at s.heap its out
  refine ⟨.ref (s.heap.objs.size + 1), _, I.laid (t' := s.toks) (fun b o => sortedAll_old) (Nat.le_succ _) (show ObjOk X.prog X.w _ _ _ (.lst (ms.map V.int)) from ⟨?_, out.toList, e, vals_ints a1, ?_⟩), rfl, q _ ms (I.hok.fresh (Nat.le_succ _)) a2 a3⟩
  · have := a2.length_eq
    rw [List.length_map] at hz ⊢
    omega
  · exact he

/-- range(a, b), kept as an object -/
theorem call_rng2 : CallR X (.type "range") (fun xs H Q => ∃ i j, xs = [.int i, .int j] ∧ ∀ r, H r = none → Q (.ref r) (upd H r (.rng i j))) := by
  intro pins s σ H xs us Q I r h
  obtain ⟨i, j, rfl, q⟩ := h
  obtain ⟨u, u', rfl, ⟨t, rfl⟩, ⟨t', rfl⟩⟩ := vals2 r
  refine call_range_2 ⟨.ref s.heap.objs.size, _, I.laid (o := .rng i j) (fun b o e => Heap.get?_push_of_some _ e) (Nat.le_refl _) ?_, rfl, q _ I.fresh⟩
  exact ⟨t, t', s.toks, Heap.get?_push_size _ rfl⟩

/-- list(r) of a range object -/
theorem rng_size (lo hi : Int) : Builtin.Range.rangeSize lo hi 1 = (((hi - lo).toNat : Nat) : Int) := by
  rw [rangeSize_one]
  split
  · exact (Int.toNat_of_nonneg (Int.sub_nonneg_of_le (Int.le_of_lt ‹_›))).symm
  · exact (congrArg Int.ofNat (Int.toNat_eq_zero.mpr (Int.sub_nonpos_of_le (Int.not_lt.mp ‹_›)))).symm
theorem call_list_rng (hc : X.calm = true) : CallR X (.type "list") (fun xs H Q => ∃ p lo hi, xs = [.ref p] ∧ H p = some (.rng lo hi) ∧ -(2 ^ 20) ≤ lo ∧ hi ≤ 2 ^ 20 ∧ lo ≤ 2 ^ 20 ∧ -(2 ^ 20) ≤ hi ∧ ∀ l, H l = none → Q (.ref l) (upd H l (.lst ((Fs.upTo lo hi).map V.int)))) := by
  intro pins s σ H xs us Q I r h
  obtain ⟨p, lo, hi, rfl, hp, h1, h2, h3, h4, q⟩ := h
  obtain ⟨u, rfl, rx⟩ := vals1 r
  cases rx
  obtain ⟨t, u, v, e⟩ := I.hok p _ hp
  have hsn : (hi - lo).toNat ≤ 2 ^ 22 := Int.toNat_le.mpr (Int.le_trans (Int.sub_le_sub h2 h1) (by decide))
  have hsl : (hi - lo).toNat ≤ sizeLine := by rw [sizeLine_eq]; exact Nat.le_trans hsn (by decide)
  refine call_list_range (n := (hi - lo).toNat) (I.ok.hd hc) e (small_one (Int.le_trans (by decide) h1) (Int.lt_of_le_of_lt h3 (by decide)) (Int.le_trans (by decide) h4) (Int.lt_of_le_of_lt h2 (by decide))) (rng_size lo hi) (Nat.le_trans hsn (by decide)) fun h' tk acc' c' kp e' it => ?_
  refine ⟨.ref s.heap.objs.size, _, I.laid (t' := tk) kp (Nat.le_refl _) (show ObjOk X.prog X.w _ _ _ (.lst ((Fs.upTo lo hi).map V.int)) from ⟨?_, acc'.toList, c', vals_of_get ?_ fun j x u e1 e2 => ?_, by simpa using e'⟩), rfl, q _ I.fresh⟩
  · rw [List.length_map, Fs.length_upTo]; exact hsl
  · rw [List.length_map, Fs.length_upTo]; simp [it.1]
  · have hj : j < (hi - lo).toNat := by
      have := (List.getElem?_eq_some_iff.mp e1).1
      rwa [List.length_map, Fs.length_upTo] at this
    rw [List.getElem?_map, Fs.get_upTo hj] at e1
    cases e1
    obtain ⟨t, rfl⟩ := it.2 j u (by simpa using e2)
    exact ⟨t, by rw [Int.mul_one]⟩

end

section
variable {prog : Program} {w : World} {A : Around} {E : Value → Shared → Prop} {s : Shared}
end

section
variable {X : Cx} {e : Expr} {te : TE} {p p2 pos pos2 : Pos}
/-! ### == and != of lists of ints -/
def rNeL (K : PySem.W.Frag) : R2 := fun x y H Q => ∃ (a b : Addr) (ns ms : List Int), x = .ref a ∧ y = .ref b ∧ SqL K H a (ns.map V.int) ∧ SqL K H b (ms.map V.int) ∧ Q (.bl (!decide (ns = ms))) H
theorem op_neL (hu : X.A.units + 64 < cLine) : OpR X (compareOp .NotEq) (rNeL X.K) := by
  intro pins s σ H x y v u Q I rx ry h
  obtain ⟨a, b, ns, ms, rfl, rfl, h1, h2, q⟩ := h
  cases rx
  cases ry
  obtain ⟨its, r1, p1, _⟩ := I.list h1
  obtain ⟨its2, r2, p2, _⟩ := I.list h2
  exact PySem.W.ke_ne_ints p1.isList p2.isList (intsAre_of r1) (intsAre_of r2) hu ⟨.bl _, H, I, rfl, q⟩

/-! ### == and != of lists of lists of ints -/
/-- the lists at ps hold the ints nss -/
abbrev Rows (K : PySem.W.Frag) (H : Hp) : List V → List (List Int) → Prop := Paired fun v ns => ∃ p, v = .ref p ∧ SqL K H p (ns.map V.int)
/-! ### isinstance -/
end
end L2


/-! SMALL THINGS that the readings want. -/
namespace L2
open PySem PySem.Spec PyProof.Rows
theorem iteD {c A B : Prop} [Decidable c] (h : ¬ c) (k : B) : if decide c = true then A else B := by
  rw [decide_eq_false h]
  exact iteF k
theorem iteDT {c A B : Prop} [Decidable c] (h : c) (k : A) : if decide c = true then A else B := by
  rw [decide_eq_true h]
  exact iteT k
theorem ite2D {c A B : Prop} [Decidable c] (h1 : c → A) (h2 : ¬ c → B) : if decide c = true then A else B := by
  by_cases h : c
  · exact iteDT h (h1 h)
  · exact iteD h (h2 h)
theorem iteN {c A B : Prop} [Decidable c] (h1 : ¬ c → A) (h2 : c → B) : if (!decide c) = true then A else B := by
  by_cases h : c
  · rw [decide_eq_true h]
    exact iteF (h2 h)
  · rw [decide_eq_false h]
    exact iteT (h1 h)
theorem Same.up {H H' : Hp} (s : Same H H') {l : Addr} {o : HO} (hl : H l = Option.none) : Same H (upd H' l o) := fun b u e => by
  rw [upd_ne (ne_of_none e hl)]
  exact s b u e
theorem Same.new {H : Hp} {l : Addr} {o : HO} (hl : H l = Option.none) : Same H (upd H l o) := (Same.refl H).up hl
theorem atI_int {xs : List V} {k : Int} {v : V} (h0 : 0 ≤ k) (h : xs[k.toNat]? = some v) : atI xs k = some v := by
  have := atI_nat h
  rwa [Int.toNat_of_nonneg h0] at this
theorem seq_at {n : Nat} {i : Int} (h0 : 0 ≤ i) (h1 : i < n) : seqIndex? i n = some i.toNat := (ixN_seq (by unfold ixN; rw [if_pos h0, if_pos h1])).1
theorem get_ints {xs : List Int} {j : Nat} (h : j < xs.length) : (xs.map V.int)[j]? = some (.int (xs.getD j 0)) := by
  rw [List.getElem?_map, List.getElem?_eq_getElem h, List.getD_eq_getElem?_getD, List.getElem?_eq_getElem h]
  rfl
theorem map_get {xs : List Int} {j : Nat} {y : V} (h : (xs.map V.int)[j]? = some y) : ∃ x, y = .int x ∧ xs[j]? = some x := by
  rw [List.getElem?_map] at h
  cases e : xs[j]? with
  | none => rw [e] at h; cases h
  | some x => rw [e] at h; exact ⟨x, (Option.some.inj h).symm, rfl⟩
theorem len_map (xs : List Int) : (xs.map V.int).length = xs.length := List.length_map _
theorem erase_map : ∀ (xs : List Int) (j : Nat), (xs.map V.int).eraseIdx j = (xs.eraseIdx j).map V.int
  | [], _ => rfl
  | _ :: _, 0 => rfl
  | x :: xs, j + 1 => by
    show V.int x :: (xs.map V.int).eraseIdx j = V.int x :: (xs.eraseIdx j).map V.int
    rw [erase_map xs j]
theorem small12 {n : Nat} (h : n ≤ 1000) : n ≤ sizeLine := Nat.le_of_lt (small1000 h)
/-- the part of a slice -/
theorem cut_lo (xs : List V) {t : Int} (h0 : 0 ≤ t) : cutV xs none (some t) = xs.take t.toNat := by
  unfold cutV
  have e : HT.sIx xs.length xs.length (some t) = min t.toNat xs.length := by
    have := HT.sIx_nat xs.length xs.length t.toNat
    rwa [Int.toNat_of_nonneg h0] at this
  rw [HT.sIx_none, e]
  simp
theorem cut_hi (xs : List V) {t : Int} (h0 : 0 ≤ t) : cutV xs (some t) none = xs.drop t.toNat := by
  unfold cutV
  have e : HT.sIx xs.length 0 (some t) = min t.toNat xs.length := by
    have := HT.sIx_nat xs.length 0 t.toNat
    rwa [Int.toNat_of_nonneg h0] at this
  rw [HT.sIx_none, e]
  rw [List.take_of_length_le (by simp)]
  by_cases h : t.toNat ≤ xs.length
  · rw [Nat.min_eq_left h]
  · rw [Nat.min_eq_right (by omega), List.drop_of_length_le (Nat.le_refl _), List.drop_of_length_le (by omega)]
def rLen (K : PySem.W.Frag) : List V → Hp → VK → Prop := fun xs H Q => ∃ p ys, xs = [.ref p] ∧ (SqL K H p ys ∨ SqT K H p ys) ∧ Q (.int ys.length) H
theorem len_K {X : Cx} {K : PySem.W.Frag} (e : X.K = K := by rfl) : CallR X (.builtin "len") (rLen K) := by subst e; exact call_len_seq
theorem ix_K {X : Cx} {K : PySem.W.Frag} (e : X.K = K := by rfl) : IxR X (rIxL K) := by subst e; exact ix_list
theorem sl_K {X : Cx} {K : PySem.W.Frag} (e : X.K = K := by rfl) : SlR X (rSlL K) := by subst e; exact sl_list
theorem pe_globI {X : Cx} {x : Str} {i : Int} {pos : Pos} (hg : Gl X x) (hm : ∃ t, X.mg x = some (.int i t)) (hd : (x == ("__debug__" : Str)) = false := by decide) : PE X (.Name x pos) (tC (.int i)) := by
  obtain ⟨t, h⟩ := hm
  exact pe_glob hg h ⟨_, rfl⟩ hd
theorem seq_gen {t u : TS} {D : Ends} {σ : St} {H : Hp} (h : ∀ R : St → Hp → Prop, R = u D → t { D with nx := R } σ H) : tSeq t u D σ H := h _ rfl
theorem if_gen {c : TT} {a b : TS} {D : Ends} {σ : St} {H : Hp} (h : ∀ R : TS, R = b → tIfS c a R D σ H) : tIfS c a b D σ H := h _ rfl
section
variable {K : PySem.W.Frag} {cap : List (Option Nat)} {σ : St} {H1 : Hp} {g : TG} {te : TE} {Q : VK}
/-- over a list that stays: each item by a relation -/
theorem comp_listR {a : Addr} {xs : List V} (φ : V → V → Prop) (h : SqL K H1 a xs) (hl : xs.length ≤ 1000)
    (step : ∀ (x : V) (i : Nat) (H2 : Hp) (R : VK), xs[i]? = some x → Same H1 H2 → (∀ y H5, φ x y → Same H2 H5 → R y H5) → g x (capSt cap σ) H2 fun σ2 H3 => te σ2 H3 R)
    (fin : ∀ (p : Addr) (H' : Hp) (ys : List V), H1 p = none → Same H1 H' → H' p = some (.lst ys) → Paired φ xs ys → Q (.ref p) H') : CompW cap σ (Itl K a) H1 g tTrue te Q := by
  intro acc hacc
  refine ⟨fun i m ys H2 => m = xs.length - i ∧ i ≤ xs.length ∧ Paired φ (xs.take i) ys ∧ Same H1 H2 ∧ H2 acc = some (.lst ys), ⟨xs.length, by simp, Nat.zero_le _, .nil, Same.new hacc, upd_same⟩, ?_⟩
  rintro i m ys H2 ⟨rfl, hi, pr, s2, e2⟩
  refine ⟨e2, ?_⟩
  have hly := pr.length
  rw [List.length_take] at hly
  by_cases hlt : i < xs.length
  · refine .inr ⟨⟨xs, xs[i], s2.seq h, by simp [hlt]⟩, small1000 (by rw [← hly]; exact Nat.le_trans (Nat.min_le_right _ _) hl), fun x H3 y => ?_⟩
    obtain ⟨e, y⟩ := y
    subst e
    have hx := y xs (s2.seq h)
    simp only [tTrue, if_true]
    refine step x i _ _ hx s2 fun z H5 hz s5 => ⟨s5 _ _ e2, xs.length - (i + 1), Nat.sub_succ_lt_self _ _ hlt, rfl, hlt, ?_, (s2.trans s5).up hacc, upd_same⟩
    rw [List.take_add_one, hx]
    exact Paired.snoc pr hz
  · refine .inl ⟨⟨xs, s2.seq h, Nat.not_lt.mp hlt⟩, fin acc H2 ys hacc s2 e2 ?_⟩
    rwa [List.take_of_length_le (Nat.not_lt.mp hlt)] at pr
theorem paired_map {α β : Type} {f : α → β} : ∀ {xs : List α} {ys : List β}, Paired (fun x y => y = f x) xs ys → ys = xs.map f
  | _, _, .nil => rfl
  | _, _, .cons e t => by rw [List.map_cons, ← paired_map t, e]
theorem comp_list {a : Addr} {xs : List V} (f : V → V) (h : SqL K H1 a xs) (hl : xs.length ≤ 1000)
    (step : ∀ (x : V) (i : Nat) (H2 : Hp) (R : VK), xs[i]? = some x → Same H1 H2 → (∀ H5, Same H2 H5 → R (f x) H5) → g x (capSt cap σ) H2 fun σ2 H3 => te σ2 H3 R)
    (fin : ∀ (p : Addr) (H' : Hp), H1 p = none → Same H1 H' → H' p = some (.lst (xs.map f)) → Q (.ref p) H') : CompW cap σ (Itl K a) H1 g tTrue te Q :=
  comp_listR (fun x y => y = f x) h hl (fun x i H2 R e s k => step x i H2 R e s fun H5 s5 => k _ H5 rfl s5) fun p H' ys h1 h2 h3 h4 => by
    rw [paired_map h4] at h3
    exact fin p H' h1 h2 h3
end
end L2


/-! ITERATORS over the layer: zip of two lists. -/
namespace L2
open PySem PySem.Spec PyProof.Rows

section
variable {X : Cx} {es2 : List Expr} {kk : Nat} {tp : Pos}
end
section
variable {K : PySem.W.Frag} {cap : List (Option Nat)} {σ : St} {H1 : Hp} {tt : TT} {te : TE} {Q : VK}
end
end L2


/-! ITERATORS over the layer: ranges with a step, downwards, reversed; list(reversed(range(a, b))); xs.index(k). -/
namespace L2
open PySem PySem.Spec PyProof.Rows

theorem three {i j k : Int} {us : List Value} (r : Vals [.int i, .int j, .int k] us) : ∃ t t' t'', us = [Value.int i t, Value.int j t', Value.int k t''] := by
  cases r with
  | cons r1 r =>
    cases r with
    | cons r2 r =>
      cases r with
      | cons r3 r =>
        cases r
        obtain ⟨t, rfl⟩ := r1
        obtain ⟨t', rfl⟩ := r2
        obtain ⟨t'', rfl⟩ := r3
        exact ⟨t, t', t'', rfl⟩
section
variable {X : Cx} {tg : Expr}
end

section
variable {prog : Program} {w : World} {A : Around} {E : Value → Shared → Prop} {s : Shared}
end

section
variable {X : Cx} {tg : Expr}
/-! ### xs.index(k) of ints -/
end
end L2


/-! list(reversed(range(a, b))) over the layer. -/
namespace L2
open PySem PySem.Spec PyProof.Rows
section
variable {prog : Program} {w : World} {A : Around} {E : Value → Shared → Prop} {s : Shared}
end
section
variable {X : Cx}
end
end L2


/-! METHODS of lists within a comprehension: the kit said. -/
namespace L2
open PySem PySem.Spec PyProof.Rows
section
variable {X : Cx} {K : PySem.W.Frag} {o e : Expr} {es : List Expr} {to : TE} {t : TA} {name : Str} {apos cpos : Pos} {T id : String} {r : V → List V → Hp → VK → Prop}
end
end L2


/-! EXCEPTIONS of the program's own classes: raised, passing frames. -/
namespace L2
open PySem PySem.Spec PyProof.Rows

theorem ObjOk.there {P : Program} {w : World} {H : Hp} {h : Heap} {a : Addr} {o : HO} (x : ObjOk P w H h a o) : ∃ ob, h.get? a = some ob := by
  cases o with
  | lst xs => obtain ⟨_, _, _, _, e⟩ := x; exact ⟨_, e⟩
  | tup xs => obtain ⟨_, _, _, o, e, _⟩ := x; exact ⟨_, e⟩
  | dK kvs => obtain ⟨_, _, _, _, o, _, _, e, _⟩ := x; exact ⟨_, e⟩
  | dT kvs => obtain ⟨_, _, _, _, o, _, _, e, _⟩ := x; exact ⟨_, e⟩
  | set S n => obtain ⟨o, _, _, _, e, _⟩ := x; exact ⟨_, e⟩
  | ins C dx fs => obtain ⟨_, _, _, e, _⟩ := x; exact ⟨_, e⟩
  | own y => exact x
  | xd fs => obtain ⟨_, ⟨_, _, _, e, _⟩, _⟩ := x; exact ⟨_, e⟩
  | rng lo hi => obtain ⟨_, _, _, e⟩ := x; exact ⟨_, e⟩
  | frz ob u => obtain ⟨e, _⟩ := x; exact ⟨_, e⟩
  | tbl ps => exact ⟨_, (show h.get? a = some _ from x)⟩
  | met f y => exact ⟨_, (show h.get? a = some _ from x)⟩
  | ext φ => obtain ⟨_, e, _⟩ := x; exact e

/-- what lies in B: all that stood at g (the frames l aside), and all that is tracked -/
structure InB (B : Heap) (l : List Addr) (H' : Hp) (g : Heap) : Prop where
  old : ∀ b o, g.get? b = some o → b ∉ l → ∃ o', B.get? b = some o'
  trk : ∀ b u, H' b = some u → ∃ o', B.get? b = some o'
theorem fly_step {P : Program} {w : World} {B g h1 h2 : Heap} {l : List Env} {H H' : Hp} (u : Un (frs l) [] H H' g h1) (ok : HOk P w H' h1) (ib : InB B (frs l) H' g) (k1 : B.StaysIn h1) (k2 : B.StaysIn h2)
    (fr : h1.FunFrames B l) (up : h1.UpToSlots h2) : Un (frs l) [] H H' g h2 ∧ HOk P w H' h2 := by
  have same : ∀ b o, h1.get? b = some o → (∃ o', B.get? b = some o') → h2.get? b = some o := fun b o e ⟨o', q⟩ => by
    have z := k1 b o' q
    rw [e] at z
    cases z
    exact k2 b o q
  refine ⟨⟨fun b o e n hf hx => same b o (u.keep b o e n hf hx) (ib.old b o e hf), fun b o e n hf hx => ?_, u.free, fun b o e hx => ?_, u.tups, u.frzs, u.tbls⟩, fun a o e => ?_⟩
  · obtain ⟨sl, e1⟩ := u.slot b o e n hf hx
    obtain ⟨_, o1, q1, q2⟩ := fr.mem hf
    rw [e1] at q1
    cases q1
    obtain ⟨sl', e2⟩ := up b _ e1 q2
    exact ⟨sl', e2⟩
  · obtain ⟨o1, e1⟩ := u.there b o e hx
    by_cases hf : b ∈ frs l
    · obtain ⟨_, o2, q1, q2⟩ := fr.mem hf
      obtain ⟨sl', e2⟩ := up b _ q1 q2
      exact ⟨_, e2⟩
    · exact ⟨o1, same b o1 e1 (ib.old b o e hf)⟩
  · refine (ok a o e).stay (fun b v hb q => same b v q ?_) (fun _ q => q) fun _ _ q => q
    rcases hb with z | z
    · rw [z]; exact ib.trk a o e
    · exact ib.trk b _ z

/-- how an exception lies behind a call: it flies -/
def CXX (P : Program) (w : World) : CXT := fun outer H s E e s' => ∃ ea cls H', e = .ref ea ∧ s'.os = s.os ∧ AllBare s'.gens ∧ Un (frs outer) [] H H' s.heap s'.heap ∧ HOk P w H' s'.heap ∧ H' ea = none ∧
  (∃ B t, Heap.FlyingW B outer ea cls (.ref t) s'.heap ∧ InB B (frs outer) H' s.heap) ∧ E cls none H'
/-- an exception of a callee reaches what is wanted here; E by the names' values -/
def PassS (CX : CXT) (X : Cx) (E : St → XK) : Prop := ∀ (pins : List (Addr × Obj)) (σ : St) (H : Hp) (s : Shared) (e : Value) (s' : Shared), Inv X pins σ H s → CX X.stack H s (E σ) e s' → X.xe e s'

section
variable {P : Program} {w : World} {K : PySem.W.Frag} {mg : Str → Option Value} {base : Heap} {N : List Str} {qual : Str} {sc : Scope} {f : Addr} {cd : Value} {A : Around} {outer : List Env} {s₀ : Shared} {H₀ : Hp} {E : XK}
theorem old_of {X : Cx} {pins : List (Addr × Obj)} {σ : St} {H H' : Hp} {s : Shared} {B : Heap} (hx : X.ex = []) (I : Inv X pins σ H s) (ib : InB B (frs X.stack) H' s.heap) : ∀ b o, X.s₀.heap.get? b = some o → b ∉ frs X.outer → ∃ o', B.get? b = some o' := fun b o e hf => by
  obtain ⟨o1, e1⟩ := I.base.there b o e (by rw [hx]; simp)
  refine ib.old b o1 e1 fun z => ?_
  rcases List.mem_cons.mp (I.stkSub b z) with q | q
  · rw [q] at e
    exact absurd (Heap.lt_size e) (Nat.not_lt.mpr I.ok.above)
  · exact hf q
/-- through the frame of a body -/
theorem pass_leave : PassS (CXX P w) (cxOf (CXX P w) P w K mg base N qual sc f cd A outer s₀ H₀ E) (fun _ => E) := by
  rintro pins σ H s e s' I ⟨ea, cls, H', rfl, os, bare, un, hok, en, ⟨B, t, fl, ib⟩, q⟩
  show wpAny _ _ (leaving _ _) _ _ s'
  refine wpAny_leaves_onW I.ok.frames rfl fl fun h' fl' up => ?_
  obtain ⟨un', hok'⟩ := fly_step un hok ib fl.1 fl'.1 fl.2.2.1 up
  have J := I.call' (s' := { s' with heap := h' }) os un' hok' bare (fun b z => absurd z (by simp))
  exact ⟨ea, cls, H', rfl, J.os, bare, J.base, J.hok, en, ⟨B, t, fl', old_of rfl I ib, ib.trk⟩, q⟩
/-- an exception that was just made leaves -/
theorem raise_leave {pins : List (Addr × Obj)} {σ : St} {H : Hp} {s : Shared} {h' : Heap} {ea : Addr} {cls : Value} {vs : List Value} (I : Inv (cxOf (CXX P w) P w K mg base N qual sc f cd A outer s₀ H₀ E) pins σ H s)
    (m : Heap.MadeExcOf s.heap h' ea cls vs) (q : E cls none H) : (cxOf (CXX P w) P w K mg base N qual sc f cd A outer s₀ H₀ E).xe (.ref ea) { s with heap := h' } := by
  have ib : InB (PySem.W.hideAll s.heap (frs (cxOf (CXX P w) P w K mg base N qual sc f cd A outer s₀ H₀ E).stack)) (frs (cxOf (CXX P w) P w K mg base N qual sc f cd A outer s₀ H₀ E).stack) H s.heap := by
    refine ⟨fun b o e hf => ⟨o, PySem.W.hideAll_get _ e hf⟩, fun b u e => ?_⟩
    obtain ⟨ob, eb⟩ := (I.hok b u e).there
    refine ⟨ob, PySem.W.hideAll_get _ eb fun z => ?_⟩
    rw [I.stkFree b z] at e
    cases e
  have fr := PySem.W.funFrames_hide (as := frs (cxOf (CXX P w) P w K mg base N qual sc f cd A outer s₀ H₀ E).stack) I.stack fun env he a hf => List.mem_filterMap.mpr ⟨env, he, hf⟩
  show wpAny _ _ (leaving _ _) _ _ { s with heap := h' }
  refine wpAny_leaves_madeW (h := s.heap) I.ok.frames rfl (fun b o z => PySem.W.of_hideAll _ z) fr m fun h'' t fl _ _ up => ?_
  have refl : Un (frs (cxOf (CXX P w) P w K mg base N qual sc f cd A outer s₀ H₀ E).stack) [] H H s.heap s.heap := Un.kept fun b o z => z
  obtain ⟨un', hok'⟩ := fly_step refl I.hok ib (fun b o z => PySem.W.of_hideAll _ z) fl.1 fr ((Heap.UpToSlots.of_keeps m.keeps).trans up)
  have J := I.call' (s' := { s with heap := h'' }) rfl un' hok' I.bare (fun b z => absurd z (by simp))
  refine ⟨ea, cls, H, rfl, J.os, I.bare, J.base, J.hok, ?_, ⟨_, t, fl, old_of rfl I ib, ib.trk⟩, q⟩
  cases e : H ea with
  | none => rfl
  | some u =>
    obtain ⟨ob, eb⟩ := (I.hok ea u e).there
    rw [m.new] at eb
    cases eb
end

/-- an own class under ValueError, as the kit has it -/
def vmro : List Value := [.type "ValueError", .type "Exception", .type "BaseException", .type "object"]
structure ExcC (K : PySem.W.Frag) (C : Addr) : Prop where
  ok : PySem.W.excIn K C vmro "ValueError.__new__" = true
  kp : PySem.W.keepIn K (.ref C) = true
theorem exc_obj {K : PySem.W.Frag} {C : Addr} {h : Heap} (X : K.In h) (q : PySem.W.excIn K C vmro "ValueError.__new__" = true) :
    ∃ nm qn N bs bm hdct sn sub ab col dd k0 k1 k2 k3 k5 mN, h.get? C = some (excClassObj nm qn C N bs bm hdct sn sub ab col dd k0 k1 k2 k3 k5 "ValueError.__new__") ∧ h.Ns N mN ∧ mN "__init__" = none ∧ OwnTail h vmro bm := by
  unfold PySem.W.excIn at q
  split at q
  · rename_i dd cd sl ho
    split at q
    · rename_i C' bm k0 k1 k2 k3 n k5 hm hs
      simp only [Bool.and_eq_true, beq_iff_eq, Bool.not_eq_true'] at q
      obtain ⟨⟨⟨⟨⟨rfl, rfl⟩, nodel⟩, tail⟩, nsok⟩, noinit⟩ := q
      obtain ⟨nm, bs, mro, ns, qn, hd, sn, sub, ab, col, del⟩ := cd
      dsimp only at hm nodel nsok noinit
      subst hm nodel
      obtain ⟨l⟩ := sl
      simp only at hs
      subst hs
      exact ⟨nm, qn, ns, bs, bm, hd, sn, sub, ab, col, dd, k0, k1, k2, k3, k5, _, X _ _ ho, .of_isNs (PySem.W.isNs_of_in X nsok), PySem.W.nsMap_none_of_in X nsok noinit, PySem.W.tail_of_in X tail⟩
    · cases q
  · cases q

/-- raise C(..) in a body -/
def tRaise (C : Addr) (ta : TA) (E : XK) : TS := fun _ σ H => ta σ H fun vs H1 => vs.length ≤ 1000 ∧ E (.ref C) none H1
section
variable {P : Program} {w : World} {K : PySem.W.Frag} {mg : Str → Option Value} {base : Heap} {N : List Str} {qual : Str} {sc : Scope} {f : Addr} {cd : Value} {A : Around} {outer : List Env} {s₀ : Shared} {H₀ : Hp} {E : XK}
theorem ps_raise {x : Str} {C : Addr} {e₀ : Expr} {rest : List Expr} {np cpos pos : Pos} {ta : TA} (hc : ExcC K C) (hh : A.handled = none) (hg : Gl (cxOf (CXX P w) P w K mg base N qual sc f cd A outer s₀ H₀ E) x) (hm : mg x = some (.ref C))
    (ha : PA (cxOf (CXX P w) P w K mg base N qual sc f cd A outer s₀ H₀ E) (e₀ :: rest) ta)
    (he : starEach (e₀ :: rest) (cxOf (CXX P w) P w K mg base N qual sc f cd A outer s₀ H₀ E).env = (false, eval e₀ (cxOf (CXX P w) P w K mg base N qual sc f cd A outer s₀ H₀ E).env) :: starEach rest (cxOf (CXX P w) P w K mg base N qual sc f cd A outer s₀ H₀ E).env := by rfl)
    (hpl : (backTo cpos (starEach rest (cxOf (CXX P w) P w K mg base N qual sc f cd A outer s₀ H₀ E).env)).any (·.1) = false := by rfl) (hd : (x == ("__debug__" : Str)) = false := by decide) :
    PS (cxOf (CXX P w) P w K mg base N qual sc f cd A outer s₀ H₀ E) (.Raise (some (.Call (.Name x np) (e₀ :: rest) [] cpos)) none pos) (tRaise C ta E) := by
  intro pins s σ H D I h
  obtain ⟨nm, qn, N', bs, bm, hdct, sn, sub, ab, col, dd, k0, k1, k2, k3, k5, mN, hC, hN, hni, T⟩ := exc_obj I.ok.mod.kin hc.ok
  have hany : (backTo cpos (starEach (e₀ :: rest) (cxOf (CXX P w) P w K mg base N qual sc f cd A outer s₀ H₀ E).env)).any (·.1) = false := by
    rw [he]
    show (false || (backTo cpos (starEach rest (cxOf (CXX P w) P w K mg base N qual sc f cd A outer s₀ H₀ E).env)).any (·.1)) = false
    rw [hpl]
    rfl
  refine wpAny_Raise_call_subT (C := C) (nm := nm) (q := qn) (N := N') (bs := bs) (bm := bm) (hdct := hdct) (sn := sn) (sub := sub) (ab := ab) (col := col) (dd := dd) (k0 := k0) (k1 := k1) (k2 := k2) (k3 := k3) (k5 := k5)
    PySem.F.excBase_ValueError (mN := mN) (T.hasType PySem.F.excBase_ValueError.hasBase) hh hany hni (ld_glob I hg hm ⟨rfl, ?_⟩ hd)
  have hA := ha cpos pins s σ H _ I h
  rw [he] at hA ⊢
  refine Calls.evalArgs_plain (wpAny_mono hA (fun us s2 hq0 => ?_) fun _ _ z => z)
  obtain ⟨vs, H1, I1, r, hl, q⟩ := hq0
  exact ⟨rfl, by show us.length ≤ sizeLine; rw [← r.length]; exact Nat.le_of_lt (small1000 hl), I1.bk _ _ hC, hN.keeps I1.bk, T.keeps I1.bk, fun h' e m => raise_leave I1 m q⟩
end

/-! ### calls of defs that may raise -/
def tCallS (sp : Sp) (dvs : List V) (E : St → XK) (t : TA) : TE := fun σ H Q => t σ H fun vs H1 => sp (vs ++ dvs) H1 Q (E σ)
def tMethS (C : Addr) (m : Str) (sp : Sp) (dvs : List V) (E : St → XK) (ta : TE) (t : TA) : TE := fun σ H Q => ta σ H fun x H1 => ∃ a dx fs, x = .ref a ∧ H1 a = some (.ins C dx fs) ∧ fs.lookup m = none ∧
  t σ H1 fun vs H2 => sp (x :: (vs ++ dvs)) H2 Q (E σ)
def tMakeS (C : Addr) (sp : Sp) (dvs : List V) (E : St → XK) (t : TA) : TE := fun σ H Q => t σ H fun vs H1 => ∀ x dx, H1 x = none → H1 dx = none → dx ≠ x →
  sp (.ref x :: (vs ++ dvs)) (upd (upd H1 dx (.own x)) x (.ins C dx [])) (fun v H2 => v = .non ∧ Q (.ref x) H2) (E σ)
section
variable {X : Cx} {CX : CXT} {k : Nat} {f C : Addr} {fd : FuncData} {ps ks : List Str} {sp : Sp} {dvs : List V} {ds : List Value} {E : St → XK} {x m : Str} {p pos apos : Pos} {e o : Expr} {es : List Expr} {kws : List Keyword} {ta : TE} {t tk : TA}
/-- an exception of this call, at these names' values -/
def PassAt (CX : CXT) (X : Cx) (σ : St) (E : XK) : Prop := ∀ (pins : List (Addr × Obj)) (H : Hp) (s : Shared) (e : Value) (s' : Shared), Inv X pins σ H s → CX X.stack H s E e s' → X.xe e s'
theorem PassS.at (h : PassS CX X E) (σ : St) : PassAt CX X σ (E σ) := fun pins H s e s' I z => h pins σ H s e s' I z
theorem run_fnS {E : XK} {pins : List (Addr × Obj)} {σ : St} {H : Hp} {s : Shared} {Q : VK} {us : List Value} {vs : List V} (F : FnOk X.prog X.w X.K X.mg X.base CX k f fd ps sp) (hr : Room k X.A) (hb : Binds X.K fd ps ds) (hd : Vals dvs ds) (hx : PassAt CX X σ E)
    (I : Inv X pins σ H s) (r : Vals vs us) (h : sp (vs ++ dvs) H Q E) : wpAny (model X.prog X.w) X.A (call (.ref f) us) (EP X pins σ Q) X.xe s := by
  have r2 : Vals (vs ++ dvs) (us ++ ds) := r.append hd
  have hl : (us ++ ds).length = ps.length := by rw [← r2.length]; exact F.len _ _ _ _ h
  refine wpAny_call (codeAny_mono (F.run X.A X.stack s H ⟨us, []⟩ (us ++ ds) (vs ++ dvs) Q E hr I.env0 (hb s us I.kIn hl) r2 h) fun r s' hq => ?_)
  match r, hq with
  | .error e, hq => exact hx pins H s e s' I hq
  | .ok (.ret u), hq => exact I.after hq
theorem pe_callS (F : FnOk X.prog X.w X.K X.mg X.base CX k f fd ps sp) (hr : Room k X.A) (hg : Gl X x) (hm : X.mg x = some (.ref f)) (hk : PySem.W.keepIn X.K (.ref f) = true) (hb : Binds X.K fd ps ds) (hd : Vals dvs ds) (hx : PassS CX X E)
    (ha : PA X (e :: es) t) (hdb : (x == ("__debug__" : Str)) = false := by decide) (he : starEach (e :: es) X.env = (false, eval e X.env) :: starEach es X.env := by rfl) (hpl : (backTo pos (starEach es X.env)).any (·.1) = false := by rfl) :
    PE X (.Call (.Name x p) (e :: es) [] pos) (tCallS sp dvs E t) := by
  intro pins s σ H Q I h
  refine wpAny_Call_Name_kw (ld_glob I hg hm ?_ hdb)
  exact PySem.W.callWith_K (h₀ := X.base) I.ok.mod.kin hk (thn (ha pos pins s σ H _ I h) fun us s1 ⟨vs, H1, I1, r, q⟩ => ⟨I1.kIn, run_fnS F hr hb hd (hx.at σ) I1 r q⟩) he hpl
end
section
variable {P : Program} {w : World} {K : PySem.W.Frag} {mg : Str → Option Value} {base : Heap}
/-- the rule for a def that may raise -/
theorem Fun.okX {x qual : Str} {st : Stmt} {f : Addr} {fd : FuncData} {N ps : List Str} {k : Nat} {sp : Sp} (F : Fun K x qual st f fd) (S : FnScope N ps (defScope st)) (len : ∀ vs H Q E, sp vs H Q E → vs.length = ps.length)
    (hbody : ∀ (cdv : Value) (A : Around) (outer : List Env) (s : Shared) (H : Hp) (vs : List V) (Q : VK) (E : XK), Room k (A.deeper (envOfC qual (defScope st) s.heap.objs.size f cdv)) → sp vs H Q E →
      ∃ t, PSs (cxOf (CXX P w) P w K mg base N qual (defScope st) f cdv A outer s H E) (defBody st) t ∧ t { nx := fun _ H' => Q .non H', rt := Q } (start N vs) H) : FnOk P w K mg base (CXX P w) (k + 1) f fd ps sp := by
  obtain ⟨oc, od, kV, doc, pm, an, cdv, ct, osl, rfl, lk, hcd⟩ := F.ex
  exact fn_of lk hcd S len fun A outer s H vs Q E hr hsp => hbody cdv A outer s H vs Q E hr hsp
end
end L2


/-! TRY with one clause of an own class; what runs within its suite. -/
namespace L2
open PySem PySem.Spec PyProof.Rows

abbrev Cx.tr (X : Cx) (pn : List (Addr × Obj)) (E : Value → Shared → Prop) : Cx := { X with pn := pn, xe := E }
abbrev Cx.suite (X : Cx) (pn : List (Addr × Obj)) (e : Addr) (E : Value → Shared → Prop) : Cx := { X with A := X.A.mark (some (.ref e)), calm := false, pn := pn, xe := E }
section
variable {X : Cx} {pins pins' pn : List (Addr × Obj)} {σ : St} {H : Hp} {s : Shared} {E E' : Value → Shared → Prop} {ea : Addr}
theorem Cx.Ok.tr (ok : X.Ok) (pn : List (Addr × Obj)) (E : Value → Shared → Prop) : (X.tr pn E).Ok :=
  ⟨ok.mod, ok.kind, ok.glob, ok.blt, ok.above, ok.inj, ok.has, ok.cab, ok.hd, ok.frames, ok.stk, ok.exf, ok.bs, ok.bsz, ok.noex, ok.exfs, ok.funs, ok.frf⟩
theorem Cx.Ok.suite (ok : X.Ok) (pn : List (Addr × Obj)) (ea : Addr) (E : Value → Shared → Prop) : (X.suite pn ea E).Ok :=
  ⟨ok.mod, ok.kind, ok.glob, ok.blt, ok.above, ok.inj, ok.has, ok.cab, (fun z => nomatch z), ok.frames, ok.stk, ok.exf, ok.bs, ok.bsz, ok.noex, ok.exfs, ok.funs, ok.frf⟩
theorem Inv.tr (I : Inv X pins σ H s) (E : Value → Shared → Prop) : Inv (X.tr (X.pn ++ pins) E) [] σ H s :=
  ⟨I.ok.tr _ _, I.os, I.bare, I.base, I.loc, I.cell, I.free, I.freeC, fun p hp => I.pin p (by simpa using hp), I.hok, I.len⟩
theorem Inv.untr (I : Inv (X.tr (X.pn ++ pins) E) pins' σ H s) (ok : X.Ok) : Inv X pins σ H s :=
  ⟨ok, I.os, I.bare, I.base, I.loc, I.cell, I.free, I.freeC, fun p hp => I.pin p (List.mem_append_left _ hp), I.hok, I.len⟩
theorem Inv.suite (I : Inv (X.tr pn E) pins' σ H s) (ok : X.Ok) (ea : Addr) (E' : Value → Shared → Prop) : Inv (X.suite pn ea E') [] σ H s :=
  ⟨ok.suite _ _ _, I.os, I.bare, I.base, I.loc, I.cell, I.free, I.freeC, fun p hp => I.pin p (List.mem_append_left _ (by simpa using hp)), I.hok, I.len⟩
theorem Inv.unsuite (I : Inv (X.suite (X.pn ++ pins) ea E) pins' σ H s) (ok : X.Ok) : Inv X pins σ H s :=
  ⟨ok, I.os, I.bare, I.base, I.loc, I.cell, I.free, I.freeC, fun p hp => I.pin p (List.mem_append_left _ hp), I.hok, I.len⟩
theorem SP.untr {D : Ends} {f : Flow} (ok : X.Ok) (h : SP (X.tr (X.pn ++ pins) E) [] D f s) : SP X pins D f s := by
  match f, h with
  | .next, ⟨σ', H', I, q⟩ => exact ⟨σ', H', I.untr ok, q⟩
  | .brk, ⟨σ', H', I, q⟩ => exact ⟨σ', H', I.untr ok, q⟩
  | .cont, ⟨σ', H', I, q⟩ => exact ⟨σ', H', I.untr ok, q⟩
  | .ret u, ⟨v, σ', H', I, r, q⟩ => exact ⟨v, σ', H', I.untr ok, r, q⟩

/-- an object that was not tracked is tracked from now on -/
def IsExc (e : Addr) (cls : Value) : Heap → Prop := fun h => ∃ o, h.get? e = some o ∧ o.cls = cls
theorem Inv.track {e : Addr} {φ : Heap → Prop} (I : Inv X pins σ H s) (hn : H e = none) (h0 : X.s₀.heap.get? e = none) (hL : e ≠ X.env.locals) (hc : ∀ x c, X.env.cells.lookup x = some c → c ≠ e) (hp : ∀ p ∈ X.pn ++ pins, p.1 ≠ e)
    (ok : ObjOk X.prog X.w (upd H e (.ext φ)) s.heap e (.ext φ)) : Inv X pins σ (upd H e (.ext φ)) s := by
  have keep : ∀ b u, H b = some u → upd H e (.ext φ) b = some u := fun b u q => by rw [upd_ne (ne_of_none q hn)]; exact q
  refine ⟨I.ok, I.os, I.bare, ⟨I.base.keep, I.base.slot, fun b o q n hx => ?_, I.base.there, fun b xs q => keep b _ (I.base.tups b xs q), fun b o u q => keep b _ (I.base.frzs b o u q), fun b ps q => ?_⟩, I.loc, I.cell, ?_, fun x c q => ?_, fun p hm => ?_, fun b u q => ?_, I.len⟩
  · have hb : b ≠ e := fun z => by rw [z, h0] at q; cases q
    rw [upd_ne hb]
    exact I.base.free b o q n hx
  · obtain ⟨more, q'⟩ := I.base.tbls b ps q
    exact ⟨more, keep b _ q'⟩
  · rw [upd_ne hL.symm]; exact I.free
  · rw [upd_ne (hc x c q)]; exact I.freeC x c q
  · obtain ⟨z1, z2, z3⟩ := I.pin p hm
    exact ⟨z1, by rw [upd_ne (hp p hm)]; exact z2, z3⟩
  · by_cases hb : b = e
    · subst hb
      rw [upd_same] at q
      cases q
      exact ok
    · rw [upd_ne hb] at q
      exact (I.hok b u q).stay (fun c v _ z => z) (fun c z => keep c _ z) fun c xs z => keep c _ z
/-- a local name goes -/
theorem Inv.goes {i : Nat} {x : Str} {m : Str → Option Value} {h' : Heap} {v : Option Value} {t' : Nat} (I : Inv X pins σ H s) (hN : X.N.Nodup) (hi : X.N[i]? = some x) (hn : s.heap.Ns X.env.locals m)
    (hl : ∀ (i : Nat) (x : Str) (v : V), X.N[i]? = some x → σ[i]? = some (some v) → Vis X.env.scope x → ∃ u, RelV v u ∧ Look X.env s.heap m x u)
    (hn' : h'.Ns X.env.locals (fun y => if y = x then v else m y)) (hs : Heap.SameBut X.env.locals s.heap h') : Inv X pins (σ.set i none) H { s with heap := h', toks := t' } := by
  have cne := I.cne
  obtain ⟨oL, _, _, hoL, _⟩ := id hn
  have lt : ∀ b o, X.s₀.heap.get? b = some o → b ≠ X.env.locals := fun b o e => Nat.ne_of_lt (Nat.lt_of_lt_of_le (Heap.lt_size e) I.ok.above)
  refine ⟨I.ok, I.os, I.bare, ⟨fun b o e n hb hx => (hs.2 b (lt b o e)).trans (I.base.keep b o e n hb hx), fun b o e n hb hx => ?_, I.base.free, fun b o e hx => ?_, I.base.tups, I.base.frzs, I.base.tbls⟩, ⟨_, hn', fun j y v' e1 e2 e3 => ?_⟩, fun y c e => ?_, I.free, I.freeC, fun p hp => ?_, fun b u e => ?_, by simpa using I.len⟩
  · obtain ⟨sl, q⟩ := I.base.slot b o e n hb hx
    exact ⟨sl, (hs.2 b (lt b o e)).trans q⟩
  · obtain ⟨o', q⟩ := I.base.there b o e hx
    exact ⟨o', (hs.2 b (lt b o e)).trans q⟩
  · by_cases hj : j = i
    · subst hj
      by_cases hlt : j < σ.length
      · rw [List.getElem?_set_self hlt] at e2
        cases e2
      · rw [List.getElem?_eq_none (by simpa using hlt)] at e2
        cases e2
    · rw [List.getElem?_set_ne (Ne.symm hj)] at e2
      obtain ⟨u', r', q⟩ := hl j y v' e1 e2 e3
      refine ⟨u', r', ?_⟩
      rcases q with ⟨k, e⟩ | ⟨k, c, e, z⟩
      · refine .inl ⟨k, ?_⟩
        have ny : y ≠ x := fun z => hj (nodup_ix hN e1 (z ▸ hi))
        simp [ny, e]
      · exact .inr ⟨k, c, e, z.sameBut hs (cne y c e)⟩
  · obtain ⟨w', z⟩ := I.cell y c e
    exact ⟨w', z.sameBut hs (cne y c e)⟩
  · obtain ⟨e, n, ne, nf, d⟩ := I.pin p hp
    exact ⟨(hs.2 p.1 ne).trans e, n, ne, nf, d⟩
  · refine (I.hok b u e).stay (fun c w' hc q => (hs.2 c ?_).trans q) (fun _ q => q) fun _ _ q => q
    intro z
    rw [z] at hc
    rcases hc with hc | hc
    · rw [← hc, I.free] at e; cases e
    · rw [I.free] at hc; cases hc
end

/-! ### the class of a clause -/
section
variable {M : Model} {A : Around} {E : Value → Shared → Prop} {h : Heap} {g : Array GenState} {d : Drawn} {t : Nat} {os : OsState} {K : PySem.W.Frag} {C C0 e : Addr} {oe : Obj} {Q : Bool → Shared → Prop}
theorem exc_match (X : K.In h) (q : ExcC K C) (q0 : ExcC K C0) (hs : PySem.W.mroIn K C (.ref C0) = some true) (he : h.get? e = some oe) (hcls : oe.cls = .ref C) (hq : Q true ⟨h, g, d, t, os⟩) : wpAny M A (excMatches (.ref e) (.ref C0)) Q E ⟨h, g, d, t, os⟩ := by
  obtain ⟨nm, qn, N, bs, bm, hdct, sn, sub, ab, col, dd, k0, k1, k2, k3, k5, mN, hC, hN, hni, T⟩ := exc_obj X q.ok
  obtain ⟨nm', qn', N', bs', bm', hdct', sn', sub', ab', col', dd', k0', k1', k2', k3', k5', mN', hC', hN', hni', T'⟩ := exc_obj X q0.ok
  have hcB : (Value.ref C0 :: bm').contains (.type "BaseException") = true := by rw [List.contains_cons, T'.hasType PySem.F.excBase_ValueError.hasBase, Bool.or_true]
  have hcC : (Value.ref C :: bm).contains (.ref C0) = true := by
    unfold PySem.W.mroIn PySem.W.clsIn at hs
    have hk := q.ok
    unfold PySem.W.excIn at hk
    cases hl : K.lookup C with
    | none => rw [hl] at hk; cases hk
    | some ob =>
      have z := X _ _ hl
      rw [hC] at z
      cases z
      rw [hl] at hs
      simpa [excClassObj] using hs
  have f := tc_notTuple
  unfold excMatches
  repeat (first | (with_reducible refine wpAny_loadPart_at he ?_; rw [hcls]) | with_reducible refine wpAny_loadPart_at hC' ?_ | (with_reducible refine wpAny_isSubtype_exc hC' ?_; rw [hcB]) | (with_reducible refine wpAny_isSubtype_exc hC ?_; rw [hcC]) | wp_step)
  exact hq
end

/-! ### try: .. except C as n: .. -/
/-- tb: the body's reading by what is wanted of exceptions; C0: the clause's class; i: the name's slot; th: the suite's reading -/
def tTryAs (K : PySem.W.Frag) (C0 : Addr) (i : Nat) (tb : (Value → St → Hp → Prop) → TS) (th : TS) : TS := fun D σ H =>
  tb (fun cls σ' H' => ∃ C, cls = .ref C ∧ ExcC K C ∧ PySem.W.mroIn K C (.ref C0) = some true ∧ ∀ ea, H' ea = none →
    th { nx := fun σ2 H2 => D.nx (σ2.set i none) H2, rt := D.rt, bk := fun σ2 H2 => D.bk (σ2.set i none) H2, ct := fun σ2 H2 => D.ct (σ2.set i none) H2 } (σ'.set i (some (.ref ea))) (upd H' ea (.ext (IsExc ea (.ref C))))) D σ H
section
variable {X : Cx} {body : List Stmt} {x n : Str} {np hp pos : Pos} {b₀ : Stmt} {suite : List Stmt} {C0 : Addr} {i : Nat} {tb : (Value → St → Hp → Prop) → TS} {th : TS}
theorem ps_try_as (hex : X.ex = []) (hst : X.stack = X.env :: X.outer) (hfr : X.env.frame = some X.env.locals)
    (hb : ∀ (pn : List (Addr × Obj)) (xe : Value → Shared → Prop) (R : Value → St → Hp → Prop), PassS (CXX X.prog X.w) (X.tr pn xe) (fun σ cls _ H => R cls σ H) → PSs (X.tr pn xe) body (tb R))
    (hg : Gl X x) (hm : X.mg x = some (.ref C0)) (h0 : ExcC X.K C0) (hN : X.N.Nodup) (hi : X.N[i]? = some n) (hl : X.env.scope.names.lookup n = some .local)
    (hs : ∀ (pn : List (Addr × Obj)) (ea : Addr), PSs (X.suite pn ea fun _ _ => False) (b₀ :: suite) th) (hd : (x == ("__debug__" : Str)) = false := by decide) :
    PS X (.Try body [.ExceptHandler (some (.Name x np)) (some n) (b₀ :: suite) hp] [] [] pos) (tTryAs X.K C0 i tb th) := by
  intro pins s σ H D I h
  refine wpAny_Try_except ?_
  refine wpAny_mono (hb (X.pn ++ pins) (fun e s₁ => wpAny (model X.prog X.w) X.A (noteFrame e X.env) (fun _ s₂ => wpAny (model X.prog X.w) X.A (setFlight e none) (fun _ s₃ =>
    wpAny (model X.prog X.w) X.A (handleBy e X.env [.ExceptHandler (some (.Name x np)) (some n) (b₀ :: suite) hp]) (SP X pins D) X.xe s₃) X.xe s₂) X.xe s₁) _ ?_ [] s σ H D (I.tr _) h) (fun f s₁ q => ?_) fun e s₁ q => q
  · rintro pins' σ' H1 s1 e s2 I1 ⟨ea, cls, H', rfl, os, bare, un, hok, en, ⟨B, t, fl, ib⟩, C, rfl, hC, hsub, hq⟩
    show wpAny _ _ (noteFrame _ _) _ _ s2
    have fl0 : Heap.FlyingW B (X.env :: X.outer) ea (.ref C) (.ref t) s2.heap := by rw [← hst]; exact fl
    refine wpAny_looks_onW (by rw [I.ok.frames, hst]) hfr fl0 fun h4 held up4 => ?_
    refine wpAny_landsW held fun h5 fl5 up5 => ?_
    rw [← hst] at fl5
    have st5 := fly_step un hok ib fl.1 fl5.1 fl.2.2.1 (up4.trans up5)
    have J5 := I1.call' (s' := { s2 with heap := h5 }) os st5.1 st5.2 bare (fun b z => absurd z (by simp))
    refine wpAny_handleBy_cons (codeAny_handlers_test ?_) (by intro z; cases z)
    refine Calls.Name_function_global I.ok.kind hg (Calls.loadGlobal_global (by rw [I.ok.glob]; exact J5.mod.glob.keeps J5.bk) hm ?_) hd
    obtain ⟨ob, hob, hobc⟩ := fl5.there
    refine exc_match J5.kIn hC h0 hsub hob hobc ?_
    refine codeAny_handlers_suite_as ?_
    refine lands_againW fl5 fun h6 fl6 up6 => ?_
    have st6 := fly_step un hok ib fl.1 fl6.1 fl.2.2.1 ((up4.trans up5).trans up6)
    have J6 := I1.call' (s' := { s2 with heap := h6 }) os st6.1 st6.2 bare (fun b z => absurd z (by simp))
    obtain ⟨oe, vs, hoe, hoec, hoed, _⟩ := fl.first
    have nofr : ea ∉ frs X.stack := fun z => by
      obtain ⟨_, o1, q1, q2⟩ := fl.2.2.1.mem z
      rw [hoe] at q1
      cases q1
      exact q2 _ hoed
    have new1 : s1.heap.get? ea = none := by
      cases q : s1.heap.get? ea with
      | none => rfl
      | some o =>
        obtain ⟨o', z⟩ := ib.old ea o q nofr
        rw [fl.2.1] at z
        cases z
    have new0 : X.s₀.heap.get? ea = none := by
      cases q : X.s₀.heap.get? ea with
      | none => rfl
      | some o =>
        obtain ⟨o', z⟩ := I1.base.there ea o q (by show ea ∉ X.ex; rw [hex]; simp)
        rw [new1] at z
        cases z
    obtain ⟨ob6, hob6, hobc6⟩ := fl6.there
    have J7 := J6.track (e := ea) (φ := IsExc ea (.ref C)) en new0 (fun z => by
        obtain ⟨m, ⟨o, es, ep, ho, _⟩, _⟩ := I1.loc
        rw [← z, new1] at ho
        cases ho) (fun y c hc z => by
        obtain ⟨v, o, ho, _⟩ := I1.cell y c hc
        rw [z, new1] at ho
        cases ho) (fun p hp z => by
        have := (I1.pin p hp).1
        rw [z, new1] at this
        cases this) ⟨⟨ob6, hob6, hobc6⟩, ⟨ob6, hob6⟩, fun h1 h2 ⟨o, z1, z2⟩ k => ⟨o, k o z1, z2⟩⟩
    refine store_ok (X := X.tr (X.pn ++ pins) _) J7 hN hi (Or.inl hl) (v := .ref ea) rfl (fun s7 J8 => ?_) (.inr hl)
    refine wpAny_mono (hs (X.pn ++ pins) ea [] s7 _ _ _ (J8.suite I.ok ea _) (hq ea en)) (fun f s8 q => ?_) fun e' s8 z => False.elim z
    have hcls : (X.env.scope.kind == .class || (X.env.scope.kind == .module && X.env.locals != X.env.globals)) = false := by rw [I.ok.kind]; rfl
    match f, q with
    | .next, ⟨σ8, H8, J9, q9⟩ =>
      have K9 := J9.unsuite I.ok
      obtain ⟨m, hn, hl9⟩ := id K9.loc
      exact wpAny_nameGoes_keeps hl hn hcls fun h' v hn' hs' => ⟨_, H8, K9.goes hN hi hn hl9 hn' hs', q9⟩
    | .brk, ⟨σ8, H8, J9, q9⟩ =>
      have K9 := J9.unsuite I.ok
      obtain ⟨m, hn, hl9⟩ := id K9.loc
      exact wpAny_nameGoes_keeps hl hn hcls fun h' v hn' hs' => ⟨_, H8, K9.goes hN hi hn hl9 hn' hs', q9⟩
    | .cont, ⟨σ8, H8, J9, q9⟩ =>
      have K9 := J9.unsuite I.ok
      obtain ⟨m, hn, hl9⟩ := id K9.loc
      exact wpAny_nameGoes_keeps hl hn hcls fun h' v hn' hs' => ⟨_, H8, K9.goes hN hi hn hl9 hn' hs', q9⟩
    | .ret u, ⟨v8, σ8, H8, J9, r9, q9⟩ =>
      have K9 := J9.unsuite I.ok
      obtain ⟨m, hn, hl9⟩ := id K9.loc
      exact wpAny_nameGoes_keeps hl hn hcls fun h' v hn' hs' => ⟨v8, _, H8, K9.goes hN hi hn hl9 hn' hs', r9, q9⟩
  · have q := q.untr I.ok
    match f, q with
    | .next, q => exact wpAny_execs_nil q
    | .brk, q => exact q
    | .cont, q => exact q
    | .ret u, q => exact q
end

/-! ### a def called within a suite -/
structure RoomH (k : Nat) (A : Around) : Prop where
  dp : A.depth + 3 * k + 5 < recursionLimit
  un : A.units + 16 * k + 200 < cLine
theorem Room.toH {k : Nat} {A : Around} (r : Room k A) (v : Option Value) : RoomH k (A.mark v) := ⟨r.dp, r.un⟩
structure FnOkH (P : Program) (w : World) (K : PySem.W.Frag) (mg : Str → Option Value) (base : Heap) (k : Nat) (f : Addr) (fd : FuncData) (ps : List Str) (sp : Sp) : Prop where
  len : ∀ vs H Q E, sp vs H Q E → vs.length = ps.length
  run : ∀ (A : Around) (outer : List Env) (s : Shared) (H : Hp) (args : Args) (us : List Value) (vs : List V) (Q : VK) (E : XK), RoomH k A → Env0 P w K mg base A outer s H → BindsTo s fd args (ps.zip us) → Vals vs us → sp vs H Q E →
    codeAny (model P w) A (.call (.ref f) args) (CR CX0 outer P w H s Q E) s

def cxH (P : Program) (w : World) (K : PySem.W.Frag) (mg : Str → Option Value) (base : Heap) (N : List Str) (qual : Str) (scope : Scope) (f : Addr) (cd : Value) (A : Around) (outer : List Env) (s : Shared) (H : Hp) : Cx :=
  { cxOf CX0 P w K mg base N qual scope f cd A outer s H E0 with calm := false, xe := fun _ _ => False }
section
variable {P : Program} {w : World} {K : PySem.W.Frag} {mg : Str → Option Value} {base : Heap}
theorem Fun.okH {x qual : Str} {st : Stmt} {f : Addr} {fd : FuncData} {N ps : List Str} {k : Nat} {sp : Sp} (F : Fun K x qual st f fd) (S : FnScope N ps (defScope st)) (len : ∀ vs H Q E, sp vs H Q E → vs.length = ps.length)
    (hbody : ∀ (cdv : Value) (A : Around) (outer : List Env) (s : Shared) (H : Hp) (vs : List V) (Q : VK) (E : XK), RoomH k (A.deeper (envOfC qual (defScope st) s.heap.objs.size f cdv)) → sp vs H Q E →
      ∃ t, PSs (cxH P w K mg base N qual (defScope st) f cdv A outer s H) (defBody st) t ∧ t { nx := fun _ H' => Q .non H', rt := Q } (start N vs) H) : FnOkH P w K mg base (k + 1) f fd ps sp := by
  obtain ⟨oc, od, kV, doc, pm, an, cdv, ct, osl, rfl, lk, hcd⟩ := F.ex
  refine ⟨len, fun A outer s H args us vs Q E hr e0 hb r hsp => ?_⟩
  have inK : K.In s.heap := e0.mod.kin.keeps fun b o q => (e0.bs b o q).1
  have noLim : s.heap.NoLimit := e0.mod.nolimit.keeps fun b o q => (e0.bs b o q).1
  have kinds : ∀ y ∈ ps.zip us, (defScope st).names.lookup y.1 = some .local ∨ ((defScope st).names.lookup y.1 = some .cell ∧ ((cellsFrom (s.heap.objs.size + 1) (defScope st).names []).lookup y.1).isSome = true) := fun y hy => by
    have hm := (List.of_mem_zip (a := y.1) (b := y.2) hy).1
    rcases S.par y.1 hm with z | z
    · exact .inl z
    · exact .inr ⟨z, PySem.W.cellsFrom_some _ _ _ (.inl z)⟩
  refine codeAny_call_function (by have := hr.dp; omega) (inK _ _ lk) rfl S.co S.gen rfl (PySem.W.codeRec_of inK hcd) (hb _ _ _ _ ?_)
  refine wpAny_newFunctionEnv_cells S.kind kinds fun env he s1 x => ?_
  subst he
  refine ⟨noLim.keeps x.toInCall.keep, codeAny_func ?_⟩
  have room : RoomH k (A.deeper (envOfC qual (defScope st) s.heap.objs.size f cdv)) := ⟨by have := hr.dp; show A.depth + 1 + 3 * k + 5 < _; omega, by have := hr.un; show A.units + 3 + 16 * k + 200 < _; omega⟩
  obtain ⟨t, ht, hq⟩ := hbody cdv A outer s H vs Q E room hsp
  have e1 : Env0 P w K mg base { A with handled := none } outer s H := ⟨e0.frames, e0.mod, e0.bs, e0.bsz, e0.funs, e0.frf, e0.hok, e0.bare⟩
  have I0 : Inv (cxOf CX0 P w K mg base N qual (defScope st) f cdv { A with handled := none } outer s H E0) [] (start N vs) H s1 := inv_start S rfl e1 (len _ _ _ _ hsp) r x
  have I : Inv (cxH P w K mg base N qual (defScope st) f cdv A outer s H) [] (start N vs) H s1 :=
    ⟨⟨I0.ok.mod, I0.ok.kind, I0.ok.glob, I0.ok.blt, I0.ok.above, I0.ok.inj, I0.ok.has, I0.ok.cab, (fun z => nomatch z), Around.frames_deeper e0.frames, I0.ok.stk, I0.ok.exf, I0.ok.bs, I0.ok.bsz, I0.ok.noex, I0.ok.exfs, I0.ok.funs, I0.ok.frf⟩,
      I0.os, I0.bare, I0.base, I0.loc, I0.cell, I0.free, I0.freeC, I0.pin, I0.hok, I0.len⟩
  refine wpAny_mono (ht [] s1 (start N vs) H _ I hq) (fun fl s' hs => ?_) fun e s' z => False.elim z
  cases fl with
  | ret u =>
    obtain ⟨v, σ', H', J, rv, q⟩ := hs
    exact ⟨v, H', J.os, J.bare, J.base, J.hok, rv, q⟩
  | next =>
    obtain ⟨σ', H', J, q⟩ := hs
    exact ⟨.non, H', J.os, J.bare, J.base, J.hok, rfl, q⟩
  | brk =>
    obtain ⟨σ', H', J, q⟩ := hs
    exact False.elim q
  | cont =>
    obtain ⟨σ', H', J, q⟩ := hs
    exact False.elim q
end
section
variable {X : Cx} {k : Nat} {f : Addr} {fd : FuncData} {ps : List Str} {sp : Sp} {x : Str} {p pos : Pos} {e : Expr} {es : List Expr} {t : TA}
theorem pe_callH (F : FnOkH X.prog X.w X.K X.mg X.base k f fd ps sp) (hr : RoomH k X.A) (hg : Gl X x) (hm : X.mg x = some (.ref f)) (hk : PySem.W.keepIn X.K (.ref f) = true) (hb : Binds X.K fd ps []) (ha : PA X (e :: es) t)
    (hdb : (x == ("__debug__" : Str)) = false := by decide) (he : starEach (e :: es) X.env = (false, eval e X.env) :: starEach es X.env := by rfl) (hpl : (backTo pos (starEach es X.env)).any (·.1) = false := by rfl) :
    PE X (.Call (.Name x p) (e :: es) [] pos) (tCall sp [] E0 t) := by
  intro pins s σ H Q I h
  refine wpAny_Call_Name_kw (ld_glob I hg hm ?_ hdb)
  refine PySem.W.callWith_K (h₀ := X.base) I.ok.mod.kin hk (thn (ha pos pins s σ H _ I h) fun us s1 ⟨vs, H1, I1, r, q⟩ => ⟨I1.kIn, ?_⟩) he hpl
  have r2 : Vals (vs ++ []) (us ++ []) := r.append .nil
  have hl : (us ++ []).length = ps.length := by rw [← r2.length]; exact F.len _ _ _ _ q
  refine wpAny_call (codeAny_mono (F.run X.A X.stack s1 H1 ⟨us, []⟩ (us ++ []) (vs ++ []) Q E0 hr I1.env0 (hb s1 us I1.kIn hl) r2 q) fun r s' hq => ?_)
  match r, hq with
  | .error e, hq => exact False.elim hq
  | .ok (.ret u), hq => exact I1.after hq
end
end L2


/-! ISINSTANCE of an exception of an own class; f-strings whose words are free; objects whose methods may raise. -/
namespace L2
open PySem PySem.Spec PyProof.Rows

/-- what else the kit has of such a class -/
structure ExcF (K : PySem.W.Frag) (C : Addr) : Prop extends ExcC K C where
  ga : PySem.W.findIn K (.ref C) "__getattribute__" = some (some (.builtin "BaseException.__getattribute__"))
  gn : PySem.W.findIn K (.ref C) "__getattr__" = some none
  gc : PySem.W.findIn K (.ref C) "__class__" = some (some (.builtin "object.__class__"))

section
variable {prog : Program} {w : World} {A : Around} {E : Value → Shared → Prop} {h : Heap} {g : Array GenState} {d : Drawn} {t : Nat} {os : OsState} {K : PySem.W.Frag} {C a : Addr} {o : Obj}
theorem exc_sub {T : String} {M : Model} {Q : Bool → Shared → Prop} (X : K.In h) (F : ExcC K C) (ht : vmro.contains (.type T) = true) (hq : Q true ⟨h, g, d, t, os⟩) : wpAny M A (isSubtype (.ref C) (.type T)) Q E ⟨h, g, d, t, os⟩ := by
  obtain ⟨nm, qn, N, bs, bm, hdct, sn, sub, ab, col, dd, k0, k1, k2, k3, k5, mN, hC, hN, hni, T'⟩ := exc_obj X F.ok
  have hcB : (Value.ref C :: bm).contains (.type T) = true := by rw [List.contains_cons, T'.hasType ht, Bool.or_true]
  refine wpAny_isSubtype_exc hC ?_
  rw [hcB]
  exact hq
theorem exc_cls_get {R : Result → Shared → Prop} (X : K.In h) (F : ExcF K C) (hx : h.get? a = some o) (hc : o.cls = .ref C) (hq : R (.ok (.ret (.ref C))) ⟨h, g, d, t, os⟩) :
    codeAny (model prog w) A (.call (.builtin "getset_descriptor.__get__") ⟨[.builtin "object.__class__", .ref a, .ref C], []⟩) R ⟨h, g, d, t, os⟩ := by
  have hT5 : (⟨h, g, d, t, os⟩ : Shared).TypeIs (.builtin "object.__class__") "getset_descriptor" := PySem.F.typeOf_object_class
  have ho : (".".intercalate ("object.__class__".cutAt '.').dropLast) = "object" := PySem.F.owner_object_class
  refine codeAny_call_builtin PySem.F.slot_gs_get.plain PySem.F.entry_gs_get (PySem.F.slot_gs_get.check _ _ _ _ _ _ _ _ hT5 (PySem.F.args_gs_get _ _ _) ?_)
  repeat (any_goals (first | assumption | (with_reducible refine wpAny_loadPart_at hx ?_; rw [hc]) | (rw [ho]; with_reducible refine exc_sub X F.toExcC (by decide) ?_) | wp_step))
  refine ⟨Code.quiet_builtin _ (by decide +kernel), codeAny_builtin PySem.F.entry_object_class ?_⟩
  repeat (any_goals (first | assumption | (with_reducible refine wpAny_loadPart_at hx ?_; rw [hc]) | wp_step))
theorem exc_cls_entry {tk : Tok} {Q : Fin → Shared → Prop} (X : K.In h) (F : ExcF K C) (hx : h.get? a = some o) (hc : o.cls = .ref C) (hq : Q (.done (.ret (.ref C))) ⟨h, g, d, t, os⟩) :
    wpAny (model prog w) A (Builtin.«object.__getattribute__» ⟨[.ref a, .str "__class__" tk], []⟩) Q E ⟨h, g, d, t, os⟩ := by
  have hT5 : (⟨h, g, d, t, os⟩ : Shared).TypeIs (.builtin "object.__class__") "getset_descriptor" := PySem.F.typeOf_object_class
  have f5 := PySem.F.typeOf_object_class
  have f6 := PySem.F.slot_gs_get.lookup
  have f7 := PySem.F.slot_gs_set.lookup
  have L := PySem.W.looks_findIn (M := model prog w) X F.gc
  repeat (any_goals (first | assumption | (with_reducible refine wpAny_loadPart_at hx ?_; rw [hc]) | with_reducible refine L.at ?_ | wp_step))
  refine exc_cls_get X F hx hc ?_
  repeat (any_goals (first | assumption | wp_step))
theorem exc_cls_check {M : Model} {nameV : Value} {Q : Unit → Shared → Prop} (X : K.In h) (F : ExcF K C) (hx : h.get? a = some o) (hc : o.cls = .ref C) (hq : Q () ⟨h, g, d, t, os⟩) : wpAny M A (checkBuiltinCall "BaseException.__getattribute__" ⟨[.ref a, nameV], []⟩) Q E ⟨h, g, d, t, os⟩ := by
  have hk : builtinKind "BaseException.__getattribute__" = some .slot := by decide +kernel
  have hsplit : splitId "BaseException.__getattribute__" = some ("BaseException", "__getattribute__") := by decide +kernel
  have ha := PySem.F.args_bexc_ga (.ref a) nameV
  simp only [checkBuiltinCall, hk, hsplit]
  refine wpAny_bind ?_
  unfold isInstance
  repeat (first | (with_reducible refine wpAny_loadPart_at hx ?_; rw [hc]) | with_reducible refine exc_sub X F.toExcC (by decide) ?_ | wp_step)
  exact hq
theorem exc_cls_by {tk : Tok} {Q : Value → Shared → Prop} (X : K.In h) (F : ExcF K C) (hx : h.get? a = some o) (hc : o.cls = .ref C) (hq : Q (.ref C) ⟨h, g, d, t, os⟩) :
    wpAny (model prog w) A (getAttrBy (.ref a) (.str "__class__" tk) false) Q E ⟨h, g, d, t, os⟩ := by
  have f3 := PySem.F.excAttr_ValueError.ga.bind (.ref a)
  have hx2 : (Value.builtin "BaseException.__getattribute__" == Value.builtin "object.__getattribute__") = false := by decide +kernel
  have hx1 : (onTheHeap (Value.ref C) && Value.builtin "BaseException.__getattribute__" == Value.builtin "object.__getattribute__") = false := by rw [hx2]; rfl
  have L1 := PySem.W.looks_findIn (M := model prog w) X F.ga
  have L2 := PySem.W.looks_findIn (M := model prog w) X F.gn
  repeat (any_goals (first | assumption | (with_reducible refine wpAny_loadPart_at hx ?_; rw [hc]) | with_reducible refine L1.at ?_ | with_reducible refine L2.at ?_ | wp_step))
  refine codeAny_call_builtin PySem.F.excAttr_ValueError.ga.plain PySem.F.entry_bexc_ga (exc_cls_check X F hx hc (exc_cls_entry X F hx hc ?_))
  repeat (any_goals (first | assumption | wp_step))
theorem exc_cls_attr {Q : Option Value → Shared → Prop} (X : K.In h) (F : ExcF K C) (hx : h.get? a = some o) (hc : o.cls = .ref C) (hq : Q (some (.ref C)) ⟨h, g, d, t + 1, os⟩) : wpAny (model prog w) A (getAttr? (.ref a) "__class__") Q E ⟨h, g, d, t, os⟩ := by
  unfold getAttr? getAttrBy?
  repeat (any_goals (first | assumption | with_reducible apply exc_cls_by X F hx hc | wp_step))
end
theorem kitx_exc {K : PySem.W.Frag} {e C : Addr} (F : ExcF K C) : PySem.W.KitX K (.ref e) (.ref C) (IsExc e (.ref C)) where
  ty := fun M h _ ⟨o, h1, h2⟩ => h2 ▸ (PySem.W.Looks.ld h1).andThen .now
  it := fun M h X _ => by
    obtain ⟨nm, qn, N, bs, bm, hdct, sn, sub, ab, col, dd, k0, k1, k2, k3, k5, mN, hC, hN, hni, T'⟩ := exc_obj X F.ok
    intro A' Q' E' s' k q
    unfold isType loadHead
    exact wpAny_bind (wpAny_loadPart (k _ _ hC) (wpAny_pure q))
  ne := fun h tp dd its n sl X htp => by
    obtain ⟨nm, qn, N, bs, bm, hdct, sn, sub, ab, col, dd, k0, k1, k2, k3, k5, mN, hC, hN, hni, T'⟩ := exc_obj X F.ok
    refine Bool.eq_false_iff.mpr fun q => ?_
    have e : C = tp := Value.ref.inj (beq_iff_eq.mp q)
    subst e
    have z := congrArg Obj.cls (Option.some.inj (hC.symm.trans htp))
    exact absurd (Value.type.inj z) (by decide)
  ca := fun {_ _ _ _ _ s} X p k => by
    obtain ⟨h, g, d, t, os⟩ := s
    obtain ⟨o, h1, h2⟩ := p
    exact exc_cls_attr X F h1 h2 k

section
variable {X : Cx} {H : Hp} {e C C0 : Addr}
/-- isinstance(e, C0) of a tracked exception -/
theorem call_isexc : CallR X (.builtin "isinstance") (fun xs H Q => ∃ e C c b, xs = [.ref e, c] ∧ H e = some (.ext (IsExc e (.ref C))) ∧ ExcF X.K C ∧
    ((∃ C0, c = .ref C0 ∧ PySem.W.kitOne X.K (.ref C) (.ref C0) = some b) ∨ ∃ T, c = .ty T ∧ PySem.W.kitOne X.K (.ref C) (.type T) = some b) ∧ Q (.bl b) H) := by
  intro pins s σ H xs us Q I r h
  obtain ⟨e, C, c, b, rfl, he, F, hc, q⟩ := h
  obtain ⟨u, u', rfl, rx, rc⟩ := vals2 r
  cases rx
  have ok := I.hok e _ he
  have k : ∃ c', u' = c' ∧ PySem.W.kitOne X.K (.ref C) c' = some b := by
    rcases hc with ⟨C0, rfl, z⟩ | ⟨T, rfl, z⟩
    · exact ⟨_, rc, z⟩
    · exact ⟨_, rc, z⟩
  obtain ⟨c', rfl, z⟩ := k
  exact PySem.W.kia_one (kitx_exc (e := e) F) I.kIn ok.1 z (by intro q; cases q) fun tk => ⟨.bl b, H, I.tok tk, rfl, q⟩
end

/-! ### methods and making, where an exception may fly -/
section
variable {X : Cx} {CX : CXT} {k : Nat} {f C : Addr} {fd : FuncData} {ps : List Str} {sp : Sp} {dvs : List V} {ds : List Value} {E : St → XK} {x m : Str} {p pos apos : Pos} {e o : Expr} {es : List Expr} {ta : TE} {t : TA}
theorem pe_methS0 {pl : Sem Bool} (he : PE X o ta) (c : Cls X.K C) (hm : Meth X.K C m f) (F : FnOk X.prog X.w X.K X.mg X.base CX k f fd ps sp) (hr : Room k X.A) (hb : Binds X.K fd ps ds) (hd : Vals dvs ds) (hx : PassS CX X E)
    (ht : eval (.Call (.Attribute o m apos) [] [] pos) X.env = (do
      let ov ← eval o X.env
      standAt apos.atName
      let (f, first) ← holding [ov] (getMethod ov m pl)
      callWith pos f first (backTo pos (starEach [] X.env)) (backToKw pos (keywordEach [] X.env))) := by rfl) :
    PE X (.Call (.Attribute o m apos) [] [] pos) (tMethS C m sp dvs E ta tNil) := by
  intro pins s σ H Q I h
  refine PySem.W.methodCall_KW (pl := pl) (thn (he pins s σ H _ I h) fun u s1 hq0 => ?_) ht
  obtain ⟨x, H1, I1, rx, a, dx, fs, ex, ea, l, q⟩ := hq0
  subst ex
  cases rx
  exact getmeth_ok I1 ea c hm l (PySem.W.callWith_K0 (first := [.ref a]) I1.kIn hm.kp (run_fnS (us := [.ref a]) (vs := [.ref a]) F hr hb hd (hx.at σ) I1 (.cons rfl .nil) q))
theorem run_makeS {E : XK} {pins : List (Addr × Obj)} {σ : St} {H : Hp} {s : Shared} {Q : VK} {us : List Value} {vs : List V} (M : Mk X.K C f) (F : FnOk X.prog X.w X.K X.mg X.base CX k f fd ps sp) (hr : Room (k + 1) X.A) (hb : Binds X.K fd ps ds) (hd : Vals dvs ds)
    (hx : PassAt CX X σ E) (I : Inv X pins σ H s) (r : Vals vs us)
    (h : ∀ x dx, H x = none → H dx = none → dx ≠ x → sp (.ref x :: (vs ++ dvs)) (upd (upd H dx (.own x)) x (.ins C dx [])) (fun v H2 => v = .non ∧ Q (.ref x) H2) E) :
    wpAny (model X.prog X.w) X.A (call (.ref C) us) (EP X pins σ Q) X.xe s := by
  have I2 := Inv.made (C := C) I
  have hq := h (s.heap.objs.size + 1) s.heap.objs.size (I.hok.fresh (Nat.le_succ _)) (I.hok.fresh (Nat.le_refl _)) (Nat.ne_of_lt (Nat.lt_succ_self _))
  have r2 : Vals (V.ref (s.heap.objs.size + 1) :: (vs ++ dvs)) (Value.ref (s.heap.objs.size + 1) :: (us ++ ds)) := .cons rfl (r.append hd)
  have hl : (Value.ref (s.heap.objs.size + 1) :: us ++ ds).length = ps.length := (r2.length).symm.trans (F.len _ _ _ _ hq)
  have go := F.run _ X.stack _ _ ⟨Value.ref (s.heap.objs.size + 1) :: us, []⟩ (Value.ref (s.heap.objs.size + 1) :: (us ++ ds)) _ _ E (hr.make C us []) (I2.env0.make C us []) (hb _ (Value.ref (s.heap.objs.size + 1) :: us) I2.kIn hl) r2 hq
  refine wpAny_call (make_map (f := f) I.kIn M.makes M.init (beq_iff_eq.mp M.fn) (codeAny_mono go fun r s' z => ?_))
  match r, z with
  | .error e, z => exact hx pins _ _ e s' I2 z
  | .ok (.ret u), z =>
    obtain ⟨v, H', I3, rv, ev, q3⟩ := I2.after z
    subst ev
    exact ⟨rv, ⟨V.ref (s.heap.objs.size + 1), H', I3, rfl, q3⟩⟩
theorem pe_makeS (M : Mk X.K C f) (F : FnOk X.prog X.w X.K X.mg X.base CX k f fd ps sp) (hr : Room (k + 1) X.A) (hg : Gl X x) (hm : X.mg x = some (.ref C)) (hb : Binds X.K fd ps ds) (hd : Vals dvs ds) (hx : PassS CX X E)
    (ha : PA X (e :: es) t) (hdb : (x == ("__debug__" : Str)) = false := by decide) (he : starEach (e :: es) X.env = (false, eval e X.env) :: starEach es X.env := by rfl) (hpl : (backTo pos (starEach es X.env)).any (·.1) = false := by rfl) :
    PE X (.Call (.Name x p) (e :: es) [] pos) (tMakeS C sp dvs E t) := by
  intro pins s σ H Q I h
  refine wpAny_Call_Name_kw (ld_glob I hg hm (PySem.W.callWith_K (h₀ := X.base) I.ok.mod.kin M.kp (thn (ha pos pins s σ H _ I h) fun us s1 ⟨vs, H1, I1, r, q⟩ => ⟨I1.kIn, ?_⟩) he hpl) hdb)
  exact run_makeS M F hr hb hd (hx.at σ) I1 r q
end

/-! ### f-strings whose words nobody asks for -/
/-- what may stand in a field -/
def Fmt : V → Prop
  | .int n => n.natAbs < 10 ^ 500
  | .str x => x.length ≤ 1000
  | _ => False
abbrev TF := St → Hp → (Hp → Prop) → Prop
def fNil : TF := fun _ H Q => Q H
def fVal (ta : TE) (t : TF) : TF := fun σ H Q => ta σ H fun v H1 => Fmt v ∧ t σ H1 Q
def tFs (t : TF) : TE := fun σ H Q => t σ H fun H1 => ∀ x, Q (.str x) H1
def PF (X : Cx) (es : List Expr) (t : TF) : Prop :=
  ∀ (pins : List (Addr × Obj)) (s : Shared) (σ : St) (H : Hp) (acc : Str) (Q : VK), Inv X pins σ H s → acc.length + 2000 * es.length ≤ 100000 → t σ H (fun H1 => ∀ x, Q (.str x) H1) → wpAny (model X.prog X.w) X.A (joinParts acc (evalEach es X.env)) (EP X pins σ Q) X.xe s
section
variable {X : Cx} {e : Expr} {es : List Expr} {ta : TE} {t : TF} {x : Str} {j : Nat} {pos : Pos}
theorem len100 {n : Nat} (h : n ≤ 100000) : n ≤ sizeLine := Nat.le_trans h (by decide)
theorem room2000 {k a b n : Nat} (e : k = a + b) (hb : b ≤ 2000) (h : a + 2000 * (n + 1) ≤ 100000) : k + 2000 * n ≤ 100000 := by
  rw [e]
  rw [Nat.mul_succ] at h
  exact Nat.le_trans (by rw [Nat.add_assoc, Nat.add_comm b]; exact Nat.add_le_add_left (Nat.add_le_add_left hb _) _) h
theorem pf_nil : PF X [] fNil := fun pins s σ H acc Q I hl h => joinParts_nil ⟨.str acc, H, I.tok _, ⟨_, rfl⟩, h acc⟩ (len100 (by simpa using hl))
theorem pf_str (hx : x.length ≤ 2000) (hr : PF X es t) : PF X (.Constant (.str x) j pos :: es) t := fun pins s σ H acc Q I hl h => by
  show wpAny _ _ (joinParts acc (eval (.Constant (.str x) j pos) X.env :: evalEach es X.env)) _ _ s
  have e1 : (acc ++ x).length = acc.length + x.length := strLen_append _ _
  simp only [List.length_cons] at hl
  have l := room2000 e1 hx hl
  exact joinParts_cons (Calls.Constant_str ⟨len100 (Nat.le_trans (Nat.le_add_right _ _) l), hr pins _ σ H (acc ++ x) Q (I.tok _) l h⟩)
theorem pf_val (he : PE X e ta) (hr : PF X es t) : PF X (.FormattedValue e (-1) none pos :: es) (fVal ta t) := fun pins s σ H acc Q I hl h => by
  show wpAny _ _ (joinParts acc (eval (.FormattedValue e (-1) none pos) X.env :: evalEach es X.env)) _ _ s
  simp only [List.length_cons] at hl
  refine joinParts_cons (PyProof.Rows.FormattedValue_plain (thn (he pins s σ H _ I h) fun u s1 hq0 => ?_))
  obtain ⟨v, H1, I1, r, f, q⟩ := hq0
  cases v with
  | int n =>
    obtain ⟨tk, rfl⟩ := r
    have f : n.natAbs < 10 ^ 500 := f
    have hd : n.natAbs.log2 < 1920 := by
      by_cases z : n.natAbs = 0
      · rw [z]; decide
      · exact (Nat.log2_lt z).mpr (Nat.lt_trans f (by decide))
    have hlen : (Str.ofString (toString n)).length ≤ 2000 := by
      have e := int_text_length_le (k := 1920) (by decide) hd
      rw [PySem.ofString_length]; omega
    have e1 : (acc ++ Str.ofString (toString n)).length = acc.length + (Str.ofString (toString n)).length := strLen_append _ _
    have l := room2000 e1 hlen hl
    exact PyProof.Rows.formatField_int_small hd ⟨len100 (Nat.le_trans (Nat.le_add_right _ _) l), hr pins _ σ H1 _ Q (I1.tok _) l q⟩
  | str y =>
    obtain ⟨tk, rfl⟩ := r
    have f : y.length ≤ 1000 := f
    have e1 : (acc ++ y).length = acc.length + y.length := strLen_append _ _
    have l := room2000 e1 (Nat.le_trans f (by decide)) hl
    exact PyProof.Rows.formatField_str (fun t' tk => ⟨len100 (Nat.le_trans (Nat.le_add_right _ _) l), hr pins _ σ H1 _ Q (I1.tok _) l q⟩) (len100 (Nat.le_trans f (by decide)))
  | _ => exact False.elim f
theorem pe_fs {e2 : Expr} (h : PF X (e :: e2 :: es) t) (hl : 2000 * (e :: e2 :: es).length ≤ 100000 := by decide) : PE X (.JoinedStr (e :: e2 :: es) pos) (tFs t) := fun pins s σ H Q I q =>
  PyProof.Rows.JoinedStr_many (h pins s σ H Str.empty Q I (by rw [show Str.empty.length = 0 from rfl]; omega) q)
end
end L2


/-! insert, list(range(a, b, -1)), == of lists of bools. -/
namespace L2
open PySem PySem.Spec PyProof.Rows
theorem bt_ValueError : bootBuiltins "ValueError" = some (.type "ValueError") := by decide +kernel
section
variable {X : Cx}
def rInsert : V → List V → Hp → VK → Prop := fun x vs H Q => ∃ (l : Addr) (xs : List V) (i : Int) (y : V), x = .ref l ∧ vs = [.int i, y] ∧ H l = some (.lst xs) ∧ 0 ≤ i ∧ i ≤ xs.length ∧ xs.length ≤ 900 ∧ Q .non (upd H l (.lst (xs.take i.toNat ++ [y] ++ xs.drop i.toNat)))
theorem mt_insert : MtM X "list.insert" rInsert := by
  intro pins s σ H x vs v us Q I rx rv h
  obtain ⟨l, xs, i, y, rfl, rfl, hH, h1, h2, h3, q⟩ := h
  cases rx
  obtain ⟨u, u', rfl, ⟨t, rfl⟩, ru⟩ := vals2 rv
  obtain ⟨z, its, n, r, hl, e⟩ := I.lstM hH
  refine call_meets PySem.F.slot_list_insert ⟨_, e, rfl⟩ PySem.F.entry_list_insert (PySem.F.args_list_insert_3 _ _ _)
    (AutoSeq1.list_insert_list_int_val_1 l its.toArray n i t u' (by rw [fitsIndex_both (Int.le_trans (by decide) h1) (Int.lt_of_le_of_lt h2 (Int.lt_of_le_of_lt (Int.ofNat_le.mpr h3) (by decide)))]; exact Bool.false_ne_true) (by rw [List.size_toArray]; omega)) ⟨e, ?_⟩
  refine ⟨.non, _, I.lset (its' := its.take i.toNat ++ [u'] ++ its.drop i.toNat) hH e ?_ (((r.take i.toNat).append (.cons ru .nil)).append (r.drop i.toNat)) ?_, rfl, q⟩
  · have hi : ¬ i < 0 := Int.not_lt.mpr h1
    simp only [hi, if_false, List.size_toArray]
    rw [Nat.min_eq_left (show i.toNat ≤ its.length by rw [← hl]; exact Int.toNat_le.mpr h2)]
    apply Array.toList_inj.mp
    simp [List.extract_eq_take_drop]
    all_goals rw [List.take_of_length_le (by simp)]
  · refine small12 ?_
    rw [List.length_append, List.length_append]
    exact Nat.le_trans (Nat.add_le_add_right (Nat.add_le_add_right (List.length_take_le ..) 1) _) (by rw [List.length_drop]; omega)

/-- list(range(i, j, -1)) -/
def tListDown (ta : TA) : TE := fun σ H Q => ta σ H fun vs H1 => ∃ i j : Int, vs = [.int i, .int j, .int (-1)] ∧ (-(2 ^ 9) ≤ i ∧ i ≤ 400 ∧ -(2 ^ 9) ≤ j ∧ j ≤ 2 ^ 9) ∧ ∀ l, H1 l = none → Q (.ref l) (upd H1 l (.lst ((Fs.upTo (j + 1) (i + 1)).reverse.map V.int)))
theorem pe_list_down {a b c : Expr} {ta : TA} {p pos p2 pos2 : Pos} (hc : X.calm = true) (hg0 : Gl X "list") (hm0 : X.mg "list" = none) (hg2 : Gl X "range") (hm2 : X.mg "range" = none) (ha : PA X [a, b, c] ta)
    (hs0 : starEach [Expr.Call (.Name "range" p2) [a, b, c] [] pos2] X.env = [(false, eval (.Call (.Name "range" p2) [a, b, c] [] pos2) X.env)] := by rfl)
    (hs : starEach [a, b, c] X.env = (false, eval a X.env) :: starEach [b, c] X.env := by rfl) (hp : (backTo pos2 (starEach [b, c] X.env)).any (·.1) = false := by rfl) :
    PE X (.Call (.Name "list" p) [.Call (.Name "range" p2) [a, b, c] [] pos2] [] pos) (tListDown ta) := by
  intro pins s σ H Q I h
  refine wpAny_Call_Name_kw (ld_blt I hg0 hm0 bt_list (PyProof.Rows.callWith_type1 ?_ (by rw [hs0]; rfl) rfl))
  rw [hs0]
  refine Calls.spliced_cons ?_
  refine wpAny_Call_Name_kw (ld_blt I hg2 hm2 bt_range (PyProof.Rows.callWith_type1 (thn (ha pos2 pins s σ H _ I h) fun us s1 hq0 => ?_) hs hp))
  obtain ⟨vs, H1, I1, r1, q1⟩ := hq0
  obtain ⟨i, j, e, ⟨q1, q2, q3, q4⟩, q⟩ := q1
  subst e
  obtain ⟨t, t', t'', rfl⟩ := three r1
  have hd : (i - j).toNat ≤ 1000 := Int.toNat_le.mpr (Int.le_trans (Int.sub_le_sub q2 q3) (by decide))
  have ed : i + 1 - (j + 1) = i - j := Int.add_sub_add_right ..
  refine call_range_3 (by decide) ?_ (.inl (PyProof.noPylong_small (by decide)))
  have I2 : Inv X pins σ H1 { s1 with heap := s1.heap.push { cls := .type "range", data := .fields #[.int i t, .int j t', .int (-1) t''] }, toks := s1.toks } := I1.kept fun b o e => Heap.get?_push_of_some _ e
  refine Calls.spliced_nil ?_
  refine call_list_range (s := { s1 with heap := s1.heap.push { cls := .type "range", data := .fields #[.int i t, .int j t', .int (-1) t''] }, toks := s1.toks }) (n := (i - j).toNat) (I2.ok.hd hc) (IsRange.new ..) (PySem.W.small_down (Int.le_trans (by decide) q1) (Int.lt_of_le_of_lt q2 (by decide)) (Int.le_trans (by decide) q3) (Int.lt_of_le_of_lt q4 (by decide)))
    (by rw [PySem.W.rangeSize_downNat]) (Nat.le_trans hd (by decide)) fun h' tk acc' c' kp e' it => ?_
  refine ⟨.ref _, _, I2.laid (t' := tk) kp (Nat.le_refl _) (show ObjOk X.prog X.w _ _ _ (.lst ((Fs.upTo (j + 1) (i + 1)).reverse.map V.int)) from ⟨small12 ?_, acc'.toList, c', vals_of_get ?_ fun k x u e1 e2 => ?_, by simpa using e'⟩), rfl, q _ I2.fresh⟩
  · rw [List.length_map, List.length_reverse, Fs.length_upTo, ed]; exact hd
  · rw [List.length_map, List.length_reverse, Fs.length_upTo, ed]; simp [it.1]
  · have hk : k < (i - j).toNat := by
      have := (List.getElem?_eq_some_iff.mp e1).1
      rwa [List.length_map, List.length_reverse, Fs.length_upTo, ed] at this
    have hk2 : (i - j).toNat - 1 - k < (i - j).toNat := Nat.lt_of_le_of_lt (Nat.sub_le _ _) (Nat.sub_lt (Nat.lt_of_le_of_lt (Nat.zero_le _) hk) (by decide))
    rw [List.getElem?_map, List.getElem?_reverse (by rw [Fs.length_upTo, ed]; exact hk), Fs.length_upTo, ed, Fs.get_upTo (by rw [ed]; exact hk2)] at e1
    cases e1
    obtain ⟨t, rfl⟩ := it.2 k u (by simpa using e2)
    exact ⟨t, by congr 1; omega⟩

/-! == of lists of bools -/
def bools (bs : List Bool) : PyData := .list (bs.map PyData.bool)
theorem bools_lay : ∀ bs : List Bool, PyData.canLayAll0 (bs.map PyData.bool) = true ∧ PyData.depthAll (bs.map PyData.bool) = 0
  | [] => ⟨rfl, rfl⟩
  | b :: r => by
    obtain ⟨h1, h2⟩ := bools_lay r
    simp [PyData.canLayAll0, PyData.canLay0, PyData.depthAll, PyData.depth, h1, h2]
theorem bools_shaped (bs : List Bool) : SeqAt.shaped (bools bs) = true := by
  obtain ⟨h1, h2⟩ := bools_lay bs
  simp [SeqAt.shaped, bools, PyData.canLay0, PyData.depth, h1, h2]
theorem bools_eqvAll : ∀ bs cs : List Bool, PyData.eqvAll (bs.map PyData.bool) (cs.map PyData.bool) = decide (bs = cs)
  | [], [] => by simp [PyData.eqvAll]
  | [], _ :: _ => by simp [PyData.eqvAll]
  | _ :: _, [] => by simp [PyData.eqvAll]
  | a :: r, b :: t => by
    simp only [List.map_cons, PyData.eqvAll, PyData.eqv, bools_eqvAll r t]
    cases a <;> cases b <;> by_cases h' : r = t <;> simp [h']
theorem readsBools {h : Heap} : ∀ {bs : List Bool} {its : List Value}, Vals (bs.map V.bl) its → ∃ as, ReadsAll h its (bs.map PyData.bool) as
  | [], _, .nil => ⟨_, .nil⟩
  | b :: r, _, .cons e q => by
    cases e
    obtain ⟨as, z⟩ := readsBools (h := h) q
    exact ⟨_, .cons (.bool b) z⟩
def rEqB (K : PySem.W.Frag) : R2 := fun x y H Q => ∃ (a b : Addr) (bs cs : List Bool), x = .ref a ∧ y = .ref b ∧ SqL K H a (bs.map V.bl) ∧ SqL K H b (cs.map V.bl) ∧ Q (.bl (decide (bs = cs))) H
theorem op_eqB (hu : X.A.units + 64 < cLine) : OpR X (compareOp .Eq) (rEqB X.K) := by
  intro pins s σ H x y v u Q I rx ry h
  obtain ⟨a, b, bs, cs, rfl, rfl, h1, h2, q⟩ := h
  cases rx
  cases ry
  obtain ⟨its, r1, p1, _⟩ := I.list h1
  obtain ⟨its2, r2, p2, _⟩ := I.list h2
  obtain ⟨as1, z1⟩ := readsBools (h := s.heap) r1
  obtain ⟨as2, z2⟩ := readsBools (h := s.heap) r2
  obtain ⟨o, ho, hc, n, hd⟩ := p1.isList
  obtain ⟨o', ho', hc', n', hd'⟩ := p2.isList
  refine eq_dataH (.list ho hc hd (by simpa using z1)) (.list ho' hc' hd' (by simpa using z2)) (bools_shaped bs) (bools_shaped cs) hu ?_
  have e : PyData.eqv (bools bs) (bools cs) = decide (bs = cs) := by simp only [bools, PyData.eqv]; exact bools_eqvAll bs cs
  show EP X pins σ Q (.bool (PyData.eqv (bools bs) (bools cs))) s
  rw [e]
  exact ⟨.bl _, H, I, rfl, q⟩
end
section
variable {K : PySem.W.Frag} {cap : List (Option Nat)} {σ : St} {H1 : Hp} {tt : TT} {te : TE} {Q : VK}
/-- what is left of a list -/
theorem comp_listF {a : Addr} {xs : List V} (keep : V → Bool) (h : SqL K H1 a xs) (hl : xs.length ≤ 1000)
    (step : ∀ (i : Nat) (x : V) (H2 : Hp) (R1 : VK) (R2 : Hp → Prop), xs[i]? = some x → Same H1 H2 → (keep x = true → ∀ H5, Same H2 H5 → R1 x H5) → (keep x = false → ∀ H5, Same H2 H5 → R2 H5) →
      tt ((capSt cap σ).set 0 (some x)) H2 fun bb H5 => if bb = true then te ((capSt cap σ).set 0 (some x)) H5 R1 else R2 H5)
    (fin : ∀ (p : Addr) (H' : Hp), H1 p = none → Same H1 H' → H' p = some (.lst (xs.filter keep)) → Q (.ref p) H') : CompW cap σ (Itl K a) H1 (gName 0) tt te Q := by
  intro acc hacc
  refine ⟨fun i m zs H2 => m = xs.length - i ∧ i ≤ xs.length ∧ zs = (xs.take i).filter keep ∧ Same H1 H2 ∧ H2 acc = some (.lst zs), ⟨xs.length, by simp, Nat.zero_le _, rfl, Same.new hacc, upd_same⟩, ?_⟩
  rintro i m zs H2 ⟨rfl, hi, hz, s2, e2⟩
  refine ⟨e2, ?_⟩
  have hzn : zs.length ≤ i := by
    rw [hz]
    refine Nat.le_trans (List.length_filter_le _ _) ?_
    rw [List.length_take]
    omega
  by_cases hlt : i < xs.length
  · refine .inr ⟨⟨xs, xs[i], s2.seq h, by simp [hlt]⟩, small1000 (by omega), fun x H3 y => ?_⟩
    obtain ⟨e, y⟩ := y
    subst e
    have hx := y xs (s2.seq h)
    refine step i x _ _ _ hx s2 (fun hk H5 s5 => ⟨s5 _ _ e2, xs.length - (i + 1), by omega, rfl, hlt, ?_, (s2.trans s5).up hacc, upd_same⟩) fun hk H5 s5 => ⟨xs.length - (i + 1), by omega, rfl, hlt, ?_, s2.trans s5, s5 _ _ e2⟩
    · rw [List.take_add_one, hx, List.filter_append, hz]
      simp [hk]
    · rw [List.take_add_one, hx, List.filter_append, hz]
      simp [hk]
  · refine .inl ⟨⟨xs, s2.seq h, by omega⟩, fin acc H2 hacc s2 ?_⟩
    rw [List.take_of_length_le (by omega)] at hz
    rw [e2, hz]
end
theorem fmtN {n : Nat} (h : n ≤ 1000) : Fmt (.int (n : Int)) := Nat.lt_of_le_of_lt h (by decide)
theorem fmtS {m : Int} (h0 : 0 ≤ m) (h1 : m ≤ 100) : Fmt (.int m) := by
  obtain ⟨n, rfl⟩ := Int.eq_ofNat_of_zero_le h0
  exact fmtN (Nat.le_trans (Int.ofNat_le.mp h1) (by decide))
theorem fmtI {n : Int} (h1 : -(10 ^ 60) ≤ n) (h2 : n ≤ 10 ^ 60) : Fmt (.int n) := by
  show n.natAbs < 10 ^ 500
  have : n.natAbs ≤ 10 ^ 60 := by
    rcases Int.natAbs_eq n with e | e
    · exact Int.ofNat_le.mp (e ▸ h2)
    · exact Int.ofNat_le.mp (Int.neg_le_neg_iff.mp (e ▸ h1))
  exact Nat.lt_of_le_of_lt this (by decide)
def nth {α : Type} : α → List α → Nat → α
  | a, _, 0 => a
  | a, [], _ + 1 => a
  | _, b :: r, n + 1 => nth b r n
section
variable {K : PySem.W.Frag} {x qual : Str} {st : Stmt} {f : Addr} {fd : FuncData} {p1 p2 p3 p4 p5 : Str}
theorem uncons {n : Nat} {us : List Value} (h : us.length = n + 1) : ∃ a r, us = a :: r ∧ r.length = n := by
  cases us with
  | nil => cases h
  | cons a r => exact ⟨a, r, rfl, Nat.succ.inj h⟩
theorem binds1 (F : Fun K x qual st f fd) (h : ∀ (kV doc pm : Value) (an : Option Addr) (cdv ct u1 : Value), bindArgs (PySem.W.fnOf x qual (defArgs st) (defBody st) (defScope st) .none kV doc pm an cdv ct) ⟨[u1], []⟩ = pure [(p1, u1)]) : Binds K fd [p1] [] :=
  F.binds fun kV doc pm an cdv ct us hl => by
    obtain ⟨u1, r1, rfl, l1⟩ := uncons hl
    cases List.eq_nil_of_length_eq_zero l1
    exact h kV doc pm an cdv ct u1
theorem binds2 (F : Fun K x qual st f fd) (h : ∀ (kV doc pm : Value) (an : Option Addr) (cdv ct u1 u2 : Value), bindArgs (PySem.W.fnOf x qual (defArgs st) (defBody st) (defScope st) .none kV doc pm an cdv ct) ⟨[u1, u2], []⟩ = pure [(p1, u1), (p2, u2)]) : Binds K fd [p1, p2] [] :=
  F.binds fun kV doc pm an cdv ct us hl => by
    obtain ⟨u1, r1, rfl, l1⟩ := uncons hl
    obtain ⟨u2, r2, rfl, l2⟩ := uncons l1
    cases List.eq_nil_of_length_eq_zero l2
    exact h kV doc pm an cdv ct u1 u2
theorem binds3 (F : Fun K x qual st f fd) (h : ∀ (kV doc pm : Value) (an : Option Addr) (cdv ct u1 u2 u3 : Value), bindArgs (PySem.W.fnOf x qual (defArgs st) (defBody st) (defScope st) .none kV doc pm an cdv ct) ⟨[u1, u2, u3], []⟩ = pure [(p1, u1), (p2, u2), (p3, u3)]) : Binds K fd [p1, p2, p3] [] :=
  F.binds fun kV doc pm an cdv ct us hl => by
    obtain ⟨u1, r1, rfl, l1⟩ := uncons hl
    obtain ⟨u2, r2, rfl, l2⟩ := uncons l1
    obtain ⟨u3, r3, rfl, l3⟩ := uncons l2
    cases List.eq_nil_of_length_eq_zero l3
    exact h kV doc pm an cdv ct u1 u2 u3
theorem binds4 (F : Fun K x qual st f fd) (h : ∀ (kV doc pm : Value) (an : Option Addr) (cdv ct u1 u2 u3 u4 : Value), bindArgs (PySem.W.fnOf x qual (defArgs st) (defBody st) (defScope st) .none kV doc pm an cdv ct) ⟨[u1, u2, u3, u4], []⟩ = pure [(p1, u1), (p2, u2), (p3, u3), (p4, u4)]) : Binds K fd [p1, p2, p3, p4] [] :=
  F.binds fun kV doc pm an cdv ct us hl => by
    obtain ⟨u1, r1, rfl, l1⟩ := uncons hl
    obtain ⟨u2, r2, rfl, l2⟩ := uncons l1
    obtain ⟨u3, r3, rfl, l3⟩ := uncons l2
    obtain ⟨u4, r4, rfl, l4⟩ := uncons l3
    cases List.eq_nil_of_length_eq_zero l4
    exact h kV doc pm an cdv ct u1 u2 u3 u4
theorem binds5 (F : Fun K x qual st f fd) (h : ∀ (kV doc pm : Value) (an : Option Addr) (cdv ct u1 u2 u3 u4 u5 : Value), bindArgs (PySem.W.fnOf x qual (defArgs st) (defBody st) (defScope st) .none kV doc pm an cdv ct) ⟨[u1, u2, u3, u4, u5], []⟩ = pure [(p1, u1), (p2, u2), (p3, u3), (p4, u4), (p5, u5)]) : Binds K fd [p1, p2, p3, p4, p5] [] :=
  F.binds fun kV doc pm an cdv ct us hl => by
    obtain ⟨u1, r1, rfl, l1⟩ := uncons hl
    obtain ⟨u2, r2, rfl, l2⟩ := uncons l1
    obtain ⟨u3, r3, rfl, l3⟩ := uncons l2
    obtain ⟨u4, r4, rfl, l4⟩ := uncons l3
    obtain ⟨u5, r5, rfl, l5⟩ := uncons l4
    cases List.eq_nil_of_length_eq_zero l5
    exact h kV doc pm an cdv ct u1 u2 u3 u4 u5
end
end L2

namespace Fl
open PySem L2
def top (i : Nat) : Stmt := PySem.Challenge.pw_flipstack_k15_each_refusal_its_own.main.body.getD i (.Pass ⟨0, 0, 0, 0⟩)
abbrev s_check_pile : Stmt := top 10
abbrev s_without_signs : Stmt := top 11
abbrev s_check_burnt_pile : Stmt := top 12
abbrev s_check_turns : Stmt := top 13
abbrev s_behind : Stmt := top 16
abbrev s_burnt_behind : Stmt := top 17
abbrev s_check_size : Stmt := top 21
abbrev s_counts : Stmt := top 24
abbrev s_burnt_counts : Stmt := top 25
abbrev s_gaps : Stmt := top 30
abbrev s_burnt_gaps : Stmt := top 31
abbrev s_plan : Stmt := top 35
abbrev s_burnt_plan : Stmt := top 36
abbrev s_check_height : Stmt := top 40
abbrev s_fewest : Stmt := top 43
abbrev s_burnt_fewest : Stmt := top 45
abbrev s_between : Stmt := top 46
abbrev s_shown : Stmt := top 48
abbrev s_Stack___init__ : Stmt := inClass (top 50) 0
abbrev s_Stack_fewest : Stmt := inClass (top 50) 5
abbrev s_law_cell_at : Stmt := top 52
abbrev s_law_pile : Stmt := top 53
abbrev s_law_burnt : Stmt := top 54
abbrev s_law_which : Stmt := top 55
abbrev s_law_one : Stmt := top 56
abbrev s_law_other : Stmt := top 57
abbrev s_law_rest : Stmt := top 58
abbrev s_law_told : Stmt := top 59
abbrev s_law_no_pile : Stmt := top 60
abbrev s_law : Stmt := top 61
structure Adr where
  c : Nat → Addr
  a : Nat → Addr
  d : Nat → FuncData
abbrev Adr.c_FlipError (t : Adr) : Addr := t.c 0
abbrev Adr.c_NoPile (t : Adr) : Addr := t.c 1
abbrev Adr.c_NoTurn (t : Adr) : Addr := t.c 2
abbrev Adr.c_TooTall (t : Adr) : Addr := t.c 3
abbrev Adr.c_NoBack (t : Adr) : Addr := t.c 4
abbrev Adr.c_BadLine (t : Adr) : Addr := t.c 5
abbrev Adr.c_Stack (t : Adr) : Addr := t.c 6
abbrev Adr.a_check_pile (t : Adr) : Addr := t.a 0
abbrev Adr.d_check_pile (t : Adr) : FuncData := t.d 0
abbrev Adr.a_without_signs (t : Adr) : Addr := t.a 1
abbrev Adr.d_without_signs (t : Adr) : FuncData := t.d 1
abbrev Adr.a_check_burnt_pile (t : Adr) : Addr := t.a 2
abbrev Adr.d_check_burnt_pile (t : Adr) : FuncData := t.d 2
abbrev Adr.a_check_turns (t : Adr) : Addr := t.a 3
abbrev Adr.d_check_turns (t : Adr) : FuncData := t.d 3
abbrev Adr.a_behind (t : Adr) : Addr := t.a 4
abbrev Adr.d_behind (t : Adr) : FuncData := t.d 4
abbrev Adr.a_burnt_behind (t : Adr) : Addr := t.a 5
abbrev Adr.d_burnt_behind (t : Adr) : FuncData := t.d 5
abbrev Adr.a_check_size (t : Adr) : Addr := t.a 6
abbrev Adr.d_check_size (t : Adr) : FuncData := t.d 6
abbrev Adr.a_counts (t : Adr) : Addr := t.a 7
abbrev Adr.d_counts (t : Adr) : FuncData := t.d 7
abbrev Adr.a_burnt_counts (t : Adr) : Addr := t.a 8
abbrev Adr.d_burnt_counts (t : Adr) : FuncData := t.d 8
abbrev Adr.a_gaps (t : Adr) : Addr := t.a 9
abbrev Adr.d_gaps (t : Adr) : FuncData := t.d 9
abbrev Adr.a_burnt_gaps (t : Adr) : Addr := t.a 10
abbrev Adr.d_burnt_gaps (t : Adr) : FuncData := t.d 10
abbrev Adr.a_plan (t : Adr) : Addr := t.a 11
abbrev Adr.d_plan (t : Adr) : FuncData := t.d 11
abbrev Adr.a_burnt_plan (t : Adr) : Addr := t.a 12
abbrev Adr.d_burnt_plan (t : Adr) : FuncData := t.d 12
abbrev Adr.a_check_height (t : Adr) : Addr := t.a 13
abbrev Adr.d_check_height (t : Adr) : FuncData := t.d 13
abbrev Adr.a_fewest (t : Adr) : Addr := t.a 14
abbrev Adr.d_fewest (t : Adr) : FuncData := t.d 14
abbrev Adr.a_burnt_fewest (t : Adr) : Addr := t.a 15
abbrev Adr.d_burnt_fewest (t : Adr) : FuncData := t.d 15
abbrev Adr.a_between (t : Adr) : Addr := t.a 16
abbrev Adr.d_between (t : Adr) : FuncData := t.d 16
abbrev Adr.a_shown (t : Adr) : Addr := t.a 17
abbrev Adr.d_shown (t : Adr) : FuncData := t.d 17
abbrev Adr.a_Stack___init__ (t : Adr) : Addr := t.a 18
abbrev Adr.d_Stack___init__ (t : Adr) : FuncData := t.d 18
abbrev Adr.a_Stack_fewest (t : Adr) : Addr := t.a 19
abbrev Adr.d_Stack_fewest (t : Adr) : FuncData := t.d 19
abbrev Adr.a_law_cell_at (t : Adr) : Addr := t.a 20
abbrev Adr.d_law_cell_at (t : Adr) : FuncData := t.d 20
abbrev Adr.a_law_pile (t : Adr) : Addr := t.a 21
abbrev Adr.d_law_pile (t : Adr) : FuncData := t.d 21
abbrev Adr.a_law_burnt (t : Adr) : Addr := t.a 22
abbrev Adr.d_law_burnt (t : Adr) : FuncData := t.d 22
abbrev Adr.a_law_which (t : Adr) : Addr := t.a 23
abbrev Adr.d_law_which (t : Adr) : FuncData := t.d 23
abbrev Adr.a_law_one (t : Adr) : Addr := t.a 24
abbrev Adr.d_law_one (t : Adr) : FuncData := t.d 24
abbrev Adr.a_law_other (t : Adr) : Addr := t.a 25
abbrev Adr.d_law_other (t : Adr) : FuncData := t.d 25
abbrev Adr.a_law_rest (t : Adr) : Addr := t.a 26
abbrev Adr.d_law_rest (t : Adr) : FuncData := t.d 26
abbrev Adr.a_law_told (t : Adr) : Addr := t.a 27
abbrev Adr.d_law_told (t : Adr) : FuncData := t.d 27
abbrev Adr.a_law_no_pile (t : Adr) : Addr := t.a 28
abbrev Adr.d_law_no_pile (t : Adr) : FuncData := t.d 28
abbrev Adr.a_law (t : Adr) : Addr := t.a 29
abbrev Adr.d_law (t : Adr) : FuncData := t.d 29
structure Txt (K : PySem.W.Frag) (mg : Str → Option Value) (t : Adr) : Prop where
  x_FlipError : mg "FlipError" = some (.ref t.c_FlipError)
  x_NoPile : mg "NoPile" = some (.ref t.c_NoPile)
  x_NoTurn : mg "NoTurn" = some (.ref t.c_NoTurn)
  x_TooTall : mg "TooTall" = some (.ref t.c_TooTall)
  x_NoBack : mg "NoBack" = some (.ref t.c_NoBack)
  x_BadLine : mg "BadLine" = some (.ref t.c_BadLine)
  x_Stack : mg "Stack" = some (.ref t.c_Stack)
  e_FlipError : ExcF K t.c_FlipError
  e_NoPile : ExcF K t.c_NoPile
  e_NoTurn : ExcF K t.c_NoTurn
  e_TooTall : ExcF K t.c_TooTall
  e_NoBack : ExcF K t.c_NoBack
  e_BadLine : ExcF K t.c_BadLine
  u_NoPile : PySem.W.mroIn K t.c_NoPile (.ref t.c_FlipError) = some true
  i_NoPile_NoPile : PySem.W.kitOne K (.ref t.c_NoPile) (.ref t.c_NoPile) = some true
  i_NoPile_NoTurn : PySem.W.kitOne K (.ref t.c_NoPile) (.ref t.c_NoTurn) = some false
  i_NoPile_TooTall : PySem.W.kitOne K (.ref t.c_NoPile) (.ref t.c_TooTall) = some false
  i_NoPile_NoBack : PySem.W.kitOne K (.ref t.c_NoPile) (.ref t.c_NoBack) = some false
  i_NoPile_BadLine : PySem.W.kitOne K (.ref t.c_NoPile) (.ref t.c_BadLine) = some false
  i_NoPile_ValueError : PySem.W.kitOne K (.ref t.c_NoPile) (.type "ValueError") = some true
  u_NoTurn : PySem.W.mroIn K t.c_NoTurn (.ref t.c_FlipError) = some true
  i_NoTurn_NoPile : PySem.W.kitOne K (.ref t.c_NoTurn) (.ref t.c_NoPile) = some false
  i_NoTurn_NoTurn : PySem.W.kitOne K (.ref t.c_NoTurn) (.ref t.c_NoTurn) = some true
  i_NoTurn_TooTall : PySem.W.kitOne K (.ref t.c_NoTurn) (.ref t.c_TooTall) = some false
  i_NoTurn_NoBack : PySem.W.kitOne K (.ref t.c_NoTurn) (.ref t.c_NoBack) = some false
  i_NoTurn_BadLine : PySem.W.kitOne K (.ref t.c_NoTurn) (.ref t.c_BadLine) = some false
  i_NoTurn_ValueError : PySem.W.kitOne K (.ref t.c_NoTurn) (.type "ValueError") = some true
  u_TooTall : PySem.W.mroIn K t.c_TooTall (.ref t.c_FlipError) = some true
  i_TooTall_NoPile : PySem.W.kitOne K (.ref t.c_TooTall) (.ref t.c_NoPile) = some false
  i_TooTall_NoTurn : PySem.W.kitOne K (.ref t.c_TooTall) (.ref t.c_NoTurn) = some false
  i_TooTall_TooTall : PySem.W.kitOne K (.ref t.c_TooTall) (.ref t.c_TooTall) = some true
  i_TooTall_NoBack : PySem.W.kitOne K (.ref t.c_TooTall) (.ref t.c_NoBack) = some false
  i_TooTall_BadLine : PySem.W.kitOne K (.ref t.c_TooTall) (.ref t.c_BadLine) = some false
  i_TooTall_ValueError : PySem.W.kitOne K (.ref t.c_TooTall) (.type "ValueError") = some true
  cl_Stack : Cls K t.c_Stack
  n_cakes : NoAttr K t.c_Stack "cakes"
  n_done : NoAttr K t.c_Stack "done"
  F_check_pile : Fun K "check_pile" "check_pile" s_check_pile t.a_check_pile t.d_check_pile
  m_check_pile : mg "check_pile" = some (.ref t.a_check_pile)
  F_without_signs : Fun K "without_signs" "without_signs" s_without_signs t.a_without_signs t.d_without_signs
  m_without_signs : mg "without_signs" = some (.ref t.a_without_signs)
  F_check_burnt_pile : Fun K "check_burnt_pile" "check_burnt_pile" s_check_burnt_pile t.a_check_burnt_pile t.d_check_burnt_pile
  m_check_burnt_pile : mg "check_burnt_pile" = some (.ref t.a_check_burnt_pile)
  F_check_turns : Fun K "check_turns" "check_turns" s_check_turns t.a_check_turns t.d_check_turns
  m_check_turns : mg "check_turns" = some (.ref t.a_check_turns)
  F_behind : Fun K "behind" "behind" s_behind t.a_behind t.d_behind
  m_behind : mg "behind" = some (.ref t.a_behind)
  F_burnt_behind : Fun K "burnt_behind" "burnt_behind" s_burnt_behind t.a_burnt_behind t.d_burnt_behind
  m_burnt_behind : mg "burnt_behind" = some (.ref t.a_burnt_behind)
  F_check_size : Fun K "check_size" "check_size" s_check_size t.a_check_size t.d_check_size
  m_check_size : mg "check_size" = some (.ref t.a_check_size)
  F_counts : Fun K "counts" "counts" s_counts t.a_counts t.d_counts
  m_counts : mg "counts" = some (.ref t.a_counts)
  F_burnt_counts : Fun K "burnt_counts" "burnt_counts" s_burnt_counts t.a_burnt_counts t.d_burnt_counts
  m_burnt_counts : mg "burnt_counts" = some (.ref t.a_burnt_counts)
  F_gaps : Fun K "gaps" "gaps" s_gaps t.a_gaps t.d_gaps
  m_gaps : mg "gaps" = some (.ref t.a_gaps)
  F_burnt_gaps : Fun K "burnt_gaps" "burnt_gaps" s_burnt_gaps t.a_burnt_gaps t.d_burnt_gaps
  m_burnt_gaps : mg "burnt_gaps" = some (.ref t.a_burnt_gaps)
  F_plan : Fun K "plan" "plan" s_plan t.a_plan t.d_plan
  m_plan : mg "plan" = some (.ref t.a_plan)
  F_burnt_plan : Fun K "burnt_plan" "burnt_plan" s_burnt_plan t.a_burnt_plan t.d_burnt_plan
  m_burnt_plan : mg "burnt_plan" = some (.ref t.a_burnt_plan)
  F_check_height : Fun K "check_height" "check_height" s_check_height t.a_check_height t.d_check_height
  m_check_height : mg "check_height" = some (.ref t.a_check_height)
  F_fewest : Fun K "fewest" "fewest" s_fewest t.a_fewest t.d_fewest
  m_fewest : mg "fewest" = some (.ref t.a_fewest)
  F_burnt_fewest : Fun K "burnt_fewest" "burnt_fewest" s_burnt_fewest t.a_burnt_fewest t.d_burnt_fewest
  m_burnt_fewest : mg "burnt_fewest" = some (.ref t.a_burnt_fewest)
  F_between : Fun K "between" "between" s_between t.a_between t.d_between
  m_between : mg "between" = some (.ref t.a_between)
  F_shown : Fun K "shown" "shown" s_shown t.a_shown t.d_shown
  m_shown : mg "shown" = some (.ref t.a_shown)
  F_Stack___init__ : Fun K "__init__" "Stack.__init__" s_Stack___init__ t.a_Stack___init__ t.d_Stack___init__
  K_Stack : Mk K t.c_Stack t.a_Stack___init__
  F_Stack_fewest : Fun K "fewest" "Stack.fewest" s_Stack_fewest t.a_Stack_fewest t.d_Stack_fewest
  M_Stack_fewest : Meth K t.c_Stack "fewest" t.a_Stack_fewest
  F_law_cell_at : Fun K "_law_cell_at" "_law_cell_at" s_law_cell_at t.a_law_cell_at t.d_law_cell_at
  m_law_cell_at : mg "_law_cell_at" = some (.ref t.a_law_cell_at)
  F_law_pile : Fun K "_law_pile" "_law_pile" s_law_pile t.a_law_pile t.d_law_pile
  m_law_pile : mg "_law_pile" = some (.ref t.a_law_pile)
  F_law_burnt : Fun K "_law_burnt" "_law_burnt" s_law_burnt t.a_law_burnt t.d_law_burnt
  m_law_burnt : mg "_law_burnt" = some (.ref t.a_law_burnt)
  F_law_which : Fun K "_law_which" "_law_which" s_law_which t.a_law_which t.d_law_which
  m_law_which : mg "_law_which" = some (.ref t.a_law_which)
  F_law_one : Fun K "_law_one" "_law_one" s_law_one t.a_law_one t.d_law_one
  m_law_one : mg "_law_one" = some (.ref t.a_law_one)
  F_law_other : Fun K "_law_other" "_law_other" s_law_other t.a_law_other t.d_law_other
  m_law_other : mg "_law_other" = some (.ref t.a_law_other)
  F_law_rest : Fun K "_law_rest" "_law_rest" s_law_rest t.a_law_rest t.d_law_rest
  m_law_rest : mg "_law_rest" = some (.ref t.a_law_rest)
  F_law_told : Fun K "_law_told" "_law_told" s_law_told t.a_law_told t.d_law_told
  m_law_told : mg "_law_told" = some (.ref t.a_law_told)
  F_law_no_pile : Fun K "_law_no_pile" "_law_no_pile" s_law_no_pile t.a_law_no_pile t.d_law_no_pile
  m_law_no_pile : mg "_law_no_pile" = some (.ref t.a_law_no_pile)
  F_law : Fun K "law" "law" s_law t.a_law t.d_law
  m_law : mg "law" = some (.ref t.a_law)
  m_fewest_fewest : mg "fewest_fewest" = some (.ref t.a_fewest)
  z_ValueError : mg "ValueError" = none
  z_abs : mg "abs" = none
  z_int : mg "int" = none
  z_isinstance : mg "isinstance" = none
  z_len : mg "len" = none
  z_list : mg "list" = none
  z_range : mg "range" = none
  z_sorted : mg "sorted" = none
  g_MOST_CAKES : ∃ tk, mg "MOST_CAKES" = some (.int 12 tk)
  g_MOST_PLAIN_CAKES_counts : ∃ tk, mg "MOST_PLAIN_CAKES_counts" = some (.int 6 tk)
  g_MOST_BURNT_CAKES_counts : ∃ tk, mg "MOST_BURNT_CAKES_counts" = some (.int 4 tk)
  g_MOST_PLAIN_CAKES_fewest : ∃ tk, mg "MOST_PLAIN_CAKES_fewest" = some (.int 7 tk)
  g_MOST_BURNT_CAKES_fewest : ∃ tk, mg "MOST_BURNT_CAKES_fewest" = some (.int 4 tk)

def negV : V → V
  | .int i => .int (-i)
  | v => v
def absV2 : V → V
  | .int i => .int (if i < 0 then -i else i)
  | v => v

def spCell (K : PySem.W.Frag) : Sp := fun vs H Q _ => ∃ (a : Addr) (ns : List Int) (k : Int), vs = [.ref a, .int k] ∧ SqL K H a (ns.map V.int) ∧ 0 ≤ k ∧ ∀ v : Int, Q (.int v) H
def spPile (K : PySem.W.Frag) : Sp := fun vs H Q _ => ∃ (a : Addr) (ns : List Int) (i m : Int), vs = [.ref a, .int i, .int m] ∧ SqL K H a (ns.map V.int) ∧ 0 ≤ i ∧ 0 < m ∧ m ≤ 12 ∧
  ∀ (p : Addr) (H' : Hp) (xs : List Int), H p = none → Same H H' → H' p = some (.lst (xs.map V.int)) → Fs.Plain xs → (xs.length : Int) ≤ m → Q (.ref p) H'
def spLaw (K : PySem.W.Frag) : Sp := fun vs H Q _ => ∃ (a : Addr) (ns : List Int), vs = [.ref a] ∧ SqL K H a (ns.map V.int) ∧ ns.length ≤ 63 ∧ ∀ H', Q (.bl true) H'

/-- a plain pile (b: without its signs) of at most 12 cakes -/
def PB : Bool → List Int → Prop
  | false, xs => Fs.Plain xs ∧ xs.length ≤ 12
  | true, xs => Fs.Plain (xs.map Fs.absI) ∧ (xs.map Fs.absI).length ≤ 12
def cAt (t : Adr) : Nat → Addr
  | 0 => t.c_NoPile
  | 1 => t.c_NoTurn
  | 2 => t.c_TooTall
  | 3 => t.c_NoBack
  | _ => t.c_BadLine
def toldB (i : Nat) : List Bool := [i == 0, i == 1, i == 2, i == 3, i == 4, true]
def Gone (n : Nat) (ts : List Int) : Prop := ∃ x ∈ ts, ¬ (1 ≤ x ∧ x ≤ (n : Int))
def spCheckX (K : PySem.W.Frag) (N : Addr) (b : Bool) : Sp := fun vs H Q E => ∃ (a : Addr) (xs : List Int), vs = [.ref a] ∧ SqL K H a (xs.map V.int) ∧ xs.length ≤ 40 ∧ (PB b xs → ∀ H', Same H H' → Q .non H') ∧ (¬ PB b xs → ∀ H', Same H H' → E (.ref N) none H')
def spSignsX (K : PySem.W.Frag) : Sp := fun vs H Q _ => ∃ (a : Addr) (xs : List Int), vs = [.ref a] ∧ SqL K H a (xs.map V.int) ∧ xs.length ≤ 40 ∧
  ∀ (p : Addr) (H' : Hp), H p = none → Same H H' → H' p = some (.lst ((xs.map Fs.absI).map V.int)) → Q (.ref p) H'
def spTurnsX (K : PySem.W.Frag) (N : Addr) : Sp := fun vs H Q E => ∃ (a b : Addr) (xs ts : List Int), vs = [.ref a, .ref b] ∧ SqL K H a (xs.map V.int) ∧ SqL K H b (ts.map V.int) ∧ xs.length ≤ 40 ∧ (∀ x ∈ ts, -(10 ^ 60) ≤ x ∧ x ≤ 10 ^ 60) ∧
  (¬ Gone xs.length ts → Q .non H) ∧ (Gone xs.length ts → E (.ref N) none H)
def spHeightX (K : PySem.W.Frag) (N : Addr) : Sp := fun vs H Q E => ∃ (a : Addr) (xs : List Int) (m : Int), vs = [.ref a, .int m] ∧ SqL K H a (xs.map V.int) ∧ xs.length ≤ 40 ∧ 0 ≤ m ∧ m ≤ 100 ∧ ((xs.length : Int) ≤ m → Q .non H) ∧ (m < (xs.length : Int) → E (.ref N) none H)
def spSizeX (N : Addr) : Sp := fun vs H Q E => ∃ n m : Int, vs = [.int n, .int m] ∧ -(10 ^ 60) ≤ n ∧ n ≤ 10 ^ 60 ∧ 0 ≤ m ∧ m ≤ 100 ∧ (1 ≤ n → n ≤ m → Q .non H) ∧ (¬ (1 ≤ n ∧ n ≤ m) → E (.ref N) none H)

def spWhich (t : Adr) : Sp := fun vs H Q _ => ∃ (e : Addr) (i : Nat), vs = [.ref e] ∧ i < 3 ∧ H e = some (.ext (IsExc e (.ref (cAt t i)))) ∧ ∀ (p : Addr) (H' : Hp), H p = none → Same H H' → H' p = some (.lst ((toldB i).map V.bl)) → Q (.ref p) H'

theorem caught {K : PySem.W.Frag} {mg : Str → Option Value} {t : Adr} (T : Txt K mg t) : ∀ i : Nat, i < 3 → ExcF K (cAt t i) ∧ PySem.W.mroIn K (cAt t i) (.ref t.c_FlipError) = some true
  | 0, _ => ⟨T.e_NoPile, T.u_NoPile⟩
  | 1, _ => ⟨T.e_NoTurn, T.u_NoTurn⟩
  | 2, _ => ⟨T.e_TooTall, T.u_TooTall⟩

/-- == [True] + [False] * 4 + [True] -/
theorem eq_told {K : PySem.W.Frag} {σ : St} {H : Hp} {Q : VK} {p : Addr} (e : H p = some (.lst ((toldB 0).map V.bl))) (q : ∀ H', Q (.bl true) H') :
    (tOp rCat (tOp rCat (tLst (tCons (tC (.bl true)) tNil)) (tOp rRep (tLst (tCons (tC (.bl false)) tNil)) (tC (.int 4)))) (tLst (tCons (tC (.bl true)) tNil))) σ H (fun y H2 => rEqB K (.ref p) y H2 Q) := by
  refine ⟨small12 (by show 1 ≤ 1000; decide), fun d1 h1 => ⟨small12 (by show 1 ≤ 1000; decide), fun d2 h2 => ⟨d2, 4, _, rfl, rfl, upd_same, by decide, by decide, small12 (by show 4 ≤ 1000; decide), fun d3 h3 => ?_⟩⟩⟩
  have s1 := Same.new (o := .lst [.bl true]) h1
  have s2 := s1.up (s1.free h2) (o := .lst [.bl false])
  have s3 := s2.up (s2.free h3) (o := .lst (List.replicate 4 [V.bl false]).flatten)
  have k1 : upd (upd (upd H d1 (.lst [.bl true])) d2 (.lst [.bl false])) d3 (.lst (List.replicate 4 [V.bl false]).flatten) d1 = some (.lst [.bl true]) := by
    have z : upd (upd H d1 (.lst [.bl true])) d2 (.lst [.bl false]) d1 = some (.lst [.bl true]) := by rw [upd_ne (ne_of_none upd_same h2), upd_same]
    rw [upd_ne (ne_of_none z h3)]
    exact z
  refine ⟨d1, d3, _, _, rfl, rfl, k1, upd_same, small12 (by show 5 ≤ 1000; decide), fun d4 h4 => ⟨small12 (by show 1 ≤ 1000; decide), fun d5 h5 => ?_⟩⟩
  have s4 := s3.up (s3.free h4) (o := .lst ([V.bl true] ++ (List.replicate 4 [V.bl false]).flatten))
  have s5 := s4.up (s4.free h5) (o := .lst [.bl true])
  refine ⟨d4, d5, _, _, rfl, rfl, (by rw [upd_ne (ne_of_none upd_same h5), upd_same]), upd_same, small12 (by show 6 ≤ 1000; decide), fun d6 h6 => ?_⟩
  have s6 := s5.up (s5.free h6) (o := .lst ([V.bl true] ++ (List.replicate 4 [V.bl false]).flatten ++ [V.bl true]))
  exact ⟨p, d6, toldB 0, [true, false, false, false, false, true], rfl, rfl, SqL.of (s6 _ _ e), SqL.of upd_same, q _⟩

def spRefuse (K : PySem.W.Frag) (N : Addr) (b : Bool) : Sp := fun vs H Q E => ∃ (a : Addr) (xs : List Int), vs = [.ref a] ∧ SqL K H a (xs.map V.int) ∧ xs.length ≤ 40 ∧ ¬ PB b xs ∧ ∀ H', Same H H' → E (.ref N) none H'
def spBehindX (K : PySem.W.Frag) (N T : Addr) (b : Bool) : Sp := fun vs H Q E => ∃ (a c : Addr) (xs ts : List Int), vs = [.ref a, .ref c] ∧ SqL K H a (xs.map V.int) ∧ SqL K H c (ts.map V.int) ∧ xs.length ≤ 40 ∧ (∀ x ∈ ts, -(10 ^ 60) ≤ x ∧ x ≤ 10 ^ 60) ∧
  ((¬ PB b xs ∧ ∀ H', Same H H' → E (.ref N) none H') ∨ (PB b xs ∧ Gone xs.length ts ∧ ∀ H', Same H H' → E (.ref T) none H'))
def spFewX (K : PySem.W.Frag) (N T : Addr) (b : Bool) (m : Nat) : Sp := fun vs H Q E => ∃ (a : Addr) (xs : List Int), vs = [.ref a] ∧ SqL K H a (xs.map V.int) ∧ xs.length ≤ 40 ∧
  ((¬ PB b xs ∧ ∀ H', Same H H' → E (.ref N) none H') ∨ (PB b xs ∧ m < xs.length ∧ ∀ H', Same H H' → E (.ref T) none H'))
def spBetwX (K : PySem.W.Frag) (N T : Addr) : Sp := fun vs H Q E => ∃ (a c : Addr) (xs ys : List Int), vs = [.ref a, .ref c] ∧ SqL K H a (xs.map V.int) ∧ SqL K H c (ys.map V.int) ∧ xs.length ≤ 40 ∧ ys.length ≤ 40 ∧
  (((¬ PB false xs ∨ ¬ PB false ys ∨ xs.length ≠ ys.length) ∧ ∀ H', Same H H' → E (.ref N) none H') ∨ (PB false xs ∧ PB false ys ∧ xs.length = ys.length ∧ 7 < xs.length ∧ ∀ H', Same H H' → E (.ref T) none H'))
def spCountX (N : Addr) (m : Int) : Sp := fun vs H Q E => ∃ n : Int, vs = [.int n] ∧ -(10 ^ 60) ≤ n ∧ n ≤ 10 ^ 60 ∧ ¬ (1 ≤ n ∧ n ≤ m) ∧ E (.ref N) none H
theorem neCD : ¬ (("cakes" : Str) = "done") := by decide +kernel
def flds (l d : Addr) : List (Str × V) := putF "done" (.ref d) (putF "cakes" (.ref l) [])
theorem flds_cakes (l d : Addr) : (flds l d).lookup ("cakes" : Str) = some (.ref l) := by
  unfold flds
  rw [lookup_putF, if_neg neCD, lookup_putF, if_pos rfl]
theorem flds_no (l d : Addr) {m : Str} (h1 : ¬ m = "done") (h2 : ¬ m = "cakes") : (flds l d).lookup m = none := by
  unfold flds
  rw [lookup_putF, if_neg h1, lookup_putF, if_neg h2]
  rfl
def spInitX (K : PySem.W.Frag) (C N : Addr) : Sp := fun vs H Q E => ∃ (p dx a : Addr) (xs : List Int), vs = [.ref p, .ref a] ∧ H p = some (.ins C dx []) ∧ SqL K H a (xs.map V.int) ∧ xs.length ≤ 40 ∧ (¬ PB false xs → ∀ H', Same H H' → E (.ref N) none H') ∧
  (PB false xs → ∀ (l d : Addr) (H' : Hp), H l = none → H d = none → l ≠ d → (∀ b o, H b = some o → b ≠ p → H' b = some o) → H' p = some (.ins C dx (flds l d)) → H' l = some (.lst (xs.map V.int)) → H' d = some (.lst []) → Q .non H')
def spSFewX (C T : Addr) : Sp := fun vs H Q E => ∃ (p dx l d : Addr) (xs : List Int), vs = [.ref p] ∧ H p = some (.ins C dx (flds l d)) ∧ H l = some (.lst (xs.map V.int)) ∧ PB false xs ∧ 7 < xs.length ∧ ∀ H', Same H H' → E (.ref T) none H'
/-- what the law's three helpers are handed, and what comes of it (b: burnt) -/
def CondP (b : Bool) (way : Int) (xs ts : List Int) (i : Nat) : Prop := (i = 0 ∧ ¬ PB b xs) ∨ (i = 1 ∧ way = 0 ∧ PB b xs ∧ Gone xs.length ts)
def CondR (way n : Int) (ys : List Int) (i : Nat) : Prop :=
  (i = 2 ∧ ((way = 0 ∧ ¬ (1 ≤ n ∧ n ≤ 6)) ∨ (way = 1 ∧ ¬ (1 ≤ n ∧ n ≤ 4)) ∨ (way = 2 ∧ 8 ≤ n ∧ n ≤ 12) ∨ (way = 3 ∧ 5 ≤ n ∧ n ≤ 12) ∨ (way = 4 ∧ 8 ≤ n ∧ n ≤ 12) ∨ (way = 5 ∧ 8 ≤ n ∧ n ≤ 12))) ∨
  (i = 0 ∧ way = 6 ∧ 1 ≤ n ∧ n ≤ 12 ∧ n ≠ ys.length)
def spOneX (K : PySem.W.Frag) (t : Adr) : Sp := fun vs H Q E => ∃ (w : Int) (a b c : Addr) (xs ts ys : List Int) (i : Nat), vs = [.int w, .ref a, .ref b, .ref c] ∧ SqL K H a (xs.map V.int) ∧ SqL K H b (ts.map V.int) ∧ SqL K H c (ys.map V.int) ∧ 0 ≤ w ∧ w < 7 ∧ xs.length ≤ 40 ∧
  (∀ x ∈ ts, -(10 ^ 60) ≤ x ∧ x ≤ 10 ^ 60) ∧ PB false ys ∧ CondP false w xs ts i ∧ ∀ H', Same H H' → E (.ref (cAt t i)) none H'
def spOtherX (K : PySem.W.Frag) (t : Adr) : Sp := fun vs H Q E => ∃ (w : Int) (a b : Addr) (xs ts : List Int) (i : Nat), vs = [.int w, .ref a, .ref b] ∧ SqL K H a (xs.map V.int) ∧ SqL K H b (ts.map V.int) ∧ 0 ≤ w ∧ w < 5 ∧ xs.length ≤ 40 ∧
  (∀ x ∈ ts, -(10 ^ 60) ≤ x ∧ x ≤ 10 ^ 60) ∧ CondP true w xs ts i ∧ ∀ H', Same H H' → E (.ref (cAt t i)) none H'
def spRestX (K : PySem.W.Frag) (t : Adr) : Sp := fun vs H Q E => ∃ (w n : Int) (c : Addr) (ys : List Int) (i : Nat), vs = [.int w, .int n, .ref c] ∧ SqL K H c (ys.map V.int) ∧ -(10 ^ 60) ≤ n ∧ n ≤ 10 ^ 60 ∧ PB false ys ∧ CondR w n ys i ∧ ∀ H', Same H H' → E (.ref (cAt t i)) none H'
def spToldX (K : PySem.W.Frag) : Sp := fun vs H Q E => ∃ (kd w : Int) (a b c : Addr) (xs ts ys : List Int) (i : Nat), vs = [.int kd, .int w, .ref a, .ref b, .ref c] ∧ SqL K H a (xs.map V.int) ∧ SqL K H b (ts.map V.int) ∧ SqL K H c (ys.map V.int) ∧ xs.length ≤ 40 ∧
  (∀ x ∈ ts, -(10 ^ 60) ≤ x ∧ x ≤ 10 ^ 60) ∧ PB false ys ∧ i < 3 ∧ ((kd = 0 ∧ CondP false (w % 7) xs ts i) ∨ (kd = 1 ∧ CondP true (w % 5) xs ts i) ∨ (kd = 2 ∧ ∃ n, xs = [n] ∧ -(10 ^ 60) ≤ n ∧ n ≤ 10 ^ 60 ∧ CondR w n ys i)) ∧
  ∀ (p : Addr) (H' : Hp), H' p = some (.lst ((toldB i).map V.bl)) → Q (.ref p) H'
theorem upto {w : Int} {k : Nat} {P : Int → Prop} (h0 : 0 ≤ w) (h1 : w < (k : Int)) (h : ∀ n : Fin k, P (n.val : Int)) : P w := by
  obtain ⟨n, rfl⟩ := Int.eq_ofNat_of_zero_le h0
  exact h ⟨n, Int.ofNat_lt.mp h1⟩
theorem two {w : Int} (h0 : 0 ≤ w) (h1 : w < 2) : w = 0 ∨ w = 1 := upto (k := 2) (P := fun w => w = 0 ∨ w = 1) h0 h1 (by decide)
theorem bnd {b m u : Int} (l : -(10 ^ 60) ≤ b) (r : b + m ≤ 10 ^ 60) (h0 : 0 ≤ u) (h1 : u < m) : -(10 ^ 60) ≤ b + u ∧ b + u ≤ 10 ^ 60 :=
  ⟨Int.le_trans l (Int.le_add_of_nonneg_right h0), Int.le_trans (Int.le_of_lt (Int.add_lt_add_left h1 b)) r⟩
theorem far_off {b u k : Int} (h : k < b) (h0 : 0 ≤ u) : ¬ (1 ≤ b + u ∧ b + u ≤ k) := fun z => Int.not_le.mpr (Int.lt_of_lt_of_le h (Int.le_add_of_nonneg_right h0)) z.2
theorem far_neg {u k : Int} (h0 : 0 ≤ u) : ¬ (1 ≤ -u ∧ -u ≤ k) := fun z => absurd (Int.le_trans z.1 (Int.neg_nonpos_of_nonneg h0)) (by decide)
theorem bnd_neg {u : Int} (h0 : 0 ≤ u) (h1 : u < 10 ^ 39) : -(10 ^ 60) ≤ -u ∧ -u ≤ 10 ^ 60 :=
  ⟨Int.neg_le_neg (Int.le_trans (Int.le_of_lt h1) (by decide)), Int.le_trans (Int.neg_nonpos_of_nonneg h0) (by decide)⟩
theorem amid {b u m k : Int} (h : b + m = k + 1) (h0 : 0 ≤ u) (h1 : u < m) : b ≤ b + u ∧ b + u ≤ k := ⟨Int.le_add_of_nonneg_right h0, Int.le_of_lt_add_one (h ▸ Int.add_lt_add_left h1 b)⟩
theorem other_size {n : Nat} (h1 : 1 ≤ n) (h2 : n ≤ 12) : 1 ≤ 1 + (n : Int) % 12 ∧ 1 + (n : Int) % 12 ≤ 12 ∧ 1 + (n : Int) % 12 ≠ n := (by decide : ∀ n : Fin 13, 1 ≤ n.val → 1 ≤ 1 + (n.val : Int) % 12 ∧ 1 + (n.val : Int) % 12 ≤ 12 ∧ 1 + (n.val : Int) % 12 ≠ n.val) ⟨n, Nat.lt_succ_of_le h2⟩ h1
theorem small60 {n : Int} (h1 : 1 ≤ n) (h2 : n ≤ 12) : -(10 ^ 60) ≤ n ∧ n ≤ 10 ^ 60 := ⟨Int.le_trans (by decide) h1, Int.le_trans h2 (by decide)⟩
structure Lim20 (n : Int) : Prop where
  lo : -(2 ^ 9) ≤ n
  hi : n ≤ 400
  hi2 : n + 1 ≤ 2 ^ 20
  lo2 : -(2 ^ 20) ≤ n + 1
theorem lim20 {k n : Int} (h1 : k ≤ n) (h2 : n ≤ 12) (hk : 0 ≤ k := by decide) : Lim20 n :=
  have h0 : 0 ≤ n := Int.le_trans hk h1
  ⟨Int.le_trans (by decide) h0, Int.le_trans h2 (by decide), Int.le_trans (Int.add_le_add_right h2 1) (by decide), Int.le_trans (by decide) (Int.add_nonneg h0 (by decide))⟩
theorem nat1 {n : Nat} (h : 1 ≤ n) : (1 : Int) ≤ n := Int.ofNat_le.mpr h
theorem suc0 (n : Nat) : (0 : Int) < (n : Int) + 1 := Int.lt_add_one_of_le (Int.natCast_nonneg _)
/-- the height of each way, and what it is too much for -/
theorem heights {w : Int} (ys : List Int) (h0 : 0 ≤ w) (h1 : w < 6) : ∃ b m : Int, atI [V.int 7, V.int 5, V.int 8, V.int 5, V.int 8, V.int 8] w = some (.int b) ∧ atI [V.int (10 ^ 39), V.int (10 ^ 39), V.int 5, V.int 8, V.int 5, V.int 5] w = some (.int m) ∧ 0 < m ∧
    ∀ u : Int, 0 ≤ u → u < m → (-(10 ^ 60) ≤ b + u ∧ b + u ≤ 10 ^ 60) ∧ CondR w (b + u) ys 2 := by
  rcases upto (k := 6) (P := fun w => w = 0 ∨ w = 1 ∨ w = 2 ∨ w = 3 ∨ w = 4 ∨ w = 5) h0 h1 (by decide) with rfl | rfl | rfl | rfl | rfl | rfl
  · exact ⟨7, 10 ^ 39, rfl, rfl, by decide, fun u a b => ⟨bnd (by decide) (by decide) a b, .inl ⟨rfl, .inl ⟨rfl, far_off (by decide) a⟩⟩⟩⟩
  · exact ⟨5, 10 ^ 39, rfl, rfl, by decide, fun u a b => ⟨bnd (by decide) (by decide) a b, .inl ⟨rfl, .inr (.inl ⟨rfl, far_off (by decide) a⟩)⟩⟩⟩
  · exact ⟨8, 5, rfl, rfl, by decide, fun u a b => ⟨bnd (by decide) (by decide) a b, .inl ⟨rfl, .inr (.inr (.inl ⟨rfl, amid rfl a b⟩))⟩⟩⟩
  · exact ⟨5, 8, rfl, rfl, by decide, fun u a b => ⟨bnd (by decide) (by decide) a b, .inl ⟨rfl, .inr (.inr (.inr (.inl ⟨rfl, amid rfl a b⟩)))⟩⟩⟩
  · exact ⟨8, 5, rfl, rfl, by decide, fun u a b => ⟨bnd (by decide) (by decide) a b, .inl ⟨rfl, .inr (.inr (.inr (.inr (.inl ⟨rfl, amid rfl a b⟩))))⟩⟩⟩
  · exact ⟨8, 5, rfl, rfl, by decide, fun u a b => ⟨bnd (by decide) (by decide) a b, .inl ⟨rfl, .inr (.inr (.inr (.inr (.inr ⟨rfl, amid rfl a b⟩))))⟩⟩⟩
/-- a turn that is gone -/
theorem gone_at {n : Nat} {far g : Int} (n12 : n ≤ 12) (f0 : 0 ≤ far) (f1 : far < 10 ^ 39) (g0 : 0 ≤ g) (g1 : g < 3) :
    ∃ gone : Int, atI [V.int 0, V.int ((n : Int) + 1), V.int (-1 - far)] g = some (.int gone) ∧ ¬ (1 ≤ gone ∧ gone ≤ (n : Int)) ∧ -(10 ^ 60) ≤ gone ∧ gone ≤ 10 ^ 60 := by
  rcases upto (k := 3) (P := fun w => w = 0 ∨ w = 1 ∨ w = 2) g0 g1 (by decide) with rfl | rfl | rfl
  · exact ⟨0, rfl, fun z => absurd z.1 (by decide), by decide, by decide⟩
  · exact ⟨(n : Int) + 1, rfl, fun z => Int.not_le.mpr (Int.lt_succ _) z.2, Int.le_trans (by decide) (Int.le_of_lt (suc0 n)), Int.le_trans (Int.add_le_add_right (Int.ofNat_le.mpr n12) 1) (by decide)⟩
  · have e : -1 - far = -(far + 1) := by rw [Int.neg_add, Int.add_comm, ← Int.sub_eq_add_neg]
    have p : 0 ≤ far + 1 := Int.add_nonneg f0 (by decide)
    rw [e]
    exact ⟨-(far + 1), rfl, far_neg p, Int.neg_le_neg (Int.le_trans (Int.add_le_add_right (Int.le_of_lt f1) 1) (by decide)), Int.le_trans (Int.neg_nonpos_of_nonneg p) (by decide)⟩
theorem condR_0 {w n : Int} {ys : List Int} {i : Nat} (h : CondR w n ys i) (e : w = 0) : i = 2 ∧ ¬ (1 ≤ n ∧ n ≤ 6) := by
  rcases h with ⟨hi, z | z | z | z | z | z⟩ | ⟨_, z⟩
  · exact ⟨hi, z.2⟩
  · exact absurd (z.1.symm.trans e) (by decide)
  · exact absurd (z.1.symm.trans e) (by decide)
  · exact absurd (z.1.symm.trans e) (by decide)
  · exact absurd (z.1.symm.trans e) (by decide)
  · exact absurd (z.1.symm.trans e) (by decide)
  · exact absurd (z.1.symm.trans e) (by decide)
theorem condR_1 {w n : Int} {ys : List Int} {i : Nat} (h : CondR w n ys i) (e : w = 1) : i = 2 ∧ ¬ (1 ≤ n ∧ n ≤ 4) := by
  rcases h with ⟨hi, z | z | z | z | z | z⟩ | ⟨_, z⟩
  · exact absurd (z.1.symm.trans e) (by decide)
  · exact ⟨hi, z.2⟩
  · exact absurd (z.1.symm.trans e) (by decide)
  · exact absurd (z.1.symm.trans e) (by decide)
  · exact absurd (z.1.symm.trans e) (by decide)
  · exact absurd (z.1.symm.trans e) (by decide)
  · exact absurd (z.1.symm.trans e) (by decide)
theorem condR_2 {w n : Int} {ys : List Int} {i : Nat} (h : CondR w n ys i) (e : w = 2) : i = 2 ∧ 8 ≤ n ∧ n ≤ 12 := by
  rcases h with ⟨hi, z | z | z | z | z | z⟩ | ⟨_, z⟩
  · exact absurd (z.1.symm.trans e) (by decide)
  · exact absurd (z.1.symm.trans e) (by decide)
  · exact ⟨hi, z.2⟩
  · exact absurd (z.1.symm.trans e) (by decide)
  · exact absurd (z.1.symm.trans e) (by decide)
  · exact absurd (z.1.symm.trans e) (by decide)
  · exact absurd (z.1.symm.trans e) (by decide)
theorem condR_3 {w n : Int} {ys : List Int} {i : Nat} (h : CondR w n ys i) (e : w = 3) : i = 2 ∧ 5 ≤ n ∧ n ≤ 12 := by
  rcases h with ⟨hi, z | z | z | z | z | z⟩ | ⟨_, z⟩
  · exact absurd (z.1.symm.trans e) (by decide)
  · exact absurd (z.1.symm.trans e) (by decide)
  · exact absurd (z.1.symm.trans e) (by decide)
  · exact ⟨hi, z.2⟩
  · exact absurd (z.1.symm.trans e) (by decide)
  · exact absurd (z.1.symm.trans e) (by decide)
  · exact absurd (z.1.symm.trans e) (by decide)
theorem condR_4 {w n : Int} {ys : List Int} {i : Nat} (h : CondR w n ys i) (e : w = 4) : i = 2 ∧ 8 ≤ n ∧ n ≤ 12 := by
  rcases h with ⟨hi, z | z | z | z | z | z⟩ | ⟨_, z⟩
  · exact absurd (z.1.symm.trans e) (by decide)
  · exact absurd (z.1.symm.trans e) (by decide)
  · exact absurd (z.1.symm.trans e) (by decide)
  · exact absurd (z.1.symm.trans e) (by decide)
  · exact ⟨hi, z.2⟩
  · exact absurd (z.1.symm.trans e) (by decide)
  · exact absurd (z.1.symm.trans e) (by decide)
theorem condR_5 {w n : Int} {ys : List Int} {i : Nat} (h : CondR w n ys i) (e : w = 5) : i = 2 ∧ 8 ≤ n ∧ n ≤ 12 := by
  rcases h with ⟨hi, z | z | z | z | z | z⟩ | ⟨_, z⟩
  · exact absurd (z.1.symm.trans e) (by decide)
  · exact absurd (z.1.symm.trans e) (by decide)
  · exact absurd (z.1.symm.trans e) (by decide)
  · exact absurd (z.1.symm.trans e) (by decide)
  · exact absurd (z.1.symm.trans e) (by decide)
  · exact ⟨hi, z.2⟩
  · exact absurd (z.1.symm.trans e) (by decide)
theorem condR_6 {w n : Int} {ys : List Int} {i : Nat} (h : CondR w n ys i) (d0 : w ≠ 0) (d1 : w ≠ 1) (d2 : w ≠ 2) (d3 : w ≠ 3) (d4 : w ≠ 4) (d5 : w ≠ 5) : i = 0 ∧ 1 ≤ n ∧ n ≤ 12 ∧ n ≠ ys.length := by
  rcases h with ⟨hi, z | z | z | z | z | z⟩ | ⟨hi, z⟩
  · exact absurd z.1 d0
  · exact absurd z.1 d1
  · exact absurd z.1 d2
  · exact absurd z.1 d3
  · exact absurd z.1 d4
  · exact absurd z.1 d5
  · exact ⟨hi, z.2⟩
theorem down_plain {n : Int} (h1 : 1 ≤ n) (h2 : n ≤ 12) : PB false (Fs.upTo (0 + 1) (n + 1)).reverse ∧ ((Fs.upTo (0 + 1) (n + 1)).reverse.length : Int) = n := by
  obtain ⟨k, rfl⟩ := Int.eq_ofNat_of_zero_le (Int.le_trans (by decide) h1)
  have e : (Fs.upTo (0 + 1) ((k : Int) + 1)).length = k := by rw [Fs.length_upTo, Int.zero_add, Int.add_sub_cancel]; rfl
  have r := (List.length_reverse (as := Fs.upTo (0 + 1) ((k : Int) + 1))).trans e
  exact ⟨⟨⟨by rw [r]; exact Int.ofNat_le.mp h1, by rw [r]; exact List.reverse_perm _⟩, by rw [r]; exact Int.ofNat_le.mp h2⟩, by rw [r]⟩
theorem up_plain {n : Int} (h1 : 1 ≤ n) (h2 : n ≤ 12) : PB false (Fs.upTo 1 (n + 1)) ∧ ((Fs.upTo 1 (n + 1)).length : Int) = n := by
  obtain ⟨d, e⟩ := down_plain h1 h2
  rw [List.length_reverse] at e
  exact ⟨⟨⟨by have := d.1.pos; rwa [List.length_reverse] at this, by rw [show ((Fs.upTo 1 (n + 1)).length : Int) = n from e]⟩, by have := d.2; rwa [List.length_reverse] at this⟩, e⟩

theorem npF_of {ys : List Int} (h : ¬ PB true ys) : ¬ PB false ys := fun ⟨p, l⟩ => h ⟨by rw [p.abs]; exact p, by rw [p.abs]; exact l⟩
theorem np_neg {ys : List Int} {y : Int} (h : y ∈ ys) (hy : y ≤ 0) : ¬ PB false ys := fun ⟨p, _⟩ => by have := (p.mem h).1; omega
theorem npB_big {ys : List Int} {y : Int} (h : y ∈ ys) (hy : (ys.length : Int) < Fs.absI y) : ¬ PB true ys := fun ⟨p, _⟩ => by
  have := (p.mem (List.mem_map_of_mem (f := Fs.absI) h)).2
  rw [List.length_map] at this
  omega
theorem npB_zero {ys : List Int} (h : (0 : Int) ∈ ys) : ¬ PB true ys := fun ⟨p, _⟩ => by
  have := (p.mem (List.mem_map_of_mem (f := Fs.absI) h)).1
  have e : Fs.absI 0 = 0 := rfl
  omega
theorem npB_dup {us ws : List Int} {v : Int} (h : Fs.absI v ∈ (us ++ ws).map Fs.absI) : ¬ PB true (us ++ [v] ++ ws) := fun ⟨p, _⟩ => by
  have nd := p.nodup
  rw [List.append_assoc, List.map_append, List.singleton_append, List.map_cons, List.nodup_append, List.nodup_cons] at nd
  rw [List.map_append, List.mem_append] at h
  rcases h with h | h
  · exact nd.2.2 _ h _ (List.mem_cons_self ..) rfl
  · exact nd.2.1.1 h
theorem mid_le {xs : List Int} {v : Int} {k k' : Nat} (h : xs.length ≤ 12) : (xs.take k ++ [v] ++ xs.drop k').length ≤ 40 := by
  rw [List.length_append, List.length_append]
  exact Nat.le_trans (Nat.add_le_add (Nat.add_le_add (Nat.le_trans (List.length_take_le' ..) h) (Nat.le_refl 1)) (Nat.le_trans (List.length_drop .. ▸ Nat.sub_le ..) h)) (by decide)
theorem mid_one {xs : List Int} {v : Int} {k : Nat} : (xs.take k ++ [v] ++ xs.drop k).length = xs.length + 1 := by
  have e := congrArg List.length (List.take_append_drop k xs)
  rw [List.length_append] at e
  rw [List.length_append, List.length_append, Nat.add_right_comm, e]
  rfl
theorem absI_neg {x : Int} (h : 0 < x) : Fs.absI (-x) = x := by
  unfold Fs.absI
  rw [if_pos (Int.neg_neg_of_pos h), Int.neg_neg]
theorem absI_pos {x : Int} (h : 0 ≤ x) : Fs.absI x = x := by
  unfold Fs.absI
  rw [if_neg (Int.not_lt.mpr h)]
theorem far_pos (n : Nat) {far : Int} (h : 0 ≤ far) : 0 < (n : Int) + 2 + far := Int.lt_of_lt_of_le (by decide : (0 : Int) < 0 + 2 + 0) (Int.add_le_add (Int.add_le_add_right (Int.natCast_nonneg n) 2) h)
theorem npB_far {xs : List Int} {v far : Int} {k : Nat} (e : Fs.absI v = (xs.length : Int) + 2 + far) (h : 0 ≤ far) : ¬ PB true (xs.take k ++ [v] ++ xs.drop k) := by
  refine npB_big (y := v) (by simp) ?_
  rw [mid_one, e]
  exact Int.lt_of_lt_of_le (Int.add_lt_add_left (by decide : (1 : Int) < 2) _) (Int.le_add_of_nonneg_right h)
theorem npB_len {ys : List Int} (h : ys.length = 0 ∨ 12 < ys.length) : ¬ PB true ys := fun ⟨p, l⟩ => by
  have := p.pos
  rw [List.length_map] at this l
  omega
/-- xs[:k] + [v] + xs[k':] -/
theorem mid_read {K : PySem.W.Frag} {σ : St} {H : Hp} {Q : VK} {i j : Nat} {p : Addr} {xs : List Int} {k k' v : Int} {tv th : TE} (hi : σ[i]? = some (some (.ref p))) (hj : σ[j]? = some (some (.int k))) (hS : SqL K H p (xs.map V.int)) (k0 : 0 ≤ k) (k1 : 0 ≤ k') (hl : xs.length ≤ 12)
    (htv : ∀ H2, Same H H2 → ∀ R : VK, R (.int v) H2 → tv σ H2 R) (hth : ∀ H2, Same H H2 → ∀ R : VK, R (.int k') H2 → th σ H2 R)
    (q : ∀ r H', H r = none → Same H H' → H' r = some (.lst ((xs.take k.toNat ++ [v] ++ xs.drop k'.toNat).map V.int)) → Q (.ref r) H') :
    tOp rCat (tOp rCat (tSl (rSlL K) (tVar i) tNoPart (tPart (tVar j))) (tLst (tCons tv tNil))) (tSl (rSlL K) (tVar i) (tPart th) tNoPart) σ H Q := by
  refine ⟨_, hi, _, hj, _, rfl, p, _, rfl, hS, fun d hd => ?_⟩
  have s1 := Same.new (o := .lst (cutV (xs.map V.int) none (some k))) hd
  refine htv _ s1 _ ⟨small12 (by show 1 ≤ 1000; decide), fun d2 hd2 => ?_⟩
  have s2 := s1.up (s1.free hd2) (o := .lst [.int v])
  have n12 : d ≠ d2 := ne_of_none upd_same hd2
  refine ⟨d, d2, _, _, rfl, rfl, (by rw [upd_ne n12, upd_same]), upd_same, ?_, fun d3 hd3 => ?_⟩
  · rw [cut_lo _ k0]
    refine small12 ?_
    simp
    omega
  have s3 := s2.up (s2.free hd3) (o := .lst (cutV (xs.map V.int) none (some k) ++ [.int v]))
  refine ⟨_, hi, hth _ s3 _ ⟨_, rfl, p, _, rfl, s3.seq hS, fun d4 hd4 => ?_⟩⟩
  have s4 := s3.up (s3.free hd4) (o := .lst (cutV (xs.map V.int) (some k') none))
  refine ⟨d3, d4, _, _, rfl, rfl, (by rw [upd_ne (ne_of_none upd_same hd4), upd_same]), upd_same, ?_, fun d5 hd5 => ?_⟩
  · rw [cut_lo _ k0, cut_hi _ k1]
    refine small12 ?_
    simp
    omega
  refine q d5 _ (s4.free hd5) (s4.up (s4.free hd5)) ?_
  rw [upd_same, cut_lo _ k0, cut_hi _ k1]
  simp
def spNoPile (K : PySem.W.Frag) : Sp := fun vs H Q _ => ∃ (a p : Addr) (ns xs : List Int) (b : Bool), vs = [.ref a, .ref p, .bl b] ∧ SqL K H a (ns.map V.int) ∧ H p = some (.lst (xs.map V.int)) ∧ Fs.Plain xs ∧ xs.length ≤ 12 ∧
  ∀ (r : Addr) (H' : Hp) (ys : List Int), H r = none → Same H H' → H' r = some (.lst (ys.map V.int)) → ys.length ≤ 40 → ¬ PB (!b) ys → Q (.ref r) H'
def spBurntX (K : PySem.W.Frag) : Sp := fun vs H Q _ => ∃ (a : Addr) (xs : List Int) (c : Int), vs = [.ref a, .int c] ∧ SqL K H a (xs.map V.int) ∧ xs.length ≤ 40 ∧
  ∀ (p : Addr) (H' : Hp) (ys : List Int), H p = none → Same H H' → H' p = some (.lst (ys.map V.int)) → ys.map Fs.absI = xs.map Fs.absI → Q (.ref p) H'
section
variable {P : Program} {w : World} {K : PySem.W.Frag} {mg : Str → Option Value} {base : Heap} {t : Adr}
theorem b_check_pile (T : Txt K mg t) : Binds K t.d_check_pile ["pile"] [] := binds1 T.F_check_pile fun _ _ _ _ _ _ _ => rfl
theorem b_without_signs (T : Txt K mg t) : Binds K t.d_without_signs ["pile"] [] := binds1 T.F_without_signs fun _ _ _ _ _ _ _ => rfl
theorem b_check_burnt_pile (T : Txt K mg t) : Binds K t.d_check_burnt_pile ["pile"] [] := binds1 T.F_check_burnt_pile fun _ _ _ _ _ _ _ => rfl
theorem b_check_turns (T : Txt K mg t) : Binds K t.d_check_turns ["pile", "turns"] [] := binds2 T.F_check_turns fun _ _ _ _ _ _ _ _ => rfl
theorem b_behind (T : Txt K mg t) : Binds K t.d_behind ["pile", "turns"] [] := binds2 T.F_behind fun _ _ _ _ _ _ _ _ => rfl
theorem b_burnt_behind (T : Txt K mg t) : Binds K t.d_burnt_behind ["pile", "turns"] [] := binds2 T.F_burnt_behind fun _ _ _ _ _ _ _ _ => rfl
theorem b_check_size (T : Txt K mg t) : Binds K t.d_check_size ["size", "most"] [] := binds2 T.F_check_size fun _ _ _ _ _ _ _ _ => rfl
theorem b_counts (T : Txt K mg t) : Binds K t.d_counts ["size"] [] := binds1 T.F_counts fun _ _ _ _ _ _ _ => rfl
theorem b_burnt_counts (T : Txt K mg t) : Binds K t.d_burnt_counts ["size"] [] := binds1 T.F_burnt_counts fun _ _ _ _ _ _ _ => rfl
theorem b_gaps (T : Txt K mg t) : Binds K t.d_gaps ["pile"] [] := binds1 T.F_gaps fun _ _ _ _ _ _ _ => rfl
theorem b_burnt_gaps (T : Txt K mg t) : Binds K t.d_burnt_gaps ["pile"] [] := binds1 T.F_burnt_gaps fun _ _ _ _ _ _ _ => rfl
theorem b_plan (T : Txt K mg t) : Binds K t.d_plan ["pile"] [] := binds1 T.F_plan fun _ _ _ _ _ _ _ => rfl
theorem b_burnt_plan (T : Txt K mg t) : Binds K t.d_burnt_plan ["pile"] [] := binds1 T.F_burnt_plan fun _ _ _ _ _ _ _ => rfl
theorem b_check_height (T : Txt K mg t) : Binds K t.d_check_height ["pile", "most"] [] := binds2 T.F_check_height fun _ _ _ _ _ _ _ _ => rfl
theorem b_fewest (T : Txt K mg t) : Binds K t.d_fewest ["pile"] [] := binds1 T.F_fewest fun _ _ _ _ _ _ _ => rfl
theorem b_burnt_fewest (T : Txt K mg t) : Binds K t.d_burnt_fewest ["pile"] [] := binds1 T.F_burnt_fewest fun _ _ _ _ _ _ _ => rfl
theorem b_between (T : Txt K mg t) : Binds K t.d_between ["one", "other"] [] := binds2 T.F_between fun _ _ _ _ _ _ _ _ => rfl
theorem b_shown (T : Txt K mg t) : Binds K t.d_shown ["pile"] [] := binds1 T.F_shown fun _ _ _ _ _ _ _ => rfl
theorem b_Stack___init__ (T : Txt K mg t) : Binds K t.d_Stack___init__ ["self", "pile"] [] := binds2 T.F_Stack___init__ fun _ _ _ _ _ _ _ _ => rfl
theorem b_Stack_fewest (T : Txt K mg t) : Binds K t.d_Stack_fewest ["self"] [] := binds1 T.F_Stack_fewest fun _ _ _ _ _ _ _ => rfl
theorem b_law_cell_at (T : Txt K mg t) : Binds K t.d_law_cell_at ["script", "k"] [] := binds2 T.F_law_cell_at fun _ _ _ _ _ _ _ _ => rfl
theorem b_law_pile (T : Txt K mg t) : Binds K t.d_law_pile ["script", "at", "most"] [] := binds3 T.F_law_pile fun _ _ _ _ _ _ _ _ _ => rfl
theorem b_law_burnt (T : Txt K mg t) : Binds K t.d_law_burnt ["pile", "cell"] [] := binds2 T.F_law_burnt fun _ _ _ _ _ _ _ _ => rfl
theorem b_law_which (T : Txt K mg t) : Binds K t.d_law_which ["e"] [] := binds1 T.F_law_which fun _ _ _ _ _ _ _ => rfl
theorem b_law_one (T : Txt K mg t) : Binds K t.d_law_one ["way", "pile", "turns", "other"] [] := binds4 T.F_law_one fun _ _ _ _ _ _ _ _ _ _ => rfl
theorem b_law_other (T : Txt K mg t) : Binds K t.d_law_other ["way", "pile", "turns"] [] := binds3 T.F_law_other fun _ _ _ _ _ _ _ _ _ => rfl
theorem b_law_rest (T : Txt K mg t) : Binds K t.d_law_rest ["way", "size", "other"] [] := binds3 T.F_law_rest fun _ _ _ _ _ _ _ _ _ => rfl
theorem b_law_told (T : Txt K mg t) : Binds K t.d_law_told ["kind", "way", "pile", "turns", "other"] [] := binds5 T.F_law_told fun _ _ _ _ _ _ _ _ _ _ _ => rfl
theorem b_law_no_pile (T : Txt K mg t) : Binds K t.d_law_no_pile ["script", "pile", "plain"] [] := binds3 T.F_law_no_pile fun _ _ _ _ _ _ _ _ _ => rfl
theorem sc_check_pile : FnScope ["pile", "size"] ["pile"] (defScope s_check_pile) := ⟨rfl, rfl, rfl, by decide +kernel, rfl, by decide +kernel, by decide +kernel⟩
theorem sc_without_signs : FnScope ["pile"] ["pile"] (defScope s_without_signs) := ⟨rfl, rfl, rfl, by decide +kernel, rfl, by decide +kernel, by decide +kernel⟩
theorem sc_check_burnt_pile : FnScope ["pile"] ["pile"] (defScope s_check_burnt_pile) := ⟨rfl, rfl, rfl, by decide +kernel, rfl, by decide +kernel, by decide +kernel⟩
theorem sc_check_turns : FnScope ["pile", "turns", "size", "turn"] ["pile", "turns"] (defScope s_check_turns) := ⟨rfl, rfl, rfl, by decide +kernel, rfl, by decide +kernel, by decide +kernel⟩
theorem sc_behind : FnScope ["pile", "turns"] ["pile", "turns"] (defScope s_behind) := ⟨rfl, rfl, rfl, by decide +kernel, rfl, by decide +kernel, by decide +kernel⟩
theorem sc_burnt_behind : FnScope ["pile", "turns"] ["pile", "turns"] (defScope s_burnt_behind) := ⟨rfl, rfl, rfl, by decide +kernel, rfl, by decide +kernel, by decide +kernel⟩
theorem sc_check_size : FnScope ["size", "most"] ["size", "most"] (defScope s_check_size) := ⟨rfl, rfl, rfl, by decide +kernel, rfl, by decide +kernel, by decide +kernel⟩
theorem sc_counts : FnScope ["size"] ["size"] (defScope s_counts) := ⟨rfl, rfl, rfl, by decide +kernel, rfl, by decide +kernel, by decide +kernel⟩
theorem sc_burnt_counts : FnScope ["size"] ["size"] (defScope s_burnt_counts) := ⟨rfl, rfl, rfl, by decide +kernel, rfl, by decide +kernel, by decide +kernel⟩
theorem sc_gaps : FnScope ["pile"] ["pile"] (defScope s_gaps) := ⟨rfl, rfl, rfl, by decide +kernel, rfl, by decide +kernel, by decide +kernel⟩
theorem sc_burnt_gaps : FnScope ["pile"] ["pile"] (defScope s_burnt_gaps) := ⟨rfl, rfl, rfl, by decide +kernel, rfl, by decide +kernel, by decide +kernel⟩
theorem sc_plan : FnScope ["pile"] ["pile"] (defScope s_plan) := ⟨rfl, rfl, rfl, by decide +kernel, rfl, by decide +kernel, by decide +kernel⟩
theorem sc_burnt_plan : FnScope ["pile"] ["pile"] (defScope s_burnt_plan) := ⟨rfl, rfl, rfl, by decide +kernel, rfl, by decide +kernel, by decide +kernel⟩
theorem sc_check_height : FnScope ["pile", "most", "size"] ["pile", "most"] (defScope s_check_height) := ⟨rfl, rfl, rfl, by decide +kernel, rfl, by decide +kernel, by decide +kernel⟩
theorem sc_fewest : FnScope ["pile"] ["pile"] (defScope s_fewest) := ⟨rfl, rfl, rfl, by decide +kernel, rfl, by decide +kernel, by decide +kernel⟩
theorem sc_burnt_fewest : FnScope ["pile"] ["pile"] (defScope s_burnt_fewest) := ⟨rfl, rfl, rfl, by decide +kernel, rfl, by decide +kernel, by decide +kernel⟩
theorem sc_between : FnScope ["one", "other"] ["one", "other"] (defScope s_between) := ⟨rfl, rfl, rfl, by decide +kernel, rfl, by decide +kernel, by decide +kernel⟩
theorem sc_shown : FnScope ["pile"] ["pile"] (defScope s_shown) := ⟨rfl, rfl, rfl, by decide +kernel, rfl, by decide +kernel, by decide +kernel⟩
theorem sc_Stack___init__ : FnScope ["self", "pile"] ["self", "pile"] (defScope s_Stack___init__) := ⟨rfl, rfl, rfl, by decide +kernel, rfl, by decide +kernel, by decide +kernel⟩
theorem sc_Stack_fewest : FnScope ["self"] ["self"] (defScope s_Stack_fewest) := ⟨rfl, rfl, rfl, by decide +kernel, rfl, by decide +kernel, by decide +kernel⟩
theorem sc_law_cell_at : FnScope ["script", "k"] ["script", "k"] (defScope s_law_cell_at) := ⟨rfl, rfl, rfl, by decide +kernel, rfl, by decide +kernel, by decide +kernel⟩
theorem sc_law_pile : FnScope ["script", "at", "most", "size", "left", "pile", "k"] ["script", "at", "most"] (defScope s_law_pile) := ⟨rfl, rfl, rfl, by decide +kernel, rfl, by decide +kernel, by decide +kernel⟩
theorem sc_law_burnt : FnScope ["pile", "cell", "found", "cake"] ["pile", "cell"] (defScope s_law_burnt) := ⟨rfl, rfl, rfl, by decide +kernel, rfl, by decide +kernel, by decide +kernel⟩
theorem sc_law_which : FnScope ["e", "some"] ["e"] (defScope s_law_which) := ⟨rfl, rfl, rfl, by decide +kernel, rfl, by decide +kernel, by decide +kernel⟩
theorem sc_law_one : FnScope ["way", "pile", "turns", "other"] ["way", "pile", "turns", "other"] (defScope s_law_one) := ⟨rfl, rfl, rfl, by decide +kernel, rfl, by decide +kernel, by decide +kernel⟩
theorem sc_law_other : FnScope ["way", "pile", "turns"] ["way", "pile", "turns"] (defScope s_law_other) := ⟨rfl, rfl, rfl, by decide +kernel, rfl, by decide +kernel, by decide +kernel⟩
theorem sc_law_rest : FnScope ["way", "size", "other"] ["way", "size", "other"] (defScope s_law_rest) := ⟨rfl, rfl, rfl, by decide +kernel, rfl, by decide +kernel, by decide +kernel⟩
theorem sc_law_told : FnScope ["kind", "way", "pile", "turns", "other", "told", "e"] ["kind", "way", "pile", "turns", "other"] (defScope s_law_told) := ⟨rfl, rfl, rfl, by decide +kernel, rfl, by decide +kernel, by decide +kernel⟩
theorem sc_law_no_pile : FnScope ["script", "pile", "plain", "far", "at", "way", "some"] ["script", "pile", "plain"] (defScope s_law_no_pile) := ⟨rfl, rfl, rfl, by decide +kernel, rfl, by decide +kernel, by decide +kernel⟩
theorem sc_law : FnScope ["script", "pile", "kind", "way", "gone", "turns", "other", "bad", "size"] ["script"] (defScope s_law) := ⟨rfl, rfl, rfl, by decide +kernel, rfl, by decide +kernel, by decide +kernel⟩

end
end Fl

namespace Fl
open PySem L2
section
variable {P : Program} {w : World} {K : PySem.W.Frag} {mg : Str → Option Value} {base : Heap} {t : Adr}
theorem ok_check_pile (T : Txt K mg t) : FnOk P w K mg base (CXX P w) 1 t.a_check_pile t.d_check_pile ["pile"] (spCheckX K t.c_NoPile false) := by
  refine T.F_check_pile.okX sc_check_pile (fun vs H Q E h => ?_) (fun cdv A outer s H vs Q E hr h => ?_)
  · obtain ⟨a, xs, rfl, hS, h40, q, qe⟩ := h
    rfl
  · obtain ⟨a, xs, rfl, hS, h40, q, qe⟩ := h
    refine ⟨_, (pss_cons (ps_set (i := 1) sc_check_pile.nd rfl (Or.inl rfl) (pe_callB (len_K (K := K)) rfl T.z_len bt_len (pa_cons (pv 0) pa_nil)))
      (pss_cons (ps_if (PW.pt (pw_or (pt_cmpR op_lt (pv 1) pe_int (nomark _)) (pw_or1 (pt_cmpR op_gt (pv 1) (pe_globI rfl T.g_MOST_CAKES) (nomark _))))) (pss_one (ps_raise T.e_NoPile.toExcC hr.hd rfl T.x_NoPile (pa_cons (pe_fs (pf_str (by decide +kernel) (pf_val (pe_globI rfl T.g_MOST_CAKES) (pf_str (by decide +kernel) (pf_val (pv 1) pf_nil))))) pa_nil))) pss_nil)
      (pss_one (ps_if (pt_cmpR (op_neL hr.units) (pe_callB call_sorted rfl T.z_sorted bt_sorted (pa_cons (pv 0) pa_nil)) (pe_callTy (call_list_rng rfl) rfl T.z_list bt_list (pa_cons (pe_callTy call_rng2 rfl T.z_range bt_range (pa_cons pe_int (pa_cons (pe_op op_add (pv 1) pe_int) pa_nil))) pa_nil)) (nomark _)) (pss_one (ps_raise T.e_NoPile.toExcC hr.hd rfl T.x_NoPile (pa_cons (pe_fs (pf_str (by decide +kernel) (pf_val (pv 1) (pf_str (by decide +kernel) pf_nil)))) pa_nil))) pss_nil)))), ?_⟩
    refine ⟨_, rfl, a, _, rfl, .inl hS, ?_⟩
    rw [len_map]
    refine ⟨_, rfl, _, _, rfl, rfl, _, rfl, ite2D (fun h => ?_) (fun h => ⟨_, rfl, _, _, rfl, rfl, _, rfl, ite2D (fun h' => ?_) (fun h' => ?_)⟩)⟩
    · exact ⟨fmtI (by decide) (by decide), _, rfl, fmtN (Nat.le_trans h40 (by decide)), fun x => ⟨by show 1 ≤ 1000; decide, qe (fun z => by have := z.1.pos; omega) H (Same.refl _)⟩⟩
    · exact ⟨fmtI (by decide) (by decide), _, rfl, fmtN (Nat.le_trans h40 (by decide)), fun x => ⟨by show 1 ≤ 1000; decide, qe (fun z => by have := z.2; omega) H (Same.refl _)⟩⟩
    refine ⟨_, rfl, a, xs, rfl, hS, by omega, fun l ms hl pm so => ?_⟩
    refine ⟨_, rfl, _, _, rfl, rfl, _, _, rfl, fun r hr0 => ⟨r, _, _, rfl, upd_same, by decide, by omega, by decide, by omega, fun l2 hl2 => ?_⟩⟩
    have nlr : l ≠ r := fun e => by rw [← e, upd_same] at hr0; cases hr0
    have hr1 : H r = none := by rwa [upd_ne nlr.symm] at hr0
    have n2r : l2 ≠ r := fun e => by rw [e, upd_same] at hl2; cases hl2
    rw [upd_ne n2r] at hl2
    have n2l : l2 ≠ l := fun e => by rw [e, upd_same] at hl2; cases hl2
    have hl20 : H l2 = none := by rwa [upd_ne n2l] at hl2
    refine ⟨l, l2, ms, Fs.upTo 1 ((xs.length : Int) + 1), rfl, rfl, SqL.of (by rw [upd_ne n2l.symm, upd_ne nlr, upd_same]), SqL.of upd_same, _, rfl, ?_⟩
    by_cases z : ms = Fs.upTo 1 ((xs.length : Int) + 1)
    · rw [decide_eq_true z]
      exact iteF (q ⟨⟨by omega, by rw [← z]; exact pm.symm⟩, by omega⟩ _ (((Same.new hl).up hr1).up hl20))
    · rw [decide_eq_false z]
      exact iteT ⟨_, rfl, fmtN (Nat.le_trans h40 (by decide)), fun x => ⟨by show 1 ≤ 1000; decide, qe (fun pl => z (pl.1.sorted pm so)) _ (((Same.new hl).up hr1).up hl20)⟩⟩
end
end Fl

namespace Fl
open PySem L2
section
variable {P : Program} {w : World} {K : PySem.W.Frag} {mg : Str → Option Value} {base : Heap} {t : Adr}
theorem ok_without_signs (T : Txt K mg t) : FnOk P w K mg base CX0 1 t.a_without_signs t.d_without_signs ["pile"] (spSignsX K) := by
  refine T.F_without_signs.ok sc_without_signs (fun vs H Q E h => ?_) (fun cdv A outer s H vs Q E hr h => ?_)
  · obtain ⟨a, xs, rfl, hS, h40, q⟩ := h
    rfl
  · obtain ⟨a, xs, rfl, hS, h40, q⟩ := h
    refine ⟨_, (pss_one (ps_ret (pe_comp rfl (pi_list (pv 0)) (show CapOk _ _ ["cake"] [none] from (cap_own (cap_nil))) keep_name (fun _ _ _ _ => (pg_name (i := 0) (show (["cake"] : List Str).Nodup by decide +kernel) rfl (Or.inl rfl))) (fun _ _ _ _ => pif_nil) (fun _ _ _ _ => (pe_callB call_abs rfl T.z_abs bt_abs (pa_cons (pv 0) pa_nil)))))), ?_⟩
    refine ⟨_, rfl, a, rfl, ⟨_, hS⟩, comp_list (xs := xs.map V.int) absV2 hS (by rw [len_map]; omega) (fun x i H2 R hi s2 r => ?_) (fun p H2 hp s2 e => q p H2 hp s2 ?_)⟩
    · obtain ⟨y, rfl, hy⟩ := map_get hi
      exact ⟨_, rfl, y, rfl, r H2 (Same.refl _)⟩
    · rw [e, List.map_map, List.map_map]
      rfl
end
end Fl

namespace Fl
open PySem L2
section
variable {P : Program} {w : World} {K : PySem.W.Frag} {mg : Str → Option Value} {base : Heap} {t : Adr}
theorem ok_check_burnt_pile (T : Txt K mg t) : FnOk P w K mg base (CXX P w) 2 t.a_check_burnt_pile t.d_check_burnt_pile ["pile"] (spCheckX K t.c_NoPile true) := by
  refine T.F_check_burnt_pile.okX sc_check_burnt_pile (fun vs H Q E h => ?_) (fun cdv A outer s H vs Q E hr h => ?_)
  · obtain ⟨a, xs, rfl, hS, h40, q, qe⟩ := h
    rfl
  · obtain ⟨a, xs, rfl, hS, h40, q, qe⟩ := h
    refine ⟨_, (pss_one (ps_expr (pe_callS (ok_check_pile (K := K) T) (hr.mono (by omega)) rfl T.m_check_pile T.F_check_pile.kp (b_check_pile T) .nil pass_leave (pa_cons (pe_call (ok_without_signs (K := K) T) (hr.mono (by omega)) rfl T.m_without_signs T.F_without_signs.kp (b_without_signs T) .nil pass0 (pa_cons (pv 0) pa_nil)) pa_nil)))), ?_⟩
    exact ⟨_, rfl, a, xs, rfl, hS, h40, fun p H1 hp s1 e => ⟨p, xs.map Fs.absI, rfl, SqL.of e, by rw [List.length_map]; exact h40, fun pl H2 s2 => q pl H2 (s1.trans s2), fun npl H2 s2 => qe npl H2 (s1.trans s2)⟩⟩
end
end Fl

namespace Fl
open PySem L2
section
variable {P : Program} {w : World} {K : PySem.W.Frag} {mg : Str → Option Value} {base : Heap} {t : Adr}
theorem ok_check_turns (T : Txt K mg t) : FnOk P w K mg base (CXX P w) 1 t.a_check_turns t.d_check_turns ["pile", "turns"] (spTurnsX K t.c_NoTurn) := by
  refine T.F_check_turns.okX sc_check_turns (fun vs H Q E h => ?_) (fun cdv A outer s H vs Q E hr h => ?_)
  · obtain ⟨a, b, xs, ts, rfl, hS, hT, h40, hb, q, qe⟩ := h
    rfl
  · obtain ⟨a, b, xs, ts, rfl, hS, hT, h40, hb, q, qe⟩ := h
    refine ⟨_, (pss_cons (ps_set (i := 2) sc_check_turns.nd rfl (Or.inl rfl) (pe_callB (len_K (K := K)) rfl T.z_len bt_len (pa_cons (pv 0) pa_nil)))
      (pss_one (ps_for PassesOwn.leaving rfl (pi_list (pv 1)) (pg_name (i := 3) sc_check_turns.nd rfl (Or.inl rfl)) (pss_one (ps_if (PW.pt (pw_or (pt_cmpR op_lt (pv 3) pe_int (nomark _)) (pw_or1 (pt_cmpR op_gt (pv 3) (pv 2) (nomark _))))) (pss_one (ps_raise T.e_NoTurn.toExcC hr.hd rfl T.x_NoTurn (pa_cons (pe_fs (pf_str (by decide +kernel) (pf_val (pv 2) (pf_str (by decide +kernel) (pf_val (pv 3) pf_nil))))) pa_nil))) pss_nil))))), ?_⟩
    refine ⟨_, rfl, a, _, rfl, .inl hS, ?_⟩
    rw [len_map]
    refine ⟨_, rfl, b, rfl, ⟨_, hT⟩, for_list (K := K) (a := b) (xs := ts.map V.int) (fun i σ H2 => (∃ kv : Option V, σ = [some (.ref a), some (.ref b), some (.int xs.length), kv] ∧ H2 = H) ∧ ∀ x ∈ ts.take i, 1 ≤ x ∧ x ≤ (xs.length : Int)) ⟨⟨none, rfl, rfl⟩, fun x hx => by simp at hx⟩ (fun i σ H2 _ ⟨⟨_, _, e⟩, _⟩ => by rw [e]; exact hT) ?_ ?_⟩
    · rintro i y σ H2 hi ⟨⟨kv, rfl, rfl⟩, ok⟩
      obtain ⟨x, rfl, hx⟩ := map_get hi
      obtain ⟨b1, b2⟩ := hb x (List.mem_of_getElem? hx)
      refine ⟨_, rfl, _, _, rfl, rfl, _, rfl, ite2D (fun h => ?_) (fun h => ⟨_, rfl, _, rfl, _, _, rfl, rfl, _, rfl, ite2D (fun h' => ?_) (fun h' => ?_)⟩)⟩
      · exact ⟨_, rfl, fmtN (Nat.le_trans h40 (by decide)), _, rfl, fmtI b1 b2, fun w => ⟨by show 1 ≤ 1000; decide, qe ⟨x, List.mem_of_getElem? hx, fun z => absurd h (Int.not_lt.mpr z.1)⟩⟩⟩
      · exact ⟨_, rfl, fmtN (Nat.le_trans h40 (by decide)), _, rfl, fmtI b1 b2, fun w => ⟨by show 1 ≤ 1000; decide, qe ⟨x, List.mem_of_getElem? hx, fun z => absurd h' (Int.not_lt.mpr z.2)⟩⟩⟩
      · refine ⟨⟨_, rfl, rfl⟩, fun z hz => ?_⟩
        rw [List.take_add_one, hx] at hz
        simp only [Option.toList_some, List.mem_append, List.mem_singleton] at hz
        rcases hz with hz | rfl
        · exact ok z hz
        · exact ⟨Int.not_lt.mp h, Int.not_lt.mp h'⟩
    · rintro σ H2 ⟨⟨kv, rfl, rfl⟩, ok⟩
      rw [len_map, List.take_length] at ok
      exact q fun ⟨x, hx, n⟩ => n (ok x hx)
end
end Fl

namespace Fl
open PySem L2
section
variable {P : Program} {w : World} {K : PySem.W.Frag} {mg : Str → Option Value} {base : Heap} {t : Adr}
theorem ok_behind (T : Txt K mg t) : FnOk P w K mg base (CXX P w) 3 t.a_behind t.d_behind ["pile", "turns"] (spBehindX K t.c_NoPile t.c_NoTurn false) := by
  refine T.F_behind.okX sc_behind (fun vs H Q E h => ?_) (fun cdv A outer s H vs Q E hr h => ?_)
  · obtain ⟨a, c, xs, ts, rfl, hS, hT, h40, hb, q⟩ := h
    rfl
  · obtain ⟨a, c, xs, ts, rfl, hS, hT, h40, hb, q⟩ := h
    refine ⟨_, (pss_cons (ps_expr (pe_callS (ok_check_pile (K := K) T) (hr.mono (by omega)) rfl T.m_check_pile T.F_check_pile.kp (b_check_pile T) .nil pass_leave (pa_cons (pv 0) pa_nil)))
      (pss_cons (ps_expr (pe_callS (ok_check_turns (K := K) T) (hr.mono (by omega)) rfl T.m_check_turns T.F_check_turns.kp (b_check_turns T) .nil pass_leave (pa_cons (pv 0) (pa_cons (pv 1) pa_nil))))
      (pss_one ps_never))), ?_⟩
    rcases q with ⟨np, qe⟩ | ⟨pl, gn, qe⟩
    · exact ⟨_, rfl, a, xs, rfl, hS, h40, fun pl => absurd pl np, fun _ => qe⟩
    · exact ⟨_, rfl, a, xs, rfl, hS, h40, fun _ H1 s1 => ⟨_, rfl, _, rfl, a, c, xs, ts, rfl, s1.seq hS, s1.seq hT, h40, hb, fun z => absurd gn z, fun _ => qe H1 s1⟩, fun np => absurd pl np⟩
end
end Fl

namespace Fl
open PySem L2
section
variable {P : Program} {w : World} {K : PySem.W.Frag} {mg : Str → Option Value} {base : Heap} {t : Adr}
theorem ok_burnt_behind (T : Txt K mg t) : FnOk P w K mg base (CXX P w) 3 t.a_burnt_behind t.d_burnt_behind ["pile", "turns"] (spBehindX K t.c_NoPile t.c_NoTurn true) := by
  refine T.F_burnt_behind.okX sc_burnt_behind (fun vs H Q E h => ?_) (fun cdv A outer s H vs Q E hr h => ?_)
  · obtain ⟨a, c, xs, ts, rfl, hS, hT, h40, hb, q⟩ := h
    rfl
  · obtain ⟨a, c, xs, ts, rfl, hS, hT, h40, hb, q⟩ := h
    refine ⟨_, (pss_cons (ps_expr (pe_callS (ok_check_burnt_pile (K := K) T) (hr.mono (by omega)) rfl T.m_check_burnt_pile T.F_check_burnt_pile.kp (b_check_burnt_pile T) .nil pass_leave (pa_cons (pv 0) pa_nil)))
      (pss_cons (ps_expr (pe_callS (ok_check_turns (K := K) T) (hr.mono (by omega)) rfl T.m_check_turns T.F_check_turns.kp (b_check_turns T) .nil pass_leave (pa_cons (pv 0) (pa_cons (pv 1) pa_nil))))
      (pss_one ps_never))), ?_⟩
    rcases q with ⟨np, qe⟩ | ⟨pl, gn, qe⟩
    · exact ⟨_, rfl, a, xs, rfl, hS, h40, fun pl => absurd pl np, fun _ => qe⟩
    · exact ⟨_, rfl, a, xs, rfl, hS, h40, fun _ H1 s1 => ⟨_, rfl, _, rfl, a, c, xs, ts, rfl, s1.seq hS, s1.seq hT, h40, hb, fun z => absurd gn z, fun _ => qe H1 s1⟩, fun np => absurd pl np⟩
end
end Fl

namespace Fl
open PySem L2
section
variable {P : Program} {w : World} {K : PySem.W.Frag} {mg : Str → Option Value} {base : Heap} {t : Adr}
theorem ok_check_size (T : Txt K mg t) : FnOk P w K mg base (CXX P w) 1 t.a_check_size t.d_check_size ["size", "most"] (spSizeX t.c_TooTall) := by
  refine T.F_check_size.okX sc_check_size (fun vs H Q E h => ?_) (fun cdv A outer s H vs Q E hr h => ?_)
  · obtain ⟨n, m, rfl, n0, n1, m0, m1, q, qe⟩ := h
    rfl
  · obtain ⟨n, m, rfl, n0, n1, m0, m1, q, qe⟩ := h
    refine ⟨_, (pss_one (ps_if (PW.pt (pw_or (pt_cmpR op_lt (pv 0) pe_int (nomark _)) (pw_or1 (pt_cmpR op_gt (pv 0) (pv 1) (nomark _))))) (pss_one (ps_raise T.e_TooTall.toExcC hr.hd rfl T.x_TooTall (pa_cons (pe_fs (pf_str (by decide +kernel) (pf_val (pv 1) (pf_str (by decide +kernel) (pf_val (pv 0) pf_nil))))) pa_nil))) pss_nil)), ?_⟩
    refine ⟨_, rfl, _, _, rfl, rfl, _, rfl, ite2D (fun h => ?_) (fun h => ⟨_, rfl, _, rfl, _, _, rfl, rfl, _, rfl, ite2D (fun h' => ?_) (fun h' => q (Int.not_lt.mp h) (Int.not_lt.mp h'))⟩)⟩
    · exact ⟨_, rfl, fmtS m0 m1, _, rfl, fmtI n0 n1, fun w => ⟨by show 1 ≤ 1000; decide, qe (fun z => absurd h (Int.not_lt.mpr z.1))⟩⟩
    · exact ⟨_, rfl, fmtS m0 m1, _, rfl, fmtI n0 n1, fun w => ⟨by show 1 ≤ 1000; decide, qe (fun z => absurd h' (Int.not_lt.mpr z.2))⟩⟩
end
end Fl

namespace Fl
open PySem L2
section
variable {P : Program} {w : World} {K : PySem.W.Frag} {mg : Str → Option Value} {base : Heap} {t : Adr}
theorem ok_counts (T : Txt K mg t) : FnOk P w K mg base (CXX P w) 2 t.a_counts t.d_counts ["size"] (spCountX t.c_TooTall 6) := by
  refine T.F_counts.okX sc_counts (fun vs H Q E h => ?_) (fun cdv A outer s H vs Q E hr h => ?_)
  · obtain ⟨n, rfl, n0, n1, nn, qe⟩ := h
    rfl
  · obtain ⟨n, rfl, n0, n1, nn, qe⟩ := h
    refine ⟨_, (pss_cons (ps_expr (pe_callS (ok_check_size (K := K) T) (hr.mono (by omega)) rfl T.m_check_size T.F_check_size.kp (b_check_size T) .nil pass_leave (pa_cons (pv 0) (pa_cons (pe_globI rfl T.g_MOST_PLAIN_CAKES_counts) pa_nil))))
      (pss_one ps_never)), ?_⟩
    exact ⟨_, rfl, n, _, rfl, n0, n1, by decide, by decide, fun z1 z2 => absurd ⟨z1, z2⟩ nn, fun _ => qe⟩
end
end Fl

namespace Fl
open PySem L2
section
variable {P : Program} {w : World} {K : PySem.W.Frag} {mg : Str → Option Value} {base : Heap} {t : Adr}
theorem ok_burnt_counts (T : Txt K mg t) : FnOk P w K mg base (CXX P w) 2 t.a_burnt_counts t.d_burnt_counts ["size"] (spCountX t.c_TooTall 4) := by
  refine T.F_burnt_counts.okX sc_burnt_counts (fun vs H Q E h => ?_) (fun cdv A outer s H vs Q E hr h => ?_)
  · obtain ⟨n, rfl, n0, n1, nn, qe⟩ := h
    rfl
  · obtain ⟨n, rfl, n0, n1, nn, qe⟩ := h
    refine ⟨_, (pss_cons (ps_expr (pe_callS (ok_check_size (K := K) T) (hr.mono (by omega)) rfl T.m_check_size T.F_check_size.kp (b_check_size T) .nil pass_leave (pa_cons (pv 0) (pa_cons (pe_globI rfl T.g_MOST_BURNT_CAKES_counts) pa_nil))))
      (pss_one ps_never)), ?_⟩
    exact ⟨_, rfl, n, _, rfl, n0, n1, by decide, by decide, fun z1 z2 => absurd ⟨z1, z2⟩ nn, fun _ => qe⟩
end
end Fl

namespace Fl
open PySem L2
section
variable {P : Program} {w : World} {K : PySem.W.Frag} {mg : Str → Option Value} {base : Heap} {t : Adr}
theorem ok_gaps (T : Txt K mg t) : FnOk P w K mg base (CXX P w) 3 t.a_gaps t.d_gaps ["pile"] (spRefuse K t.c_NoPile false) := by
  refine T.F_gaps.okX sc_gaps (fun vs H Q E h => ?_) (fun cdv A outer s H vs Q E hr h => ?_)
  · obtain ⟨a, xs, rfl, hS, h40, np, qe⟩ := h
    rfl
  · obtain ⟨a, xs, rfl, hS, h40, np, qe⟩ := h
    refine ⟨_, (pss_cons (ps_expr (pe_callS (ok_check_pile (K := K) T) (hr.mono (by omega)) rfl T.m_check_pile T.F_check_pile.kp (b_check_pile T) .nil pass_leave (pa_cons (pv 0) pa_nil)))
      (pss_one ps_never)), ?_⟩
    exact ⟨_, rfl, a, xs, rfl, hS, h40, fun pl => absurd pl np, fun _ => qe⟩
end
end Fl

namespace Fl
open PySem L2
section
variable {P : Program} {w : World} {K : PySem.W.Frag} {mg : Str → Option Value} {base : Heap} {t : Adr}
theorem ok_burnt_gaps (T : Txt K mg t) : FnOk P w K mg base (CXX P w) 3 t.a_burnt_gaps t.d_burnt_gaps ["pile"] (spRefuse K t.c_NoPile true) := by
  refine T.F_burnt_gaps.okX sc_burnt_gaps (fun vs H Q E h => ?_) (fun cdv A outer s H vs Q E hr h => ?_)
  · obtain ⟨a, xs, rfl, hS, h40, np, qe⟩ := h
    rfl
  · obtain ⟨a, xs, rfl, hS, h40, np, qe⟩ := h
    refine ⟨_, (pss_cons (ps_expr (pe_callS (ok_check_burnt_pile (K := K) T) (hr.mono (by omega)) rfl T.m_check_burnt_pile T.F_check_burnt_pile.kp (b_check_burnt_pile T) .nil pass_leave (pa_cons (pv 0) pa_nil)))
      (pss_one ps_never)), ?_⟩
    exact ⟨_, rfl, a, xs, rfl, hS, h40, fun pl => absurd pl np, fun _ => qe⟩
end
end Fl

namespace Fl
open PySem L2
section
variable {P : Program} {w : World} {K : PySem.W.Frag} {mg : Str → Option Value} {base : Heap} {t : Adr}
theorem ok_plan (T : Txt K mg t) : FnOk P w K mg base (CXX P w) 3 t.a_plan t.d_plan ["pile"] (spRefuse K t.c_NoPile false) := by
  refine T.F_plan.okX sc_plan (fun vs H Q E h => ?_) (fun cdv A outer s H vs Q E hr h => ?_)
  · obtain ⟨a, xs, rfl, hS, h40, np, qe⟩ := h
    rfl
  · obtain ⟨a, xs, rfl, hS, h40, np, qe⟩ := h
    refine ⟨_, (pss_cons (ps_expr (pe_callS (ok_check_pile (K := K) T) (hr.mono (by omega)) rfl T.m_check_pile T.F_check_pile.kp (b_check_pile T) .nil pass_leave (pa_cons (pv 0) pa_nil)))
      (pss_one ps_never)), ?_⟩
    exact ⟨_, rfl, a, xs, rfl, hS, h40, fun pl => absurd pl np, fun _ => qe⟩
end
end Fl

namespace Fl
open PySem L2
section
variable {P : Program} {w : World} {K : PySem.W.Frag} {mg : Str → Option Value} {base : Heap} {t : Adr}
theorem ok_burnt_plan (T : Txt K mg t) : FnOk P w K mg base (CXX P w) 3 t.a_burnt_plan t.d_burnt_plan ["pile"] (spRefuse K t.c_NoPile true) := by
  refine T.F_burnt_plan.okX sc_burnt_plan (fun vs H Q E h => ?_) (fun cdv A outer s H vs Q E hr h => ?_)
  · obtain ⟨a, xs, rfl, hS, h40, np, qe⟩ := h
    rfl
  · obtain ⟨a, xs, rfl, hS, h40, np, qe⟩ := h
    refine ⟨_, (pss_cons (ps_expr (pe_callS (ok_check_burnt_pile (K := K) T) (hr.mono (by omega)) rfl T.m_check_burnt_pile T.F_check_burnt_pile.kp (b_check_burnt_pile T) .nil pass_leave (pa_cons (pv 0) pa_nil)))
      (pss_one ps_never)), ?_⟩
    exact ⟨_, rfl, a, xs, rfl, hS, h40, fun pl => absurd pl np, fun _ => qe⟩
end
end Fl

namespace Fl
open PySem L2
section
variable {P : Program} {w : World} {K : PySem.W.Frag} {mg : Str → Option Value} {base : Heap} {t : Adr}
theorem ok_check_height (T : Txt K mg t) : FnOk P w K mg base (CXX P w) 1 t.a_check_height t.d_check_height ["pile", "most"] (spHeightX K t.c_TooTall) := by
  refine T.F_check_height.okX sc_check_height (fun vs H Q E h => ?_) (fun cdv A outer s H vs Q E hr h => ?_)
  · obtain ⟨a, xs, m, rfl, hS, h40, m0, m1, q, qe⟩ := h
    rfl
  · obtain ⟨a, xs, m, rfl, hS, h40, m0, m1, q, qe⟩ := h
    refine ⟨_, (pss_cons (ps_set (i := 2) sc_check_height.nd rfl (Or.inl rfl) (pe_callB (len_K (K := K)) rfl T.z_len bt_len (pa_cons (pv 0) pa_nil)))
      (pss_one (ps_if (pt_cmpR op_gt (pv 2) (pv 1) (nomark _)) (pss_one (ps_raise T.e_TooTall.toExcC hr.hd rfl T.x_TooTall (pa_cons (pe_fs (pf_str (by decide +kernel) (pf_val (pv 1) (pf_str (by decide +kernel) (pf_val (pv 2) pf_nil))))) pa_nil))) pss_nil))), ?_⟩
    refine ⟨_, rfl, a, _, rfl, .inl hS, ?_⟩
    rw [len_map]
    refine ⟨_, rfl, _, rfl, _, _, rfl, rfl, _, rfl, ite2D (fun h => ?_) (fun h => q (Int.not_lt.mp h))⟩
    exact ⟨_, rfl, fmtS m0 m1, _, rfl, fmtN (Nat.le_trans h40 (by decide)), fun w => ⟨by show 1 ≤ 1000; decide, qe h⟩⟩
end
end Fl

namespace Fl
open PySem L2
section
variable {P : Program} {w : World} {K : PySem.W.Frag} {mg : Str → Option Value} {base : Heap} {t : Adr}
theorem ok_fewest (T : Txt K mg t) : FnOk P w K mg base (CXX P w) 3 t.a_fewest t.d_fewest ["pile"] (spFewX K t.c_NoPile t.c_TooTall false 7) := by
  refine T.F_fewest.okX sc_fewest (fun vs H Q E h => ?_) (fun cdv A outer s H vs Q E hr h => ?_)
  · obtain ⟨a, xs, rfl, hS, h40, q⟩ := h
    rfl
  · obtain ⟨a, xs, rfl, hS, h40, q⟩ := h
    refine ⟨_, (pss_cons (ps_expr (pe_callS (ok_check_pile (K := K) T) (hr.mono (by omega)) rfl T.m_check_pile T.F_check_pile.kp (b_check_pile T) .nil pass_leave (pa_cons (pv 0) pa_nil)))
      (pss_cons (ps_expr (pe_callS (ok_check_height (K := K) T) (hr.mono (by omega)) rfl T.m_check_height T.F_check_height.kp (b_check_height T) .nil pass_leave (pa_cons (pv 0) (pa_cons (pe_globI rfl T.g_MOST_PLAIN_CAKES_fewest) pa_nil))))
      (pss_one ps_never))), ?_⟩
    rcases q with ⟨np, qe⟩ | ⟨pl, tl, qe⟩
    · exact ⟨_, rfl, a, xs, rfl, hS, h40, fun pl => absurd pl np, fun _ => qe⟩
    · exact ⟨_, rfl, a, xs, rfl, hS, h40, fun _ H1 s1 => ⟨_, rfl, a, xs, _, rfl, s1.seq hS, h40, by decide, by decide, fun z => absurd z (by omega), fun _ => qe H1 s1⟩, fun np => absurd pl np⟩
end
end Fl

namespace Fl
open PySem L2
section
variable {P : Program} {w : World} {K : PySem.W.Frag} {mg : Str → Option Value} {base : Heap} {t : Adr}
theorem ok_burnt_fewest (T : Txt K mg t) : FnOk P w K mg base (CXX P w) 3 t.a_burnt_fewest t.d_burnt_fewest ["pile"] (spFewX K t.c_NoPile t.c_TooTall true 4) := by
  refine T.F_burnt_fewest.okX sc_burnt_fewest (fun vs H Q E h => ?_) (fun cdv A outer s H vs Q E hr h => ?_)
  · obtain ⟨a, xs, rfl, hS, h40, q⟩ := h
    rfl
  · obtain ⟨a, xs, rfl, hS, h40, q⟩ := h
    refine ⟨_, (pss_cons (ps_expr (pe_callS (ok_check_burnt_pile (K := K) T) (hr.mono (by omega)) rfl T.m_check_burnt_pile T.F_check_burnt_pile.kp (b_check_burnt_pile T) .nil pass_leave (pa_cons (pv 0) pa_nil)))
      (pss_cons (ps_expr (pe_callS (ok_check_height (K := K) T) (hr.mono (by omega)) rfl T.m_check_height T.F_check_height.kp (b_check_height T) .nil pass_leave (pa_cons (pv 0) (pa_cons (pe_globI rfl T.g_MOST_BURNT_CAKES_fewest) pa_nil))))
      (pss_one ps_never))), ?_⟩
    rcases q with ⟨np, qe⟩ | ⟨pl, tl, qe⟩
    · exact ⟨_, rfl, a, xs, rfl, hS, h40, fun pl => absurd pl np, fun _ => qe⟩
    · exact ⟨_, rfl, a, xs, rfl, hS, h40, fun _ H1 s1 => ⟨_, rfl, a, xs, _, rfl, s1.seq hS, h40, by decide, by decide, fun z => absurd z (by omega), fun _ => qe H1 s1⟩, fun np => absurd pl np⟩
end
end Fl

namespace Fl
open PySem L2
section
variable {P : Program} {w : World} {K : PySem.W.Frag} {mg : Str → Option Value} {base : Heap} {t : Adr}
theorem ok_between (T : Txt K mg t) : FnOk P w K mg base (CXX P w) 3 t.a_between t.d_between ["one", "other"] (spBetwX K t.c_NoPile t.c_TooTall) := by
  refine T.F_between.okX sc_between (fun vs H Q E h => ?_) (fun cdv A outer s H vs Q E hr h => ?_)
  · obtain ⟨a, c, xs, ys, rfl, hS, hT, h40, g40, q⟩ := h
    rfl
  · obtain ⟨a, c, xs, ys, rfl, hS, hT, h40, g40, q⟩ := h
    refine ⟨_, (pss_cons (ps_expr (pe_callS (ok_check_pile (K := K) T) (hr.mono (by omega)) rfl T.m_check_pile T.F_check_pile.kp (b_check_pile T) .nil pass_leave (pa_cons (pv 0) pa_nil)))
      (pss_cons (ps_expr (pe_callS (ok_check_pile (K := K) T) (hr.mono (by omega)) rfl T.m_check_pile T.F_check_pile.kp (b_check_pile T) .nil pass_leave (pa_cons (pv 1) pa_nil)))
      (pss_cons (ps_if (pt_cmpR op_ne (pe_callB (len_K (K := K)) rfl T.z_len bt_len (pa_cons (pv 0) pa_nil)) (pe_callB (len_K (K := K)) rfl T.z_len bt_len (pa_cons (pv 1) pa_nil)) (nomark _)) (pss_one (ps_raise T.e_NoPile.toExcC hr.hd rfl T.x_NoPile (pa_cons pe_str pa_nil))) pss_nil)
      (pss_cons (ps_expr (pe_callS (ok_check_height (K := K) T) (hr.mono (by omega)) rfl T.m_check_height T.F_check_height.kp (b_check_height T) .nil pass_leave (pa_cons (pv 0) (pa_cons (pe_globI rfl T.g_MOST_PLAIN_CAKES_fewest) pa_nil))))
      (pss_one ps_never))))), ?_⟩
    by_cases p1 : PB false xs
    · refine ⟨_, rfl, a, xs, rfl, hS, h40, fun _ H1 s1 => ?_, fun np => absurd p1 np⟩
      by_cases p2 : PB false ys
      · refine ⟨_, rfl, c, ys, rfl, s1.seq hT, g40, fun _ H2 s2 => ?_, fun np => absurd p2 np⟩
        have S := s1.trans s2
        rcases q with ⟨np, qe⟩ | ⟨_, _, el, tl, qe⟩
        · have ne : xs.length ≠ ys.length := by
            rcases np with z | z | z
            · exact absurd p1 z
            · exact absurd p2 z
            · exact z
          exact ⟨_, rfl, a, _, rfl, .inl (S.seq hS), _, rfl, c, _, rfl, .inl (S.seq hT), rfl, _, rfl, iteN (fun _ => ⟨by show 1 ≤ 1000; decide, qe H2 S⟩) (fun z => by rw [len_map, len_map] at z; injection z with z; omega)⟩
        · exact ⟨_, rfl, a, _, rfl, .inl (S.seq hS), _, rfl, c, _, rfl, .inl (S.seq hT), rfl, _, rfl, iteNS (by rw [len_map, len_map, el]) ⟨_, rfl, a, xs, _, rfl, S.seq hS, h40, by decide, by decide, fun z => absurd z (by omega), fun _ => qe H2 S⟩⟩
      · rcases q with ⟨_, qe⟩ | ⟨_, pl, _⟩
        · exact ⟨_, rfl, c, ys, rfl, s1.seq hT, g40, fun pl => absurd pl p2, fun _ H2 s2 => qe H2 (s1.trans s2)⟩
        · exact absurd pl p2
    · rcases q with ⟨_, qe⟩ | ⟨pl, _⟩
      · exact ⟨_, rfl, a, xs, rfl, hS, h40, fun pl => absurd pl p1, fun _ => qe⟩
      · exact absurd pl p1
end
end Fl

namespace Fl
open PySem L2
section
variable {P : Program} {w : World} {K : PySem.W.Frag} {mg : Str → Option Value} {base : Heap} {t : Adr}
theorem ok_shown (T : Txt K mg t) : FnOk P w K mg base (CXX P w) 3 t.a_shown t.d_shown ["pile"] (spRefuse K t.c_NoPile true) := by
  refine T.F_shown.okX sc_shown (fun vs H Q E h => ?_) (fun cdv A outer s H vs Q E hr h => ?_)
  · obtain ⟨a, xs, rfl, hS, h40, np, qe⟩ := h
    rfl
  · obtain ⟨a, xs, rfl, hS, h40, np, qe⟩ := h
    refine ⟨_, (pss_cons (ps_expr (pe_callS (ok_check_burnt_pile (K := K) T) (hr.mono (by omega)) rfl T.m_check_burnt_pile T.F_check_burnt_pile.kp (b_check_burnt_pile T) .nil pass_leave (pa_cons (pv 0) pa_nil)))
      (pss_one ps_never)), ?_⟩
    exact ⟨_, rfl, a, xs, rfl, hS, h40, fun pl => absurd pl np, fun _ => qe⟩
end
end Fl

namespace Fl
open PySem L2
section
variable {P : Program} {w : World} {K : PySem.W.Frag} {mg : Str → Option Value} {base : Heap} {t : Adr}
theorem ok_Stack___init__ (T : Txt K mg t) : FnOk P w K mg base (CXX P w) 2 t.a_Stack___init__ t.d_Stack___init__ ["self", "pile"] (spInitX K t.c_Stack t.c_NoPile) := by
  refine T.F_Stack___init__.okX sc_Stack___init__ (fun vs H Q E h => ?_) (fun cdv A outer s H vs Q E hr h => ?_)
  · obtain ⟨p, dx, a, xs, rfl, hp, hS, h40, qe, q⟩ := h
    rfl
  · obtain ⟨p, dx, a, xs, rfl, hp, hS, h40, qe, q⟩ := h
    refine ⟨_, (pss_cons (ps_expr (pe_callS (ok_check_pile (K := K) T) (hr.mono (by omega)) rfl T.m_check_pile T.F_check_pile.kp (b_check_pile T) .nil pass_leave (pa_cons (pv 1) pa_nil)))
      (pss_cons (ps_fld (pv 0) (pe_callTy call_list_of rfl T.z_list bt_list (pa_cons (pv 1) pa_nil)) rfl)
      (pss_one (ps_fld (pv 0) (pe_lst pa_nil) rfl)))), ?_⟩
    refine ⟨_, rfl, a, xs, rfl, hS, h40, fun pl H1 s1 => ?_, fun np => qe np⟩
    have h1 := s1 _ _ hp
    refine ⟨_, rfl, a, _, rfl, .inl (s1.seq hS), fun l hl => ?_⟩
    have npl : p ≠ l := ne_of_none h1 hl
    refine ⟨_, rfl, p, t.c_Stack, dx, _, rfl, (by rw [upd_ne npl]; exact h1), T.cl_Stack, T.n_cakes, (by show 0 < 1000; decide), ?_⟩
    refine ⟨Nat.zero_le _, fun d hd => ?_⟩
    have ndp : d ≠ p := fun e => by rw [e, upd_same] at hd; cases hd
    have hd1 : upd H1 l (.lst (xs.map V.int)) d = none := by rwa [upd_ne ndp] at hd
    have ndl : d ≠ l := fun e => by rw [e, upd_same] at hd1; cases hd1
    have hd0 : H1 d = none := by rwa [upd_ne ndl] at hd1
    refine ⟨_, rfl, p, t.c_Stack, dx, _, rfl, (by rw [upd_ne ndp.symm, upd_same]), T.cl_Stack, T.n_done, (by show 1 < 1000; decide), ?_⟩
    refine q pl l d _ (s1.free hl) (s1.free hd0) ndl.symm (fun b o e hb => ?_) upd_same ?_ ?_
    · have e1 := s1 _ _ e
      rw [upd_ne hb, upd_ne (ne_of_none e1 hd0), upd_ne hb, upd_ne (ne_of_none e1 hl)]
      exact e1
    · rw [upd_ne npl.symm, upd_ne ndl.symm, upd_ne npl.symm, upd_same]
    · rw [upd_ne ndp, upd_same]
end
end Fl

namespace Fl
open PySem L2
section
variable {P : Program} {w : World} {K : PySem.W.Frag} {mg : Str → Option Value} {base : Heap} {t : Adr}
theorem ok_Stack_fewest (T : Txt K mg t) : FnOk P w K mg base (CXX P w) 4 t.a_Stack_fewest t.d_Stack_fewest ["self"] (spSFewX t.c_Stack t.c_TooTall) := by
  refine T.F_Stack_fewest.okX sc_Stack_fewest (fun vs H Q E h => ?_) (fun cdv A outer s H vs Q E hr h => ?_)
  · obtain ⟨p, dx, l, d, xs, rfl, hp, hl, pl, tl, qe⟩ := h
    rfl
  · obtain ⟨p, dx, l, d, xs, rfl, hp, hl, pl, tl, qe⟩ := h
    refine ⟨_, (pss_one (ps_ret (pe_callS (ok_fewest (K := K) T) (hr.mono (by omega)) rfl T.m_fewest_fewest T.F_fewest.kp (b_fewest T) .nil pass_leave (pa_cons (pe_fld (pv 0) rfl) pa_nil)))), ?_⟩
    exact ⟨_, rfl, p, t.c_Stack, dx, _, _, rfl, hp, T.cl_Stack, T.n_cakes, flds_cakes _ _, l, xs, rfl, SqL.of hl, by have := pl.2; omega, .inr ⟨pl, tl, qe⟩⟩
end
end Fl

namespace Fl
open PySem L2
section
variable {P : Program} {w : World} {K : PySem.W.Frag} {mg : Str → Option Value} {base : Heap} {t : Adr}
theorem ok_law_cell_at (T : Txt K mg t) : FnOk P w K mg base CX0 1 t.a_law_cell_at t.d_law_cell_at ["script", "k"] (spCell K) := by
  refine T.F_law_cell_at.ok sc_law_cell_at (fun vs H Q E h => ?_) (fun cdv A outer s H vs Q E hr h => ?_)
  · obtain ⟨a, ns, k, rfl, hS, h0, q⟩ := h
    rfl
  · obtain ⟨a, ns, k, rfl, hS, h0, q⟩ := h
    refine ⟨_, (pss_cons (ps_if (pt_cmpR op_lt (pv 1) (pe_callB (len_K (K := K)) rfl T.z_len bt_len (pa_cons (pv 0) pa_nil)) (nomark _)) (pss_one (ps_ret (pe_ix (ix_K (K := K)) (pv 0) (pv 1) (fun _ _ => rfl)))) pss_nil)
      (pss_one (ps_ret pe_int))), ?_⟩
    refine ⟨_, rfl, _, rfl, a, _, rfl, .inl hS, _, _, rfl, rfl, _, rfl, ?_⟩
    refine ite2D (fun h => ?_) (fun _ => q 0)
    rw [len_map] at h
    exact ⟨_, rfl, _, rfl, a, _, _, _, rfl, rfl, hS, atI_int h0 (get_ints (by omega)), q _⟩
end
end Fl

namespace Fl
open PySem L2
section
variable {P : Program} {w : World} {K : PySem.W.Frag} {mg : Str → Option Value} {base : Heap} {t : Adr}
theorem ok_law_pile (T : Txt K mg t) : FnOk P w K mg base CX0 2 t.a_law_pile t.d_law_pile ["script", "at", "most"] (spPile K) := by
  refine T.F_law_pile.ok sc_law_pile (fun vs H Q E h => ?_) (fun cdv A outer s H vs Q E hr h => ?_)
  · obtain ⟨a, ns, i0, m, rfl, hS, h0, hm, hm2, q⟩ := h
    rfl
  · obtain ⟨a, ns, i0, m, rfl, hS, h0, hm, hm2, q⟩ := h
    refine ⟨_, (pss_cons (ps_set (i := 3) sc_law_pile.nd rfl (Or.inl rfl) (pe_op op_add pe_int (pe_op op_mod (pe_call (ok_law_cell_at (K := K) T) (hr.mono (by omega)) rfl T.m_law_cell_at T.F_law_cell_at.kp (b_law_cell_at T) .nil pass0 (pa_cons (pv 0) (pa_cons (pv 1) pa_nil))) (pv 2))))
      (pss_cons (ps_set (i := 4) sc_law_pile.nd rfl (Or.inl rfl) (pe_callTy (call_list_rng rfl) rfl T.z_list bt_list (pa_cons (pe_callTy call_rng2 rfl T.z_range bt_range (pa_cons pe_int (pa_cons (pe_op op_add (pv 3) pe_int) pa_nil))) pa_nil)))
      (pss_cons (ps_set (i := 5) sc_law_pile.nd rfl (Or.inl rfl) (pe_lst pa_nil))
      (pss_cons (ps_for PassesOwn.never rfl (pi_range1 rfl T.z_range (pa_cons (pv 3) pa_nil)) (pg_name (i := 6) sc_law_pile.nd rfl (Or.inl rfl)) (pss_one (ps_expr (pe_bm PySem.F.plainAttrs_list PySem.F.slot_list_append PySem.F.type_list_append mt_append (pv 5) (pa_cons (pe_bm PySem.F.plainAttrs_list PySem.F.slot_list_pop PySem.F.type_list_pop mt_popAt (pv 4) (pa_cons (pe_op op_mod (pe_call (ok_law_cell_at (K := K) T) (hr.mono (by omega)) rfl T.m_law_cell_at T.F_law_cell_at.kp (b_law_cell_at T) .nil pass0 (pa_cons (pv 0) (pa_cons (pe_op op_add (pe_op op_add (pv 1) pe_int) (pv 6)) pa_nil))) (pe_callB (len_K (K := K)) rfl T.z_len bt_len (pa_cons (pv 4) pa_nil))) pa_nil)) pa_nil)))))
      (pss_one (ps_ret (pv 5))))))), ?_⟩
    refine ⟨_, rfl, _, rfl, a, ns, i0, rfl, hS, h0, fun v => ⟨_, rfl, _, _, rfl, rfl, hm, _, _, rfl, rfl, ?_⟩⟩
    have b1 := Int.emod_nonneg v (Int.ne_of_gt hm)
    have b2 := Int.emod_lt_of_pos v hm
    dsimp only
    have z1 : (1 : Int) ≤ 1 + v % m := Int.le_add_of_nonneg_right b1
    have z2 : (1 : Int) + v % m ≤ m := by rw [Int.add_comm]; exact b2
    generalize (1 : Int) + v % m = z at z1 z2
    clear b1 b2
    obtain ⟨n, rfl⟩ := Int.eq_ofNat_of_zero_le (Int.le_trans (by decide) z1)
    have n1 : 1 ≤ n := Int.ofNat_le.mp z1
    have n12 : n ≤ 12 := Int.ofNat_le.mp (Int.le_trans z2 hm2)
    have i12 : (n : Int) ≤ 12 := Int.ofNat_le.mpr n12
    -- left = list(range(1, size + 1)); pile = []
    refine ⟨_, rfl, _, _, rfl, rfl, _, _, rfl, fun r hr0 => ⟨r, _, _, rfl, upd_same, by decide, Int.le_trans (Int.add_le_add_right i12 1) (by decide), by decide, Int.le_trans (by decide) (Int.add_nonneg (Int.natCast_nonneg n) (by decide)), fun l hl => ⟨Nat.zero_le _, fun p hp => ?_⟩⟩⟩
    have nlr : l ≠ r := fun e => by rw [e, upd_same] at hl; cases hl
    have hl0 : H l = none := by rwa [upd_ne nlr] at hl
    have npl : p ≠ l := fun e => by rw [e, upd_same] at hp; cases hp
    have hp1 : upd H r (.rng 1 ((n : Int) + 1)) p = none := by rwa [upd_ne npl] at hp
    have npr : p ≠ r := fun e => by rw [e, upd_same] at hp1; cases hp1
    have hp0 : H p = none := by rwa [upd_ne npr] at hp1
    refine ⟨_, rfl, _, rfl, Int.le_trans (by decide) (Int.natCast_nonneg n), Int.lt_of_le_of_lt i12 (by decide), for_range (n := n) (fun i σ H2 => ∃ (xs ls : List Int) (kv : Option V), σ = [some (.ref a), some (.int i0), some (.int m), some (.int (n : Int)), some (.ref l), some (.ref p), kv] ∧ Same H H2 ∧
      H2 l = some (.lst (ls.map V.int)) ∧ H2 p = some (.lst (xs.map V.int)) ∧ xs.length = i ∧ ls.length + i = n ∧ (xs ++ ls).Perm (Fs.upTo 1 ((n : Int) + 1))) ?_ ?_ ?_⟩
    · refine ⟨[], Fs.upTo 1 ((n : Int) + 1), none, rfl, (((Same.new hr0).up hl0).up hp0), ?_, upd_same, rfl, ?_, List.Perm.refl _⟩
      · rw [upd_ne npl.symm]; exact upd_same
      · rw [Fs.length_upTo, Int.add_sub_cancel]; rfl
    · rintro i σ H2 hi ⟨xs, ls, kv, rfl, s2, hl2, hp2, e1, e2, pm⟩
      have hlen : 0 < ls.length := Nat.pos_of_ne_zero fun z => by rw [z, Nat.zero_add] at e2; exact absurd hi (by rw [e2]; exact Nat.lt_irrefl _)
      have ip : (0 : Int) < ls.length := Int.natCast_pos.mpr hlen
      have l12 : (ls.length : Int) ≤ 12 := Int.ofNat_le.mpr (Nat.le_trans (Nat.le.intro e2) n12)
      refine ⟨_, rfl, .inl ⟨rfl, _, SqL.of hp2⟩, _, rfl, .inl ⟨rfl, _, SqL.of hl2⟩, _, rfl, _, rfl, _, _, rfl, rfl, _, rfl, _, _, rfl, rfl, a, ns, _, rfl, s2.seq hS, Int.add_nonneg (Int.add_nonneg h0 (by decide)) (Int.add_nonneg (by decide) (Int.natCast_nonneg _)), fun u => ⟨_, rfl, l, _, rfl, .inl (SqL.of hl2), _, _, rfl, rfl, ?_, ?_⟩⟩
      · rw [len_map]; exact ip
      rw [len_map]
      dsimp only
      have c1 := Int.emod_nonneg u (Int.ne_of_gt ip)
      have c2 := Int.emod_lt_of_pos u ip
      generalize hj : u % (ls.length : Int) = j at c1 c2 ⊢
      have hjl : j.toNat < ls.length := (Int.toNat_lt c1).mpr c2
      refine ⟨l, _, _, j.toNat, _, rfl, rfl, hl2, Int.le_trans (by decide) c1, Int.lt_of_lt_of_le c2 (Int.le_trans l12 (by decide)), by rw [len_map]; exact seq_at c1 c2, get_ints hjl, p, _, _, rfl, rfl, (by rw [upd_ne npl]; exact hp2), small1000 (by rw [len_map, e1]; exact Nat.le_trans (Nat.le_of_lt hi) (Nat.le_trans n12 (by decide))), ?_⟩
      refine ⟨xs ++ [ls.getD j.toNat 0], ls.eraseIdx j.toNat, _, rfl, ((s2.up hl0).up hp0), ?_, ?_, ?_, ?_, ?_⟩
      · rw [upd_ne npl.symm, upd_same, erase_map]
      · rw [upd_same]; simp
      · simp [e1]
      · rw [List.length_eraseIdx_of_lt hjl, Nat.add_comm i 1, ← Nat.add_assoc, Nat.sub_add_cancel hlen]; exact e2
      · refine List.Perm.trans ?_ pm
        rw [List.append_assoc]
        refine List.Perm.append_left _ ?_
        exact Fs.erase_perm ls j.toNat hjl
    · rintro σ H2 ⟨xs, ls, kv, rfl, s2, hl2, hp2, e1, e2, pm⟩
      have hls : ls = [] := List.eq_nil_of_length_eq_zero (Nat.add_right_cancel (e2.trans (Nat.zero_add n).symm))
      subst hls
      rw [List.append_nil] at pm
      exact ⟨_, rfl, q p H2 xs hp0 s2 hp2 ⟨by rw [e1]; exact n1, by rw [e1]; exact pm⟩ (by rw [e1]; exact z2)⟩
end
end Fl

namespace Fl
open PySem L2
section
variable {P : Program} {w : World} {K : PySem.W.Frag} {mg : Str → Option Value} {base : Heap} {t : Adr}
theorem ok_law_burnt (T : Txt K mg t) : FnOk P w K mg base CX0 1 t.a_law_burnt t.d_law_burnt ["pile", "cell"] (spBurntX K) := by
  refine T.F_law_burnt.ok sc_law_burnt (fun vs H Q E h => ?_) (fun cdv A outer s H vs Q E hr h => ?_)
  · obtain ⟨a, xs, c, rfl, hS, h12, q⟩ := h
    rfl
  · obtain ⟨a, xs, c, rfl, hS, h12, q⟩ := h
    refine ⟨_, (pss_cons (ps_set (i := 2) sc_law_burnt.nd rfl (Or.inl rfl) (pe_lst pa_nil))
      (pss_cons (ps_for PassesOwn.never rfl (pi_list (pv 0)) (pg_name (i := 3) sc_law_burnt.nd rfl (Or.inl rfl)) (pss_cons (ps_expr (pe_bm PySem.F.plainAttrs_list PySem.F.slot_list_append PySem.F.type_list_append mt_append (pv 2) (pa_cons (pe_ix (ix_K (K := K)) (pe_lst (pa_cons (pv 3) (pa_cons (pe_un un_neg (pv 3)) pa_nil))) (pe_op op_mod (pv 1) pe_int) (fun _ _ => rfl)) pa_nil)))
      (pss_one (ps_set (i := 1) sc_law_burnt.nd rfl (Or.inl rfl) (pe_op op_fdiv (pv 1) pe_int)))))
      (pss_one (ps_ret (pv 2))))), ?_⟩
    refine ⟨Nat.zero_le _, fun p hp => ?_⟩
    refine ⟨_, rfl, a, rfl, ⟨_, (Same.new hp).seq hS⟩, for_list (K := K) (a := a) (xs := xs.map V.int) (fun i σ H2 => ∃ (ys : List Int) (c : Int) (kv : Option V), σ = [some (.ref a), some (.int c), some (.ref p), kv] ∧ Same H H2 ∧
      H2 p = some (.lst (ys.map V.int)) ∧ ys.map Fs.absI = (xs.take i).map Fs.absI) ?_ (fun i σ H2 _ ⟨_, _, _, _, s2, _⟩ => s2.seq hS) ?_ ?_⟩
    · exact ⟨[], c, none, rfl, Same.new hp, upd_same, by simp⟩
    · rintro i y σ H2 hi ⟨ys, c, kv, rfl, s2, hp2, e1⟩
      obtain ⟨x, rfl, hx⟩ := map_get hi
      have hil : i < xs.length := (List.getElem?_eq_some_iff.mp hx).1
      have hyl : ys.length = i := by have := congrArg List.length e1; simp at this; omega
      have b1 := Int.emod_nonneg c (show (2 : Int) ≠ 0 by decide)
      have b2 := Int.emod_lt_of_pos c (show (0 : Int) < 2 by decide)
      -- found.append([cake, -cake][cell % 2])
      refine ⟨_, rfl, .inl ⟨rfl, _, SqL.of hp2⟩, _, rfl, _, rfl, _, rfl, small12 (by show 2 ≤ 1000; decide), fun d hd => ⟨_, rfl, _, _, rfl, rfl, (by show (0 : Int) < 2; decide), d, _, _, .int (if c % 2 = 0 then x else -x), rfl, rfl, SqL.of upd_same, ?_, p, _, _, rfl, rfl, (by rw [upd_ne (ne_of_none hp2 hd)]; exact hp2), small1000 (by rw [len_map]; omega), ?_⟩⟩
      · refine atI_int b1 ?_
        by_cases hc : c % 2 = 0
        · rw [hc, if_pos rfl]; rfl
        · have hc1 : c % 2 = 1 := by omega
          rw [hc1, if_neg (by decide)]; rfl
      refine ⟨_, rfl, _, _, rfl, rfl, ⟨by decide, by decide⟩, ys ++ [if c % 2 = 0 then x else -x], _, _, rfl, ?_, ?_, ?_⟩
      · exact (s2.up (s2.free hd)).up hp
      · rw [upd_same]; simp
      · rw [List.map_append, e1, List.take_add_one, hx]
        simp only [List.map_append, List.map_cons, List.map_nil, Option.toList_some]
        congr 2
        split
        · rfl
        · unfold Fs.absI
          split <;> split <;> omega
    · rintro σ H2 ⟨ys, c, kv, rfl, s2, hp2, e1⟩
      rw [len_map, List.take_length] at e1
      exact ⟨_, rfl, q p H2 ys hp s2 hp2 e1⟩
end
end Fl

namespace Fl
open PySem L2
section
variable {P : Program} {w : World} {K : PySem.W.Frag} {mg : Str → Option Value} {base : Heap} {t : Adr}
theorem ok_law_which (T : Txt K mg t) : FnOkH P w K mg base 1 t.a_law_which t.d_law_which ["e"] (spWhich t) := by
  refine T.F_law_which.okH sc_law_which (fun vs H Q E h => ?_) (fun cdv A outer s H vs Q E hr h => ?_)
  · obtain ⟨e, i, rfl, hi, he, q⟩ := h
    rfl
  · obtain ⟨e, i, rfl, hi, he, q⟩ := h
    refine ⟨_, (pss_cons (ps_set (i := 1) sc_law_which.nd rfl (Or.inl rfl) (pe_lst (pa_cons (pe_callB call_isexc rfl T.z_isinstance bt_isinstance (pa_cons (pv 0) (pa_cons (pe_glob (v := .ref t.c_NoPile) rfl T.x_NoPile rfl) pa_nil))) (pa_cons (pe_callB call_isexc rfl T.z_isinstance bt_isinstance (pa_cons (pv 0) (pa_cons (pe_glob (v := .ref t.c_NoTurn) rfl T.x_NoTurn rfl) pa_nil))) (pa_cons (pe_callB call_isexc rfl T.z_isinstance bt_isinstance (pa_cons (pv 0) (pa_cons (pe_glob (v := .ref t.c_TooTall) rfl T.x_TooTall rfl) pa_nil))) (pa_cons (pe_callB call_isexc rfl T.z_isinstance bt_isinstance (pa_cons (pv 0) (pa_cons (pe_glob (v := .ref t.c_NoBack) rfl T.x_NoBack rfl) pa_nil))) pa_nil))))))
      (pss_one (ps_ret (pe_op op_cat (pv 1) (pe_lst (pa_cons (pe_callB call_isexc rfl T.z_isinstance bt_isinstance (pa_cons (pv 0) (pa_cons (pe_glob (v := .ref t.c_BadLine) rfl T.x_BadLine rfl) pa_nil))) (pa_cons (pe_callB call_isexc rfl T.z_isinstance bt_isinstance (pa_cons (pv 0) (pa_cons (pe_bltn (v := .ty "ValueError") rfl T.z_ValueError bt_ValueError rfl) pa_nil))) pa_nil))))))), ?_⟩
    obtain ⟨b0, b1, b2, b3, b4, C, he, F, k0, k1, k2, k3, k4, k5, eb⟩ : ∃ (b0 b1 b2 b3 b4 : Bool) (C : Addr), H e = some (.ext (IsExc e (.ref C))) ∧ ExcF K C ∧ PySem.W.kitOne K (.ref C) (.ref t.c_NoPile) = some b0 ∧ PySem.W.kitOne K (.ref C) (.ref t.c_NoTurn) = some b1 ∧ PySem.W.kitOne K (.ref C) (.ref t.c_TooTall) = some b2 ∧
        PySem.W.kitOne K (.ref C) (.ref t.c_NoBack) = some b3 ∧ PySem.W.kitOne K (.ref C) (.ref t.c_BadLine) = some b4 ∧ PySem.W.kitOne K (.ref C) (.type "ValueError") = some true ∧ [b0, b1, b2, b3, b4, true] = toldB i := by
      match i, hi with
      | 0, _ => exact ⟨_, _, _, _, _, _, he, T.e_NoPile, T.i_NoPile_NoPile, T.i_NoPile_NoTurn, T.i_NoPile_TooTall, T.i_NoPile_NoBack, T.i_NoPile_BadLine, T.i_NoPile_ValueError, rfl⟩
      | 1, _ => exact ⟨_, _, _, _, _, _, he, T.e_NoTurn, T.i_NoTurn_NoPile, T.i_NoTurn_NoTurn, T.i_NoTurn_TooTall, T.i_NoTurn_NoBack, T.i_NoTurn_BadLine, T.i_NoTurn_ValueError, rfl⟩
      | 2, _ => exact ⟨_, _, _, _, _, _, he, T.e_TooTall, T.i_TooTall_NoPile, T.i_TooTall_NoTurn, T.i_TooTall_TooTall, T.i_TooTall_NoBack, T.i_TooTall_BadLine, T.i_TooTall_ValueError, rfl⟩
    refine ⟨_, rfl, e, C, _, b0, rfl, he, F, .inl ⟨_, rfl, k0⟩, _, rfl, e, C, _, b1, rfl, he, F, .inl ⟨_, rfl, k1⟩, _, rfl, e, C, _, b2, rfl, he, F, .inl ⟨_, rfl, k2⟩, _, rfl, e, C, _, b3, rfl, he, F, .inl ⟨_, rfl, k3⟩, small12 (by show 4 ≤ 1000; decide), fun p1 hp1 => ?_⟩
    have he1 : upd H p1 (.lst [.bl b0, .bl b1, .bl b2, .bl b3]) e = some (.ext (IsExc e (.ref C))) := by rw [upd_ne (ne_of_none he hp1)]; exact he
    refine ⟨_, rfl, _, rfl, e, C, _, b4, rfl, he1, F, .inl ⟨_, rfl, k4⟩, _, rfl, e, C, _, true, rfl, he1, F, .inr ⟨_, rfl, k5⟩, small12 (by show 2 ≤ 1000; decide), fun p2 hp2 => ?_⟩
    have n12 : p1 ≠ p2 := ne_of_none upd_same hp2
    refine ⟨p1, p2, _, _, rfl, rfl, (by rw [upd_ne n12, upd_same]), upd_same, small12 (by show 6 ≤ 1000; decide), fun p3 hp3 => ?_⟩
    have t1 : Same H (upd H p1 (.lst [.bl b0, .bl b1, .bl b2, .bl b3])) := Same.new hp1
    have t2 := t1.up (t1.free hp2) (o := .lst [.bl b4, .bl true])
    refine q p3 _ (t2.free hp3) (t2.up (t2.free hp3)) ?_
    rw [upd_same, ← eb]
    rfl
end
end Fl

namespace Fl
open PySem L2
section
variable {P : Program} {w : World} {K : PySem.W.Frag} {mg : Str → Option Value} {base : Heap} {t : Adr}
theorem ok_law_one (T : Txt K mg t) : FnOk P w K mg base (CXX P w) 4 t.a_law_one t.d_law_one ["way", "pile", "turns", "other"] (spOneX K t) := by
  refine T.F_law_one.okX sc_law_one (fun vs H Q E h => ?_) (fun cdv A outer s H vs Q E hr h => ?_)
  · obtain ⟨w, a, b, c, xs, ts, ys, i, rfl, hA, hB, hC, w0, w7, h40, hb, py, cd, qe⟩ := h
    rfl
  · obtain ⟨w, a, b, c, xs, ts, ys, i, rfl, hA, hB, hC, w0, w7, h40, hb, py, cd, qe⟩ := h
    refine ⟨_, (pss_one (ps_if (pt_cmpR op_eq (pv 0) pe_int (nomark _)) (pss_one (ps_expr (pe_callS (ok_behind (K := K) T) (hr.mono (by omega)) rfl T.m_behind T.F_behind.kp (b_behind T) .nil pass_leave (pa_cons (pv 1) (pa_cons (pv 2) pa_nil))))) (pss_one (ps_if (pt_cmpR op_eq (pv 0) pe_int (nomark _)) (pss_one (ps_expr (pe_callS (ok_gaps (K := K) T) (hr.mono (by omega)) rfl T.m_gaps T.F_gaps.kp (b_gaps T) .nil pass_leave (pa_cons (pv 1) pa_nil)))) (pss_one (ps_if (pt_cmpR op_eq (pv 0) pe_int (nomark _)) (pss_one (ps_expr (pe_callS (ok_plan (K := K) T) (hr.mono (by omega)) rfl T.m_plan T.F_plan.kp (b_plan T) .nil pass_leave (pa_cons (pv 1) pa_nil)))) (pss_one (ps_if (pt_cmpR op_eq (pv 0) pe_int (nomark _)) (pss_one (ps_expr (pe_callS (ok_fewest (K := K) T) (hr.mono (by omega)) rfl T.m_fewest_fewest T.F_fewest.kp (b_fewest T) .nil pass_leave (pa_cons (pv 1) pa_nil)))) (pss_one (ps_if (pt_cmpR op_eq (pv 0) pe_int (nomark _)) (pss_one (ps_expr (pe_callS (ok_between (K := K) T) (hr.mono (by omega)) rfl T.m_between T.F_between.kp (b_between T) .nil pass_leave (pa_cons (pv 1) (pa_cons (pv 3) pa_nil))))) (pss_one (ps_if (pt_cmpR op_eq (pv 0) pe_int (nomark _)) (pss_one (ps_expr (pe_callS (ok_between (K := K) T) (hr.mono (by omega)) rfl T.m_between T.F_between.kp (b_between T) .nil pass_leave (pa_cons (pv 3) (pa_cons (pv 1) pa_nil))))) (pss_one (ps_expr (pe_makeS T.K_Stack (ok_Stack___init__ (K := K) T) (hr.mono (by omega)) rfl T.x_Stack (b_Stack___init__ T) .nil pass_leave (pa_cons (pv 1) pa_nil)))))))))))))))), ?_⟩
    have y40 : ys.length ≤ 40 := Nat.le_trans py.2 (by decide)
    refine ⟨_, rfl, rfl, _, rfl, ite2D (fun e => ?_) (fun e0 => ?_)⟩
    · refine ⟨_, rfl, _, rfl, a, b, xs, ts, rfl, hA, hB, h40, hb, ?_⟩
      rcases cd with ⟨rfl, np⟩ | ⟨rfl, _, pl, gn⟩
      · exact .inl ⟨np, qe⟩
      · exact .inr ⟨pl, gn, qe⟩
    have np : i = 0 ∧ ¬ PB false xs := by
      rcases cd with z | ⟨_, z, _⟩
      · exact z
      · exact absurd (by rw [z]) e0
    obtain ⟨rfl, np⟩ := np
    refine ⟨_, rfl, rfl, _, rfl, ite2D (fun e => ?_) (fun e1 => ?_)⟩
    · exact ⟨_, rfl, a, xs, rfl, hA, h40, np, qe⟩
    refine ⟨_, rfl, rfl, _, rfl, ite2D (fun e => ?_) (fun e2 => ?_)⟩
    · exact ⟨_, rfl, a, xs, rfl, hA, h40, np, qe⟩
    refine ⟨_, rfl, rfl, _, rfl, ite2D (fun e => ?_) (fun e3 => ?_)⟩
    · exact ⟨_, rfl, a, xs, rfl, hA, h40, .inl ⟨np, qe⟩⟩
    refine ⟨_, rfl, rfl, _, rfl, ite2D (fun e => ?_) (fun e4 => ?_)⟩
    · exact ⟨_, rfl, _, rfl, a, c, xs, ys, rfl, hA, hC, h40, y40, .inl ⟨.inl np, qe⟩⟩
    refine ⟨_, rfl, rfl, _, rfl, ite2D (fun e => ?_) (fun e5 => ?_)⟩
    · exact ⟨_, rfl, _, rfl, c, a, ys, xs, rfl, hC, hA, y40, h40, .inl ⟨.inr (.inl np), qe⟩⟩
    refine ⟨_, rfl, fun x dx hx hd nd => ?_⟩
    have s1 := Same.new (o := .own x) hd
    have s2 := s1.up hx (o := .ins t.c_Stack dx [])
    exact ⟨x, dx, a, xs, rfl, upd_same, s2.seq hA, h40, fun _ H' s => qe H' (s2.trans s), fun pl => absurd pl np⟩
end
end Fl

namespace Fl
open PySem L2
section
variable {P : Program} {w : World} {K : PySem.W.Frag} {mg : Str → Option Value} {base : Heap} {t : Adr}
theorem ok_law_other (T : Txt K mg t) : FnOk P w K mg base (CXX P w) 4 t.a_law_other t.d_law_other ["way", "pile", "turns"] (spOtherX K t) := by
  refine T.F_law_other.okX sc_law_other (fun vs H Q E h => ?_) (fun cdv A outer s H vs Q E hr h => ?_)
  · obtain ⟨w, a, b, xs, ts, i, rfl, hA, hB, w0, w7, h40, hb, cd, qe⟩ := h
    rfl
  · obtain ⟨w, a, b, xs, ts, i, rfl, hA, hB, w0, w7, h40, hb, cd, qe⟩ := h
    refine ⟨_, (pss_one (ps_if (pt_cmpR op_eq (pv 0) pe_int (nomark _)) (pss_one (ps_expr (pe_callS (ok_burnt_behind (K := K) T) (hr.mono (by omega)) rfl T.m_burnt_behind T.F_burnt_behind.kp (b_burnt_behind T) .nil pass_leave (pa_cons (pv 1) (pa_cons (pv 2) pa_nil))))) (pss_one (ps_if (pt_cmpR op_eq (pv 0) pe_int (nomark _)) (pss_one (ps_expr (pe_callS (ok_burnt_gaps (K := K) T) (hr.mono (by omega)) rfl T.m_burnt_gaps T.F_burnt_gaps.kp (b_burnt_gaps T) .nil pass_leave (pa_cons (pv 1) pa_nil)))) (pss_one (ps_if (pt_cmpR op_eq (pv 0) pe_int (nomark _)) (pss_one (ps_expr (pe_callS (ok_burnt_plan (K := K) T) (hr.mono (by omega)) rfl T.m_burnt_plan T.F_burnt_plan.kp (b_burnt_plan T) .nil pass_leave (pa_cons (pv 1) pa_nil)))) (pss_one (ps_if (pt_cmpR op_eq (pv 0) pe_int (nomark _)) (pss_one (ps_expr (pe_callS (ok_burnt_fewest (K := K) T) (hr.mono (by omega)) rfl T.m_burnt_fewest T.F_burnt_fewest.kp (b_burnt_fewest T) .nil pass_leave (pa_cons (pv 1) pa_nil)))) (pss_one (ps_expr (pe_callS (ok_shown (K := K) T) (hr.mono (by omega)) rfl T.m_shown T.F_shown.kp (b_shown T) .nil pass_leave (pa_cons (pv 1) pa_nil)))))))))))), ?_⟩
    refine ⟨_, rfl, rfl, _, rfl, ite2D (fun e => ?_) (fun e0 => ?_)⟩
    · refine ⟨_, rfl, _, rfl, a, b, xs, ts, rfl, hA, hB, h40, hb, ?_⟩
      rcases cd with ⟨rfl, np⟩ | ⟨rfl, _, pl, gn⟩
      · exact .inl ⟨np, qe⟩
      · exact .inr ⟨pl, gn, qe⟩
    have np : i = 0 ∧ ¬ PB true xs := by
      rcases cd with z | ⟨_, z, _⟩
      · exact z
      · exact absurd (by rw [z]) e0
    obtain ⟨rfl, np⟩ := np
    refine ⟨_, rfl, rfl, _, rfl, ite2D (fun e => ?_) (fun e1 => ?_)⟩
    · exact ⟨_, rfl, a, xs, rfl, hA, h40, np, qe⟩
    refine ⟨_, rfl, rfl, _, rfl, ite2D (fun e => ?_) (fun e2 => ?_)⟩
    · exact ⟨_, rfl, a, xs, rfl, hA, h40, np, qe⟩
    refine ⟨_, rfl, rfl, _, rfl, ite2D (fun e => ?_) (fun e3 => ?_)⟩
    · exact ⟨_, rfl, a, xs, rfl, hA, h40, .inl ⟨np, qe⟩⟩
    · exact ⟨_, rfl, a, xs, rfl, hA, h40, np, qe⟩
end
end Fl

namespace Fl
open PySem L2
section
variable {P : Program} {w : World} {K : PySem.W.Frag} {mg : Str → Option Value} {base : Heap} {t : Adr}
theorem ok_law_rest (T : Txt K mg t) : FnOk P w K mg base (CXX P w) 5 t.a_law_rest t.d_law_rest ["way", "size", "other"] (spRestX K t) := by
  refine T.F_law_rest.okX sc_law_rest (fun vs H Q E h => ?_) (fun cdv A outer s H vs Q E hr h => ?_)
  · obtain ⟨w, n, c, ys, i, rfl, hC, n0, n1, py, cd, qe⟩ := h
    rfl
  · obtain ⟨w, n, c, ys, i, rfl, hC, n0, n1, py, cd, qe⟩ := h
    refine ⟨_, (pss_one (ps_if (pt_cmpR op_eq (pv 0) pe_int (nomark _)) (pss_one (ps_expr (pe_callS (ok_counts (K := K) T) (hr.mono (by omega)) rfl T.m_counts T.F_counts.kp (b_counts T) .nil pass_leave (pa_cons (pv 1) pa_nil)))) (pss_one (ps_if (pt_cmpR op_eq (pv 0) pe_int (nomark _)) (pss_one (ps_expr (pe_callS (ok_burnt_counts (K := K) T) (hr.mono (by omega)) rfl T.m_burnt_counts T.F_burnt_counts.kp (b_burnt_counts T) .nil pass_leave (pa_cons (pv 1) pa_nil)))) (pss_one (ps_if (pt_cmpR op_eq (pv 0) pe_int (nomark _)) (pss_one (ps_expr (pe_callS (ok_fewest (K := K) T) (hr.mono (by omega)) rfl T.m_fewest_fewest T.F_fewest.kp (b_fewest T) .nil pass_leave (pa_cons (pe_list_down rfl rfl T.z_list rfl T.z_range (pa_cons (pv 1) (pa_cons pe_int (pa_cons (pe_un un_neg pe_int) pa_nil)))) pa_nil)))) (pss_one (ps_if (pt_cmpR op_eq (pv 0) pe_int (nomark _)) (pss_one (ps_expr (pe_callS (ok_burnt_fewest (K := K) T) (hr.mono (by omega)) rfl T.m_burnt_fewest T.F_burnt_fewest.kp (b_burnt_fewest T) .nil pass_leave (pa_cons (pe_list_down rfl rfl T.z_list rfl T.z_range (pa_cons (pv 1) (pa_cons pe_int (pa_cons (pe_un un_neg pe_int) pa_nil)))) pa_nil)))) (pss_one (ps_if (pt_cmpR op_eq (pv 0) pe_int (nomark _)) (pss_one (ps_expr (pe_methS0 (pe_makeS T.K_Stack (ok_Stack___init__ (K := K) T) (hr.mono (by omega)) rfl T.x_Stack (b_Stack___init__ T) .nil pass_leave (pa_cons (pe_list_down rfl rfl T.z_list rfl T.z_range (pa_cons (pv 1) (pa_cons pe_int (pa_cons (pe_un un_neg pe_int) pa_nil)))) pa_nil)) T.cl_Stack T.M_Stack_fewest (ok_Stack_fewest (K := K) T) (hr.mono (by omega)) (b_Stack_fewest T) .nil pass_leave))) (pss_one (ps_if (pt_cmpR op_eq (pv 0) pe_int (nomark _)) (pss_one (ps_expr (pe_callS (ok_between (K := K) T) (hr.mono (by omega)) rfl T.m_between T.F_between.kp (b_between T) .nil pass_leave (pa_cons (pe_list_down rfl rfl T.z_list rfl T.z_range (pa_cons (pv 1) (pa_cons pe_int (pa_cons (pe_un un_neg pe_int) pa_nil)))) (pa_cons (pe_callTy (call_list_rng rfl) rfl T.z_list bt_list (pa_cons (pe_callTy call_rng2 rfl T.z_range bt_range (pa_cons pe_int (pa_cons (pe_op op_add (pv 1) pe_int) pa_nil))) pa_nil)) pa_nil))))) (pss_one (ps_expr (pe_callS (ok_between (K := K) T) (hr.mono (by omega)) rfl T.m_between T.F_between.kp (b_between T) .nil pass_leave (pa_cons (pe_list_down rfl rfl T.z_list rfl T.z_range (pa_cons (pv 1) (pa_cons pe_int (pa_cons (pe_un un_neg pe_int) pa_nil)))) (pa_cons (pv 2) pa_nil))))))))))))))))), ?_⟩
    have y40 : ys.length ≤ 40 := Nat.le_trans py.2 (by decide)
    have wi : ∀ {k : Int}, V.int w = V.int k → w = k := fun e => by injection e
    refine if_gen fun R hR => ?_
    refine ⟨_, rfl, rfl, _, rfl, ite2D (fun e => ?_) (fun e0 => ?_)⟩
    · have e := wi e
      have z : i = 2 ∧ ¬ (1 ≤ n ∧ n ≤ 6) := condR_0 cd e
      obtain ⟨rfl, z⟩ := z
      exact ⟨_, rfl, n, rfl, n0, n1, z, qe H (Same.refl _)⟩
    show R _ _ _
    rw [hR]
    clear hR R
    refine if_gen fun R hR => ?_
    refine ⟨_, rfl, rfl, _, rfl, ite2D (fun e => ?_) (fun e1 => ?_)⟩
    · have e := wi e
      have z : i = 2 ∧ ¬ (1 ≤ n ∧ n ≤ 4) := condR_1 cd e
      obtain ⟨rfl, z⟩ := z
      exact ⟨_, rfl, n, rfl, n0, n1, z, qe H (Same.refl _)⟩
    show R _ _ _
    rw [hR]
    clear hR R
    refine if_gen fun R hR => ?_
    refine ⟨_, rfl, rfl, _, rfl, ite2D (fun e => ?_) (fun e2 => ?_)⟩
    · have e := wi e
      have z : i = 2 ∧ 8 ≤ n ∧ n ≤ 12 := condR_2 cd e
      obtain ⟨rfl, z1, z2⟩ := z
      obtain ⟨d1, d2⟩ := down_plain (n := n) (Int.le_trans (by decide) z1) z2
      exact ⟨_, rfl, _, rfl, _, _, rfl, ⟨(lim20 z1 z2).lo, (lim20 z1 z2).hi, by decide, by decide⟩, fun l hl => ⟨l, _, rfl, SqL.of upd_same, Nat.le_trans d1.2 (by decide), .inr ⟨d1, Int.ofNat_lt.mp (by rw [d2]; exact z1), fun H' s => qe H' ((Same.new hl).trans s)⟩⟩⟩
    show R _ _ _
    rw [hR]
    clear hR R
    refine if_gen fun R hR => ?_
    refine ⟨_, rfl, rfl, _, rfl, ite2D (fun e => ?_) (fun e3 => ?_)⟩
    · have e := wi e
      have z : i = 2 ∧ 5 ≤ n ∧ n ≤ 12 := condR_3 cd e
      obtain ⟨rfl, z1, z2⟩ := z
      obtain ⟨d1, d2⟩ := down_plain (n := n) (Int.le_trans (by decide) z1) z2
      exact ⟨_, rfl, _, rfl, _, _, rfl, ⟨(lim20 z1 z2).lo, (lim20 z1 z2).hi, by decide, by decide⟩, fun l hl => ⟨l, _, rfl, SqL.of upd_same, Nat.le_trans d1.2 (by decide), .inr ⟨⟨by rw [d1.1.abs]; exact d1.1, by rw [d1.1.abs]; exact d1.2⟩, Int.ofNat_lt.mp (by rw [d2]; exact z1), fun H' s => qe H' ((Same.new hl).trans s)⟩⟩⟩
    show R _ _ _
    rw [hR]
    clear hR R
    refine if_gen fun R hR => ?_
    refine ⟨_, rfl, rfl, _, rfl, ite2D (fun e => ?_) (fun e4 => ?_)⟩
    · have e := wi e
      have z : i = 2 ∧ 8 ≤ n ∧ n ≤ 12 := condR_4 cd e
      obtain ⟨rfl, z1, z2⟩ := z
      obtain ⟨d1, d2⟩ := down_plain (n := n) (Int.le_trans (by decide) z1) z2
      refine ⟨_, rfl, _, rfl, _, _, rfl, ⟨(lim20 z1 z2).lo, (lim20 z1 z2).hi, by decide, by decide⟩, fun l hl x dx hx hd nd => ?_⟩
      have s0 := Same.new (o := .lst ((Fs.upTo (0 + 1) (n + 1)).reverse.map V.int)) hl
      have s1 := s0.up (s0.free hd) (o := .own x)
      have s2 := s1.up (s0.free hx) (o := .ins t.c_Stack dx [])
      have hl2 : upd (upd (upd H l (.lst ((Fs.upTo (0 + 1) (n + 1)).reverse.map V.int))) dx (.own x)) x (.ins t.c_Stack dx []) l = some (.lst ((Fs.upTo (0 + 1) (n + 1)).reverse.map V.int)) := by
        rw [upd_ne (ne_of_none upd_same hx), upd_ne (ne_of_none upd_same hd), upd_same]
      refine ⟨x, dx, l, _, rfl, upd_same, SqL.of hl2, Nat.le_trans d1.2 (by decide), fun np => absurd d1 np, fun _ l2 d H' f1 f2 nld k1 k2 k3 k4 => ⟨rfl, ?_⟩⟩
      refine ⟨x, dx, _, rfl, k2, flds_no _ _ (by decide +kernel) (by decide +kernel), x, dx, l2, d, _, rfl, k2, k3, d1, Int.ofNat_lt.mp (by rw [d2]; exact z1), fun H2 s3 => qe H2 ?_⟩
      intro b o eb
      refine s3 _ _ (k1 b o (s2 _ _ eb) ?_)
      exact ne_of_none (s0 _ _ eb) hx
    show R _ _ _
    rw [hR]
    clear hR R
    refine if_gen fun R hR => ?_
    refine ⟨_, rfl, rfl, _, rfl, ite2D (fun e => ?_) (fun e5 => ?_)⟩
    · have e := wi e
      have z : i = 2 ∧ 8 ≤ n ∧ n ≤ 12 := condR_5 cd e
      obtain ⟨rfl, z1, z2⟩ := z
      obtain ⟨d1, d2⟩ := down_plain (n := n) (Int.le_trans (by decide) z1) z2
      obtain ⟨u1, u2⟩ := up_plain (n := n) (Int.le_trans (by decide) z1) z2
      refine ⟨_, rfl, _, rfl, _, _, rfl, ⟨(lim20 z1 z2).lo, (lim20 z1 z2).hi, by decide, by decide⟩, fun l hl => ?_⟩
      refine ⟨_, rfl, _, _, rfl, rfl, _, _, rfl, fun r hr0 => ⟨r, _, _, rfl, upd_same, by decide, (lim20 z1 z2).hi2, by decide, (lim20 z1 z2).lo2, fun l2 hl2 => ?_⟩⟩
      have s0 := Same.new (o := .lst ((Fs.upTo (0 + 1) (n + 1)).reverse.map V.int)) hl
      have s1 := s0.up (s0.free hr0) (o := .rng 1 (n + 1))
      have s2 := s1.up (s1.free hl2) (o := .lst ((Fs.upTo 1 (n + 1)).map V.int))
      have k1 : upd (upd (upd H l (.lst ((Fs.upTo (0 + 1) (n + 1)).reverse.map V.int))) r (.rng 1 (n + 1))) l2 (.lst ((Fs.upTo 1 (n + 1)).map V.int)) l = some (.lst ((Fs.upTo (0 + 1) (n + 1)).reverse.map V.int)) := by
        have e1 : upd (upd H l (.lst ((Fs.upTo (0 + 1) (n + 1)).reverse.map V.int))) r (.rng 1 (n + 1)) l = some (.lst ((Fs.upTo (0 + 1) (n + 1)).reverse.map V.int)) := by rw [upd_ne (ne_of_none upd_same hr0), upd_same]
        rw [upd_ne (ne_of_none e1 hl2)]
        exact e1
      exact ⟨l, l2, _, _, rfl, SqL.of k1, SqL.of upd_same, Nat.le_trans d1.2 (by decide), Nat.le_trans u1.2 (by decide), .inr ⟨d1, u1, Int.ofNat.inj (d2.trans u2.symm), Int.ofNat_lt.mp (by rw [d2]; exact z1), fun H' s => qe H' (s2.trans s)⟩⟩
    · show R _ _ _
      rw [hR]
      clear hR R
      have z : i = 0 ∧ 1 ≤ n ∧ n ≤ 12 ∧ n ≠ ys.length := condR_6 cd (fun z => e0 (by rw [z])) (fun z => e1 (by rw [z])) (fun z => e2 (by rw [z])) (fun z => e3 (by rw [z])) (fun z => e4 (by rw [z])) (fun z => e5 (by rw [z]))
      obtain ⟨rfl, z1, z2, z3⟩ := z
      obtain ⟨d1, d2⟩ := down_plain (n := n) (Int.le_trans (by decide) z1) z2
      exact ⟨_, rfl, _, rfl, _, _, rfl, ⟨(lim20 z1 z2).lo, (lim20 z1 z2).hi, by decide, by decide⟩, fun l hl => ⟨_, rfl, l, c, _, ys, rfl, SqL.of upd_same, (Same.new hl).seq hC, Nat.le_trans d1.2 (by decide), y40, .inl ⟨.inr (.inr (fun z => z3 (by rw [← d2, z]))), fun H' s => qe H' ((Same.new hl).trans s)⟩⟩⟩
end
end Fl

namespace Fl
open PySem L2
section
variable {P : Program} {w : World} {K : PySem.W.Frag} {mg : Str → Option Value} {base : Heap} {t : Adr}
theorem ok_law_told (T : Txt K mg t) : FnOk P w K mg base CX0 6 t.a_law_told t.d_law_told ["kind", "way", "pile", "turns", "other"] (spToldX K) := by
  refine T.F_law_told.ok sc_law_told (fun vs H Q E h => ?_) (fun cdv A outer s H vs Q E hr h => ?_)
  · obtain ⟨kd, w, a, b, c, xs, ts, ys, i, rfl, hA, hB, hC, h40, hb, py, i5, cd, q⟩ := h
    rfl
  · obtain ⟨kd, w, a, b, c, xs, ts, ys, i, rfl, hA, hB, hC, h40, hb, py, i5, cd, q⟩ := h
    refine ⟨_, (pss_cons (ps_set (i := 5) sc_law_told.nd rfl (Or.inl rfl) (pe_lst pa_nil))
      (pss_cons (ps_try_as (i := 6) rfl rfl rfl (fun pn xe R hp => (pss_one (ps_if (pt_cmpR op_eq (pv 0) pe_int (nomark _)) (pss_one (ps_expr (pe_callS (ok_law_one (K := K) T) (hr.mono (by omega)) rfl T.m_law_one T.F_law_one.kp (b_law_one T) .nil hp (pa_cons (pe_op op_mod (pv 1) pe_int) (pa_cons (pv 2) (pa_cons (pv 3) (pa_cons (pv 4) pa_nil))))))) (pss_one (ps_if (pt_cmpR op_eq (pv 0) pe_int (nomark _)) (pss_one (ps_expr (pe_callS (ok_law_other (K := K) T) (hr.mono (by omega)) rfl T.m_law_other T.F_law_other.kp (b_law_other T) .nil hp (pa_cons (pe_op op_mod (pv 1) pe_int) (pa_cons (pv 2) (pa_cons (pv 3) pa_nil)))))) (pss_one (ps_expr (pe_callS (ok_law_rest (K := K) T) (hr.mono (by omega)) rfl T.m_law_rest T.F_law_rest.kp (b_law_rest T) .nil hp (pa_cons (pv 1) (pa_cons (pe_ix (ix_K (K := K)) (pv 2) pe_int (fun _ _ => rfl)) (pa_cons (pv 4) pa_nil))))))))))) rfl T.x_FlipError T.e_FlipError.toExcC sc_law_told.nd rfl rfl (fun pn ea => (pss_one (ps_set (i := 5) sc_law_told.nd rfl (Or.inl rfl) (pe_callH (ok_law_which (K := K) T) ((hr.mono (by omega)).toH _) rfl T.m_law_which T.F_law_which.kp (b_law_which T) (pa_cons (pv 6) pa_nil))))))
      (pss_one (ps_ret (pv 5))))), ?_⟩
    refine ⟨Nat.zero_le _, fun p0 hp0 => ?_⟩
    have s0 := Same.new (o := .lst []) hp0
    obtain ⟨hF, hu⟩ := caught T i i5
    have wi : ∀ {k : Int}, V.int kd = V.int k → kd = k := fun e => by injection e
    have m7 := Int.emod_nonneg w (show (7 : Int) ≠ 0 by decide)
    have m7' := Int.emod_lt_of_pos w (show (0 : Int) < 7 by decide)
    have m5 := Int.emod_nonneg w (show (5 : Int) ≠ 0 by decide)
    have m5' := Int.emod_lt_of_pos w (show (0 : Int) < 5 by decide)
    refine ⟨_, rfl, rfl, _, rfl, ite2D (fun e => ?_) (fun e0 => ?_)⟩
    · have e := wi e
      have cd : CondP false (w % 7) xs ts i := by
        rcases cd with ⟨_, z⟩ | ⟨z, _⟩ | ⟨z, _⟩
        · exact z
        · exact absurd (e.symm.trans z) (by decide)
        · exact absurd (e.symm.trans z) (by decide)
      refine ⟨_, rfl, _, _, rfl, rfl, (by show (0 : Int) < 7; decide), _, rfl, _, rfl, _, rfl, w % 7, a, b, c, xs, ts, ys, i, rfl, s0.seq hA, s0.seq hB, s0.seq hC, m7, m7', h40, hb, py, cd, fun H' s => ?_⟩
      exact ⟨_, rfl, hF.toExcC, hu, fun ea hea => ⟨_, rfl, ea, i, rfl, i5, upd_same, fun p H2 hp s2 e2 => ⟨_, rfl, q p H2 e2⟩⟩⟩
    refine ⟨_, rfl, rfl, _, rfl, ite2D (fun e => ?_) (fun e1 => ?_)⟩
    · have e := wi e
      have cd : CondP true (w % 5) xs ts i := by
        rcases cd with ⟨z, _⟩ | ⟨_, z⟩ | ⟨z, _⟩
        · exact absurd (e.symm.trans z) (by decide)
        · exact z
        · exact absurd (e.symm.trans z) (by decide)
      refine ⟨_, rfl, _, _, rfl, rfl, (by show (0 : Int) < 5; decide), _, rfl, _, rfl, w % 5, a, b, xs, ts, i, rfl, s0.seq hA, s0.seq hB, m5, m5', h40, hb, cd, fun H' s => ?_⟩
      exact ⟨_, rfl, hF.toExcC, hu, fun ea hea => ⟨_, rfl, ea, i, rfl, i5, upd_same, fun p H2 hp s2 e2 => ⟨_, rfl, q p H2 e2⟩⟩⟩
    · have z0 : kd ≠ 0 := fun z => e0 (by rw [z])
      have z1 : kd ≠ 1 := fun z => e1 (by rw [z])
      obtain ⟨n, rfl, n0, n1, cd⟩ : ∃ n, xs = [n] ∧ -(10 ^ 60) ≤ n ∧ n ≤ 10 ^ 60 ∧ CondR w n ys i := by
        rcases cd with ⟨z, _⟩ | ⟨z, _⟩ | ⟨_, z⟩
        · exact absurd z z0
        · exact absurd z z1
        · exact z
      refine ⟨_, rfl, _, rfl, a, _, _, .int n, rfl, rfl, s0.seq hA, atI_int (by decide) rfl, _, rfl, w, n, c, ys, i, rfl, s0.seq hC, n0, n1, py, cd, fun H' s => ?_⟩
      exact ⟨_, rfl, hF.toExcC, hu, fun ea hea => ⟨_, rfl, ea, i, rfl, i5, upd_same, fun p H2 hp s2 e2 => ⟨_, rfl, q p H2 e2⟩⟩⟩
end
end Fl

namespace Fl
open PySem L2
section
variable {P : Program} {w : World} {K : PySem.W.Frag} {mg : Str → Option Value} {base : Heap} {t : Adr}
theorem ok_law_no_pile (T : Txt K mg t) : FnOk P w K mg base CX0 2 t.a_law_no_pile t.d_law_no_pile ["script", "pile", "plain"] (spNoPile K) := by
  refine T.F_law_no_pile.ok sc_law_no_pile (fun vs H Q E h => ?_) (fun cdv A outer s H vs Q E hr h => ?_)
  · obtain ⟨a, p, ns, xs, b, rfl, hS, hP, px, h12, q⟩ := h
    rfl
  · obtain ⟨a, p, ns, xs, b, rfl, hS, hP, px, h12, q⟩ := h
    refine ⟨_, (pss_cons (ps_set (i := 3) sc_law_no_pile.nd rfl (Or.inl rfl) (pe_op op_mod (pe_call (ok_law_cell_at (K := K) T) (hr.mono (by omega)) rfl T.m_law_cell_at T.F_law_cell_at.kp (b_law_cell_at T) .nil pass0 (pa_cons (pv 0) (pa_cons pe_int pa_nil))) (pe_op op_pow pe_int pe_int)))
      (pss_cons (ps_set (i := 4) sc_law_no_pile.nd rfl (Or.inr rfl) (pe_op op_mod (pe_call (ok_law_cell_at (K := K) T) (hr.mono (by omega)) rfl T.m_law_cell_at T.F_law_cell_at.kp (b_law_cell_at T) .nil pass0 (pa_cons (pv 0) (pa_cons pe_int pa_nil))) (pe_callB (len_K (K := K)) rfl T.z_len bt_len (pa_cons (pv 1) pa_nil))))
      (pss_cons (ps_set (i := 5) sc_law_no_pile.nd rfl (Or.inl rfl) (pe_op op_mod (pe_call (ok_law_cell_at (K := K) T) (hr.mono (by omega)) rfl T.m_law_cell_at T.F_law_cell_at.kp (b_law_cell_at T) .nil pass0 (pa_cons (pv 0) (pa_cons pe_int pa_nil))) pe_int))
      (pss_cons (ps_if (PW.pt (pw_or (pt_cmpR op_eq (pv 5) pe_int (nomark _)) (pw_or1 (PW.pt (pw_and (pt_cmpR op_eq (pv 5) pe_int (nomark _)) (pw_and1 (pt_not (pt_val (pv 2))))))))) (pss_one (ps_ret (pe_op op_cat (pe_op op_cat (pe_slice (sl_K (K := K)) (pv 1) po_none (po_some (pv 4))) (pe_lst (pa_cons (pe_un un_neg (pe_ix (ix_K (K := K)) (pv 1) (pv 4) (fun _ _ => rfl))) pa_nil))) (pe_slice (sl_K (K := K)) (pv 1) (po_some (pv 4)) po_none)))) pss_nil)
      (pss_cons (ps_if (pt_cmpR op_eq (pv 5) pe_int (nomark _)) (pss_cons (ps_setc (i := 6) sc_law_no_pile.nd rfl (Or.inl rfl) rfl (pi_list (pv 1)) (show CapOk _ _ ["cake", "script"] [none, some 0] from (cap_own (cap_free (i := 0) (cap_nil)))) keep_name (fun _ _ _ _ => (pg_name (i := 0) (show (["cake", "script"] : List Str).Nodup by decide +kernel) rfl (Or.inl rfl))) (fun _ _ _ _ => pif_nil) (fun _ _ _ _ => (pe_ix (ix_K (K := K)) (pe_lst (pa_cons (pe_un un_neg (pv 0)) (pa_cons (pv 0) pa_nil))) (pe_op op_mod (pe_op op_mod (pe_op op_add (pe_call (ok_law_cell_at (K := K) T) (hr.mono (by omega)) rfl T.m_law_cell_at T.F_law_cell_at.kp (b_law_cell_at T) .nil pass0 (pa_cons (pv 1) (pa_cons pe_int pa_nil))) (pv 0)) pe_int) pe_int) (fun _ _ => rfl))) (by with_unfolding_all rfl))
      (pss_one (ps_ret (pe_op op_cat (pe_op op_cat (pe_slice (sl_K (K := K)) (pv 6) po_none (po_some (pv 4))) (pe_lst (pa_cons (pe_un un_neg (pe_ix (ix_K (K := K)) (pv 1) (pv 4) (fun _ _ => rfl))) pa_nil))) (pe_slice (sl_K (K := K)) (pv 6) (po_some (pe_op op_add (pv 4) pe_int)) po_none))))) pss_nil)
      (pss_cons (ps_if (pt_cmpR op_eq (pv 5) pe_int (nomark _)) (pss_one (ps_ret (pe_op op_cat (pe_op op_cat (pe_slice (sl_K (K := K)) (pv 1) po_none (po_some (pv 4))) (pe_lst (pa_cons (pe_op op_sub (pe_op op_sub (pe_un un_neg (pe_callB (len_K (K := K)) rfl T.z_len bt_len (pa_cons (pv 1) pa_nil))) pe_int) (pv 3)) pa_nil))) (pe_slice (sl_K (K := K)) (pv 1) (po_some (pv 4)) po_none)))) pss_nil)
      (pss_cons (ps_if (pt_cmpR op_eq (pv 5) pe_int (nomark _)) (pss_one (ps_ret (pe_op op_cat (pv 1) (pe_lst (pa_cons (pe_ix (ix_K (K := K)) (pv 1) (pv 4) (fun _ _ => rfl)) pa_nil))))) pss_nil)
      (pss_cons (ps_if (pt_cmpR op_eq (pv 5) pe_int (nomark _)) (pss_one (ps_ret (pe_op op_cat (pe_op op_cat (pe_slice (sl_K (K := K)) (pv 1) po_none (po_some (pv 4))) (pe_lst (pa_cons (pe_op op_add (pe_op op_add (pe_callB (len_K (K := K)) rfl T.z_len bt_len (pa_cons (pv 1) pa_nil)) pe_int) (pv 3)) pa_nil))) (pe_slice (sl_K (K := K)) (pv 1) (po_some (pv 4)) po_none)))) pss_nil)
      (pss_cons (ps_if (pt_cmpR op_eq (pv 5) pe_int (nomark _)) (pss_one (ps_ret (pe_op op_cat (pe_comp rfl (pi_list (pv 1)) (show CapOk _ _ ["cake", "pile", "at"] [none, some 1, some 4] from (cap_own (cap_free (i := 1) (cap_free (i := 4) (cap_nil))))) keep_name (fun _ _ _ _ => (pg_name (i := 0) (show (["cake", "pile", "at"] : List Str).Nodup by decide +kernel) rfl (Or.inl rfl))) (fun _ _ _ _ => (pif_one (pt_cmpR op_ne (pv 0) (pe_ix (ix_K (K := K)) (pv 1) (pv 2) (fun _ _ => rfl)) (nomark _)))) (fun _ _ _ _ => (pv 0))) (pe_lst (pa_cons (pe_op op_add (pe_callB (len_K (K := K)) rfl T.z_len bt_len (pa_cons (pv 1) pa_nil)) pe_int) pa_nil))))) pss_nil)
      (pss_cons (ps_if (pt_cmpR op_eq (pv 5) pe_int (nomark _)) (pss_one (ps_ret (pe_op op_cat (pe_op op_cat (pe_slice (sl_K (K := K)) (pv 1) po_none (po_some (pv 4))) (pe_lst (pa_cons pe_int pa_nil))) (pe_slice (sl_K (K := K)) (pv 1) (po_some (pe_op op_add (pv 4) pe_int)) po_none)))) pss_nil)
      (pss_cons (ps_if (pt_cmpR op_eq (pv 5) pe_int (nomark _)) (pss_one (ps_ret (pe_callTy (call_list_rng rfl) rfl T.z_list bt_list (pa_cons (pe_callTy call_rng2 rfl T.z_range bt_range (pa_cons pe_int (pa_cons (pe_op op_add pe_int (pe_op op_mod (pe_call (ok_law_cell_at (K := K) T) (hr.mono (by omega)) rfl T.m_law_cell_at T.F_law_cell_at.kp (b_law_cell_at T) .nil pass0 (pa_cons (pv 0) (pa_cons pe_int pa_nil))) pe_int)) pa_nil))) pa_nil)))) pss_nil)
      (pss_one (ps_ret (pe_lst pa_nil)))))))))))))), ?_⟩
    have n1 := px.pos
    have xp : (0 : Int) < xs.length := Int.natCast_pos.mpr n1
    refine seq_gen fun R hR => ?_
    refine ⟨_, rfl, a, ns, _, rfl, hS, by decide, fun v14 => ⟨_, _, rfl, rfl, ⟨by decide, by decide, by decide⟩, _, _, rfl, rfl, (by show (0 : Int) < 10 ^ 39; decide), ?_⟩⟩
    have f0 := Int.emod_nonneg v14 (show (10 ^ 39 : Int) ≠ 0 by decide)
    dsimp only
    generalize hfar : v14 % (10 : Int) ^ (39 : Int).toNat = far
    have far0 : 0 ≤ far := by rw [← hfar]; exact f0
    dsimp only [gName]
    rw [hR]
    clear hR R
    refine seq_gen fun R hR => ?_
    refine ⟨_, rfl, a, ns, _, rfl, hS, by decide, fun v15 => ⟨_, rfl, p, _, rfl, .inl (SqL.of hP), _, _, rfl, rfl, (by rw [len_map]; exact xp), ?_⟩⟩
    rw [len_map]
    have a0 := Int.emod_nonneg v15 (Int.ne_of_gt xp)
    have a1 := Int.emod_lt_of_pos v15 xp
    dsimp only
    generalize v15 % (xs.length : Int) = at_ at a0 a1
    dsimp only [gName]
    rw [hR]
    clear hR R
    refine seq_gen fun R hR => ?_
    refine ⟨_, rfl, a, ns, _, rfl, hS, by decide, fun v16 => ⟨_, _, rfl, rfl, (by show (0 : Int) < 9; decide), ?_⟩⟩
    dsimp only
    generalize v16 % (9 : Int) = way
    dsimp only [gName]
    rw [hR]
    clear hR R
    have hx : at_.toNat < xs.length := (Int.toNat_lt a0).mpr a1
    have it : atI (xs.map V.int) at_ = some (.int (xs.getD at_.toNat 0)) := atI_int a0 (get_ints hx)
    have hm : xs.getD at_.toNat 0 ∈ xs := by rw [List.getD_eq_getElem?_getD, List.getElem?_eq_getElem hx]; exact List.getElem_mem _
    generalize hy : xs.getD at_.toNat 0 = y at it hm
    have y1 := px.mem hm
    have both : ∀ (r : Addr) (H' : Hp) (ys : List Int), H r = none → Same H H' → H' r = some (.lst (ys.map V.int)) → ys.length ≤ 40 → ¬ PB true ys → Q (.ref r) H' := fun r H' ys h1 h2 h3 h4 h5 => by
      refine q r H' ys h1 h2 h3 h4 ?_
      cases b
      · exact h5
      · exact npF_of h5
    have tk : xs.take at_.toNat ++ xs.drop at_.toNat = xs := List.take_append_drop _ _
    -- the sixth way: its cake once more, the other side up
    have six : tRet (tOp rCat (tOp rCat (tSl (rSlL K) (tVar 1) tNoPart (tPart (tVar 4))) (tLst (tCons (tUn (rU fun i => .int (-i)) (tOp (rIxL K) (tVar 1) (tVar 4))) tNil))) (tSl (rSlL K) (tVar 1) (tPart (tVar 4)) tNoPart))
        { nx := fun _ H' => Q .non H', rt := Q } [some (.ref a), some (.ref p), some (.bl b), some (.int far), some (.int at_), some (.int way), none] H := by
      refine mid_read (k := at_) (k' := at_) (v := -y) rfl rfl (SqL.of hP) a0 a0 h12 (fun H2 s R r => ?_) (fun H2 s R r => ⟨_, rfl, r⟩) (fun r H' h1 h2 h3 => both r H' _ h1 h2 h3 ?_ (npB_dup ?_))
      · exact ⟨_, rfl, _, rfl, p, _, _, _, rfl, rfl, SqL.of (s _ _ hP), it, _, rfl, r⟩
      · exact mid_le h12
      · rw [tk, px.abs, absI_neg (Int.lt_of_lt_of_le (by decide) y1.1)]
        exact hm
    refine seq_gen fun R hR => ?_
    refine ⟨_, rfl, rfl, _, rfl, ite2D (fun _ => six) (fun n6 => ⟨_, rfl, rfl, _, rfl, ite2D (fun e7 => ⟨_, rfl, _, rfl, ?_⟩) (fun n7 => ?_)⟩)⟩
    · cases b with
      | false => exact six
      | true =>
        show R _ _
        rw [hR]
        clear hR R six
        refine seq_gen fun R hR => ?_
        clear hR
        refine ⟨_, rfl, rfl, _, rfl, iteDT e7 ?_⟩
        refine ⟨_, rfl, p, rfl, ⟨_, SqL.of hP⟩, comp_listR (xs := xs.map V.int) (fun x y => ∃ j : Int, y = .int j) (SqL.of hP) (by rw [len_map]; exact Nat.le_trans h12 (by decide)) (fun x i H2 R hi s2 r => ?_) (fun ps H2 zs hps s2 e2 pr => ?_)⟩
        · obtain ⟨z, rfl, hz⟩ := map_get hi
          refine ⟨_, rfl, _, rfl, _, rfl, small12 (by show 2 ≤ 1000; decide), fun d hd => ?_⟩
          have s3 := s2.up (s2.free hd) (o := .lst [.int (-z), .int z])
          refine ⟨_, rfl, a, ns, _, rfl, s3.seq hS, by decide, fun v => ⟨_, rfl, _, _, rfl, rfl, _, _, rfl, rfl, (by show (0 : Int) < 3; decide), _, _, rfl, rfl, (by show (0 : Int) < 2; decide), ?_⟩⟩
          dsimp only
          have b0 := Int.emod_nonneg ((v + z) % 3) (show (2 : Int) ≠ 0 by decide)
          have b1 := Int.emod_lt_of_pos ((v + z) % 3) (show (0 : Int) < 2 by decide)
          generalize (v + z) % 3 % 2 = u at b0 b1
          refine ⟨d, _, _, .int (if u = 0 then -z else z), rfl, rfl, SqL.of upd_same, ?_, r _ _ ⟨_, rfl⟩ (Same.new hd)⟩
          refine atI_int b0 ?_
          by_cases hu : u = 0
          · rw [hu, if_pos rfl]; rfl
          · rw [(two b0 b1).resolve_left hu, if_neg (by decide)]; rfl
        · obtain ⟨js, rfl⟩ : ∃ js : List Int, zs = js.map V.int := by
            clear e2
            generalize xs.map V.int = l at pr
            induction pr with
            | nil => exact ⟨[], rfl⟩
            | cons h _ ih =>
              obtain ⟨j, rfl⟩ := h
              obtain ⟨js, rfl⟩ := ih
              exact ⟨j :: js, rfl⟩
          have jl := pr.length
          rw [len_map, len_map] at jl
          refine mid_read (k := at_) (k' := at_ + 1) (v := -y) rfl rfl (SqL.of e2) a0 (Int.le_add_one a0) (jl ▸ h12) (fun H3 s R r => ?_) (fun H3 s R r => ⟨_, rfl, _, _, rfl, rfl, r⟩) (fun r H' h1 h2 h3 => q r H' _ (s2.free h1) (s2.trans h2) h3 ?_ (np_neg (y := -y) ?_ ?_))
          · exact ⟨_, rfl, _, rfl, p, _, _, _, rfl, rfl, SqL.of (s _ _ (s2 _ _ hP)), it, _, rfl, r⟩
          · exact mid_le (jl ▸ h12)
          · simp
          · exact Int.neg_nonpos_of_nonneg (Int.le_trans (by decide) y1.1)
    · -- the other ways
      clear six
      show R _ _
      rw [hR]
      clear hR R
      refine seq_gen fun R hR => ?_
      refine ⟨_, rfl, rfl, _, rfl, iteD n7 ?_⟩
      show R _ _
      rw [hR]
      clear hR R
      refine seq_gen fun R hR => ?_
      refine ⟨_, rfl, rfl, _, rfl, ite2D (fun e8 => ?_) (fun n8 => ?_)⟩
      · clear hR
        refine mid_read (k := at_) (k' := at_) (v := -((xs.map V.int).length : Int) - 2 - far) rfl rfl (SqL.of hP) a0 a0 h12 (fun H2 s R r => ?_) (fun H2 s R r => ⟨_, rfl, r⟩) (fun r H' h1 h2 h3 => both r H' _ h1 h2 h3 (mid_le h12) (npB_far ?_ far0))
        · exact ⟨_, rfl, p, _, rfl, .inl (SqL.of (s _ _ hP)), _, rfl, _, _, rfl, rfl, _, rfl, _, _, rfl, rfl, r⟩
        · rw [len_map, show -(xs.length : Int) - 2 - far = -((xs.length : Int) + 2 + far) by rw [Int.neg_add, Int.neg_add]; rfl]
          exact absI_neg (far_pos _ far0)
      show R _ _
      rw [hR]
      clear hR R
      refine seq_gen fun R hR => ?_
      refine ⟨_, rfl, rfl, _, rfl, ite2D (fun e0 => ?_) (fun n0 => ?_)⟩
      · clear hR
        refine ⟨_, rfl, _, rfl, _, rfl, p, _, _, _, rfl, rfl, SqL.of hP, it, small12 (by show 1 ≤ 1000; decide), fun d hd => ⟨p, d, _, _, rfl, rfl, (by rw [upd_ne (ne_of_none hP hd)]; exact hP), upd_same, small12 (by rw [len_map]; exact Nat.le_trans (Nat.add_le_add_right h12 1) (by decide)), fun r hr => ?_⟩⟩
        have s1 := Same.new (o := .lst [.int y]) hd
        refine both r _ (xs ++ [y]) (s1.free hr) (s1.up (s1.free hr)) (by rw [upd_same]; simp) (by rw [List.length_append]; exact Nat.le_trans (Nat.add_le_add_right h12 1) (by decide)) ?_
        have z := npB_dup (us := xs) (ws := []) (v := y) (by rw [List.append_nil]; exact List.mem_map_of_mem (f := Fs.absI) hm)
        rwa [List.append_nil] at z
      show R _ _
      rw [hR]
      clear hR R
      refine seq_gen fun R hR => ?_
      refine ⟨_, rfl, rfl, _, rfl, ite2D (fun e1 => ?_) (fun n1 => ?_)⟩
      · clear hR
        refine mid_read (k := at_) (k' := at_) (v := ((xs.map V.int).length : Int) + 2 + far) rfl rfl (SqL.of hP) a0 a0 h12 (fun H2 s R r => ?_) (fun H2 s R r => ⟨_, rfl, r⟩) (fun r H' h1 h2 h3 => both r H' _ h1 h2 h3 (mid_le h12) (npB_far ?_ far0))
        · exact ⟨_, rfl, p, _, rfl, .inl (SqL.of (s _ _ hP)), _, _, rfl, rfl, _, rfl, _, _, rfl, rfl, r⟩
        · rw [len_map]
          exact absI_pos (Int.le_of_lt (far_pos _ far0))
      show R _ _
      rw [hR]
      clear hR R
      refine seq_gen fun R hR => ?_
      refine ⟨_, rfl, rfl, _, rfl, ite2D (fun e2 => ?_) (fun n2 => ?_)⟩
      · clear hR
        refine ⟨_, rfl, p, rfl, ⟨_, SqL.of hP⟩, comp_listF (xs := xs.map V.int) (fun x => !decide (x = .int y)) (SqL.of hP) (by rw [len_map]; exact Nat.le_trans h12 (by decide)) (fun i x H2 R1 R2 hi s2 r1 r2 => ?_) (fun pf H2 hpf s2 e2 => ?_)⟩
        · obtain ⟨z, rfl, hz⟩ := map_get hi
          refine ⟨_, rfl, _, rfl, _, rfl, p, _, _, _, rfl, rfl, SqL.of (s2 _ _ hP), it, rfl, _, rfl, iteN (fun ne => ⟨_, rfl, r1 ?_ H2 (Same.refl _)⟩) (fun e => r2 ?_ H2 (Same.refl _))⟩
          · rw [decide_eq_false ne]; rfl
          · rw [decide_eq_true e]; rfl
        · have ef : (xs.map V.int).filter (fun x => !decide (x = .int y)) = (xs.filter fun x => !decide (x = y)).map V.int := by
            rw [List.filter_map]
            congr 1
            refine List.filter_congr fun x _ => ?_
            simp
          rw [ef] at e2
          have hlt : (xs.filter fun x => !decide (x = y)).length < xs.length := by
            refine List.length_filter_lt_length_iff_exists.mpr ⟨y, hm, by simp⟩
          generalize (xs.filter fun x => !decide (x = y)) = zs at e2 hlt
          refine ⟨_, rfl, p, _, rfl, .inl (SqL.of (s2 _ _ hP)), _, _, rfl, rfl, small12 (by show 1 ≤ 1000; decide), fun d hd => ⟨pf, d, _, _, rfl, rfl, (by rw [upd_ne (ne_of_none e2 hd)]; exact e2), upd_same, small12 (by rw [len_map]; exact Nat.le_trans hlt (Nat.le_trans h12 (by decide))), fun r hr => ?_⟩⟩
          have s3 := s2.up (s2.free hd) (o := .lst [.int (((xs.map V.int).length : Int) + 1)])
          refine both r _ (zs ++ [((xs.map V.int).length : Int) + 1]) (s3.free hr) (s3.up (s3.free hr)) (by rw [upd_same]; simp) (by rw [List.length_append]; exact Nat.le_trans hlt (Nat.le_trans h12 (by decide))) (npB_big (y := ((xs.map V.int).length : Int) + 1) (by simp) ?_)
          rw [len_map, absI_pos (Int.le_of_lt (suc0 _)), List.length_append]
          exact Int.add_lt_add_right (Int.ofNat_lt.mpr hlt) 1
      show R _ _
      rw [hR]
      clear hR R
      refine seq_gen fun R hR => ?_
      refine ⟨_, rfl, rfl, _, rfl, ite2D (fun e3 => ?_) (fun n3 => ?_)⟩
      · clear hR
        refine mid_read (k := at_) (k' := at_ + 1) (v := 0) rfl rfl (SqL.of hP) a0 (Int.le_add_one a0) h12 (fun H2 s R r => r) (fun H2 s R r => ⟨_, rfl, _, _, rfl, rfl, r⟩) (fun r H' h1 h2 h3 => both r H' _ h1 h2 h3 ?_ (npB_zero ?_))
        · exact mid_le h12
        · simp
      show R _ _
      rw [hR]
      clear hR R
      refine seq_gen fun R hR => ?_
      refine ⟨_, rfl, rfl, _, rfl, ite2D (fun e4 => ?_) (fun n4 => ?_)⟩
      · clear hR
        refine ⟨_, rfl, a, ns, _, rfl, hS, by decide, fun v => ⟨_, _, rfl, rfl, (by show (0 : Int) < 18; decide), _, _, rfl, rfl, _, _, rfl, fun r hr0 => ?_⟩⟩
        have c0 := Int.emod_nonneg v (show (18 : Int) ≠ 0 by decide)
        have c1 := Int.emod_lt_of_pos v (show (0 : Int) < 18 by decide)
        generalize v % (18 : Int) = u at c0 c1 hr0
        have s1 := Same.new (o := .rng 1 (14 + u)) hr0
        have e13 : 14 + u - 1 = 13 + u := by rw [Int.add_comm 14, Int.add_sub_assoc, Int.add_comm]; rfl
        have t0 : 13 ≤ (13 + u).toNat := (Int.le_toNat (Int.add_nonneg (by decide) c0)).mpr (Int.le_add_of_nonneg_right c0)
        have t1 : (13 + u).toNat ≤ 40 := Int.toNat_le.mpr (Int.le_trans (Int.add_le_add_left (Int.le_of_lt c1) 13) (by decide))
        refine ⟨r, _, _, rfl, upd_same, by decide, Int.le_trans (Int.add_le_add_left (Int.le_of_lt c1) 14) (by decide), by decide, Int.le_trans (by decide) (Int.add_nonneg (by decide : (0 : Int) ≤ 14) c0), fun l hl => ?_⟩
        refine both l _ (Fs.upTo 1 (14 + u)) (s1.free hl) (s1.up (s1.free hl)) upd_same (by rw [Fs.length_upTo, e13]; exact t1) (npB_len (.inr (by rw [Fs.length_upTo, e13]; exact t0)))
      show R _ _
      rw [hR]
      clear hR R
      exact ⟨Nat.zero_le _, fun l hl => both l _ [] hl (Same.new hl) upd_same (by decide) (npB_len (.inl rfl))⟩
end
end Fl

namespace Fl
open PySem L2
section
variable {P : Program} {w : World} {K : PySem.W.Frag} {mg : Str → Option Value} {base : Heap} {t : Adr}
theorem ok_law (T : Txt K mg t) : FnOk P w K mg base CX0 9 t.a_law t.d_law ["script"] (spLaw K) := by
  refine T.F_law.ok sc_law (fun vs H Q E h => ?_) (fun cdv A outer s H vs Q E hr h => ?_)
  · obtain ⟨a, ns, rfl, hS, hlen, q⟩ := h
    rfl
  · obtain ⟨a, ns, rfl, hS, hlen, q⟩ := h
    refine ⟨_, (pss_cons (ps_set (i := 1) sc_law.nd rfl (Or.inl rfl) (pe_call (ok_law_pile (K := K) T) (hr.mono (by omega)) rfl T.m_law_pile T.F_law_pile.kp (b_law_pile T) .nil pass0 (pa_cons (pv 0) (pa_cons pe_int (pa_cons pe_int pa_nil)))))
      (pss_cons (ps_set (i := 2) sc_law.nd rfl (Or.inl rfl) (pe_op op_mod (pe_call (ok_law_cell_at (K := K) T) (hr.mono (by omega)) rfl T.m_law_cell_at T.F_law_cell_at.kp (b_law_cell_at T) .nil pass0 (pa_cons (pv 0) (pa_cons pe_int pa_nil))) pe_int))
      (pss_cons (ps_set (i := 3) sc_law.nd rfl (Or.inl rfl) (pe_call (ok_law_cell_at (K := K) T) (hr.mono (by omega)) rfl T.m_law_cell_at T.F_law_cell_at.kp (b_law_cell_at T) .nil pass0 (pa_cons (pv 0) (pa_cons pe_int pa_nil))))
      (pss_cons (ps_set (i := 4) sc_law.nd rfl (Or.inl rfl) (pe_ix (ix_K (K := K)) (pe_lst (pa_cons pe_int (pa_cons (pe_op op_add (pe_callB (len_K (K := K)) rfl T.z_len bt_len (pa_cons (pv 1) pa_nil)) pe_int) (pa_cons (pe_op op_sub (pe_un un_neg pe_int) (pe_op op_mod (pe_call (ok_law_cell_at (K := K) T) (hr.mono (by omega)) rfl T.m_law_cell_at T.F_law_cell_at.kp (b_law_cell_at T) .nil pass0 (pa_cons (pv 0) (pa_cons pe_int pa_nil))) (pe_op op_pow pe_int pe_int))) pa_nil)))) (pe_op op_mod (pe_call (ok_law_cell_at (K := K) T) (hr.mono (by omega)) rfl T.m_law_cell_at T.F_law_cell_at.kp (b_law_cell_at T) .nil pass0 (pa_cons (pv 0) (pa_cons pe_int pa_nil))) pe_int) (fun _ _ => rfl)))
      (pss_cons (ps_set (i := 5) sc_law.nd rfl (Or.inl rfl) (pe_op op_rep (pe_lst (pa_cons pe_int pa_nil)) (pe_op op_mod (pe_call (ok_law_cell_at (K := K) T) (hr.mono (by omega)) rfl T.m_law_cell_at T.F_law_cell_at.kp (b_law_cell_at T) .nil pass0 (pa_cons (pv 0) (pa_cons pe_int pa_nil))) pe_int)))
      (pss_cons (ps_expr (pe_bm PySem.F.plainAttrs_list PySem.F.slot_list_insert PySem.F.type_list_insert mt_insert (pv 5) (pa_cons (pe_op op_mod (pe_call (ok_law_cell_at (K := K) T) (hr.mono (by omega)) rfl T.m_law_cell_at T.F_law_cell_at.kp (b_law_cell_at T) .nil pass0 (pa_cons (pv 0) (pa_cons pe_int pa_nil))) (pe_op op_add (pe_callB (len_K (K := K)) rfl T.z_len bt_len (pa_cons (pv 5) pa_nil)) pe_int)) (pa_cons (pv 4) pa_nil))))
      (pss_cons (ps_set (i := 6) sc_law.nd rfl (Or.inl rfl) (pe_call (ok_law_pile (K := K) T) (hr.mono (by omega)) rfl T.m_law_pile T.F_law_pile.kp (b_law_pile T) .nil pass0 (pa_cons (pv 0) (pa_cons pe_int (pa_cons pe_int pa_nil)))))
      (pss_cons (ps_if (pt_cmpR op_lt (pv 2) pe_int (nomark _)) (pss_cons (ps_set (i := 7) sc_law.nd rfl (Or.inl rfl) (pe_call (ok_law_no_pile (K := K) T) (hr.mono (by omega)) rfl T.m_law_no_pile T.F_law_no_pile.kp (b_law_no_pile T) .nil pass0 (pa_cons (pv 0) (pa_cons (pv 1) (pa_cons (pe_cmpR op_eq (pv 2) pe_int (nomark _)) pa_nil)))))
      (pss_cons (ps_if (pt_cmpR op_eq (pv 2) pe_int (nomark _)) (pss_one (ps_set (i := 7) sc_law.nd rfl (Or.inl rfl) (pe_call (ok_law_burnt (K := K) T) (hr.mono (by omega)) rfl T.m_law_burnt T.F_law_burnt.kp (b_law_burnt T) .nil pass0 (pa_cons (pv 7) (pa_cons (pe_call (ok_law_cell_at (K := K) T) (hr.mono (by omega)) rfl T.m_law_cell_at T.F_law_cell_at.kp (b_law_cell_at T) .nil pass0 (pa_cons (pv 0) (pa_cons pe_int pa_nil))) pa_nil))))) pss_nil)
      (pss_one (ps_ret (pe_cmpR (op_eqB hr.units) (pe_call (ok_law_told (K := K) T) (hr.mono (by omega)) rfl T.m_law_told T.F_law_told.kp (b_law_told T) .nil pass0 (pa_cons (pv 2) (pa_cons (pv 3) (pa_cons (pv 7) (pa_cons (pv 5) (pa_cons (pv 6) pa_nil)))))) (pe_op op_cat (pe_op op_cat (pe_lst (pa_cons pe_bl pa_nil)) (pe_op op_rep (pe_lst (pa_cons pe_bl pa_nil)) pe_int)) (pe_lst (pa_cons pe_bl pa_nil))) (nomark _)))))) pss_nil)
      (pss_cons (ps_if (pt_cmpR op_lt (pv 2) pe_int (nomark _)) (pss_one (ps_ret (pe_cmpR (op_eqB hr.units) (pe_call (ok_law_told (K := K) T) (hr.mono (by omega)) rfl T.m_law_told T.F_law_told.kp (b_law_told T) .nil pass0 (pa_cons (pe_op op_sub (pv 2) pe_int) (pa_cons pe_int (pa_cons (pv 1) (pa_cons (pv 5) (pa_cons (pv 6) pa_nil)))))) (pe_lst (pa_cons pe_bl (pa_cons pe_bl (pa_cons pe_bl (pa_cons pe_bl (pa_cons pe_bl (pa_cons pe_bl pa_nil))))))) (nomark _)))) pss_nil)
      (pss_cons (ps_set (i := 3) sc_law.nd rfl (Or.inl rfl) (pe_op op_mod (pv 3) pe_int))
      (pss_cons (ps_if (pt_cmpR op_eq (pe_op op_mod (pe_call (ok_law_cell_at (K := K) T) (hr.mono (by omega)) rfl T.m_law_cell_at T.F_law_cell_at.kp (b_law_cell_at T) .nil pass0 (pa_cons (pv 0) (pa_cons pe_int pa_nil))) pe_int) pe_int (nomark _)) (pss_cons (ps_set (i := 8) sc_law.nd rfl (Or.inl rfl) (pe_ix (ix_K (K := K)) (pe_lst (pa_cons (pe_callB (len_K (K := K)) rfl T.z_len bt_len (pa_cons (pv 1) pa_nil)) (pa_cons (pe_op op_add pe_int (pe_op op_mod (pe_callB (len_K (K := K)) rfl T.z_len bt_len (pa_cons (pv 1) pa_nil)) pe_int)) pa_nil))) (pe_callTy call_int1 rfl T.z_int bt_int (pa_cons (pe_cmpR op_eq (pe_callB (len_K (K := K)) rfl T.z_len bt_len (pa_cons (pv 1) pa_nil)) (pe_callB (len_K (K := K)) rfl T.z_len bt_len (pa_cons (pv 6) pa_nil)) (nomark _)) pa_nil)) (fun _ _ => rfl)))
      (pss_one (ps_ret (pe_cmpR (op_eqB hr.units) (pe_call (ok_law_told (K := K) T) (hr.mono (by omega)) rfl T.m_law_told T.F_law_told.kp (b_law_told T) .nil pass0 (pa_cons pe_int (pa_cons pe_int (pa_cons (pe_lst (pa_cons (pv 8) pa_nil)) (pa_cons (pe_lst pa_nil) (pa_cons (pv 6) pa_nil)))))) (pe_op op_cat (pe_op op_cat (pe_lst (pa_cons pe_bl pa_nil)) (pe_op op_rep (pe_lst (pa_cons pe_bl pa_nil)) pe_int)) (pe_lst (pa_cons pe_bl pa_nil))) (nomark _))))) pss_nil)
      (pss_cons (ps_set (i := 8) sc_law.nd rfl (Or.inl rfl) (pe_op op_add (pe_ix (ix_K (K := K)) (pe_lst (pa_cons pe_int (pa_cons pe_int (pa_cons pe_int (pa_cons pe_int (pa_cons pe_int (pa_cons pe_int pa_nil))))))) (pv 3) (fun _ _ => rfl)) (pe_op op_mod (pe_call (ok_law_cell_at (K := K) T) (hr.mono (by omega)) rfl T.m_law_cell_at T.F_law_cell_at.kp (b_law_cell_at T) .nil pass0 (pa_cons (pv 0) (pa_cons pe_int pa_nil))) (pe_ix (ix_K (K := K)) (pe_lst (pa_cons (pe_op op_pow pe_int pe_int) (pa_cons (pe_op op_pow pe_int pe_int) (pa_cons pe_int (pa_cons pe_int (pa_cons pe_int (pa_cons pe_int pa_nil))))))) (pv 3) (fun _ _ => rfl)))))
      (pss_cons (ps_if (PW.pt (pw_and (pt_cmpR op_lt (pv 3) pe_int (nomark _)) (pw_and1 (pt_cmpR op_gt (pe_op op_mod (pe_call (ok_law_cell_at (K := K) T) (hr.mono (by omega)) rfl T.m_law_cell_at T.F_law_cell_at.kp (b_law_cell_at T) .nil pass0 (pa_cons (pv 0) (pa_cons pe_int pa_nil))) pe_int) pe_int (nomark _))))) (pss_one (ps_set (i := 8) sc_law.nd rfl (Or.inl rfl) (pe_un un_neg (pe_op op_mod (pe_call (ok_law_cell_at (K := K) T) (hr.mono (by omega)) rfl T.m_law_cell_at T.F_law_cell_at.kp (b_law_cell_at T) .nil pass0 (pa_cons (pv 0) (pa_cons pe_int pa_nil))) (pe_op op_pow pe_int pe_int))))) pss_nil)
      (pss_one (ps_ret (pe_cmpR (op_eqB hr.units) (pe_call (ok_law_told (K := K) T) (hr.mono (by omega)) rfl T.m_law_told T.F_law_told.kp (b_law_told T) .nil pass0 (pa_cons pe_int (pa_cons (pv 3) (pa_cons (pe_lst (pa_cons (pv 8) pa_nil)) (pa_cons (pe_lst pa_nil) (pa_cons (pv 6) pa_nil)))))) (pe_lst (pa_cons pe_bl (pa_cons pe_bl (pa_cons pe_bl (pa_cons pe_bl (pa_cons pe_bl (pa_cons pe_bl pa_nil))))))) (nomark _))))))))))))))))), ?_⟩
    refine seq_gen fun R hR => ?_
    refine ⟨_, rfl, a, ns, 0, 12, rfl, hS, by decide, by decide, by decide, fun p1 H1 xs hp1 s1 e1 px l12 => ?_⟩
    have x12 : xs.length ≤ 12 := Int.ofNat_le.mp l12
    have n1 := px.pos
    dsimp only [gName]
    rw [hR]
    clear hR R
    refine seq_gen fun R hR => ?_
    refine ⟨_, rfl, a, ns, _, rfl, s1.seq hS, by decide, fun v13 => ⟨_, _, rfl, rfl, (by show (0 : Int) < 5; decide), ?_⟩⟩
    have k0 := Int.emod_nonneg v13 (show (5 : Int) ≠ 0 by decide)
    have k1 := Int.emod_lt_of_pos v13 (show (0 : Int) < 5 by decide)
    dsimp only
    generalize v13 % (5 : Int) = kd at k0 k1
    rw [hR]
    clear hR R
    dsimp only [gName]
    refine seq_gen fun R hR => ?_
    refine ⟨_, rfl, a, ns, _, rfl, s1.seq hS, by decide, fun way => ?_⟩
    -- gone
    dsimp only [gName]
    rw [hR]
    clear hR R
    refine seq_gen fun R hR => ?_
    refine ⟨_, rfl, p1, _, rfl, .inl (SqL.of e1), _, _, rfl, rfl, _, rfl, _, rfl, a, ns, _, rfl, s1.seq hS, by decide, fun v14 => ⟨_, _, rfl, rfl, ⟨by decide, by decide, by decide⟩, _, _, rfl, rfl, (by show (0 : Int) < 10 ^ 39; decide), _, _, rfl, rfl, ?_⟩⟩
    have f0 := Int.emod_nonneg v14 (show (10 ^ 39 : Int) ≠ 0 by decide)
    have f1 := Int.emod_lt_of_pos v14 (show (0 : Int) < 10 ^ 39 by decide)
    generalize hfar : v14 % (10 : Int) ^ (39 : Int).toNat = far
    replace f0 : 0 ≤ far := by rw [← hfar]; exact f0
    replace f1 : far < 10 ^ 39 := by rw [← hfar]; exact f1
    rw [len_map]
    refine ⟨small12 (by show 3 ≤ 1000; decide), fun d hd => ?_⟩
    have s2 := s1.up (s1.free hd) (o := .lst [.int 0, .int ((xs.length : Int) + 1), .int (-1 - far)])
    have e2 : upd H1 d (.lst [.int 0, .int ((xs.length : Int) + 1), .int (-1 - far)]) p1 = some (.lst (xs.map V.int)) := by rw [upd_ne (ne_of_none e1 hd)]; exact e1
    refine ⟨_, rfl, a, ns, _, rfl, s2.seq hS, by decide, fun v15 => ⟨_, _, rfl, rfl, (by show (0 : Int) < 3; decide), ?_⟩⟩
    have g0 := Int.emod_nonneg v15 (show (3 : Int) ≠ 0 by decide)
    have g1 := Int.emod_lt_of_pos v15 (show (0 : Int) < 3 by decide)
    dsimp only
    generalize v15 % (3 : Int) = g at g0 g1
    obtain ⟨gone, hg, gb, gl, gh⟩ := gone_at x12 f0 f1 g0 g1
    refine ⟨d, _, _, .int gone, rfl, rfl, SqL.of upd_same, hg, ?_⟩
    generalize upd H1 d (.lst [.int 0, .int ((xs.length : Int) + 1), .int (-1 - far)]) = H2 at s2 e2
    rw [hR]
    clear hR R
    -- turns
    dsimp only [gName]
    refine seq_gen fun R hR => ?_
    refine ⟨small12 (by show 1 ≤ 1000; decide), fun d2 hd2 => ?_⟩
    have s3 := s2.up (s2.free hd2) (o := .lst [.int 1])
    refine ⟨_, rfl, a, ns, _, rfl, s3.seq hS, by decide, fun v18 => ⟨_, _, rfl, rfl, (by show (0 : Int) < 5; decide), ?_⟩⟩
    have t0 := Int.emod_nonneg v18 (show (5 : Int) ≠ 0 by decide)
    have t1 := Int.emod_lt_of_pos v18 (show (0 : Int) < 5 by decide)
    dsimp only
    generalize v18 % (5 : Int) = tn at t0 t1
    have tN : tn.toNat ≤ 5 := Int.toNat_le.mpr (Int.le_of_lt t1)
    refine ⟨d2, tn, _, rfl, rfl, upd_same, Int.le_trans (by decide) t0, Int.lt_trans t1 (by decide), small12 (by show 1 * tn.toNat ≤ 1000; rw [Nat.one_mul]; exact Nat.le_trans tN (by decide)), fun r hr0 => ?_⟩
    rw [List.flatten_replicate_singleton]
    have s4 := s3.up (s3.free hr0) (o := .lst (List.replicate tn.toNat (.int 1)))
    have e4 : upd (upd H2 d2 (.lst [.int 1])) r (.lst (List.replicate tn.toNat (.int 1))) p1 = some (.lst (xs.map V.int)) := by
      have z : upd H2 d2 (.lst [.int 1]) p1 = some (.lst (xs.map V.int)) := by rw [upd_ne (ne_of_none e2 hd2)]; exact e2
      rw [upd_ne (ne_of_none z hr0)]; exact z
    have nrp : p1 ≠ r := by
      have z : upd H2 d2 (.lst [.int 1]) p1 = some (.lst (xs.map V.int)) := by rw [upd_ne (ne_of_none e2 hd2)]; exact e2
      exact ne_of_none z hr0
    have e5 : upd (upd H2 d2 (.lst [.int 1])) r (.lst (List.replicate tn.toNat (.int 1))) r = some (.lst (List.replicate tn.toNat (.int 1))) := upd_same
    generalize upd (upd H2 d2 (.lst [.int 1])) r (.lst (List.replicate tn.toNat (.int 1))) = H3 at s4 e4 e5
    have fr : H r = none := s3.free hr0
    rw [hR]
    clear hR R
    -- turns.insert
    dsimp only [gName]
    refine seq_gen fun R hR => ?_
    refine ⟨_, rfl, .inl ⟨rfl, _, SqL.of e5⟩, _, rfl, a, ns, _, rfl, s4.seq hS, by decide, fun v19 => ⟨_, rfl, r, _, rfl, .inl (SqL.of e5), _, _, rfl, rfl, _, _, rfl, rfl, suc0 _, ?_⟩⟩
    rw [List.length_replicate]
    have i0 := Int.emod_nonneg v19 (Int.ne_of_gt (suc0 tn.toNat))
    have i1 := Int.emod_lt_of_pos v19 (suc0 tn.toNat)
    dsimp only
    generalize v19 % (((tn.toNat : Nat) : Int) + 1) = ix at i0 i1
    refine ⟨_, rfl, r, _, ix, _, rfl, rfl, e5, i0, (by rw [List.length_replicate]; exact Int.le_of_lt_add_one i1), (by rw [List.length_replicate]; exact Nat.le_trans tN (by decide)), ?_⟩
    obtain ⟨ts, hts, mg, bt⟩ : ∃ ts : List Int, List.take ix.toNat (List.replicate tn.toNat (V.int 1)) ++ [V.int gone] ++ List.drop ix.toNat (List.replicate tn.toNat (V.int 1)) = ts.map V.int ∧ gone ∈ ts ∧ ∀ x ∈ ts, -(10 ^ 60) ≤ x ∧ x ≤ 10 ^ 60 := by
      refine ⟨List.take ix.toNat (List.replicate tn.toNat 1) ++ [gone] ++ List.drop ix.toNat (List.replicate tn.toNat 1), by simp, by simp, fun x hx => ?_⟩
      simp only [List.mem_append, List.mem_singleton] at hx
      rcases hx with (hx | rfl) | hx
      · have := List.eq_of_mem_replicate (List.mem_of_mem_take hx)
        subst this
        exact ⟨by decide, by decide⟩
      · exact ⟨gl, gh⟩
      · have := List.eq_of_mem_replicate (List.mem_of_mem_drop hx)
        subst this
        exact ⟨by decide, by decide⟩
    rw [hts]
    have s6 := s4.up fr (o := .lst (ts.map V.int))
    have e6 : upd H3 r (.lst (ts.map V.int)) p1 = some (.lst (xs.map V.int)) := by rw [upd_ne nrp]; exact e4
    have e7 : upd H3 r (.lst (ts.map V.int)) r = some (.lst (ts.map V.int)) := upd_same
    generalize upd H3 r (.lst (ts.map V.int)) = H4 at s6 e6 e7
    rw [hR]
    clear hR R
    -- other
    refine seq_gen fun R hR => ?_
    refine ⟨_, rfl, a, ns, 20, 12, rfl, s6.seq hS, by decide, by decide, by decide, fun p2 H5 ys hp2 s7 e8 py y12 => ?_⟩
    have S := s6.trans s7
    have hX := s7 _ _ e6
    have hT := s7 _ _ e7
    have pX : PB false xs := ⟨px, x12⟩
    have pY : PB false ys := ⟨py, Int.ofNat_le.mp y12⟩
    have gn : Gone xs.length ts := ⟨gone, mg, gb⟩
    have ki : ∀ {k : Int}, V.int kd = V.int k → kd = k := fun e => by injection e
    dsimp only [gName]
    rw [hR]
    clear hR R
    refine seq_gen fun R hR => ?_
    refine ⟨_, rfl, _, _, rfl, rfl, _, rfl, ite2D (fun k2 => ?_) (fun k2 => ?_)⟩
    · refine ⟨_, rfl, _, rfl, _, rfl, rfl, a, p1, ns, xs, decide (V.int kd = V.int 0), rfl, S.seq hS, hX, px, x12, fun rb H6 zs hrb s8 e9 z40 nz => ?_⟩
      dsimp only [gName]
      refine seq_gen fun R2 hR2 => ?_
      have fin : ∀ (b : Addr) (H7 : Hp) (ws : List Int), Same H5 H7 → H7 b = some (.lst (ws.map V.int)) → ws.length ≤ 40 → ((kd = 0 ∧ ¬ PB false ws) ∨ (kd = 1 ∧ ¬ PB true ws)) → R2 [some (.ref a), some (.ref p1), some (.int kd), some (.int way), some (.int gone), some (.ref r), some (.ref p2), some (.ref b), none] H7 := by
        intro b H7 ws s e l c
        rw [hR2]
        refine ⟨_, rfl, _, rfl, _, rfl, _, rfl, _, rfl, kd, way, b, r, p2, ws, ts, ys, 0, rfl, SqL.of e, SqL.of (s _ _ hT), SqL.of (s _ _ e8), l, bt, pY, by decide, ?_, fun pt H8 e11 => eq_told e11 q⟩
        rcases c with ⟨z, n⟩ | ⟨z, n⟩
        · exact .inl ⟨z, .inl ⟨rfl, n⟩⟩
        · exact .inr (.inl ⟨z, .inl ⟨rfl, n⟩⟩)
      clear hR2
      refine ⟨_, rfl, rfl, _, rfl, ite2D (fun e => ?_) (fun n => ?_)⟩
      · have e := ki e
        refine ⟨_, rfl, _, rfl, a, ns, _, rfl, (S.trans s8).seq hS, by decide, fun v33 => ⟨rb, zs, v33, rfl, SqL.of e9, z40, fun pb H7 ws hpb s9 e10 ab => ?_⟩⟩
        have wl : ws.length = zs.length := by have := congrArg List.length ab; simpa using this
        refine fin pb H7 ws (s8.trans s9) e10 (by rw [wl]; exact z40) (.inr ⟨e, ?_⟩)
        have ez : (!decide (V.int kd = V.int 0)) = true := by rw [decide_eq_false (fun z => by have := (ki z).symm.trans e; exact absurd this (by decide))]; rfl
        rw [ez] at nz
        exact fun z => nz ⟨ab ▸ z.1, ab ▸ z.2⟩
      · have e : kd = 0 := (two k0 k2).resolve_right fun z => n (by rw [z])
        refine fin rb H6 zs s8 e9 z40 (.inl ⟨e, ?_⟩)
        have ez : (!decide (V.int kd = V.int 0)) = false := by rw [decide_eq_true (by rw [e])]; rfl
        rwa [ez] at nz
    show R _ _
    rw [hR]
    clear hR R
    refine seq_gen fun R hR => ?_
    refine ⟨_, rfl, _, _, rfl, rfl, _, rfl, ite2D (fun k4 => ?_) (fun k4 => ?_)⟩
    · refine ⟨_, rfl, _, _, rfl, rfl, _, rfl, _, rfl, _, rfl, kd - 2, 0, p1, r, p2, xs, ts, ys, 1, rfl, SqL.of hX, SqL.of hT, SqL.of e8, Nat.le_trans x12 (by decide), bt, pY, by decide, ?_, fun pt H8 e11 => ?_⟩
      · have : kd = 2 ∨ kd = 3 := (upto (k := 4) (P := fun w => w < 2 ∨ w = 2 ∨ w = 3) k0 k4 (by decide)).resolve_left k2
        rcases this with z | z
        · exact .inl ⟨by rw [z]; rfl, .inr ⟨rfl, rfl, pX, gn⟩⟩
        · exact .inr (.inl ⟨by rw [z]; rfl, .inr ⟨rfl, rfl, ⟨by rw [px.abs]; exact px, by rw [px.abs]; exact x12⟩, gn⟩⟩)
      · refine ⟨small12 (by show 6 ≤ 1000; decide), fun l hl => ?_⟩
        exact ⟨pt, l, toldB 1, [false, true, false, false, false, true], rfl, rfl, SqL.of ((Same.new hl) _ _ e11), SqL.of upd_same, q _⟩
    -- the heights
    show R _ _
    rw [hR]
    clear hR R
    refine seq_gen fun R hR => ?_
    refine ⟨_, rfl, _, _, rfl, rfl, (by show (0 : Int) < 6; decide), ?_⟩
    have w0 := Int.emod_nonneg way (show (6 : Int) ≠ 0 by decide)
    have w1 := Int.emod_lt_of_pos way (show (0 : Int) < 6 by decide)
    dsimp only
    generalize way % (6 : Int) = wy at w0 w1
    rw [hR]
    clear hR R
    dsimp only [gName]
    refine seq_gen fun R hR => ?_
    refine ⟨_, rfl, a, ns, _, rfl, S.seq hS, by decide, fun u18 => ⟨_, _, rfl, rfl, (by show (0 : Int) < 4; decide), rfl, _, rfl, ite2D (fun _ => ?_) (fun _ => ?_)⟩⟩
    · refine ⟨_, rfl, p1, _, rfl, .inl (SqL.of hX), _, rfl, p1, _, rfl, .inl (SqL.of hX), _, _, rfl, rfl, (by show (0 : Int) < 12; decide), _, _, rfl, rfl, small12 (by show 2 ≤ 1000; decide), fun d5 h5 => ?_⟩
      have s8 := Same.new (o := .lst [.int ((xs.map V.int).length : Int), .int (1 + ((xs.map V.int).length : Int) % 12)]) h5
      refine ⟨_, rfl, p1, _, rfl, .inl (SqL.of (s8 _ _ hX)), _, rfl, p2, _, rfl, .inl (SqL.of (s8 _ _ e8)), rfl, .inr ⟨_, rfl, ?_⟩⟩
      rw [len_map, len_map] at *
      obtain ⟨size, hz, z1, z2, z3⟩ : ∃ size : Int, atI [V.int (xs.length : Int), V.int (1 + (xs.length : Int) % 12)] (if decide (V.int (xs.length : Int) = V.int (ys.length : Int)) = true then 1 else 0) = some (.int size) ∧ 1 ≤ size ∧ size ≤ 12 ∧ size ≠ ys.length := by
        by_cases z : xs.length = ys.length
        · obtain ⟨o1, o2, o3⟩ := other_size n1 x12
          exact ⟨1 + (xs.length : Int) % 12, by rw [if_pos (decide_eq_true (by rw [z]))]; rfl, o1, o2, by rw [← z]; exact o3⟩
        · have zi : (xs.length : Int) ≠ ys.length := fun h => z (Int.ofNat.inj h)
          exact ⟨xs.length, by rw [if_neg (by rw [decide_eq_false (fun h => zi (by injection h))]; decide)]; rfl, nat1 n1, l12, zi⟩
      refine ⟨d5, _, _, .int size, rfl, rfl, SqL.of upd_same, ?_, ?_⟩
      · exact hz
      · refine ⟨_, rfl, small12 (by show 1 ≤ 1000; decide), fun d6 h6 => ⟨Nat.zero_le _, fun d7 h7 => ?_⟩⟩
        have s9 := s8.up (s8.free h6) (o := .lst [.int size])
        have s10 := s9.up (s9.free h7) (o := .lst [])
        refine ⟨_, rfl, 2, 6, d6, d7, p2, [size], [], ys, 0, rfl, SqL.of (by rw [upd_ne (ne_of_none upd_same h7), upd_same]; rfl), SqL.of upd_same, SqL.of (s10 _ _ e8), (by show 1 ≤ 40; decide), fun x hx => (nomatch hx), pY, by decide, .inr (.inr ⟨rfl, size, rfl, (small60 z1 z2).1, (small60 z1 z2).2, .inr ⟨rfl, rfl, z1, z2, z3⟩⟩), fun pt H8 e11 => ?_⟩
        exact eq_told e11 q
    show R _ _
    rw [hR]
    clear hR R
    refine seq_gen fun R hR => ?_
    refine ⟨small12 (by show 6 ≤ 1000; decide), fun d5 h5 => ?_⟩
    have s8 := Same.new (o := .lst [.int 7, .int 5, .int 8, .int 5, .int 8, .int 8]) h5
    obtain ⟨b, m, hb, hm, m0, cs⟩ := heights ys w0 w1
    refine ⟨_, rfl, d5, _, _, .int b, rfl, rfl, SqL.of upd_same, hb, _, rfl, a, ns, _, rfl, (S.trans s8).seq hS, by decide, fun u19 => ⟨_, _, rfl, rfl, ⟨by decide, by decide, by decide⟩, _, _, rfl, rfl, ⟨by decide, by decide, by decide⟩, small12 (by show 6 ≤ 1000; decide), fun d6 h6 => ?_⟩⟩
    have s9 := s8.up (s8.free h6) (o := .lst [V.int (10 ^ (39 : Int).toNat), V.int (10 ^ (39 : Int).toNat), V.int 5, V.int 8, V.int 5, V.int 5])
    refine ⟨_, rfl, d6, _, _, .int m, rfl, rfl, SqL.of upd_same, hm, _, _, rfl, rfl, m0, _, _, rfl, rfl, ?_⟩
    obtain ⟨⟨zl, zh⟩, zc⟩ := cs (u19 % m) (Int.emod_nonneg u19 (Int.ne_of_gt m0)) (Int.emod_lt_of_pos u19 m0)
    dsimp only
    generalize b + u19 % m = size at zl zh zc
    have e9 := s9 _ _ e8
    have S9 := (S.trans s9).seq hS
    generalize upd (upd H5 d5 (.lst [.int 7, .int 5, .int 8, .int 5, .int 8, .int 8])) d6 (.lst [V.int (10 ^ (39 : Int).toNat), V.int (10 ^ (39 : Int).toNat), V.int 5, V.int 8, V.int 5, V.int 5]) = H9 at e9 S9
    rw [hR]
    clear hR R
    dsimp only [gName]
    refine seq_gen fun R hR => ?_
    have fin : ∀ sv : Int, -(10 ^ 60) ≤ sv → sv ≤ 10 ^ 60 → CondR wy sv ys 2 → R [some (.ref a), some (.ref p1), some (.int kd), some (.int wy), some (.int gone), some (.ref r), some (.ref p2), none, some (.int sv)] H9 := by
      intro sv zl zh zc
      rw [hR]
      refine ⟨_, rfl, _, rfl, small12 (by show 1 ≤ 1000; decide), fun d8 h8 => ⟨Nat.zero_le _, fun d9 h9 => ?_⟩⟩
      have s12 := Same.new h8 (o := .lst [.int sv])
      have s13 := s12.up (s12.free h9) (o := .lst [])
      refine ⟨_, rfl, 2, wy, d8, d9, p2, [sv], [], ys, 2, rfl, SqL.of (by rw [upd_ne (ne_of_none upd_same h9), upd_same]; rfl), SqL.of upd_same, SqL.of (s13 _ _ e9), (by show 1 ≤ 40; decide), fun x hx => (nomatch hx), pY, by decide, .inr (.inr ⟨rfl, sv, rfl, zl, zh, zc⟩), fun pt H8 e11 => ?_⟩
      refine ⟨small12 (by show 6 ≤ 1000; decide), fun l hl => ?_⟩
      exact ⟨pt, l, toldB 2, [false, false, true, false, false, true], rfl, rfl, SqL.of ((Same.new hl) _ _ e11), SqL.of upd_same, q _⟩
    clear hR
    refine ⟨_, rfl, _, _, rfl, rfl, _, rfl, ite2D (fun l2 => ⟨_, rfl, a, ns, _, rfl, S9, by decide, fun u => ⟨_, _, rfl, rfl, (by show (0 : Int) < 4; decide), _, _, rfl, rfl, _, rfl, ite2D (fun _ => ?_) (fun _ => fin size zl zh zc)⟩⟩) (fun _ => fin size zl zh zc)⟩
    refine ⟨_, rfl, a, ns, _, rfl, S9, by decide, fun y19 => ⟨_, _, rfl, rfl, ⟨by decide, by decide, by decide⟩, _, _, rfl, rfl, (by show (0 : Int) < 10 ^ 39; decide), _, rfl, ?_⟩⟩
    have v0 : 0 ≤ y19 % (10 : Int) ^ (39 : Int).toNat := Int.emod_nonneg y19 (show (10 ^ 39 : Int) ≠ 0 by decide)
    have v1 : y19 % (10 : Int) ^ (39 : Int).toNat < 10 ^ 39 := Int.emod_lt_of_pos y19 (show (0 : Int) < 10 ^ 39 by decide)
    refine fin _ (bnd_neg v0 v1).1 (bnd_neg v0 v1).2 (.inl ⟨rfl, ?_⟩)
    rcases two w0 l2 with z | z
    · exact .inl ⟨z, far_neg v0⟩
    · exact .inr (.inl ⟨z, far_neg v0⟩)
end
end Fl

namespace Fl
open PySem L2
theorem all_mk {l : PySem.W.OpenLaw} {w : World} {K : PySem.W.Frag} {h : Heap} {mg : Str → Option Value} {fa : Addr} (X : K.In h) (G : h.Ns mainGlobals mg) (hfa : mg "law" = some (.ref fa))
    {C_FlipError C_NoPile C_NoTurn C_TooTall C_NoBack C_BadLine C_Stack f_check_pile f_without_signs f_check_burnt_pile f_check_turns f_behind f_burnt_behind f_check_size f_counts f_burnt_counts f_gaps f_burnt_gaps f_plan f_burnt_plan f_check_height f_fewest f_burnt_fewest f_between f_shown f_Stack___init__ f_Stack_fewest f_law_cell_at f_law_pile f_law_burnt f_law_which f_law_one f_law_other f_law_rest f_law_told f_law_no_pile f_law : Addr}
    {oc_check_pile kV_check_pile dc_check_pile pm_check_pile cd_check_pile ct_check_pile : Value} {od_check_pile an_check_pile : Option Addr} {sl_check_pile : Array (Option Value)}
    {oc_without_signs kV_without_signs dc_without_signs pm_without_signs cd_without_signs ct_without_signs : Value} {od_without_signs an_without_signs : Option Addr} {sl_without_signs : Array (Option Value)}
    {oc_check_burnt_pile kV_check_burnt_pile dc_check_burnt_pile pm_check_burnt_pile cd_check_burnt_pile ct_check_burnt_pile : Value} {od_check_burnt_pile an_check_burnt_pile : Option Addr} {sl_check_burnt_pile : Array (Option Value)}
    {oc_check_turns kV_check_turns dc_check_turns pm_check_turns cd_check_turns ct_check_turns : Value} {od_check_turns an_check_turns : Option Addr} {sl_check_turns : Array (Option Value)}
    {oc_behind kV_behind dc_behind pm_behind cd_behind ct_behind : Value} {od_behind an_behind : Option Addr} {sl_behind : Array (Option Value)}
    {oc_burnt_behind kV_burnt_behind dc_burnt_behind pm_burnt_behind cd_burnt_behind ct_burnt_behind : Value} {od_burnt_behind an_burnt_behind : Option Addr} {sl_burnt_behind : Array (Option Value)}
    {oc_check_size kV_check_size dc_check_size pm_check_size cd_check_size ct_check_size : Value} {od_check_size an_check_size : Option Addr} {sl_check_size : Array (Option Value)}
    {oc_counts kV_counts dc_counts pm_counts cd_counts ct_counts : Value} {od_counts an_counts : Option Addr} {sl_counts : Array (Option Value)}
    {oc_burnt_counts kV_burnt_counts dc_burnt_counts pm_burnt_counts cd_burnt_counts ct_burnt_counts : Value} {od_burnt_counts an_burnt_counts : Option Addr} {sl_burnt_counts : Array (Option Value)}
    {oc_gaps kV_gaps dc_gaps pm_gaps cd_gaps ct_gaps : Value} {od_gaps an_gaps : Option Addr} {sl_gaps : Array (Option Value)}
    {oc_burnt_gaps kV_burnt_gaps dc_burnt_gaps pm_burnt_gaps cd_burnt_gaps ct_burnt_gaps : Value} {od_burnt_gaps an_burnt_gaps : Option Addr} {sl_burnt_gaps : Array (Option Value)}
    {oc_plan kV_plan dc_plan pm_plan cd_plan ct_plan : Value} {od_plan an_plan : Option Addr} {sl_plan : Array (Option Value)}
    {oc_burnt_plan kV_burnt_plan dc_burnt_plan pm_burnt_plan cd_burnt_plan ct_burnt_plan : Value} {od_burnt_plan an_burnt_plan : Option Addr} {sl_burnt_plan : Array (Option Value)}
    {oc_check_height kV_check_height dc_check_height pm_check_height cd_check_height ct_check_height : Value} {od_check_height an_check_height : Option Addr} {sl_check_height : Array (Option Value)}
    {oc_fewest kV_fewest dc_fewest pm_fewest cd_fewest ct_fewest : Value} {od_fewest an_fewest : Option Addr} {sl_fewest : Array (Option Value)}
    {oc_burnt_fewest kV_burnt_fewest dc_burnt_fewest pm_burnt_fewest cd_burnt_fewest ct_burnt_fewest : Value} {od_burnt_fewest an_burnt_fewest : Option Addr} {sl_burnt_fewest : Array (Option Value)}
    {oc_between kV_between dc_between pm_between cd_between ct_between : Value} {od_between an_between : Option Addr} {sl_between : Array (Option Value)}
    {oc_shown kV_shown dc_shown pm_shown cd_shown ct_shown : Value} {od_shown an_shown : Option Addr} {sl_shown : Array (Option Value)}
    {oc_Stack___init__ kV_Stack___init__ dc_Stack___init__ pm_Stack___init__ cd_Stack___init__ ct_Stack___init__ : Value} {od_Stack___init__ an_Stack___init__ : Option Addr} {sl_Stack___init__ : Array (Option Value)}
    {oc_Stack_fewest kV_Stack_fewest dc_Stack_fewest pm_Stack_fewest cd_Stack_fewest ct_Stack_fewest : Value} {od_Stack_fewest an_Stack_fewest : Option Addr} {sl_Stack_fewest : Array (Option Value)}
    {oc_law_cell_at kV_law_cell_at dc_law_cell_at pm_law_cell_at cd_law_cell_at ct_law_cell_at : Value} {od_law_cell_at an_law_cell_at : Option Addr} {sl_law_cell_at : Array (Option Value)}
    {oc_law_pile kV_law_pile dc_law_pile pm_law_pile cd_law_pile ct_law_pile : Value} {od_law_pile an_law_pile : Option Addr} {sl_law_pile : Array (Option Value)}
    {oc_law_burnt kV_law_burnt dc_law_burnt pm_law_burnt cd_law_burnt ct_law_burnt : Value} {od_law_burnt an_law_burnt : Option Addr} {sl_law_burnt : Array (Option Value)}
    {oc_law_which kV_law_which dc_law_which pm_law_which cd_law_which ct_law_which : Value} {od_law_which an_law_which : Option Addr} {sl_law_which : Array (Option Value)}
    {oc_law_one kV_law_one dc_law_one pm_law_one cd_law_one ct_law_one : Value} {od_law_one an_law_one : Option Addr} {sl_law_one : Array (Option Value)}
    {oc_law_other kV_law_other dc_law_other pm_law_other cd_law_other ct_law_other : Value} {od_law_other an_law_other : Option Addr} {sl_law_other : Array (Option Value)}
    {oc_law_rest kV_law_rest dc_law_rest pm_law_rest cd_law_rest ct_law_rest : Value} {od_law_rest an_law_rest : Option Addr} {sl_law_rest : Array (Option Value)}
    {oc_law_told kV_law_told dc_law_told pm_law_told cd_law_told ct_law_told : Value} {od_law_told an_law_told : Option Addr} {sl_law_told : Array (Option Value)}
    {oc_law_no_pile kV_law_no_pile dc_law_no_pile pm_law_no_pile cd_law_no_pile ct_law_no_pile : Value} {od_law_no_pile an_law_no_pile : Option Addr} {sl_law_no_pile : Array (Option Value)}
    {oc_law kV_law dc_law pm_law cd_law ct_law : Value} {od_law an_law : Option Addr} {sl_law : Array (Option Value)}
    (hx_FlipError : PySem.W.nsIn K mainGlobals "FlipError" = some (some (.ref C_FlipError)))
    (hx_NoPile : PySem.W.nsIn K mainGlobals "NoPile" = some (some (.ref C_NoPile)))
    (hx_NoTurn : PySem.W.nsIn K mainGlobals "NoTurn" = some (some (.ref C_NoTurn)))
    (hx_TooTall : PySem.W.nsIn K mainGlobals "TooTall" = some (some (.ref C_TooTall)))
    (hx_NoBack : PySem.W.nsIn K mainGlobals "NoBack" = some (some (.ref C_NoBack)))
    (hx_BadLine : PySem.W.nsIn K mainGlobals "BadLine" = some (some (.ref C_BadLine)))
    (hx_Stack : PySem.W.nsIn K mainGlobals "Stack" = some (some (.ref C_Stack)))
    (he_FlipError : PySem.W.excIn K C_FlipError vmro "ValueError.__new__" = true)
    (hk_FlipError : PySem.W.keepIn K (.ref C_FlipError) = true)
    (hg_FlipError : PySem.W.findIn K (.ref C_FlipError) "__getattribute__" = some (some (.builtin "BaseException.__getattribute__")))
    (hn_FlipError : PySem.W.findIn K (.ref C_FlipError) "__getattr__" = some none)
    (hc_FlipError : PySem.W.findIn K (.ref C_FlipError) "__class__" = some (some (.builtin "object.__class__")))
    (he_NoPile : PySem.W.excIn K C_NoPile vmro "ValueError.__new__" = true)
    (hk_NoPile : PySem.W.keepIn K (.ref C_NoPile) = true)
    (hg_NoPile : PySem.W.findIn K (.ref C_NoPile) "__getattribute__" = some (some (.builtin "BaseException.__getattribute__")))
    (hn_NoPile : PySem.W.findIn K (.ref C_NoPile) "__getattr__" = some none)
    (hc_NoPile : PySem.W.findIn K (.ref C_NoPile) "__class__" = some (some (.builtin "object.__class__")))
    (he_NoTurn : PySem.W.excIn K C_NoTurn vmro "ValueError.__new__" = true)
    (hk_NoTurn : PySem.W.keepIn K (.ref C_NoTurn) = true)
    (hg_NoTurn : PySem.W.findIn K (.ref C_NoTurn) "__getattribute__" = some (some (.builtin "BaseException.__getattribute__")))
    (hn_NoTurn : PySem.W.findIn K (.ref C_NoTurn) "__getattr__" = some none)
    (hc_NoTurn : PySem.W.findIn K (.ref C_NoTurn) "__class__" = some (some (.builtin "object.__class__")))
    (he_TooTall : PySem.W.excIn K C_TooTall vmro "ValueError.__new__" = true)
    (hk_TooTall : PySem.W.keepIn K (.ref C_TooTall) = true)
    (hg_TooTall : PySem.W.findIn K (.ref C_TooTall) "__getattribute__" = some (some (.builtin "BaseException.__getattribute__")))
    (hn_TooTall : PySem.W.findIn K (.ref C_TooTall) "__getattr__" = some none)
    (hc_TooTall : PySem.W.findIn K (.ref C_TooTall) "__class__" = some (some (.builtin "object.__class__")))
    (he_NoBack : PySem.W.excIn K C_NoBack vmro "ValueError.__new__" = true)
    (hk_NoBack : PySem.W.keepIn K (.ref C_NoBack) = true)
    (hg_NoBack : PySem.W.findIn K (.ref C_NoBack) "__getattribute__" = some (some (.builtin "BaseException.__getattribute__")))
    (hn_NoBack : PySem.W.findIn K (.ref C_NoBack) "__getattr__" = some none)
    (hc_NoBack : PySem.W.findIn K (.ref C_NoBack) "__class__" = some (some (.builtin "object.__class__")))
    (he_BadLine : PySem.W.excIn K C_BadLine vmro "ValueError.__new__" = true)
    (hk_BadLine : PySem.W.keepIn K (.ref C_BadLine) = true)
    (hg_BadLine : PySem.W.findIn K (.ref C_BadLine) "__getattribute__" = some (some (.builtin "BaseException.__getattribute__")))
    (hn_BadLine : PySem.W.findIn K (.ref C_BadLine) "__getattr__" = some none)
    (hc_BadLine : PySem.W.findIn K (.ref C_BadLine) "__class__" = some (some (.builtin "object.__class__")))
    (hu_NoPile : PySem.W.mroIn K C_NoPile (.ref C_FlipError) = some true)
    (hi_NoPile_NoPile : PySem.W.kitOne K (.ref C_NoPile) (.ref C_NoPile) = some true)
    (hi_NoPile_NoTurn : PySem.W.kitOne K (.ref C_NoPile) (.ref C_NoTurn) = some false)
    (hi_NoPile_TooTall : PySem.W.kitOne K (.ref C_NoPile) (.ref C_TooTall) = some false)
    (hi_NoPile_NoBack : PySem.W.kitOne K (.ref C_NoPile) (.ref C_NoBack) = some false)
    (hi_NoPile_BadLine : PySem.W.kitOne K (.ref C_NoPile) (.ref C_BadLine) = some false)
    (hi_NoPile_V : PySem.W.kitOne K (.ref C_NoPile) (.type "ValueError") = some true)
    (hu_NoTurn : PySem.W.mroIn K C_NoTurn (.ref C_FlipError) = some true)
    (hi_NoTurn_NoPile : PySem.W.kitOne K (.ref C_NoTurn) (.ref C_NoPile) = some false)
    (hi_NoTurn_NoTurn : PySem.W.kitOne K (.ref C_NoTurn) (.ref C_NoTurn) = some true)
    (hi_NoTurn_TooTall : PySem.W.kitOne K (.ref C_NoTurn) (.ref C_TooTall) = some false)
    (hi_NoTurn_NoBack : PySem.W.kitOne K (.ref C_NoTurn) (.ref C_NoBack) = some false)
    (hi_NoTurn_BadLine : PySem.W.kitOne K (.ref C_NoTurn) (.ref C_BadLine) = some false)
    (hi_NoTurn_V : PySem.W.kitOne K (.ref C_NoTurn) (.type "ValueError") = some true)
    (hu_TooTall : PySem.W.mroIn K C_TooTall (.ref C_FlipError) = some true)
    (hi_TooTall_NoPile : PySem.W.kitOne K (.ref C_TooTall) (.ref C_NoPile) = some false)
    (hi_TooTall_NoTurn : PySem.W.kitOne K (.ref C_TooTall) (.ref C_NoTurn) = some false)
    (hi_TooTall_TooTall : PySem.W.kitOne K (.ref C_TooTall) (.ref C_TooTall) = some true)
    (hi_TooTall_NoBack : PySem.W.kitOne K (.ref C_TooTall) (.ref C_NoBack) = some false)
    (hi_TooTall_BadLine : PySem.W.kitOne K (.ref C_TooTall) (.ref C_BadLine) = some false)
    (hi_TooTall_V : PySem.W.kitOne K (.ref C_TooTall) (.type "ValueError") = some true)
    (pg_Stack : PySem.W.plainGet K C_Stack Str.empty = true)
    (hd_Stack : PySem.W.hasDictIn K C_Stack = true)
    (po_Stack : PySem.W.plainOver K C_Stack = true)
    (sa_Stack : PySem.W.findIn K (.ref C_Stack) "__setattr__" = some (some (.builtin "object.__setattr__")))
    (na_cakes : PySem.W.findIn K (.ref C_Stack) "cakes" = some none)
    (na_done : PySem.W.findIn K (.ref C_Stack) "done" = some none)
    (a_check_pile : PySem.W.nsIn K mainGlobals "check_pile" = some (some (.ref f_check_pile)))
    (l_check_pile : K.lookup f_check_pile = some ⟨oc_check_pile, od_check_pile, .func (PySem.W.fnOf "check_pile" "check_pile" (defArgs s_check_pile) (defBody s_check_pile) (defScope s_check_pile) .none kV_check_pile dc_check_pile pm_check_pile an_check_pile cd_check_pile ct_check_pile), sl_check_pile⟩)
    (q_check_pile : PySem.W.codeIn K cd_check_pile "check_pile" = true)
    (k_check_pile : PySem.W.keepIn K (.ref f_check_pile) = true)
    (a_without_signs : PySem.W.nsIn K mainGlobals "without_signs" = some (some (.ref f_without_signs)))
    (l_without_signs : K.lookup f_without_signs = some ⟨oc_without_signs, od_without_signs, .func (PySem.W.fnOf "without_signs" "without_signs" (defArgs s_without_signs) (defBody s_without_signs) (defScope s_without_signs) .none kV_without_signs dc_without_signs pm_without_signs an_without_signs cd_without_signs ct_without_signs), sl_without_signs⟩)
    (q_without_signs : PySem.W.codeIn K cd_without_signs "without_signs" = true)
    (k_without_signs : PySem.W.keepIn K (.ref f_without_signs) = true)
    (a_check_burnt_pile : PySem.W.nsIn K mainGlobals "check_burnt_pile" = some (some (.ref f_check_burnt_pile)))
    (l_check_burnt_pile : K.lookup f_check_burnt_pile = some ⟨oc_check_burnt_pile, od_check_burnt_pile, .func (PySem.W.fnOf "check_burnt_pile" "check_burnt_pile" (defArgs s_check_burnt_pile) (defBody s_check_burnt_pile) (defScope s_check_burnt_pile) .none kV_check_burnt_pile dc_check_burnt_pile pm_check_burnt_pile an_check_burnt_pile cd_check_burnt_pile ct_check_burnt_pile), sl_check_burnt_pile⟩)
    (q_check_burnt_pile : PySem.W.codeIn K cd_check_burnt_pile "check_burnt_pile" = true)
    (k_check_burnt_pile : PySem.W.keepIn K (.ref f_check_burnt_pile) = true)
    (a_check_turns : PySem.W.nsIn K mainGlobals "check_turns" = some (some (.ref f_check_turns)))
    (l_check_turns : K.lookup f_check_turns = some ⟨oc_check_turns, od_check_turns, .func (PySem.W.fnOf "check_turns" "check_turns" (defArgs s_check_turns) (defBody s_check_turns) (defScope s_check_turns) .none kV_check_turns dc_check_turns pm_check_turns an_check_turns cd_check_turns ct_check_turns), sl_check_turns⟩)
    (q_check_turns : PySem.W.codeIn K cd_check_turns "check_turns" = true)
    (k_check_turns : PySem.W.keepIn K (.ref f_check_turns) = true)
    (a_behind : PySem.W.nsIn K mainGlobals "behind" = some (some (.ref f_behind)))
    (l_behind : K.lookup f_behind = some ⟨oc_behind, od_behind, .func (PySem.W.fnOf "behind" "behind" (defArgs s_behind) (defBody s_behind) (defScope s_behind) .none kV_behind dc_behind pm_behind an_behind cd_behind ct_behind), sl_behind⟩)
    (q_behind : PySem.W.codeIn K cd_behind "behind" = true)
    (k_behind : PySem.W.keepIn K (.ref f_behind) = true)
    (a_burnt_behind : PySem.W.nsIn K mainGlobals "burnt_behind" = some (some (.ref f_burnt_behind)))
    (l_burnt_behind : K.lookup f_burnt_behind = some ⟨oc_burnt_behind, od_burnt_behind, .func (PySem.W.fnOf "burnt_behind" "burnt_behind" (defArgs s_burnt_behind) (defBody s_burnt_behind) (defScope s_burnt_behind) .none kV_burnt_behind dc_burnt_behind pm_burnt_behind an_burnt_behind cd_burnt_behind ct_burnt_behind), sl_burnt_behind⟩)
    (q_burnt_behind : PySem.W.codeIn K cd_burnt_behind "burnt_behind" = true)
    (k_burnt_behind : PySem.W.keepIn K (.ref f_burnt_behind) = true)
    (a_check_size : PySem.W.nsIn K mainGlobals "check_size" = some (some (.ref f_check_size)))
    (l_check_size : K.lookup f_check_size = some ⟨oc_check_size, od_check_size, .func (PySem.W.fnOf "check_size" "check_size" (defArgs s_check_size) (defBody s_check_size) (defScope s_check_size) .none kV_check_size dc_check_size pm_check_size an_check_size cd_check_size ct_check_size), sl_check_size⟩)
    (q_check_size : PySem.W.codeIn K cd_check_size "check_size" = true)
    (k_check_size : PySem.W.keepIn K (.ref f_check_size) = true)
    (a_counts : PySem.W.nsIn K mainGlobals "counts" = some (some (.ref f_counts)))
    (l_counts : K.lookup f_counts = some ⟨oc_counts, od_counts, .func (PySem.W.fnOf "counts" "counts" (defArgs s_counts) (defBody s_counts) (defScope s_counts) .none kV_counts dc_counts pm_counts an_counts cd_counts ct_counts), sl_counts⟩)
    (q_counts : PySem.W.codeIn K cd_counts "counts" = true)
    (k_counts : PySem.W.keepIn K (.ref f_counts) = true)
    (a_burnt_counts : PySem.W.nsIn K mainGlobals "burnt_counts" = some (some (.ref f_burnt_counts)))
    (l_burnt_counts : K.lookup f_burnt_counts = some ⟨oc_burnt_counts, od_burnt_counts, .func (PySem.W.fnOf "burnt_counts" "burnt_counts" (defArgs s_burnt_counts) (defBody s_burnt_counts) (defScope s_burnt_counts) .none kV_burnt_counts dc_burnt_counts pm_burnt_counts an_burnt_counts cd_burnt_counts ct_burnt_counts), sl_burnt_counts⟩)
    (q_burnt_counts : PySem.W.codeIn K cd_burnt_counts "burnt_counts" = true)
    (k_burnt_counts : PySem.W.keepIn K (.ref f_burnt_counts) = true)
    (a_gaps : PySem.W.nsIn K mainGlobals "gaps" = some (some (.ref f_gaps)))
    (l_gaps : K.lookup f_gaps = some ⟨oc_gaps, od_gaps, .func (PySem.W.fnOf "gaps" "gaps" (defArgs s_gaps) (defBody s_gaps) (defScope s_gaps) .none kV_gaps dc_gaps pm_gaps an_gaps cd_gaps ct_gaps), sl_gaps⟩)
    (q_gaps : PySem.W.codeIn K cd_gaps "gaps" = true)
    (k_gaps : PySem.W.keepIn K (.ref f_gaps) = true)
    (a_burnt_gaps : PySem.W.nsIn K mainGlobals "burnt_gaps" = some (some (.ref f_burnt_gaps)))
    (l_burnt_gaps : K.lookup f_burnt_gaps = some ⟨oc_burnt_gaps, od_burnt_gaps, .func (PySem.W.fnOf "burnt_gaps" "burnt_gaps" (defArgs s_burnt_gaps) (defBody s_burnt_gaps) (defScope s_burnt_gaps) .none kV_burnt_gaps dc_burnt_gaps pm_burnt_gaps an_burnt_gaps cd_burnt_gaps ct_burnt_gaps), sl_burnt_gaps⟩)
    (q_burnt_gaps : PySem.W.codeIn K cd_burnt_gaps "burnt_gaps" = true)
    (k_burnt_gaps : PySem.W.keepIn K (.ref f_burnt_gaps) = true)
    (a_plan : PySem.W.nsIn K mainGlobals "plan" = some (some (.ref f_plan)))
    (l_plan : K.lookup f_plan = some ⟨oc_plan, od_plan, .func (PySem.W.fnOf "plan" "plan" (defArgs s_plan) (defBody s_plan) (defScope s_plan) .none kV_plan dc_plan pm_plan an_plan cd_plan ct_plan), sl_plan⟩)
    (q_plan : PySem.W.codeIn K cd_plan "plan" = true)
    (k_plan : PySem.W.keepIn K (.ref f_plan) = true)
    (a_burnt_plan : PySem.W.nsIn K mainGlobals "burnt_plan" = some (some (.ref f_burnt_plan)))
    (l_burnt_plan : K.lookup f_burnt_plan = some ⟨oc_burnt_plan, od_burnt_plan, .func (PySem.W.fnOf "burnt_plan" "burnt_plan" (defArgs s_burnt_plan) (defBody s_burnt_plan) (defScope s_burnt_plan) .none kV_burnt_plan dc_burnt_plan pm_burnt_plan an_burnt_plan cd_burnt_plan ct_burnt_plan), sl_burnt_plan⟩)
    (q_burnt_plan : PySem.W.codeIn K cd_burnt_plan "burnt_plan" = true)
    (k_burnt_plan : PySem.W.keepIn K (.ref f_burnt_plan) = true)
    (a_check_height : PySem.W.nsIn K mainGlobals "check_height" = some (some (.ref f_check_height)))
    (l_check_height : K.lookup f_check_height = some ⟨oc_check_height, od_check_height, .func (PySem.W.fnOf "check_height" "check_height" (defArgs s_check_height) (defBody s_check_height) (defScope s_check_height) .none kV_check_height dc_check_height pm_check_height an_check_height cd_check_height ct_check_height), sl_check_height⟩)
    (q_check_height : PySem.W.codeIn K cd_check_height "check_height" = true)
    (k_check_height : PySem.W.keepIn K (.ref f_check_height) = true)
    (a_fewest : PySem.W.nsIn K mainGlobals "fewest" = some (some (.ref f_fewest)))
    (l_fewest : K.lookup f_fewest = some ⟨oc_fewest, od_fewest, .func (PySem.W.fnOf "fewest" "fewest" (defArgs s_fewest) (defBody s_fewest) (defScope s_fewest) .none kV_fewest dc_fewest pm_fewest an_fewest cd_fewest ct_fewest), sl_fewest⟩)
    (q_fewest : PySem.W.codeIn K cd_fewest "fewest" = true)
    (k_fewest : PySem.W.keepIn K (.ref f_fewest) = true)
    (a_burnt_fewest : PySem.W.nsIn K mainGlobals "burnt_fewest" = some (some (.ref f_burnt_fewest)))
    (l_burnt_fewest : K.lookup f_burnt_fewest = some ⟨oc_burnt_fewest, od_burnt_fewest, .func (PySem.W.fnOf "burnt_fewest" "burnt_fewest" (defArgs s_burnt_fewest) (defBody s_burnt_fewest) (defScope s_burnt_fewest) .none kV_burnt_fewest dc_burnt_fewest pm_burnt_fewest an_burnt_fewest cd_burnt_fewest ct_burnt_fewest), sl_burnt_fewest⟩)
    (q_burnt_fewest : PySem.W.codeIn K cd_burnt_fewest "burnt_fewest" = true)
    (k_burnt_fewest : PySem.W.keepIn K (.ref f_burnt_fewest) = true)
    (a_between : PySem.W.nsIn K mainGlobals "between" = some (some (.ref f_between)))
    (l_between : K.lookup f_between = some ⟨oc_between, od_between, .func (PySem.W.fnOf "between" "between" (defArgs s_between) (defBody s_between) (defScope s_between) .none kV_between dc_between pm_between an_between cd_between ct_between), sl_between⟩)
    (q_between : PySem.W.codeIn K cd_between "between" = true)
    (k_between : PySem.W.keepIn K (.ref f_between) = true)
    (a_shown : PySem.W.nsIn K mainGlobals "shown" = some (some (.ref f_shown)))
    (l_shown : K.lookup f_shown = some ⟨oc_shown, od_shown, .func (PySem.W.fnOf "shown" "shown" (defArgs s_shown) (defBody s_shown) (defScope s_shown) .none kV_shown dc_shown pm_shown an_shown cd_shown ct_shown), sl_shown⟩)
    (q_shown : PySem.W.codeIn K cd_shown "shown" = true)
    (k_shown : PySem.W.keepIn K (.ref f_shown) = true)
    (a_Stack___init__ : PySem.W.findIn K (.ref C_Stack) "__init__" = some (some (.ref f_Stack___init__)))
    (i_Stack___init__ : PySem.W.isFn K (.ref f_Stack___init__) = true)
    (l_Stack___init__ : K.lookup f_Stack___init__ = some ⟨oc_Stack___init__, od_Stack___init__, .func (PySem.W.fnOf "__init__" "Stack.__init__" (defArgs s_Stack___init__) (defBody s_Stack___init__) (defScope s_Stack___init__) .none kV_Stack___init__ dc_Stack___init__ pm_Stack___init__ an_Stack___init__ cd_Stack___init__ ct_Stack___init__), sl_Stack___init__⟩)
    (q_Stack___init__ : PySem.W.codeIn K cd_Stack___init__ "Stack.__init__" = true)
    (k_Stack___init__ : PySem.W.keepIn K (.ref f_Stack___init__) = true)
    (mk_Stack : PySem.W.makesIn K C_Stack = true)
    (kc_Stack : PySem.W.keepIn K (.ref C_Stack) = true)
    (a_Stack_fewest : PySem.W.findIn K (.ref C_Stack) "fewest" = some (some (.ref f_Stack_fewest)))
    (i_Stack_fewest : PySem.W.isFn K (.ref f_Stack_fewest) = true)
    (l_Stack_fewest : K.lookup f_Stack_fewest = some ⟨oc_Stack_fewest, od_Stack_fewest, .func (PySem.W.fnOf "fewest" "Stack.fewest" (defArgs s_Stack_fewest) (defBody s_Stack_fewest) (defScope s_Stack_fewest) .none kV_Stack_fewest dc_Stack_fewest pm_Stack_fewest an_Stack_fewest cd_Stack_fewest ct_Stack_fewest), sl_Stack_fewest⟩)
    (q_Stack_fewest : PySem.W.codeIn K cd_Stack_fewest "Stack.fewest" = true)
    (k_Stack_fewest : PySem.W.keepIn K (.ref f_Stack_fewest) = true)
    (a_law_cell_at : PySem.W.nsIn K mainGlobals "_law_cell_at" = some (some (.ref f_law_cell_at)))
    (l_law_cell_at : K.lookup f_law_cell_at = some ⟨oc_law_cell_at, od_law_cell_at, .func (PySem.W.fnOf "_law_cell_at" "_law_cell_at" (defArgs s_law_cell_at) (defBody s_law_cell_at) (defScope s_law_cell_at) .none kV_law_cell_at dc_law_cell_at pm_law_cell_at an_law_cell_at cd_law_cell_at ct_law_cell_at), sl_law_cell_at⟩)
    (q_law_cell_at : PySem.W.codeIn K cd_law_cell_at "_law_cell_at" = true)
    (k_law_cell_at : PySem.W.keepIn K (.ref f_law_cell_at) = true)
    (a_law_pile : PySem.W.nsIn K mainGlobals "_law_pile" = some (some (.ref f_law_pile)))
    (l_law_pile : K.lookup f_law_pile = some ⟨oc_law_pile, od_law_pile, .func (PySem.W.fnOf "_law_pile" "_law_pile" (defArgs s_law_pile) (defBody s_law_pile) (defScope s_law_pile) .none kV_law_pile dc_law_pile pm_law_pile an_law_pile cd_law_pile ct_law_pile), sl_law_pile⟩)
    (q_law_pile : PySem.W.codeIn K cd_law_pile "_law_pile" = true)
    (k_law_pile : PySem.W.keepIn K (.ref f_law_pile) = true)
    (a_law_burnt : PySem.W.nsIn K mainGlobals "_law_burnt" = some (some (.ref f_law_burnt)))
    (l_law_burnt : K.lookup f_law_burnt = some ⟨oc_law_burnt, od_law_burnt, .func (PySem.W.fnOf "_law_burnt" "_law_burnt" (defArgs s_law_burnt) (defBody s_law_burnt) (defScope s_law_burnt) .none kV_law_burnt dc_law_burnt pm_law_burnt an_law_burnt cd_law_burnt ct_law_burnt), sl_law_burnt⟩)
    (q_law_burnt : PySem.W.codeIn K cd_law_burnt "_law_burnt" = true)
    (k_law_burnt : PySem.W.keepIn K (.ref f_law_burnt) = true)
    (a_law_which : PySem.W.nsIn K mainGlobals "_law_which" = some (some (.ref f_law_which)))
    (l_law_which : K.lookup f_law_which = some ⟨oc_law_which, od_law_which, .func (PySem.W.fnOf "_law_which" "_law_which" (defArgs s_law_which) (defBody s_law_which) (defScope s_law_which) .none kV_law_which dc_law_which pm_law_which an_law_which cd_law_which ct_law_which), sl_law_which⟩)
    (q_law_which : PySem.W.codeIn K cd_law_which "_law_which" = true)
    (k_law_which : PySem.W.keepIn K (.ref f_law_which) = true)
    (a_law_one : PySem.W.nsIn K mainGlobals "_law_one" = some (some (.ref f_law_one)))
    (l_law_one : K.lookup f_law_one = some ⟨oc_law_one, od_law_one, .func (PySem.W.fnOf "_law_one" "_law_one" (defArgs s_law_one) (defBody s_law_one) (defScope s_law_one) .none kV_law_one dc_law_one pm_law_one an_law_one cd_law_one ct_law_one), sl_law_one⟩)
    (q_law_one : PySem.W.codeIn K cd_law_one "_law_one" = true)
    (k_law_one : PySem.W.keepIn K (.ref f_law_one) = true)
    (a_law_other : PySem.W.nsIn K mainGlobals "_law_other" = some (some (.ref f_law_other)))
    (l_law_other : K.lookup f_law_other = some ⟨oc_law_other, od_law_other, .func (PySem.W.fnOf "_law_other" "_law_other" (defArgs s_law_other) (defBody s_law_other) (defScope s_law_other) .none kV_law_other dc_law_other pm_law_other an_law_other cd_law_other ct_law_other), sl_law_other⟩)
    (q_law_other : PySem.W.codeIn K cd_law_other "_law_other" = true)
    (k_law_other : PySem.W.keepIn K (.ref f_law_other) = true)
    (a_law_rest : PySem.W.nsIn K mainGlobals "_law_rest" = some (some (.ref f_law_rest)))
    (l_law_rest : K.lookup f_law_rest = some ⟨oc_law_rest, od_law_rest, .func (PySem.W.fnOf "_law_rest" "_law_rest" (defArgs s_law_rest) (defBody s_law_rest) (defScope s_law_rest) .none kV_law_rest dc_law_rest pm_law_rest an_law_rest cd_law_rest ct_law_rest), sl_law_rest⟩)
    (q_law_rest : PySem.W.codeIn K cd_law_rest "_law_rest" = true)
    (k_law_rest : PySem.W.keepIn K (.ref f_law_rest) = true)
    (a_law_told : PySem.W.nsIn K mainGlobals "_law_told" = some (some (.ref f_law_told)))
    (l_law_told : K.lookup f_law_told = some ⟨oc_law_told, od_law_told, .func (PySem.W.fnOf "_law_told" "_law_told" (defArgs s_law_told) (defBody s_law_told) (defScope s_law_told) .none kV_law_told dc_law_told pm_law_told an_law_told cd_law_told ct_law_told), sl_law_told⟩)
    (q_law_told : PySem.W.codeIn K cd_law_told "_law_told" = true)
    (k_law_told : PySem.W.keepIn K (.ref f_law_told) = true)
    (a_law_no_pile : PySem.W.nsIn K mainGlobals "_law_no_pile" = some (some (.ref f_law_no_pile)))
    (l_law_no_pile : K.lookup f_law_no_pile = some ⟨oc_law_no_pile, od_law_no_pile, .func (PySem.W.fnOf "_law_no_pile" "_law_no_pile" (defArgs s_law_no_pile) (defBody s_law_no_pile) (defScope s_law_no_pile) .none kV_law_no_pile dc_law_no_pile pm_law_no_pile an_law_no_pile cd_law_no_pile ct_law_no_pile), sl_law_no_pile⟩)
    (q_law_no_pile : PySem.W.codeIn K cd_law_no_pile "_law_no_pile" = true)
    (k_law_no_pile : PySem.W.keepIn K (.ref f_law_no_pile) = true)
    (a_law : PySem.W.nsIn K mainGlobals "law" = some (some (.ref f_law)))
    (l_law : K.lookup f_law = some ⟨oc_law, od_law, .func (PySem.W.fnOf "law" "law" (defArgs s_law) (defBody s_law) (defScope s_law) .none kV_law dc_law pm_law an_law cd_law ct_law), sl_law⟩)
    (q_law : PySem.W.codeIn K cd_law "law" = true)
    (k_law : PySem.W.keepIn K (.ref f_law) = true)
    (al_fewest_fewest : PySem.W.nsIn K mainGlobals "fewest_fewest" = some (some (.ref f_fewest)))
    (hz_ValueError : PySem.W.nsIn K mainGlobals "ValueError" = some none)
    (hz_abs : PySem.W.nsIn K mainGlobals "abs" = some none)
    (hz_int : PySem.W.nsIn K mainGlobals "int" = some none)
    (hz_isinstance : PySem.W.nsIn K mainGlobals "isinstance" = some none)
    (hz_len : PySem.W.nsIn K mainGlobals "len" = some none)
    (hz_list : PySem.W.nsIn K mainGlobals "list" = some none)
    (hz_range : PySem.W.nsIn K mainGlobals "range" = some none)
    (hz_sorted : PySem.W.nsIn K mainGlobals "sorted" = some none)
    {tk_MOST_CAKES : Tok} 
    (hg_c_MOST_CAKES : PySem.W.nsIn K mainGlobals "MOST_CAKES" = some (some (.int 12 tk_MOST_CAKES)))
    {tk_MOST_PLAIN_CAKES_counts : Tok} 
    (hg_c_MOST_PLAIN_CAKES_counts : PySem.W.nsIn K mainGlobals "MOST_PLAIN_CAKES_counts" = some (some (.int 6 tk_MOST_PLAIN_CAKES_counts)))
    {tk_MOST_BURNT_CAKES_counts : Tok} 
    (hg_c_MOST_BURNT_CAKES_counts : PySem.W.nsIn K mainGlobals "MOST_BURNT_CAKES_counts" = some (some (.int 4 tk_MOST_BURNT_CAKES_counts)))
    {tk_MOST_PLAIN_CAKES_fewest : Tok} 
    (hg_c_MOST_PLAIN_CAKES_fewest : PySem.W.nsIn K mainGlobals "MOST_PLAIN_CAKES_fewest" = some (some (.int 7 tk_MOST_PLAIN_CAKES_fewest)))
    {tk_MOST_BURNT_CAKES_fewest : Tok} 
    (hg_c_MOST_BURNT_CAKES_fewest : PySem.W.nsIn K mainGlobals "MOST_BURNT_CAKES_fewest" = some (some (.int 4 tk_MOST_BURNT_CAKES_fewest))) :
    ∃ fd : FuncData, (∀ (s : Shared) (v : Value), BindsTo s fd ⟨[v], []⟩ [("script", v)]) ∧ ∀ base : Heap, K.In base → base.Ns mainGlobals mg → FnOk l.prog w K mg base CX0 9 fa fd ["script"] (spLaw K) := by
  have e := hfa.symm.trans (PySem.W.mg_of X G a_law)
  cases e
  have T : Txt K mg ⟨nth C_FlipError [C_NoPile, C_NoTurn, C_TooTall, C_NoBack, C_BadLine, C_Stack], nth f_check_pile [f_without_signs, f_check_burnt_pile, f_check_turns, f_behind, f_burnt_behind, f_check_size, f_counts, f_burnt_counts, f_gaps, f_burnt_gaps, f_plan, f_burnt_plan, f_check_height, f_fewest, f_burnt_fewest, f_between, f_shown, f_Stack___init__, f_Stack_fewest, f_law_cell_at, f_law_pile, f_law_burnt, f_law_which, f_law_one, f_law_other, f_law_rest, f_law_told, f_law_no_pile, fa], nth (PySem.W.fnOf "check_pile" "check_pile" (defArgs s_check_pile) (defBody s_check_pile) (defScope s_check_pile) .none kV_check_pile dc_check_pile pm_check_pile an_check_pile cd_check_pile ct_check_pile) [(PySem.W.fnOf "without_signs" "without_signs" (defArgs s_without_signs) (defBody s_without_signs) (defScope s_without_signs) .none kV_without_signs dc_without_signs pm_without_signs an_without_signs cd_without_signs ct_without_signs), (PySem.W.fnOf "check_burnt_pile" "check_burnt_pile" (defArgs s_check_burnt_pile) (defBody s_check_burnt_pile) (defScope s_check_burnt_pile) .none kV_check_burnt_pile dc_check_burnt_pile pm_check_burnt_pile an_check_burnt_pile cd_check_burnt_pile ct_check_burnt_pile), (PySem.W.fnOf "check_turns" "check_turns" (defArgs s_check_turns) (defBody s_check_turns) (defScope s_check_turns) .none kV_check_turns dc_check_turns pm_check_turns an_check_turns cd_check_turns ct_check_turns), (PySem.W.fnOf "behind" "behind" (defArgs s_behind) (defBody s_behind) (defScope s_behind) .none kV_behind dc_behind pm_behind an_behind cd_behind ct_behind), (PySem.W.fnOf "burnt_behind" "burnt_behind" (defArgs s_burnt_behind) (defBody s_burnt_behind) (defScope s_burnt_behind) .none kV_burnt_behind dc_burnt_behind pm_burnt_behind an_burnt_behind cd_burnt_behind ct_burnt_behind), (PySem.W.fnOf "check_size" "check_size" (defArgs s_check_size) (defBody s_check_size) (defScope s_check_size) .none kV_check_size dc_check_size pm_check_size an_check_size cd_check_size ct_check_size), (PySem.W.fnOf "counts" "counts" (defArgs s_counts) (defBody s_counts) (defScope s_counts) .none kV_counts dc_counts pm_counts an_counts cd_counts ct_counts), (PySem.W.fnOf "burnt_counts" "burnt_counts" (defArgs s_burnt_counts) (defBody s_burnt_counts) (defScope s_burnt_counts) .none kV_burnt_counts dc_burnt_counts pm_burnt_counts an_burnt_counts cd_burnt_counts ct_burnt_counts), (PySem.W.fnOf "gaps" "gaps" (defArgs s_gaps) (defBody s_gaps) (defScope s_gaps) .none kV_gaps dc_gaps pm_gaps an_gaps cd_gaps ct_gaps), (PySem.W.fnOf "burnt_gaps" "burnt_gaps" (defArgs s_burnt_gaps) (defBody s_burnt_gaps) (defScope s_burnt_gaps) .none kV_burnt_gaps dc_burnt_gaps pm_burnt_gaps an_burnt_gaps cd_burnt_gaps ct_burnt_gaps), (PySem.W.fnOf "plan" "plan" (defArgs s_plan) (defBody s_plan) (defScope s_plan) .none kV_plan dc_plan pm_plan an_plan cd_plan ct_plan), (PySem.W.fnOf "burnt_plan" "burnt_plan" (defArgs s_burnt_plan) (defBody s_burnt_plan) (defScope s_burnt_plan) .none kV_burnt_plan dc_burnt_plan pm_burnt_plan an_burnt_plan cd_burnt_plan ct_burnt_plan), (PySem.W.fnOf "check_height" "check_height" (defArgs s_check_height) (defBody s_check_height) (defScope s_check_height) .none kV_check_height dc_check_height pm_check_height an_check_height cd_check_height ct_check_height), (PySem.W.fnOf "fewest" "fewest" (defArgs s_fewest) (defBody s_fewest) (defScope s_fewest) .none kV_fewest dc_fewest pm_fewest an_fewest cd_fewest ct_fewest), (PySem.W.fnOf "burnt_fewest" "burnt_fewest" (defArgs s_burnt_fewest) (defBody s_burnt_fewest) (defScope s_burnt_fewest) .none kV_burnt_fewest dc_burnt_fewest pm_burnt_fewest an_burnt_fewest cd_burnt_fewest ct_burnt_fewest), (PySem.W.fnOf "between" "between" (defArgs s_between) (defBody s_between) (defScope s_between) .none kV_between dc_between pm_between an_between cd_between ct_between), (PySem.W.fnOf "shown" "shown" (defArgs s_shown) (defBody s_shown) (defScope s_shown) .none kV_shown dc_shown pm_shown an_shown cd_shown ct_shown), (PySem.W.fnOf "__init__" "Stack.__init__" (defArgs s_Stack___init__) (defBody s_Stack___init__) (defScope s_Stack___init__) .none kV_Stack___init__ dc_Stack___init__ pm_Stack___init__ an_Stack___init__ cd_Stack___init__ ct_Stack___init__), (PySem.W.fnOf "fewest" "Stack.fewest" (defArgs s_Stack_fewest) (defBody s_Stack_fewest) (defScope s_Stack_fewest) .none kV_Stack_fewest dc_Stack_fewest pm_Stack_fewest an_Stack_fewest cd_Stack_fewest ct_Stack_fewest), (PySem.W.fnOf "_law_cell_at" "_law_cell_at" (defArgs s_law_cell_at) (defBody s_law_cell_at) (defScope s_law_cell_at) .none kV_law_cell_at dc_law_cell_at pm_law_cell_at an_law_cell_at cd_law_cell_at ct_law_cell_at), (PySem.W.fnOf "_law_pile" "_law_pile" (defArgs s_law_pile) (defBody s_law_pile) (defScope s_law_pile) .none kV_law_pile dc_law_pile pm_law_pile an_law_pile cd_law_pile ct_law_pile), (PySem.W.fnOf "_law_burnt" "_law_burnt" (defArgs s_law_burnt) (defBody s_law_burnt) (defScope s_law_burnt) .none kV_law_burnt dc_law_burnt pm_law_burnt an_law_burnt cd_law_burnt ct_law_burnt), (PySem.W.fnOf "_law_which" "_law_which" (defArgs s_law_which) (defBody s_law_which) (defScope s_law_which) .none kV_law_which dc_law_which pm_law_which an_law_which cd_law_which ct_law_which), (PySem.W.fnOf "_law_one" "_law_one" (defArgs s_law_one) (defBody s_law_one) (defScope s_law_one) .none kV_law_one dc_law_one pm_law_one an_law_one cd_law_one ct_law_one), (PySem.W.fnOf "_law_other" "_law_other" (defArgs s_law_other) (defBody s_law_other) (defScope s_law_other) .none kV_law_other dc_law_other pm_law_other an_law_other cd_law_other ct_law_other), (PySem.W.fnOf "_law_rest" "_law_rest" (defArgs s_law_rest) (defBody s_law_rest) (defScope s_law_rest) .none kV_law_rest dc_law_rest pm_law_rest an_law_rest cd_law_rest ct_law_rest), (PySem.W.fnOf "_law_told" "_law_told" (defArgs s_law_told) (defBody s_law_told) (defScope s_law_told) .none kV_law_told dc_law_told pm_law_told an_law_told cd_law_told ct_law_told), (PySem.W.fnOf "_law_no_pile" "_law_no_pile" (defArgs s_law_no_pile) (defBody s_law_no_pile) (defScope s_law_no_pile) .none kV_law_no_pile dc_law_no_pile pm_law_no_pile an_law_no_pile cd_law_no_pile ct_law_no_pile), (PySem.W.fnOf "law" "law" (defArgs s_law) (defBody s_law) (defScope s_law) .none kV_law dc_law pm_law an_law cd_law ct_law)]⟩ := ⟨PySem.W.mg_of X G hx_FlipError, PySem.W.mg_of X G hx_NoPile, PySem.W.mg_of X G hx_NoTurn, PySem.W.mg_of X G hx_TooTall, PySem.W.mg_of X G hx_NoBack, PySem.W.mg_of X G hx_BadLine, PySem.W.mg_of X G hx_Stack, ⟨⟨he_FlipError, hk_FlipError⟩, hg_FlipError, hn_FlipError, hc_FlipError⟩, ⟨⟨he_NoPile, hk_NoPile⟩, hg_NoPile, hn_NoPile, hc_NoPile⟩, ⟨⟨he_NoTurn, hk_NoTurn⟩, hg_NoTurn, hn_NoTurn, hc_NoTurn⟩, ⟨⟨he_TooTall, hk_TooTall⟩, hg_TooTall, hn_TooTall, hc_TooTall⟩, ⟨⟨he_NoBack, hk_NoBack⟩, hg_NoBack, hn_NoBack, hc_NoBack⟩, ⟨⟨he_BadLine, hk_BadLine⟩, hg_BadLine, hn_BadLine, hc_BadLine⟩, hu_NoPile, hi_NoPile_NoPile, hi_NoPile_NoTurn, hi_NoPile_TooTall, hi_NoPile_NoBack, hi_NoPile_BadLine, hi_NoPile_V, hu_NoTurn, hi_NoTurn_NoPile, hi_NoTurn_NoTurn, hi_NoTurn_TooTall, hi_NoTurn_NoBack, hi_NoTurn_BadLine, hi_NoTurn_V, hu_TooTall, hi_TooTall_NoPile, hi_TooTall_NoTurn, hi_TooTall_TooTall, hi_TooTall_NoBack, hi_TooTall_BadLine, hi_TooTall_V, ⟨pg_Stack, hd_Stack, po_Stack, sa_Stack⟩, na_cakes, na_done, fun_mk (st := s_check_pile) l_check_pile q_check_pile k_check_pile, PySem.W.mg_of X G a_check_pile, fun_mk (st := s_without_signs) l_without_signs q_without_signs k_without_signs, PySem.W.mg_of X G a_without_signs, fun_mk (st := s_check_burnt_pile) l_check_burnt_pile q_check_burnt_pile k_check_burnt_pile, PySem.W.mg_of X G a_check_burnt_pile, fun_mk (st := s_check_turns) l_check_turns q_check_turns k_check_turns, PySem.W.mg_of X G a_check_turns, fun_mk (st := s_behind) l_behind q_behind k_behind, PySem.W.mg_of X G a_behind, fun_mk (st := s_burnt_behind) l_burnt_behind q_burnt_behind k_burnt_behind, PySem.W.mg_of X G a_burnt_behind, fun_mk (st := s_check_size) l_check_size q_check_size k_check_size, PySem.W.mg_of X G a_check_size, fun_mk (st := s_counts) l_counts q_counts k_counts, PySem.W.mg_of X G a_counts, fun_mk (st := s_burnt_counts) l_burnt_counts q_burnt_counts k_burnt_counts, PySem.W.mg_of X G a_burnt_counts, fun_mk (st := s_gaps) l_gaps q_gaps k_gaps, PySem.W.mg_of X G a_gaps, fun_mk (st := s_burnt_gaps) l_burnt_gaps q_burnt_gaps k_burnt_gaps, PySem.W.mg_of X G a_burnt_gaps, fun_mk (st := s_plan) l_plan q_plan k_plan, PySem.W.mg_of X G a_plan, fun_mk (st := s_burnt_plan) l_burnt_plan q_burnt_plan k_burnt_plan, PySem.W.mg_of X G a_burnt_plan, fun_mk (st := s_check_height) l_check_height q_check_height k_check_height, PySem.W.mg_of X G a_check_height, fun_mk (st := s_fewest) l_fewest q_fewest k_fewest, PySem.W.mg_of X G a_fewest, fun_mk (st := s_burnt_fewest) l_burnt_fewest q_burnt_fewest k_burnt_fewest, PySem.W.mg_of X G a_burnt_fewest, fun_mk (st := s_between) l_between q_between k_between, PySem.W.mg_of X G a_between, fun_mk (st := s_shown) l_shown q_shown k_shown, PySem.W.mg_of X G a_shown, fun_mk (st := s_Stack___init__) l_Stack___init__ q_Stack___init__ k_Stack___init__, ⟨mk_Stack, a_Stack___init__, i_Stack___init__, kc_Stack⟩, fun_mk (st := s_Stack_fewest) l_Stack_fewest q_Stack_fewest k_Stack_fewest, ⟨a_Stack_fewest, i_Stack_fewest, k_Stack_fewest⟩, fun_mk (st := s_law_cell_at) l_law_cell_at q_law_cell_at k_law_cell_at, PySem.W.mg_of X G a_law_cell_at, fun_mk (st := s_law_pile) l_law_pile q_law_pile k_law_pile, PySem.W.mg_of X G a_law_pile, fun_mk (st := s_law_burnt) l_law_burnt q_law_burnt k_law_burnt, PySem.W.mg_of X G a_law_burnt, fun_mk (st := s_law_which) l_law_which q_law_which k_law_which, PySem.W.mg_of X G a_law_which, fun_mk (st := s_law_one) l_law_one q_law_one k_law_one, PySem.W.mg_of X G a_law_one, fun_mk (st := s_law_other) l_law_other q_law_other k_law_other, PySem.W.mg_of X G a_law_other, fun_mk (st := s_law_rest) l_law_rest q_law_rest k_law_rest, PySem.W.mg_of X G a_law_rest, fun_mk (st := s_law_told) l_law_told q_law_told k_law_told, PySem.W.mg_of X G a_law_told, fun_mk (st := s_law_no_pile) l_law_no_pile q_law_no_pile k_law_no_pile, PySem.W.mg_of X G a_law_no_pile, fun_mk (st := s_law) l_law q_law k_law, PySem.W.mg_of X G a_law, PySem.W.mg_of X G al_fewest_fewest, PySem.W.mg_none_of X G hz_ValueError, PySem.W.mg_none_of X G hz_abs, PySem.W.mg_none_of X G hz_int, PySem.W.mg_none_of X G hz_isinstance, PySem.W.mg_none_of X G hz_len, PySem.W.mg_none_of X G hz_list, PySem.W.mg_none_of X G hz_range, PySem.W.mg_none_of X G hz_sorted, ⟨_, PySem.W.mg_of X G hg_c_MOST_CAKES⟩, ⟨_, PySem.W.mg_of X G hg_c_MOST_PLAIN_CAKES_counts⟩, ⟨_, PySem.W.mg_of X G hg_c_MOST_BURNT_CAKES_counts⟩, ⟨_, PySem.W.mg_of X G hg_c_MOST_PLAIN_CAKES_fewest⟩, ⟨_, PySem.W.mg_of X G hg_c_MOST_BURNT_CAKES_fewest⟩⟩
  exact ⟨_, fun s v => .of_eq rfl, fun base _ _ => ok_law T⟩
theorem walk {l : PySem.W.OpenLaw} {q : Program} {loose : List Str} {XP : (Str → Option Value) → Heap → Prop} {YP : World → Heap → Prop} {d : DefRec} {K : Params → PySem.W.Frag} (hn : l.most = some 63) (hdf : d.params.defaults = [])
    (hY : ∀ (w : World) (h : Heap), YP w h → (K w.params).In h)
    (F : ∀ (w : World) (mg : Str → Option Value) (fa : Addr) (h : Heap), (K w.params).In h → h.Ns mainGlobals mg → mg d.name = some (.ref fa) →
      ∃ fd : FuncData, (∀ (s : Shared) (u : Value), BindsTo s fd ⟨[u], []⟩ [("script", u)]) ∧ ∀ base : Heap, (K w.params).In base → base.Ns mainGlobals mg → FnOk l.prog w (K w.params) mg base CX0 9 fa fd ["script"] (spLaw (K w.params))) :
    PySem.W.WalkO q loose XP YP l.row.toRowW d [] (fun f vs => PySem.call f vs) :=
  L2.walk_of (n := 63) (k := 9) (x := "script") (CX := fun _ => CX0) (sp := fun w => spLaw (K w.params)) hn (by decide) hdf ⟨rfl, by decide, by decide⟩ hY F (fun _ _ a ns hl _ hS => ⟨a, ns, rfl, hS, hl, fun _ => rfl⟩) fun _ _ _ _ _ z => z
end Fl
namespace L2
open PySem PySem.W PySem.W.X PySem.W.ZRun
/-- a walk by the smaller head -/
theorem walkX_of {q : Program} {loose : List Str} {XP : (Str → Option Value) → Heap → Prop} {r : RowW} {d : DefRec} {kwd : List (Str × Expr)} {run : Value → List Value → Sem Value} {K : Params → PySem.W.Frag} {ks : List Addr} {n t : Nat} (e : ∀ P, ks = (K P).map (·.1))
    (W : PySem.W.WalkO q loose XP (fun w h => (K w.params).In h) r d kwd run) : WalkX q loose XP (obsZ ks) (valZ K n t) r d kwd run :=
  fun w s₀ s₁ mg mb G y a o pm cd doc dV kV h1 h2 h3 h4 h5 h6 args vals bs L p1 p2 p3 p4 p5 => W w s₀ s₁ mg mb G (InK.keeps w _ _ (z_facts e y).2.1 L.keeps) a o pm cd doc dV kV h1 h2 h3 h4 h5 h6 args vals bs p1 p2 p3 p4 p5
end L2
open PySem PySem.W PyProof.Rows PySem.W.X PySem.W.ZRun
set_option maxRecDepth 100000 in
set_option maxHeartbeats 0 in
theorem PySem.Challenge.cw_flipstack_k15_each_refusal_its_own_holds : PySem.Challenge.rw_flipstack_k15_each_refusal_its_own.Holds := by
  w_on; o_law; z_head; (case hw => w_witness2)
  k_fill
  refine L2.walkX_of (fun _ => by kernel_rfl) (Fl.walk (l := PySem.Challenge.rw_flipstack_k15_each_refusal_its_own) rfl rfl (fun w h Y => Y) ?F)
  case F =>
    intro w mg fa h KX G hmg
    refine' Fl.all_mk KX G hmg ?hx_FlipError ?hx_NoPile ?hx_NoTurn ?hx_TooTall ?hx_NoBack ?hx_BadLine ?hx_Stack ?he_FlipError ?hk_FlipError ?hg_FlipError ?hn_FlipError ?hc_FlipError ?he_NoPile ?hk_NoPile ?hg_NoPile ?hn_NoPile ?hc_NoPile ?he_NoTurn ?hk_NoTurn ?hg_NoTurn ?hn_NoTurn ?hc_NoTurn ?he_TooTall ?hk_TooTall ?hg_TooTall ?hn_TooTall ?hc_TooTall ?he_NoBack ?hk_NoBack ?hg_NoBack ?hn_NoBack ?hc_NoBack ?he_BadLine ?hk_BadLine ?hg_BadLine ?hn_BadLine ?hc_BadLine ?hu_NoPile ?hi_NoPile_NoPile ?hi_NoPile_NoTurn ?hi_NoPile_TooTall ?hi_NoPile_NoBack ?hi_NoPile_BadLine ?hi_NoPile_V ?hu_NoTurn ?hi_NoTurn_NoPile ?hi_NoTurn_NoTurn ?hi_NoTurn_TooTall ?hi_NoTurn_NoBack ?hi_NoTurn_BadLine ?hi_NoTurn_V ?hu_TooTall ?hi_TooTall_NoPile ?hi_TooTall_NoTurn ?hi_TooTall_TooTall ?hi_TooTall_NoBack ?hi_TooTall_BadLine ?hi_TooTall_V ?pg_Stack ?hd_Stack ?po_Stack ?sa_Stack ?na_cakes ?na_done ?a_check_pile ?l_check_pile ?q_check_pile ?k_check_pile ?a_without_signs ?l_without_signs ?q_without_signs ?k_without_signs ?a_check_burnt_pile ?l_check_burnt_pile ?q_check_burnt_pile ?k_check_burnt_pile ?a_check_turns ?l_check_turns ?q_check_turns ?k_check_turns ?a_behind ?l_behind ?q_behind ?k_behind ?a_burnt_behind ?l_burnt_behind ?q_burnt_behind ?k_burnt_behind ?a_check_size ?l_check_size ?q_check_size ?k_check_size ?a_counts ?l_counts ?q_counts ?k_counts ?a_burnt_counts ?l_burnt_counts ?q_burnt_counts ?k_burnt_counts ?a_gaps ?l_gaps ?q_gaps ?k_gaps ?a_burnt_gaps ?l_burnt_gaps ?q_burnt_gaps ?k_burnt_gaps ?a_plan ?l_plan ?q_plan ?k_plan ?a_burnt_plan ?l_burnt_plan ?q_burnt_plan ?k_burnt_plan ?a_check_height ?l_check_height ?q_check_height ?k_check_height ?a_fewest ?l_fewest ?q_fewest ?k_fewest ?a_burnt_fewest ?l_burnt_fewest ?q_burnt_fewest ?k_burnt_fewest ?a_between ?l_between ?q_between ?k_between ?a_shown ?l_shown ?q_shown ?k_shown ?a_Stack___init__ ?i_Stack___init__ ?l_Stack___init__ ?q_Stack___init__ ?k_Stack___init__ ?mk_Stack ?kc_Stack ?a_Stack_fewest ?i_Stack_fewest ?l_Stack_fewest ?q_Stack_fewest ?k_Stack_fewest ?a_law_cell_at ?l_law_cell_at ?q_law_cell_at ?k_law_cell_at ?a_law_pile ?l_law_pile ?q_law_pile ?k_law_pile ?a_law_burnt ?l_law_burnt ?q_law_burnt ?k_law_burnt ?a_law_which ?l_law_which ?q_law_which ?k_law_which ?a_law_one ?l_law_one ?q_law_one ?k_law_one ?a_law_other ?l_law_other ?q_law_other ?k_law_other ?a_law_rest ?l_law_rest ?q_law_rest ?k_law_rest ?a_law_told ?l_law_told ?q_law_told ?k_law_told ?a_law_no_pile ?l_law_no_pile ?q_law_no_pile ?k_law_no_pile ?a_law ?l_law ?q_law ?k_law ?al_fewest_fewest ?hz_ValueError ?hz_abs ?hz_int ?hz_isinstance ?hz_len ?hz_list ?hz_range ?hz_sorted ?hg_c_MOST_CAKES ?hg_c_MOST_PLAIN_CAKES_counts ?hg_c_MOST_BURNT_CAKES_counts ?hg_c_MOST_PLAIN_CAKES_fewest ?hg_c_MOST_BURNT_CAKES_fewest
    (case hx_FlipError => k_is)
    (case hx_NoPile => k_is)
    (case hx_NoTurn => k_is)
    (case hx_TooTall => k_is)
    (case hx_NoBack => k_is)
    (case hx_BadLine => k_is)
    (case hx_Stack => k_is)
    (case he_FlipError => k_exc)
    (case hk_FlipError => k_is)
    (case hg_FlipError => k_is)
    (case hn_FlipError => k_is)
    (case hc_FlipError => k_is)
    (case he_NoPile => k_exc)
    (case hk_NoPile => k_is)
    (case hg_NoPile => k_is)
    (case hn_NoPile => k_is)
    (case hc_NoPile => k_is)
    (case he_NoTurn => k_exc)
    (case hk_NoTurn => k_is)
    (case hg_NoTurn => k_is)
    (case hn_NoTurn => k_is)
    (case hc_NoTurn => k_is)
    (case he_TooTall => k_exc)
    (case hk_TooTall => k_is)
    (case hg_TooTall => k_is)
    (case hn_TooTall => k_is)
    (case hc_TooTall => k_is)
    (case he_NoBack => k_exc)
    (case hk_NoBack => k_is)
    (case hg_NoBack => k_is)
    (case hn_NoBack => k_is)
    (case hc_NoBack => k_is)
    (case he_BadLine => k_exc)
    (case hk_BadLine => k_is)
    (case hg_BadLine => k_is)
    (case hn_BadLine => k_is)
    (case hc_BadLine => k_is)
    (case hu_NoPile => k_is)
    (case hi_NoPile_NoPile => kit_is)
    (case hi_NoPile_NoTurn => kit_is)
    (case hi_NoPile_TooTall => kit_is)
    (case hi_NoPile_NoBack => kit_is)
    (case hi_NoPile_BadLine => kit_is)
    (case hi_NoPile_V => kit_is)
    (case hu_NoTurn => k_is)
    (case hi_NoTurn_NoPile => kit_is)
    (case hi_NoTurn_NoTurn => kit_is)
    (case hi_NoTurn_TooTall => kit_is)
    (case hi_NoTurn_NoBack => kit_is)
    (case hi_NoTurn_BadLine => kit_is)
    (case hi_NoTurn_V => kit_is)
    (case hu_TooTall => k_is)
    (case hi_TooTall_NoPile => kit_is)
    (case hi_TooTall_NoTurn => kit_is)
    (case hi_TooTall_TooTall => kit_is)
    (case hi_TooTall_NoBack => kit_is)
    (case hi_TooTall_BadLine => kit_is)
    (case hi_TooTall_V => kit_is)
    (case pg_Stack => k_is)
    (case hd_Stack => k_is)
    (case po_Stack => k_is)
    (case sa_Stack => k_is)
    (case na_cakes => k_is)
    (case na_done => k_is)
    (case a_check_pile => k_is)
    (case l_check_pile => k_is)
    (case q_check_pile => k_is)
    (case k_check_pile => k_is)
    (case a_without_signs => k_is)
    (case l_without_signs => k_is)
    (case q_without_signs => k_is)
    (case k_without_signs => k_is)
    (case a_check_burnt_pile => k_is)
    (case l_check_burnt_pile => k_is)
    (case q_check_burnt_pile => k_is)
    (case k_check_burnt_pile => k_is)
    (case a_check_turns => k_is)
    (case l_check_turns => k_is)
    (case q_check_turns => k_is)
    (case k_check_turns => k_is)
    (case a_behind => k_is)
    (case l_behind => k_is)
    (case q_behind => k_is)
    (case k_behind => k_is)
    (case a_burnt_behind => k_is)
    (case l_burnt_behind => k_is)
    (case q_burnt_behind => k_is)
    (case k_burnt_behind => k_is)
    (case a_check_size => k_is)
    (case l_check_size => k_is)
    (case q_check_size => k_is)
    (case k_check_size => k_is)
    (case a_counts => k_is)
    (case l_counts => k_is)
    (case q_counts => k_is)
    (case k_counts => k_is)
    (case a_burnt_counts => k_is)
    (case l_burnt_counts => k_is)
    (case q_burnt_counts => k_is)
    (case k_burnt_counts => k_is)
    (case a_gaps => k_is)
    (case l_gaps => k_is)
    (case q_gaps => k_is)
    (case k_gaps => k_is)
    (case a_burnt_gaps => k_is)
    (case l_burnt_gaps => k_is)
    (case q_burnt_gaps => k_is)
    (case k_burnt_gaps => k_is)
    (case a_plan => k_is)
    (case l_plan => k_is)
    (case q_plan => k_is)
    (case k_plan => k_is)
    (case a_burnt_plan => k_is)
    (case l_burnt_plan => k_is)
    (case q_burnt_plan => k_is)
    (case k_burnt_plan => k_is)
    (case a_check_height => k_is)
    (case l_check_height => k_is)
    (case q_check_height => k_is)
    (case k_check_height => k_is)
    (case a_fewest => k_is)
    (case l_fewest => k_is)
    (case q_fewest => k_is)
    (case k_fewest => k_is)
    (case a_burnt_fewest => k_is)
    (case l_burnt_fewest => k_is)
    (case q_burnt_fewest => k_is)
    (case k_burnt_fewest => k_is)
    (case a_between => k_is)
    (case l_between => k_is)
    (case q_between => k_is)
    (case k_between => k_is)
    (case a_shown => k_is)
    (case l_shown => k_is)
    (case q_shown => k_is)
    (case k_shown => k_is)
    (case a_Stack___init__ => k_is)
    (case i_Stack___init__ => k_is)
    (case l_Stack___init__ => k_is)
    (case q_Stack___init__ => k_is)
    (case k_Stack___init__ => k_is)
    (case mk_Stack => k_is)
    (case kc_Stack => k_is)
    (case a_Stack_fewest => k_is)
    (case i_Stack_fewest => k_is)
    (case l_Stack_fewest => k_is)
    (case q_Stack_fewest => k_is)
    (case k_Stack_fewest => k_is)
    (case a_law_cell_at => k_is)
    (case l_law_cell_at => k_is)
    (case q_law_cell_at => k_is)
    (case k_law_cell_at => k_is)
    (case a_law_pile => k_is)
    (case l_law_pile => k_is)
    (case q_law_pile => k_is)
    (case k_law_pile => k_is)
    (case a_law_burnt => k_is)
    (case l_law_burnt => k_is)
    (case q_law_burnt => k_is)
    (case k_law_burnt => k_is)
    (case a_law_which => k_is)
    (case l_law_which => k_is)
    (case q_law_which => k_is)
    (case k_law_which => k_is)
    (case a_law_one => k_is)
    (case l_law_one => k_is)
    (case q_law_one => k_is)
    (case k_law_one => k_is)
    (case a_law_other => k_is)
    (case l_law_other => k_is)
    (case q_law_other => k_is)
    (case k_law_other => k_is)
    (case a_law_rest => k_is)
    (case l_law_rest => k_is)
    (case q_law_rest => k_is)
    (case k_law_rest => k_is)
    (case a_law_told => k_is)
    (case l_law_told => k_is)
    (case q_law_told => k_is)
    (case k_law_told => k_is)
    (case a_law_no_pile => k_is)
    (case l_law_no_pile => k_is)
    (case q_law_no_pile => k_is)
    (case k_law_no_pile => k_is)
    (case a_law => k_is)
    (case l_law => k_is)
    (case q_law => k_is)
    (case k_law => k_is)
    (case al_fewest_fewest => k_is)
    (case hz_ValueError => k_is)
    (case hz_abs => k_is)
    (case hz_int => k_is)
    (case hz_isinstance => k_is)
    (case hz_len => k_is)
    (case hz_list => k_is)
    (case hz_range => k_is)
    (case hz_sorted => k_is)
    (case hg_c_MOST_CAKES => k_is)
    (case hg_c_MOST_PLAIN_CAKES_counts => k_is)
    (case hg_c_MOST_BURNT_CAKES_counts => k_is)
    (case hg_c_MOST_PLAIN_CAKES_fewest => k_is)
    (case hg_c_MOST_BURNT_CAKES_fewest => k_is)

