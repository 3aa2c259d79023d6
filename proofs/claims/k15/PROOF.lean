import PyProof.Rows.All
import Wide.All
import OpenK.AllK
import Wide.FinOn
import Lean
import PyProof.EqAt
import PyProof.EqKinds
import PyProof.TupleCall
import PyProof.NeKinds
import PySem.Challenge.RW_earbells_k15_rows_refused
set_option Elab.async false
set_option linter.all false
set_option maxRecDepth 100000
/-! THE HAND LAYER, for ints, bools, texts, own classes, LISTS and tuples (index, slices, in, append, pop ..), calls, loops. Paste it whole ahead of your own text; what your proof does not reach may be deleted. -/
namespace L2
open PySem PySem.Spec PyProof.Rows

/-- a key: an int or a str -/
abbrev Key := Sum Int Str
def keyIs : Key → Value → Bool
  | .inl k, v => Value.isInt k v
  | .inr x, v => Value.isStrOf x v
def keyH (w : World) : Key → Int
  | .inl k => hashInt k
  | .inr x => hashStr w x
theorem keyIs_shape : ∀ {k : Key} {v : Value}, keyIs k v = true → (∃ i t, k = Sum.inl i ∧ v = Value.int i t) ∨ (∃ x t, k = Sum.inr x ∧ v = Value.str x t)
  | .inl i, v, h => by
    obtain ⟨t, e⟩ := Value.isInt_shape (k := i) (v := v) h
    exact .inl ⟨i, t, rfl, e⟩
  | .inr x, v, h => by
    obtain ⟨t, e⟩ := Value.isStrOf_shape (x := x) (v := v) h
    exact .inr ⟨x, t, rfl, e⟩
theorem key_ll (a b : Int) : decide ((Sum.inl a : Key) = Sum.inl b) = (a == b) := by
  by_cases e : a = b
  · subst e; simp
  · have h : ¬ (Sum.inl a : Key) = Sum.inl b := fun q => e (Sum.inl.inj q)
    rw [decide_eq_false h]
    exact (beq_eq_false_iff_ne.mpr e).symm
theorem key_rr (a b : Str) : decide ((Sum.inr a : Key) = Sum.inr b) = decide (a = b) := by
  by_cases e : a = b
  · subst e; simp
  · have h : ¬ (Sum.inr a : Key) = Sum.inr b := fun q => e (Sum.inr.inj q)
    rw [decide_eq_false h, decide_eq_false e]
theorem key_lr (a : Int) (b : Str) : decide ((Sum.inl a : Key) = Sum.inr b) = false := decide_eq_false (fun q => nomatch q)
theorem key_rl (a : Str) (b : Int) : decide ((Sum.inr a : Key) = Sum.inl b) = false := decide_eq_false (fun q => nomatch q)

def mixKind (prog : Program) (w : World) : PySem.KeyKind prog w Key where
  is := keyIs
  hash := keyH w
  inj := fun v a b ha hb => by
    rcases keyIs_shape ha with ⟨i, t, rfl, rfl⟩ | ⟨x, t, rfl, rfl⟩
    · rcases keyIs_shape hb with ⟨j, u, rfl, e⟩ | ⟨y, u, rfl, e⟩
      · injection e with e1 _; rw [e1]
      · exact nomatch e
    · rcases keyIs_shape hb with ⟨j, u, rfl, e⟩ | ⟨y, u, rfl, e⟩
      · exact nomatch e
      · injection e with e1 _; rw [e1]
  byValue := fun k v h => by
    rcases keyIs_shape h with ⟨i, t, rfl, rfl⟩ | ⟨x, t, rfl, rfl⟩ <;> rfl
  pyHash := fun hv h => by
    rcases keyIs_shape hv with ⟨i, t, rfl, rfl⟩ | ⟨x, t, rfl, rfl⟩
    · exact wpAny_pyHash_int h
    · exact wpAny_pyHash_str h
  eqBool := fun hu hv h => by
    rcases keyIs_shape hu with ⟨i, t, rfl, rfl⟩ | ⟨x, t, rfl, rfl⟩
    · rcases keyIs_shape hv with ⟨j, u, rfl, rfl⟩ | ⟨y, u, rfl, rfl⟩
      · rw [key_ll] at h; exact wpAny_eqBool_int h
      · rw [key_lr] at h; exact SeqAt.EqAt.int_str i t y u _ _ _ _ h
    · rcases keyIs_shape hv with ⟨j, u, rfl, rfl⟩ | ⟨y, u, rfl, rfl⟩
      · rw [key_rl] at h; exact SeqAt.EqAt.str_int x t j u _ _ _ _ h
      · rw [key_rr] at h; exact wpAny_eqBool_str h
  «strs» := fun k x t v h => by
    rcases keyIs_shape h with ⟨i, u, rfl, e⟩ | ⟨y, u, rfl, e⟩
    · exact nomatch e
    · injection e with e1 _
      subst e1
      cases v <;> rfl

end L2

namespace L2
open PySem PySem.Spec PyProof.Rows

/-- a value, without the heap -/
inductive V where
  | non | bl (b : Bool) | int (i : Int) | str (x : Str) | byt (b : Array UInt8) | flt (b : UInt64) | ref (a : Addr) | ty (n : String)
  deriving DecidableEq

def RelV : V → Value → Prop
  | .non, u => u = Value.none
  | .bl b, u => u = Value.bool b
  | .int i, u => ∃ t, u = Value.int i t
  | .str x, u => ∃ t, u = Value.str x t
  | .byt b, u => ∃ t, u = Value.bytes b t
  | .flt b, u => ∃ t, u = Value.float b t
  | .ref a, u => u = Value.ref a
  | .ty n, u => u = Value.type n

abbrev Vals : List V → List Value → Prop := Paired RelV
theorem Vals.length {xs : List V} {us : List Value} (r : Vals xs us) : xs.length = us.length := Paired.length r
theorem Vals.get : ∀ {xs : List V} {us : List Value} {i : Nat} {x : V}, Vals xs us → xs[i]? = some x → ∃ u, us[i]? = some u ∧ RelV x u
  | _, _, _, _, .nil, e => by simp at e
  | _, _, 0, _, .cons r _, e => by simp at e; subst e; exact ⟨_, rfl, r⟩
  | _, _, i + 1, x, .cons _ t, e => by
    obtain ⟨u, h1, h2⟩ := Vals.get (i := i) (x := x) t (by simpa using e)
    exact ⟨u, by simpa using h1, h2⟩
theorem Vals.append : ∀ {xs ys : List V} {us ws : List Value}, Vals xs us → Vals ys ws → Vals (xs ++ ys) (us ++ ws)
  | _, _, _, _, .nil, s => s
  | _, _, _, _, .cons r t, s => .cons r (Vals.append t s)
theorem Vals.take : ∀ {xs : List V} {us : List Value} (n : Nat), Vals xs us → Vals (xs.take n) (us.take n)
  | _, _, 0, _ => .nil
  | _, _, _ + 1, .nil => .nil
  | _, _, n + 1, .cons r t => .cons r (Vals.take n t)
theorem Vals.drop : ∀ {xs : List V} {us : List Value} (n : Nat), Vals xs us → Vals (xs.drop n) (us.drop n)
  | _, _, 0, r => r
  | _, _, _ + 1, .nil => .nil
  | _, _, n + 1, .cons _ t => Vals.drop n t
def RelO : Option V → Option Value → Prop
  | some v, some u => RelV v u
  | none, none => True
  | _, _ => False
def KV {κ : Type} : List (κ × V) → List (κ × Value) → Prop := Paired fun (p : κ × V) (q : κ × Value) => p.1 = q.1 ∧ RelV p.2 q.2

/-- a key of a dict (00_mix): an int or a text -/
def kV : Key → V
  | .inl i => .int i
  | .inr x => .str x

/-- what stands at a tracked address -/
inductive HO where
  /-- a list -/
  | lst (xs : List V)
  /-- a tuple (never changes) -/
  | tup (xs : List V)
  /-- a dict whose keys are ints and texts; one whose keys are tuples of ints and texts (the empty one is both) -/
  | dK (kvs : List (Key × V)) | dT (kvs : List (List Key × V))
  /-- a set of ints: its members, its size -/
  | set (S : Int → Bool) (n : Nat)
  /-- an instance of the class at C, its dict at dx, its attributes -/
  | ins (C dx : Addr) (fs : List (Str × V))
  /-- the dict of the instance at x -/
  | own (x : Addr)
  /-- the dict of an exception -/
  | xd (fs : List (Str × V))
  /-- a bound method, f of x -/
  | met (f x : Addr)
  /-- a range object lo, lo + 1, .. below hi -/
  | rng (lo hi : Int)
  /-- a thing that is known to the object (the script; a dict while a loop walks it): read, never written while it is so -/
  | frz (o : Obj) (u : HO)
  /-- a code object's table -/
  | tbl (ps : Array Value)
  /-- any other thing, by what is true of its one object (a def of one's own: SetO a S n := HO.ext fun h => ..) -/
  | ext (φ : Heap → Prop)

abbrev Hp := Addr → Option HO
def upd (H : Hp) (a : Addr) (o : HO) : Hp := fun b => if b = a then some o else H b
theorem upd_same {H : Hp} {a : Addr} {o : HO} : upd H a o a = some o := by unfold upd; rw [if_pos rfl]
theorem upd_ne {H : Hp} {a b : Addr} {o : HO} (h : b ≠ a) : upd H a o b = H b := by unfold upd; rw [if_neg h]
/-- two objects of different content stand apart -/
theorem ne_of {H : Hp} {a b : Addr} {o u : HO} (h : H a = some o) (h' : H b = some u) (d : o ≠ u) : a ≠ b := by
  intro e; subst e; rw [h] at h'; exact d (Option.some.inj h')
theorem ne_of_none {H : Hp} {a b : Addr} {o : HO} (h : H a = some o) (h' : H b = none) : a ≠ b := by
  intro e; subst e; rw [h] at h'; cases h'

section
variable (P : Program) (w : World)
def ObjOk (H : Hp) (h : Heap) (a : Addr) : HO → Prop
  | .lst xs => xs.length ≤ sizeLine ∧ ∃ (its : List Value) (n : Nat), Vals xs its ∧ h.get? a = some { cls := .type "list", data := .seq its.toArray n }
  | .tup xs => xs.length ≤ sizeLine ∧ ∃ its : List Value, Vals xs its ∧ IsTup h a its.toArray
  | .dK kvs => kvs.length ≤ sizeLine ∧ (a == sysModules) = false ∧ ∃ vs, KV kvs vs ∧ h.DictOf (mixKind P w) a vs
  | .dT kvs => kvs.length ≤ sizeLine ∧ (a == sysModules) = false ∧ ∃ xs : List (List Key × Addr × Value),
      Paired (fun (p : List Key × V) (q : List Key × Addr × Value) => p.1 = q.1 ∧ H q.2.1 = some (.tup (p.1.map kV)) ∧ RelV p.2 q.2.2) kvs xs ∧
      ∃ o es ep, h.get? a = some o ∧ o.ExactDict ∧ o.data = .dict es ep ∧ es.toList = xs.map (entryOfKey (tupleKind (mixKind P w))) ∧ (xs.map (·.1)).Nodup
  | .set S n => h.SetOf (intKind P w) a S n
  | .ins C dx fs => H dx = some (.own a) ∧ fs.length ≤ 1000 ∧ dx ≠ a ∧ h.get? a = some (PySem.W.instObj C dx) ∧
      ∃ mA, h.Ns1 dx mA ∧ (∀ f, RelO (fs.lookup f) (mA f)) ∧ PySem.Within mA (fs.map (·.1))
  | .own _ => ∃ o, h.get? a = some o
  | .xd fs => ∃ mA, h.Ns1 a mA ∧ ∀ f, RelO (fs.lookup f) (mA f)
  | .rng lo hi => ∃ t u v, h.get? a = some { cls := .type "range", data := .fields #[.int lo t, .int hi u, .int 1 v] }
  | .frz o u => h.get? a = some o ∧ ObjOk H h a u
  | .tbl ps => h.get? a = some { cls := .none, data := .fields ps }
  | .met f x => h.get? a = some (PySem.W.methodObj (.ref f) (.ref x))
  | .ext φ => φ h ∧ (∃ o, h.get? a = some o) ∧ ∀ h1 h2 : Heap, φ h1 → (∀ o, h1.get? a = some o → h2.get? a = some o) → φ h2
/-- the abstract heap is held -/
def HOk (H : Hp) (h : Heap) : Prop := ∀ a o, H a = some o → ObjOk P w H h a o
end

section
variable {P : Program} {w : World} {H H' : Hp} {h h' : Heap} {a : Addr} {o : HO}
theorem ObjOk.lt (x : ObjOk P w H h a o) : a < h.objs.size := by
  cases o with
  | lst xs => obtain ⟨_, _, _, _, e⟩ := x; exact Heap.lt_size e
  | tup xs => obtain ⟨_, _, _, p⟩ := x; exact p.lt
  | dK kvs => obtain ⟨_, _, _, _, o, _, _, e, _⟩ := x; exact Heap.lt_size e
  | dT kvs => obtain ⟨_, _, _, _, o, _, _, e, _⟩ := x; exact Heap.lt_size e
  | set S n => obtain ⟨o, _, _, _, e, _⟩ := x; exact Heap.lt_size e
  | ins C dx fs => obtain ⟨_, _, _, e, _⟩ := x; exact Heap.lt_size e
  | own y => obtain ⟨_, e⟩ := x; exact Heap.lt_size e
  | xd fs => obtain ⟨_, ⟨_, _, _, e, _⟩, _⟩ := x; exact Heap.lt_size e
  | rng lo hi => obtain ⟨_, _, _, e⟩ := x; exact Heap.lt_size e
  | frz ob u => obtain ⟨e, _⟩ := x; exact Heap.lt_size e
  | tbl ps => exact Heap.lt_size (show h.get? a = some _ from x)
  | met f y => exact Heap.lt_size (show h.get? a = some _ from x)
  | ext φ => obtain ⟨_, ⟨_, e⟩, _⟩ := x; exact Heap.lt_size e
theorem Paired.mapP {α β : Type} {F G : α → β → Prop} : ∀ {l₁ : List α} {l₂ : List β}, Paired F l₁ l₂ → (∀ a b, F a b → G a b) → Paired G l₁ l₂
  | _, _, .nil, _ => .nil
  | _, _, .cons r t, f => .cons (f _ _ r) (Paired.mapP t f)
/-- what an object's description leans on: its own object, its own dict, the tuples -/
theorem ObjOk.stay (x : ObjOk P w H h a o) (k : ∀ b u, (b = a ∨ H b = some (.own a)) → h.get? b = some u → h'.get? b = some u)
    (ho : ∀ b, H b = some (.own a) → H' b = some (.own a)) (ht : ∀ b xs, H b = some (.tup xs) → H' b = some (.tup xs)) : ObjOk P w H' h' a o := by
  induction o with
  | lst xs => obtain ⟨z, its, n, r, e⟩ := x; exact ⟨z, its, n, r, k _ _ (.inl rfl) e⟩
  | tup xs => obtain ⟨z, its, r, ob, e, c⟩ := x; exact ⟨z, its, r, ob, k _ _ (.inl rfl) e, c⟩
  | dK kvs => obtain ⟨z, y, vs, r, ob, es, ep, e, c⟩ := x; exact ⟨z, y, vs, r, ob, es, ep, k _ _ (.inl rfl) e, c⟩
  | dT kvs =>
    obtain ⟨z, y, xs, r, ob, es, ep, e, c⟩ := x
    exact ⟨z, y, xs, Paired.mapP r fun p q z => ⟨z.1, ht _ _ z.2.1, z.2.2⟩, ob, es, ep, k _ _ (.inl rfl) e, c⟩
  | set S n => obtain ⟨ob, es, ep, t, e, c⟩ := x; exact ⟨ob, es, ep, t, k _ _ (.inl rfl) e, c⟩
  | ins C dx fs =>
    obtain ⟨d, z, ne, e, mA, ⟨od, es, ep, e2, c⟩, r⟩ := x
    exact ⟨ho _ d, z, ne, k _ _ (.inl rfl) e, mA, ⟨od, es, ep, k _ _ (.inr d) e2, c⟩, r⟩
  | own y => obtain ⟨ob, e⟩ := x; exact ⟨ob, k _ _ (.inl rfl) e⟩
  | xd fs => obtain ⟨mA, ⟨od, es, ep, e, c⟩, r⟩ := x; exact ⟨mA, ⟨od, es, ep, k _ _ (.inl rfl) e, c⟩, r⟩
  | rng lo hi => obtain ⟨t, u, v, e⟩ := x; exact ⟨t, u, v, k _ _ (.inl rfl) e⟩
  | frz ob u ih => obtain ⟨e, q⟩ := x; exact ⟨k _ _ (.inl rfl) e, ih q⟩
  | tbl ps =>
    have e : h.get? a = some { cls := .none, data := .fields ps } := x
    show h'.get? a = some { cls := .none, data := .fields ps }
    exact k a _ (.inl rfl) e
  | met f y =>
    have e : h.get? a = some (PySem.W.methodObj (.ref f) (.ref y)) := x
    show h'.get? a = some (PySem.W.methodObj (.ref f) (.ref y))
    exact k a _ (.inl rfl) e
  | ext φ => obtain ⟨p, ⟨o, e⟩, st⟩ := x; exact ⟨st _ _ p fun o q => k _ _ (.inl rfl) q, ⟨o, k _ _ (.inl rfl) e⟩, st⟩
theorem HOk.lt (x : HOk P w H h) (e : H a = some o) : a < h.objs.size := (x a o e).lt
theorem HOk.fresh (x : HOk P w H h) (e : h.objs.size ≤ a) : H a = none := by
  cases q : H a with
  | none => rfl
  | some u => exact absurd (Nat.lt_of_lt_of_le (x.lt q) e) (Nat.lt_irrefl _)
/-- every object of the heap is kept -/
theorem HOk.kept (x : HOk P w H h) (k : ∀ b u, h.get? b = some u → h'.get? b = some u) : HOk P w H h' := fun a o e =>
  (x a o e).stay (fun b u _ q => k b u q) (fun _ q => q) fun _ _ q => q
/-- a new object is laid and tracked -/
theorem HOk.laid (x : HOk P w H h) (k : ∀ b u, h.get? b = some u → h'.get? b = some u) (hp : h.objs.size ≤ a) (new : ObjOk P w (upd H a o) h' a o) : HOk P w (upd H a o) h' := fun b u e => by
  have hn := x.fresh hp
  by_cases hb : b = a
  · subst hb; rw [upd_same] at e; cases e; exact new
  · rw [upd_ne hb] at e
    exact (x b u e).stay (fun c v _ q => k c v q) (fun c q => by rw [upd_ne (ne_of_none q hn)]; exact q) fun c xs q => by rw [upd_ne (ne_of_none q hn)]; exact q
end

/-- what may be read as u: it is u, or a known u -/
def Rd (H : Hp) (a : Addr) (u : HO) : Prop := H a = some u ∨ ∃ o, H a = some (.frz o u)
theorem Rd.ok {P : Program} {w : World} {H : Hp} {h : Heap} {a : Addr} {u : HO} (r : Rd H a u) (x : HOk P w H h) : ObjOk P w H h a u := by
  rcases r with r | ⟨o, r⟩
  · exact x a u r
  · obtain ⟨_, q⟩ := x a _ r
    exact q
/-- what may be written -/
def Mut : Option HO → Prop
  | some (.lst _) => True
  | some (.dK _) => True
  | some (.dT _) => True
  | some (.set _ _) => True
  | some (.ins _ _ _) => True
  | some (.ext _) => True
  | _ => False
section
variable {P : Program} {w : World} {H : Hp} {h h' : Heap} {x e : Addr} {o' : HO}
/-- the object at e is changed: x itself, or the dict of the instance x -/
theorem HOk.write (ok : HOk P w H h) (mu : Mut (H x)) (he : e = x ∨ H e = some (.own x)) (k : ∀ b u, b ≠ e → h.get? b = some u → h'.get? b = some u) (heo : ∃ u, h'.get? e = some u)
    (new : ObjOk P w (upd H x o') h' x o') : HOk P w (upd H x o') h' := fun b u q => by
  have nown : ∀ c y, H c = some (.own y) → c ≠ x := fun c y r z => by subst z; rw [r] at mu; exact mu
  have ntup : ∀ c xs, H c = some (.tup xs) → c ≠ x := fun c xs r z => by subst z; rw [r] at mu; exact mu
  by_cases hb : b = x
  · subst hb; rw [upd_same] at q; cases q; exact new
  · rw [upd_ne hb] at q
    by_cases hbe : b = e
    · have q' : H b = some (.own x) := by
        rcases he with z | z
        · exact absurd (hbe.trans z) hb
        · rw [hbe]; exact z
      rw [q] at q'; cases q'
      obtain ⟨v, hv⟩ := heo
      exact ⟨v, by rw [hbe]; exact hv⟩
    · refine (ok b u q).stay (fun c v hc r => k c v ?_ r) (fun c r => by rw [upd_ne (nown c b r)]; exact r) fun c xs r => by rw [upd_ne (ntup c xs r)]; exact r
      rcases hc with rfl | hc
      · exact hbe
      · rintro rfl
        rcases he with z | z
        · exact nown c b hc z
        · rw [hc] at z; cases z; exact hb rfl
end

/-! ### kept unless tracked; of the frames at fs (the callers') the slots may change (an exception that passes writes there); of the records at ex (iterators) nothing is said -/
structure Un (fs ex : List Addr) (H H' : Hp) (h h' : Heap) : Prop where
  keep : ∀ b o, h.get? b = some o → H b = none → b ∉ fs → b ∉ ex → h'.get? b = some o
  slot : ∀ b o, h.get? b = some o → H b = none → b ∈ fs → b ∉ ex → ∃ sl, h'.get? b = some { o with slots := sl }
  free : ∀ b o, h.get? b = some o → H b = none → b ∉ ex → H' b = none
  there : ∀ b o, h.get? b = some o → b ∉ ex → ∃ o', h'.get? b = some o'
  tups : ∀ b xs, H b = some (.tup xs) → H' b = some (.tup xs)
  frzs : ∀ b o u, H b = some (.frz o u) → H' b = some (.frz o u)
  tbls : ∀ b ps, H b = some (.tbl ps) → ∃ more, H' b = some (.tbl (ps ++ more))
section
variable {fs fs' ex ex' : List Addr} {H H1 H2 : Hp} {h h1 h2 h' : Heap} {a x e : Addr} {o : HO}
theorem Un.any (u : Un fs ex H H1 h h1) {b : Addr} {ob : Obj} (q : h.get? b = some ob) (n : H b = none) (hx : b ∉ ex) : ∃ sl, h1.get? b = some { ob with slots := sl } := by
  by_cases hb : b ∈ fs
  · exact u.slot b ob q n hb hx
  · exact ⟨ob.slots, u.keep b ob q n hb hx⟩
theorem Un.kept (k : ∀ b u, h.get? b = some u → h'.get? b = some u) : Un fs ex H H h h' :=
  ⟨fun b ob q _ _ _ => k b ob q, fun b ob q _ _ _ => ⟨ob.slots, k b ob q⟩, fun _ _ _ n _ => n, fun b ob q _ => ⟨ob, k b ob q⟩, fun _ _ q => q, fun _ _ _ q => q, fun _ ps q => ⟨#[], by rw [q]; simp⟩⟩
theorem Un.refl : Un fs ex H H h h := Un.kept fun _ _ q => q
theorem Un.laid (k : ∀ b u, h.get? b = some u → h'.get? b = some u) (hp : h.objs.size ≤ a) (hn : H a = none) : Un fs ex H (upd H a o) h h' where
  keep := fun b u q _ _ _ => k b u q
  slot := fun b u q _ _ _ => ⟨u.slots, k b u q⟩
  free := fun b u q n _ => by rw [upd_ne (Nat.ne_of_lt (Nat.lt_of_lt_of_le (Heap.lt_size q) hp))]; exact n
  there := fun b u q _ => ⟨u, k b u q⟩
  tups := fun b xs q => by rw [upd_ne (ne_of_none q hn)]; exact q
  frzs := fun b u xs q => by rw [upd_ne (ne_of_none q hn)]; exact q
  tbls := fun b ps q => ⟨#[], by rw [upd_ne (ne_of_none q hn), q]; simp⟩
theorem Un.write (mu : Mut (H x)) (he : e = x ∨ H e = some (.own x)) (k : ∀ b u, b ≠ e → h.get? b = some u → h'.get? b = some u) (heo : ∃ u, h'.get? e = some u) : Un fs ex H (upd H x o) h h' := by
  have hx : ∀ b, H b = none → b ≠ x := fun b n z => by subst z; rw [n] at mu; exact mu
  have hb : ∀ b, H b = none → b ≠ e := fun b n z => by
    subst z
    rcases he with r | r
    · exact hx b n r
    · rw [n] at r; cases r
  have hm : ∀ b u, H b = some u → ¬ Mut (some u) → b ≠ x := fun b u q nm z => by subst z; rw [q] at mu; exact nm mu
  refine ⟨fun b u q n _ _ => k b u (hb b n) q, fun b u q n _ _ => ⟨u.slots, k b u (hb b n) q⟩, fun b u q n _ => by rw [upd_ne (hx b n)]; exact n, fun b u q _ => ?_,
    fun b xs q => by rw [upd_ne (hm b _ q fun z => z)]; exact q, fun b u xs q => by rw [upd_ne (hm b _ q fun z => z)]; exact q, fun b ps q => ⟨#[], by rw [upd_ne (hm b _ q fun z => z), q]; simp⟩⟩
  by_cases hbe : b = e
  · subst hbe; exact heo
  · exact ⟨u, k b u hbe q⟩
end

/-! ### the heap without what is tracked -/
def trk (h : Heap) (H : Hp) : List Addr := (List.range h.objs.size).filter fun a => (H a).isSome
def hidT (h : Heap) (H : Hp) : Heap := PySem.W.hideAll h (trk h H)
theorem hidT_size (h : Heap) (H : Hp) : (hidT h H).objs.size = h.objs.size := PySem.W.hideAll_size _ _
theorem hidT_get {h : Heap} {H : Hp} {b : Addr} {o : Obj} (e : h.get? b = some o) (n : H b = none) : (hidT h H).get? b = some o :=
  PySem.W.hideAll_get _ e fun hm => by
    have q : (H b).isSome = true := (List.mem_filter.mp hm).2
    rw [n] at q; simp at q
theorem of_hidT {h : Heap} {H : Hp} {b : Addr} {o : Obj} (e : (hidT h H).get? b = some o) : h.get? b = some o ∧ H b = none := by
  have e' : h.get? b = some o := PySem.W.of_hideAll (trk h H) e
  refine ⟨e', ?_⟩
  cases q : H b with
  | none => rfl
  | some x =>
    have hm : b ∈ trk h H := List.mem_filter.mpr ⟨List.mem_range.mpr (Heap.lt_size e'), by simp [q]⟩
    have z : (hidT h H).get? b = none := PySem.W.hideAll_none (trk h H) hm
    rw [z] at e; cases e

/-! ### OpenK's ledger, filled with every new object but one -/
def allNews (g h : Heap) (L : Addr) : List (Addr × Obj) := (List.range h.objs.size).filterMap fun a => if a = L ∨ (g.get? a).isSome = true then none else (h.get? a).map fun o => (a, o)
def rest (g h : Heap) (L d : Addr) : List (Addr × Obj) := (allNews g h L).filter fun p => decide (p.1 ≠ d)
end L2

namespace L2
open PySem PySem.Spec PyProof.Rows

/-- the module's facts, over the base: the heap at the law's entry without what is tracked there -/
structure Mod (K : PySem.W.Frag) (mg : Str → Option Value) (base : Heap) : Prop where
  kin : K.In base
  glob : base.Ns mainGlobals mg
  blt : ∃ mb, base.Ns builtinsNs mb ∧ ∀ x : Str, x ≠ "__name__" → mb x = bootBuiltins x
  nolimit : base.NoLimit

/-- the context: a def's body (or a comprehension's block) running. base: fixed through the whole law; s₀, H₀: the entry; outer: the frames whose slots others may change (a def's callers); stack: all frames that run;
   ex: iterators that were made ahead of the entry and are walked here (a comprehension's); fn: the names whose cells were made at the entry (a def: all; a comprehension's block: its own); calm: not within an except suite; pn: pins that every state bears; xe: what is wanted of an exception that leaves the code -/
structure Cx where
  prog : Program
  w : World
  K : PySem.W.Frag
  mg : Str → Option Value
  base : Heap
  A : Around
  N : List Str
  s₀ : Shared
  H₀ : Hp
  env : Env
  outer : List Env
  stack : List Env
  ex : List Addr
  fn : Str → Bool
  calm : Bool
  pn : List (Addr × Obj)
  xe : Value → Shared → Prop
/-- the callers' frames -/
def frs (l : List Env) : List Addr := l.filterMap (·.frame)
abbrev Cx.fs (X : Cx) : List Addr := frs X.outer

def Vis (sc : Scope) (x : Str) : Prop := sc.names.lookup x = some .local ∨ sc.names.lookup x = some .cell ∨ sc.names.lookup x = some .free
def Loc (sc : Scope) (x : Str) : Prop := sc.names.lookup x = some .local ∨ sc.names.lookup x = some .cell
def Look (env : Env) (h : Heap) (m : Str → Option Value) (x : Str) (u : Value) : Prop :=
  (env.kindOf x = some .local ∧ m x = some u) ∨ ((env.kindOf x = some .cell ∨ env.kindOf x = some .free) ∧ ∃ c, env.cells.lookup x = some c ∧ h.IsCell c (some u))

structure Cx.Ok (X : Cx) : Prop where
  mod : Mod X.K X.mg X.base
  kind : X.env.scope.kind = .function
  glob : X.env.globals = mainGlobals
  blt : X.env.builtins = builtinsNs
  above : X.s₀.heap.objs.size ≤ X.env.locals
  inj : ∀ x y c, X.env.cells.lookup x = some c → X.env.cells.lookup y = some c → x = y
  has : ∀ x, (X.env.kindOf x = some .cell ∨ X.env.kindOf x = some .free) → ∃ c, X.env.cells.lookup x = some c
  cab : ∀ x c, X.fn x = true → X.env.cells.lookup x = some c → X.s₀.heap.objs.size ≤ c
  hd : X.calm = true → X.A.handled = none
  frames : X.A.frames = some X.stack
  stk : X.stack = X.outer ∨ (X.stack = X.env :: X.outer ∧ X.env.frame = some X.env.locals)
  exf : ∀ b ∈ X.ex, b ≠ X.env.locals ∧ ∀ x c, X.env.cells.lookup x = some c → c ≠ b
  bs : ∀ b o, X.base.get? b = some o → X.s₀.heap.get? b = some o ∧ X.H₀ b = none
  bsz : X.base.objs.size ≤ X.s₀.heap.objs.size
  noex : ∀ b o, X.base.get? b = some o → b ∉ X.ex
  exfs : ∀ b ∈ X.ex, b ∉ X.fs
  funs : X.s₀.heap.FunFrames X.base X.outer
  frf : ∀ b ∈ X.fs, X.H₀ b = none

structure Inv (X : Cx) (pins : List (Addr × Obj)) (σ : List (Option V)) (H : Hp) (s : Shared) : Prop where
  ok : X.Ok
  os : s.os = X.s₀.os
  bare : AllBare s.gens
  base : Un X.fs X.ex X.H₀ H X.s₀.heap s.heap
  loc : ∃ m, s.heap.Ns X.env.locals m ∧ ∀ (i : Nat) (x : Str) (v : V), X.N[i]? = some x → σ[i]? = some (some v) → Vis X.env.scope x → ∃ u, RelV v u ∧ Look X.env s.heap m x u
  cell : ∀ x c, X.env.cells.lookup x = some c → ∃ v, s.heap.IsCell c v
  free : H X.env.locals = none
  freeC : ∀ x c, X.env.cells.lookup x = some c → H c = none
  pin : ∀ p ∈ X.pn ++ pins, s.heap.get? p.1 = some p.2 ∧ H p.1 = none ∧ p.1 ≠ X.env.locals ∧ p.1 ∉ X.fs ∧ ∀ v, p.2.data ≠ .cell v
  hok : HOk X.prog X.w H s.heap
  len : σ.length = X.N.length

section
variable {X : Cx} {pins : List (Addr × Obj)} {σ : List (Option V)} {H H' : Hp} {s : Shared} {h' : Heap}

theorem Cx.Ok.nofr (ok : X.Ok) {b : Addr} {o : Obj} (e : X.base.get? b = some o) : b ∉ X.fs := fun hb => by
  have := (ok.funs.mem hb).1
  rw [e] at this; cases this
theorem Inv.bs (I : Inv X pins σ H s) : ∀ b o, X.base.get? b = some o → s.heap.get? b = some o ∧ H b = none := fun b o e =>
  ⟨I.base.keep b o (I.ok.bs b o e).1 (I.ok.bs b o e).2 (I.ok.nofr e) (I.ok.noex b o e), I.base.free b o (I.ok.bs b o e).1 (I.ok.bs b o e).2 (I.ok.noex b o e)⟩
theorem Inv.bk (I : Inv X pins σ H s) : ∀ b o, X.base.get? b = some o → s.heap.get? b = some o := fun b o e => (I.bs b o e).1
theorem Inv.mod (I : Inv X pins σ H s) : Mod X.K X.mg X.base := I.ok.mod
theorem Inv.kIn (I : Inv X pins σ H s) : X.K.In s.heap := I.ok.mod.kin.keeps I.bk
/-- the frame over the base: for OpenK's rules (K.In X.base is I.mod.kin) -/
theorem Inv.fr (I : Inv X pins σ H s) : ∃ m, Fr X.base X.env.locals s.heap m :=
  let ⟨m, hn, _⟩ := I.loc
  ⟨m, hn, I.bk, Nat.le_trans I.ok.bsz I.ok.above⟩
theorem Inv.lt (I : Inv X pins σ H s) : X.env.locals < s.heap.objs.size := let ⟨_, hn, _⟩ := I.loc; hn.lt
theorem Inv.sz (I : Inv X pins σ H s) : X.s₀.heap.objs.size ≤ s.heap.objs.size := Nat.le_trans I.ok.above (Nat.le_of_lt I.lt)
theorem Inv.nofs (I : Inv X pins σ H s) {a : Addr} (h : s.heap.objs.size ≤ a) : a ∉ X.fs := fun hb => by
  obtain ⟨_, o, ho, _⟩ := I.ok.funs.mem hb
  exact absurd (Nat.lt_of_lt_of_le (Heap.lt_size ho) (Nat.le_trans I.sz h)) (Nat.lt_irrefl _)
theorem Inv.cne (I : Inv X pins σ H s) : ∀ x c, X.env.cells.lookup x = some c → c ≠ X.env.locals := fun x c e z => by
  obtain ⟨v, o, ho, hd⟩ := I.cell x c e
  obtain ⟨m, ⟨o', es, ep, ho', hd', _⟩, _⟩ := I.loc
  rw [z, ho'] at ho; cases ho; rw [hd'] at hd; cases hd
theorem Inv.funs (I : Inv X pins σ H s) : s.heap.FunFrames X.base X.outer := by
  have all : ∀ (l : List Env), (∀ b ∈ frs l, b ∈ X.fs) → X.s₀.heap.FunFrames X.base l → s.heap.FunFrames X.base l := by
    intro l
    induction l with
    | nil => intro _ _; trivial
    | cons env r ih =>
      intro hs hl
      obtain ⟨hk, ⟨L, o, hf, hn, ho, hd⟩, hr⟩ := hl
      have hL : L ∈ X.fs := hs L (by unfold frs; rw [List.filterMap_cons, hf]; exact List.mem_cons_self)
      obtain ⟨sl, e⟩ := I.base.slot L o ho (I.ok.frf L hL) hL fun z => I.ok.exfs L z hL
      exact ⟨hk, ⟨L, _, hf, hn, e, hd⟩, ih (fun b hb => hs b (by unfold frs; rw [List.filterMap_cons, hf]; exact List.mem_cons_of_mem _ hb)) hr⟩
  exact all X.outer (fun _ hb => hb) I.ok.funs

/-- the frames that run, for a call -/
theorem Inv.stack (I : Inv X pins σ H s) : s.heap.FunFrames X.base X.stack := by
  rcases I.ok.stk with e | ⟨e, hf⟩
  · rw [e]; exact I.funs
  · rw [e]
    obtain ⟨m, hn, _⟩ := I.loc
    refine .cons (by rw [I.ok.kind]; decide) hf hn ?_ I.funs
    exact Heap.get?_none_of_le (Nat.le_trans I.ok.bsz I.ok.above)
theorem Inv.stkSub (I : Inv X pins σ H s) : ∀ b ∈ frs X.stack, b ∈ X.env.locals :: X.fs := fun b hb => by
  rcases I.ok.stk with e | ⟨e, hf⟩
  · rw [e] at hb; exact List.mem_cons_of_mem _ hb
  · rw [e] at hb
    unfold frs at hb
    rw [List.filterMap_cons, hf] at hb
    exact hb
theorem Inv.stkFree (I : Inv X pins σ H s) : ∀ b ∈ frs X.stack, H b = none := fun b hb => by
  rcases List.mem_cons.mp (I.stkSub b hb) with e | hb
  · rw [e]; exact I.free
  · obtain ⟨_, o, ho, _⟩ := I.ok.funs.mem hb
    exact I.base.free b o ho (I.ok.frf b hb) fun z => I.ok.exfs b z hb

/-- THE STEP: the untracked objects but the frame and the records at ch are kept (the callers' frames up to slots), the frame's map is kept, the new abstract heap is held -/
theorem Inv.step {g' : Array GenState} {t' : Nat} {d' : Drawn} {ch : List Addr} (I : Inv X pins σ H s)
    (hch : ∀ b ∈ ch, (b ∈ X.ex ∨ X.s₀.heap.objs.size ≤ b) ∧ b ≠ X.env.locals ∧ (∀ x c, X.env.cells.lookup x = some c → c ≠ b) ∧ ∀ p ∈ X.pn ++ pins, p.1 ≠ b)
    (keep : ∀ b o, b ≠ X.env.locals → b ∉ X.fs → b ∉ ch → s.heap.get? b = some o → H b = none → h'.get? b = some o)
    (slot : ∀ b o, b ≠ X.env.locals → b ∈ X.fs → b ∉ ch → s.heap.get? b = some o → H b = none → ∃ sl, h'.get? b = some { o with slots := sl }) (free : ∀ b o, b ∉ ch → s.heap.get? b = some o → H b = none → H' b = none)
    (there : ∀ b o, b ∉ ch → s.heap.get? b = some o → ∃ o', h'.get? b = some o')
    (tups : ∀ b xs, H b = some (.tup xs) → H' b = some (.tup xs)) (frzs : ∀ b o u, H b = some (.frz o u) → H' b = some (.frz o u)) (tbls : ∀ b ps, H b = some (.tbl ps) → ∃ more, H' b = some (.tbl (ps ++ more)))
    (ns : ∀ m, s.heap.Ns X.env.locals m → h'.Ns X.env.locals m) (hok : HOk X.prog X.w H' h') (hg : AllBare g') :
    Inv X pins σ H' { s with heap := h', gens := g', drawn := d', toks := t' } := by
  have neL : ∀ b o, X.s₀.heap.get? b = some o → b ≠ X.env.locals := fun b o e => Nat.ne_of_lt (Nat.lt_of_lt_of_le (Heap.lt_size e) I.ok.above)
  have neC : ∀ b o, X.s₀.heap.get? b = some o → b ∉ X.ex → b ∉ ch := fun b o e hx hb => by
    rcases (hch b hb).1 with z | z
    · exact hx z
    · exact absurd (Nat.lt_of_lt_of_le (Heap.lt_size e) z) (Nat.lt_irrefl _)
  have cellK : ∀ x c, X.env.cells.lookup x = some c → ∀ v, s.heap.IsCell c v → h'.IsCell c v := fun x c e v ⟨o, ho, hd⟩ => by
    have nch : c ∉ ch := fun z => (hch c z).2.2.1 x c e rfl
    by_cases hc : c ∈ X.fs
    · obtain ⟨sl, q⟩ := slot c o (I.cne x c e) hc nch ho (I.freeC x c e)
      exact ⟨_, q, hd⟩
    · exact ⟨o, keep c o (I.cne x c e) hc nch ho (I.freeC x c e), hd⟩
  refine ⟨I.ok, I.os, hg, ⟨fun b o e n hb hx => ?_, fun b o e n hb hx => ?_, fun b o e n hx => ?_, fun b o e hx => ?_, fun b xs e => tups b xs (I.base.tups b xs e), fun b o xs e => frzs b o xs (I.base.frzs b o xs e), fun b ps e => ?_⟩, ?_, fun x c e => ?_, ?_, fun x c e => ?_, fun p hp => ?_, hok, I.len⟩
  · exact keep b o (neL b o e) hb (neC b o e hx) (I.base.keep b o e n hb hx) (I.base.free b o e n hx)
  · obtain ⟨sl, e1⟩ := I.base.slot b o e n hb hx
    obtain ⟨sl', e2⟩ := slot b _ (neL b o e) hb (neC b o e hx) e1 (I.base.free b o e n hx)
    exact ⟨sl', e2⟩
  · obtain ⟨o', e1⟩ := I.base.there b o e hx
    exact free b o' (neC b o e hx) e1 (I.base.free b o e n hx)
  · obtain ⟨o', e1⟩ := I.base.there b o e hx
    exact there b o' (neC b o e hx) e1
  · obtain ⟨m1, e1⟩ := I.base.tbls b ps e
    obtain ⟨m2, e2⟩ := tbls b _ e1
    exact ⟨m1 ++ m2, by rw [e2, Array.append_assoc]⟩
  · obtain ⟨m, hn, hl⟩ := I.loc
    refine ⟨m, ns m hn, fun i x v e1 e2 e3 => ?_⟩
    obtain ⟨u, r, l⟩ := hl i x v e1 e2 e3
    refine ⟨u, r, ?_⟩
    rcases l with l | ⟨k, c, e, z⟩
    · exact .inl l
    · exact .inr ⟨k, c, e, cellK x c e _ z⟩
  · obtain ⟨v, z⟩ := I.cell x c e
    exact ⟨v, cellK x c e v z⟩
  · obtain ⟨m, ⟨o, _, _, ho, _⟩, _⟩ := I.loc
    exact free _ o (fun z => (hch _ z).2.1 rfl) ho I.free
  · obtain ⟨v, o, ho, hd⟩ := I.cell x c e
    exact free c o (fun z => (hch c z).2.2.1 x c e rfl) ho (I.freeC x c e)
  · obtain ⟨e, n, ne, nf, d⟩ := I.pin p hp
    have nch : p.1 ∉ ch := fun z => (hch p.1 z).2.2.2 p hp rfl
    exact ⟨keep p.1 p.2 ne nf nch e n, free p.1 p.2 nch e n, ne, nf, d⟩
/-- .. where the frame's own object is kept too -/
theorem Inv.un {t' : Nat} (I : Inv X pins σ H s) (u : Un X.fs [] H H' s.heap h') (hok : HOk X.prog X.w H' h') : Inv X pins σ H' { s with heap := h', toks := t' } := by
  obtain ⟨m, ⟨o, es, ep, ho, r⟩, _⟩ := id I.loc
  obtain ⟨sl, hL⟩ := u.any ho I.free (by simp)
  exact I.step (g' := s.gens) (d' := s.drawn) (ch := []) (fun _ z => nomatch z) (fun b o _ hb _ e n => u.keep b o e n hb (by simp)) (fun b o _ hb _ e n => u.slot b o e n hb (by simp)) (fun b o _ e n => u.free b o e n (by simp)) (fun b o _ e => u.there b o e (by simp)) u.tups u.frzs u.tbls (fun m' hm => by
    obtain ⟨o', es', ep', ho', r'⟩ := hm
    rw [ho] at ho'; cases ho'
    exact ⟨_, es', ep', hL, r'⟩) hok I.bare
/-- behind a call (or a comprehension's block): the slots of this frame may have changed too, the records at ch may have turned -/
theorem Inv.call {g' : Array GenState} {t' : Nat} {d' : Drawn} {ch : List Addr} (I : Inv X pins σ H s) (u : Un (frs X.stack) ch H H' s.heap h') (hok : HOk X.prog X.w H' h') (hg : AllBare g')
    (hch : ∀ b ∈ ch, (b ∈ X.ex ∨ X.s₀.heap.objs.size ≤ b) ∧ b ≠ X.env.locals ∧ (∀ x c, X.env.cells.lookup x = some c → c ≠ b) ∧ ∀ p ∈ X.pn ++ pins, p.1 ≠ b) :
    Inv X pins σ H' { s with heap := h', gens := g', drawn := d', toks := t' } := by
  obtain ⟨m, ⟨o, es, ep, ho, r⟩, _⟩ := id I.loc
  obtain ⟨sl, hL⟩ := u.any ho I.free fun z => (hch _ z).2.1 rfl
  exact I.step (ch := ch) hch (fun b o hL hb hc e n => u.keep b o e n (fun z => (List.mem_cons.mp (I.stkSub b z)).elim hL hb) hc) (fun b o _ _ hc e n => u.any e n hc) (fun b o hc e n => u.free b o e n hc) (fun b o hc e => u.there b o e hc) u.tups u.frzs u.tbls (fun m' hm => by
    obtain ⟨o', es', ep', ho', r'⟩ := hm
    rw [ho] at ho'; cases ho'
    exact ⟨_, es', ep', hL, r'⟩) hok hg
/-- an untracked record of ours (an iterator) has turned -/
theorem Inv.turned {t' : Nat} {it : Addr} (I : Inv X pins σ H s) (k : ∀ b o, b ≠ it → s.heap.get? b = some o → h'.get? b = some o) (hn : H it = none) (hL : it ≠ X.env.locals)
    (h1 : it ∈ X.ex ∨ X.s₀.heap.objs.size ≤ it) (h2 : ∀ x c, X.env.cells.lookup x = some c → c ≠ it) (h3 : ∀ p ∈ X.pn ++ pins, p.1 ≠ it) : Inv X pins σ H { s with heap := h', toks := t' } := by
  have nit : ∀ b u, H b = some u → b ≠ it := fun b u e z => by rw [z, hn] at e; cases e
  refine I.step (g' := s.gens) (d' := s.drawn) (ch := [it]) (fun b hb => ?_) (fun b o _ _ hc e _ => k b o (fun z => hc (by simp [z])) e) (fun b o _ _ hc e _ => ⟨o.slots, k b o (fun z => hc (by simp [z])) e⟩) (fun _ _ _ _ n => n)
    (fun b o hc e => ⟨o, k b o (fun z => hc (by simp [z])) e⟩) (fun _ _ e => e) (fun _ _ _ e => e) (fun b ps e => ⟨#[], by rw [e]; simp⟩) (fun m hm => ?_) (fun b u e => ?_) I.bare
  · have e : b = it := by simpa using hb
    subst e
    exact ⟨h1, hL, h2, h3⟩
  · obtain ⟨o, es, ep, ho, r⟩ := hm
    exact ⟨o, es, ep, k _ o (Ne.symm hL) ho, r⟩
  · refine (I.hok b u e).stay (fun c v hc q => k c v ?_ q) (fun _ q => q) fun _ _ q => q
    rcases hc with z | z
    · rw [z]; exact nit b u e
    · exact nit c _ z
theorem Inv.tok (I : Inv X pins σ H s) (t : Nat) : Inv X pins σ H { s with toks := t } := I.un (h' := s.heap) (t' := t) Un.refl I.hok
/-- all objects kept -/
theorem Inv.kept {t' : Nat} (I : Inv X pins σ H s) (k : ∀ b u, s.heap.get? b = some u → h'.get? b = some u) : Inv X pins σ H { s with heap := h', toks := t' } := I.un (Un.kept k) (I.hok.kept k)
/-- a new object laid and tracked -/
theorem Inv.laid {a : Addr} {o : HO} {t' : Nat} (I : Inv X pins σ H s) (k : ∀ b u, s.heap.get? b = some u → h'.get? b = some u) (hp : s.heap.objs.size ≤ a) (new : ObjOk X.prog X.w (upd H a o) h' a o) :
    Inv X pins σ (upd H a o) { s with heap := h', toks := t' } := I.un (Un.laid k hp (I.hok.fresh hp)) (I.hok.laid k hp new)
/-- an object written -/
theorem Inv.write {x e : Addr} {o : HO} {t' : Nat} (I : Inv X pins σ H s) (mu : Mut (H x)) (he : e = x ∨ H e = some (.own x)) (k : ∀ b u, b ≠ e → s.heap.get? b = some u → h'.get? b = some u) (heo : ∃ u, h'.get? e = some u)
    (new : ObjOk X.prog X.w (upd H x o) h' x o) : Inv X pins σ (upd H x o) { s with heap := h', toks := t' } := I.un (Un.write mu he k heo) (I.hok.write mu he k heo new)
/-- forgetting slots, pins -/
theorem Inv.weak {σ' : List (Option V)} (I : Inv X pins σ H s) (hl : σ'.length = σ.length) (w : ∀ (i : Nat) v, σ'[i]? = some (some v) → σ[i]? = some (some v)) : Inv X pins σ' H s :=
  ⟨I.ok, I.os, I.bare, I.base, let ⟨m, hn, hl'⟩ := I.loc; ⟨m, hn, fun i x v e1 e2 e3 => hl' i x v e1 (w i v e2) e3⟩, I.cell, I.free, I.freeC, I.pin, I.hok, hl.trans I.len⟩
theorem Inv.pins_of {pins' : List (Addr × Obj)} (I : Inv X pins σ H s) (h : ∀ p ∈ pins', s.heap.get? p.1 = some p.2 ∧ H p.1 = none ∧ p.1 ≠ X.env.locals ∧ p.1 ∉ X.fs ∧ ∀ v, p.2.data ≠ .cell v) : Inv X pins' σ H s :=
  ⟨I.ok, I.os, I.bare, I.base, I.loc, I.cell, I.free, I.freeC, fun p hp => (List.mem_append.mp hp).elim (fun z => I.pin p (List.mem_append_left _ z)) (h p), I.hok, I.len⟩

theorem nodup_ix {N : List Str} (hN : N.Nodup) {i j : Nat} {x : Str} (a : N[i]? = some x) (b : N[j]? = some x) : i = j := by
  obtain ⟨h1, e1⟩ := List.getElem?_eq_some_iff.mp a
  obtain ⟨h2, e2⟩ := List.getElem?_eq_some_iff.mp b
  exact (List.getElem_inj hN).mp (e1.trans e2.symm)

/-- a name is stored; what changed -/
theorem store_ok2 {M : Model} {A : Around} {E : Value → Shared → Prop} {i : Nat} {x : Str} {v : V} {u : Value} {Q : Unit → Shared → Prop} (I : Inv X pins σ H s) (hN : X.N.Nodup) (hi : X.N[i]? = some x) (hx : Loc X.env.scope x) (r : RelV v u)
    (h : ∀ s', Inv X pins (σ.set i (some v)) H s' → (∃ a, Heap.SameBut a s.heap s'.heap ∧ (a = X.env.locals ∨ X.env.cells.lookup x = some a)) → Q () s') (hf : X.fn x = true ∨ X.env.scope.names.lookup x = some .local := by first | exact .inl rfl | exact .inr rfl | assumption) : wpAny M A (storeName X.env x u) Q E s := by
  obtain ⟨m, hn, hl⟩ := id I.loc
  have hcls : (X.env.scope.kind == .class || (X.env.scope.kind == .module && X.env.locals != X.env.globals)) = false := by rw [I.ok.kind]; rfl
  have hiσ : i < σ.length := by rw [I.len]; exact (List.getElem?_eq_some_iff.mp hi).1
  have cne := I.cne
  have tracked : ∀ {a : Addr} {h' : Heap}, (∃ o, s.heap.get? a = some o ∧ H a = none) → Heap.SameBut a s.heap h' → HOk X.prog X.w H h' := fun {a h'} ha hs b ob e => by
    obtain ⟨_, _, hfree⟩ := ha
    refine (I.hok b ob e).stay (fun c w' hc q => (hs.2 c ?_).trans q) (fun _ q => q) fun _ _ q => q
    rintro rfl
    rcases hc with rfl | hc
    · rw [hfree] at e; cases e
    · rw [hfree] at hc; cases hc
  rcases hx with hk | hk
  · refine wpAny_storeName_local hk hn (fun h' hn' hs => ?_) hcls
    obtain ⟨oL, _, _, hoL, _⟩ := id hn
    refine h _ ⟨I.ok, I.os, I.bare, ⟨fun b o e n hb hx => ?_, fun b o e n hb hx => ?_, I.base.free, fun b o e hx => ?_, I.base.tups, I.base.frzs, I.base.tbls⟩, ⟨_, hn', fun j y v' e1 e2 e3 => ?_⟩, fun y c e => ?_, I.free, I.freeC, fun p hp => ?_, tracked ⟨oL, hoL, I.free⟩ hs, by simpa using I.len⟩ ⟨_, hs, .inl rfl⟩
    · exact (hs.2 b (Nat.ne_of_lt (Nat.lt_of_lt_of_le (Heap.lt_size e) I.ok.above))).trans (I.base.keep b o e n hb hx)
    · obtain ⟨sl, e1⟩ := I.base.slot b o e n hb hx
      exact ⟨sl, (hs.2 b (Nat.ne_of_lt (Nat.lt_of_lt_of_le (Heap.lt_size e) I.ok.above))).trans e1⟩
    · obtain ⟨o', e1⟩ := I.base.there b o e hx
      exact ⟨o', (hs.2 b (Nat.ne_of_lt (Nat.lt_of_lt_of_le (Heap.lt_size e) I.ok.above))).trans e1⟩
    · by_cases hj : j = i
      · subst hj
        rw [hi] at e1; cases e1
        rw [List.getElem?_set_self hiσ] at e2
        cases e2
        exact ⟨u, r, .inl ⟨hk, by simp⟩⟩
      · rw [List.getElem?_set_ne (Ne.symm hj)] at e2
        obtain ⟨u', r', q⟩ := hl j y v' e1 e2 e3
        refine ⟨u', r', ?_⟩
        rcases q with ⟨k, e⟩ | ⟨k, c, e, z⟩
        · refine .inl ⟨k, ?_⟩
          have : y ≠ x := fun e => hj (nodup_ix hN e1 (e ▸ hi))
          simp [this, e]
        · exact .inr ⟨k, c, e, z.sameBut hs (cne y c e)⟩
    · obtain ⟨w', z⟩ := I.cell y c e
      exact ⟨w', z.sameBut hs (cne y c e)⟩
    · obtain ⟨e, n, ne, nf, d⟩ := I.pin p hp
      exact ⟨(hs.2 p.1 ne).trans e, n, ne, nf, d⟩
  · have hfn : X.fn x = true := by
      rcases hf with z | z
      · exact z
      · rw [z] at hk; cases hk
    obtain ⟨c, hc⟩ := I.ok.has x (.inl hk)
    obtain ⟨w', z⟩ := I.cell x c hc
    refine wpAny_storeName_cell I.ok.kind hk hc z (fun h' hc' hs => ?_)
    obtain ⟨oc, hoc, hocd⟩ := id z
    refine h { s with heap := h' } ⟨I.ok, I.os, I.bare, ⟨fun b o e n hb hx => ?_, fun b o e n hb hx => ?_, I.base.free, fun b o e hx => ?_, I.base.tups, I.base.frzs, I.base.tbls⟩, ⟨m, hn.sameBut hs (Ne.symm (cne x c hc)), fun j y v' e1 e2 e3 => ?_⟩, fun y c' e => ?_, I.free, I.freeC, fun p hp => ?_, tracked ⟨oc, hoc, I.freeC x c hc⟩ hs, by simpa using I.len⟩ ⟨c, hs, .inr hc⟩
    · exact (hs.2 b (Nat.ne_of_lt (Nat.lt_of_lt_of_le (Heap.lt_size e) (I.ok.cab x c hfn hc)))).trans (I.base.keep b o e n hb hx)
    · obtain ⟨sl, e1⟩ := I.base.slot b o e n hb hx
      exact ⟨sl, (hs.2 b (Nat.ne_of_lt (Nat.lt_of_lt_of_le (Heap.lt_size e) (I.ok.cab x c hfn hc)))).trans e1⟩
    · obtain ⟨o', e1⟩ := I.base.there b o e hx
      exact ⟨o', (hs.2 b (Nat.ne_of_lt (Nat.lt_of_lt_of_le (Heap.lt_size e) (I.ok.cab x c hfn hc)))).trans e1⟩
    · by_cases hj : j = i
      · subst hj
        rw [hi] at e1; cases e1
        rw [List.getElem?_set_self hiσ] at e2
        cases e2
        exact ⟨u, r, .inr ⟨.inl hk, c, hc, hc'⟩⟩
      · rw [List.getElem?_set_ne (Ne.symm hj)] at e2
        obtain ⟨u', r', q⟩ := hl j y v' e1 e2 e3
        refine ⟨u', r', ?_⟩
        rcases q with q | ⟨k, c', e, z'⟩
        · exact .inl q
        · refine .inr ⟨k, c', e, z'.sameBut hs ?_⟩
          rintro rfl
          exact hj (nodup_ix hN e1 (I.ok.inj _ _ _ e hc ▸ hi))
    · by_cases hcc : c' = c
      · subst hcc; exact ⟨_, hc'⟩
      · obtain ⟨w2, z2⟩ := I.cell y c' e
        exact ⟨w2, z2.sameBut hs hcc⟩
    · obtain ⟨e, n, ne, nf, d⟩ := I.pin p hp
      refine ⟨(hs.2 p.1 ?_).trans e, n, ne, nf, d⟩
      intro q
      rw [q, hoc] at e
      have q' : oc = p.2 := Option.some.inj e
      exact d w' (by rw [← q']; exact hocd)
theorem store_ok {M : Model} {A : Around} {E : Value → Shared → Prop} {i : Nat} {x : Str} {v : V} {u : Value} {Q : Unit → Shared → Prop} (I : Inv X pins σ H s) (hN : X.N.Nodup) (hi : X.N[i]? = some x) (hx : Loc X.env.scope x) (r : RelV v u)
    (h : ∀ s', Inv X pins (σ.set i (some v)) H s' → Q () s') (hf : X.fn x = true ∨ X.env.scope.names.lookup x = some .local := by first | exact .inl rfl | exact .inr rfl | assumption) : wpAny M A (storeName X.env x u) Q E s :=
  store_ok2 I hN hi hx r (fun s' I' _ => h s' I') hf
/-- behind a call or a block, the state as it is -/
theorem Inv.call' {s' : Shared} {ch : List Addr} (I : Inv X pins σ H s) (ho : s'.os = s.os) (u : Un (frs X.stack) ch H H' s.heap s'.heap) (hok : HOk X.prog X.w H' s'.heap) (hg : AllBare s'.gens)
    (hch : ∀ b ∈ ch, (b ∈ X.ex ∨ X.s₀.heap.objs.size ≤ b) ∧ b ≠ X.env.locals ∧ (∀ x c, X.env.cells.lookup x = some c → c ≠ b) ∧ ∀ p ∈ X.pn ++ pins, p.1 ≠ b) : Inv X pins σ H' s' := by
  obtain ⟨h', g', d', t', o'⟩ := s'
  have e : o' = s.os := ho
  subst e
  exact I.call (g' := g') (t' := t') (d' := d') u hok hg hch
end

/-! ### the judgements -/
/-- an exception: its class, its own dict's address (where it has one), the abstract heap behind it -/
abbrev XK := Value → Option Addr → Hp → Prop
abbrev St := List (Option V)
abbrev VK := V → Hp → Prop
/-- an expression's reading; a test's; an argument list's -/
abbrev TE := St → Hp → VK → Prop
abbrev TT := St → Hp → (Bool → Hp → Prop) → Prop
abbrev TA := St → Hp → (List V → Hp → Prop) → Prop
/-- what is wanted behind a statement -/
structure Ends where
  nx : St → Hp → Prop
  rt : VK
  bk : St → Hp → Prop := fun _ _ => False
  ct : St → Hp → Prop := fun _ _ => False
abbrev TS := Ends → St → Hp → Prop

def EP (X : Cx) (pins : List (Addr × Obj)) (σ : St) (Q : VK) (u : Value) (s' : Shared) : Prop := ∃ v H', Inv X pins σ H' s' ∧ RelV v u ∧ Q v H'
def TP (X : Cx) (pins : List (Addr × Obj)) (σ : St) (Q : Bool → Hp → Prop) (b : Bool) (s' : Shared) : Prop := ∃ H', Inv X pins σ H' s' ∧ Q b H'
def AP (X : Cx) (pins : List (Addr × Obj)) (σ : St) (Q : List V → Hp → Prop) (us : List Value) (s' : Shared) : Prop := ∃ vs H', Inv X pins σ H' s' ∧ Vals vs us ∧ Q vs H'
def SP (X : Cx) (pins : List (Addr × Obj)) (D : Ends) (f : Flow) (s' : Shared) : Prop :=
  match f with
  | .next => ∃ σ' H', Inv X pins σ' H' s' ∧ D.nx σ' H'
  | .brk => ∃ σ' H', Inv X pins σ' H' s' ∧ D.bk σ' H'
  | .cont => ∃ σ' H', Inv X pins σ' H' s' ∧ D.ct σ' H'
  | .ret u => ∃ v σ' H', Inv X pins σ' H' s' ∧ RelV v u ∧ D.rt v H'

def PE (X : Cx) (e : Expr) (t : TE) : Prop :=
  ∀ (pins : List (Addr × Obj)) (s : Shared) (σ : St) (H : Hp) (Q : VK), Inv X pins σ H s → t σ H Q → wpAny (model X.prog X.w) X.A (eval e X.env) (EP X pins σ Q) X.xe s
def PT (X : Cx) (e : Expr) (t : TT) : Prop :=
  ∀ (pins : List (Addr × Obj)) (s : Shared) (σ : St) (H : Hp) (Q : Bool → Hp → Prop), Inv X pins σ H s → t σ H Q → wpAny (model X.prog X.w) X.A (isTrue e X.env (eval e X.env)) (TP X pins σ Q) X.xe s
/-- a test whatever its 'whole' is (and, or) -/
def PW (X : Cx) (e : Expr) (t : TT) : Prop :=
  ∀ (whole : Sem Value) (pins : List (Addr × Obj)) (s : Shared) (σ : St) (H : Hp) (Q : Bool → Hp → Prop), Inv X pins σ H s → t σ H Q → wpAny (model X.prog X.w) X.A (isTrue e X.env whole) (TP X pins σ Q) X.xe s
theorem PW.pt {X : Cx} {e : Expr} {t : TT} (h : PW X e t) : PT X e t := h _
/-- an argument list (no star), from the left -/
def PA (X : Cx) (es : List Expr) (t : TA) : Prop :=
  ∀ (pos : Pos) (pins : List (Addr × Obj)) (s : Shared) (σ : St) (H : Hp) (Q : List V → Hp → Prop), Inv X pins σ H s → t σ H Q → wpAny (model X.prog X.w) X.A (spliced (backTo pos (starEach es X.env))) (AP X pins σ Q) X.xe s
def PS (X : Cx) (st : Stmt) (t : TS) : Prop :=
  ∀ (pins : List (Addr × Obj)) (s : Shared) (σ : St) (H : Hp) (D : Ends), Inv X pins σ H s → t D σ H → wpAny (model X.prog X.w) X.A (exec st X.env) (SP X pins D) X.xe s
def PSs (X : Cx) (st : List Stmt) (t : TS) : Prop :=
  ∀ (pins : List (Addr × Obj)) (s : Shared) (σ : St) (H : Hp) (D : Ends), Inv X pins σ H s → t D σ H → wpAny (model X.prog X.w) X.A (execs st X.env) (SP X pins D) X.xe s
/-- weaken the end -/
theorem thn {α : Type} {t : Sem α} {Q Q' : α → Shared → Prop} {M : Model} {A : Around} {E : Value → Shared → Prop} {s : Shared} (h : wpAny M A t Q E s) (hQ : ∀ a s, Q a s → Q' a s) : wpAny M A t Q' E s := wpAny_mono h hQ fun _ _ x => x
end L2

namespace L2
open PySem PySem.Spec PyProof.Rows
section
variable {X : Cx}

/-- two expressions in a row -/
theorem bin {a b : Expr} {ta tb : TE} (ha : PE X a ta) (hb : PE X b tb) {pins : List (Addr × Obj)} {s : Shared} {σ : St} {H : Hp} {R : V → V → Hp → Prop} (I : Inv X pins σ H s) (h : ta σ H fun x H1 => tb σ H1 fun y H2 => R x y H2)
    {α : Type} {Q : α → Shared → Prop} {f : Value → Value → Sem α}
    (hf : ∀ v u s2 x y H2, Inv X pins σ H2 s2 → RelV x v → RelV y u → R x y H2 → wpAny (model X.prog X.w) X.A (f v u) Q X.xe s2) :
    wpAny (model X.prog X.w) X.A (eval a X.env) (fun v s₁ => wpAny (model X.prog X.w) X.A (eval b X.env) (fun u s₂ => wpAny (model X.prog X.w) X.A (f v u) Q X.xe s₂) X.xe s₁) X.xe s := by
  refine thn (ha pins s σ H _ I h) fun v s1 ⟨x, H1, I1, r1, q1⟩ => ?_
  refine thn (hb pins s1 σ H1 _ I1 q1) fun u s2 ⟨y, H2, I2, r2, q2⟩ => ?_
  exact hf v u s2 x y H2 I2 r1 r2 q2

/-! ### names and constants -/
def tVar (i : Nat) : TE := fun σ H Q => ∃ v, σ[i]? = some (some v) ∧ Q v H
def tC (v : V) : TE := fun _ H Q => Q v H
theorem pe_var {i : Nat} {x : Str} {pos : Pos} (hN : X.N[i]? = some x) (hv : Vis X.env.scope x) (hd : (x == ("__debug__" : Str)) = false := by decide) (hcd : (x == ("__classdict__" : Str)) = false := by decide) : PE X (.Name x pos) (tVar i) := by
  intro pins s σ H Q I h
  obtain ⟨v, e, h⟩ := h
  obtain ⟨m, hn, hl⟩ := I.loc
  obtain ⟨u, r, l⟩ := hl i x v hN e hv
  have fin : EP X pins σ Q u s := ⟨v, H, I, r, h⟩
  rcases l with ⟨hk, hm⟩ | ⟨hk, c, hc, hcell⟩
  · exact wpAny_Name (wpAny_loadName_local I.ok.kind hk hn hm fin) hd
  · rcases hk with hk | hk
    · exact wpAny_Name (wpAny_loadName_cell I.ok.kind hk hc hcell fin) hd
    · exact wpAny_Name (wpAny_loadName_free I.ok.kind hk hc hcell fin hcd) hd
theorem pe_int {i j pos} : PE X (.Constant (.int i) j pos) (tC (.int i)) := fun _ _ _ H _ I h => wpAny_Constant_int ⟨.int i, H, I.tok _, ⟨_, rfl⟩, h⟩
theorem pe_bl {b j pos} : PE X (.Constant (.bool b) j pos) (tC (.bl b)) := fun _ _ _ H _ I h => Constant_bool ⟨.bl b, H, I, rfl, h⟩
theorem pe_non {j pos} : PE X (.Constant .none j pos) (tC .non) := fun _ _ _ H _ I h => Constant_none ⟨.non, H, I, rfl, h⟩
theorem pe_str {x j pos} : PE X (.Constant (.str x) j pos) (tC (.str x)) := fun _ _ _ H _ I h => Calls.Constant_str ⟨.str x, H, I.tok _, ⟨_, rfl⟩, h⟩

/-- a global name of the def -/
def Gl (X : Cx) (x : Str) : Prop := X.env.kindOf x = some .globalImplicit
theorem ld_glob {E : Value → Shared → Prop} {pins : List (Addr × Obj)} {s : Shared} {σ : St} {H : Hp} {x : Str} {u : Value} {pos : Pos} {Q : Value → Shared → Prop} (I : Inv X pins σ H s) (hg : Gl X x) (hm : X.mg x = some u) (h : Q u s)
    (hd : (x == ("__debug__" : Str)) = false := by decide) : wpAny (model X.prog X.w) X.A (eval (.Name x pos) X.env) Q E s :=
  Calls.Name_function_global I.ok.kind hg (Calls.loadGlobal_global (by rw [I.ok.glob]; exact I.mod.glob.keeps I.bk) hm h) hd
theorem ld_blt {E : Value → Shared → Prop} {pins : List (Addr × Obj)} {s : Shared} {σ : St} {H : Hp} {x : Str} {u : Value} {pos : Pos} {Q : Value → Shared → Prop} (I : Inv X pins σ H s) (hg : Gl X x) (hm : X.mg x = none) (hv : bootBuiltins x = some u) (h : Q u s)
    (hn : x ≠ "__name__" := by decide) (hd : (x == ("__debug__" : Str)) = false := by decide) : wpAny (model X.prog X.w) X.A (eval (.Name x pos) X.env) Q E s := by
  obtain ⟨mb, h1, h2⟩ := I.mod.blt
  exact Calls.Name_function_global I.ok.kind hg (Calls.loadGlobal_builtin (by rw [I.ok.glob]; exact I.mod.glob.keeps I.bk) hm (by rw [I.ok.blt]; exact h1.keeps I.bk) ((h2 x hn).trans hv) h) hd
/-- a module's constant, a class, a function, as a value -/
theorem pe_glob {x : Str} {v : V} {u : Value} {pos : Pos} (hg : Gl X x) (hm : X.mg x = some u) (r : RelV v u) (hd : (x == ("__debug__" : Str)) = false := by decide) : PE X (.Name x pos) (tC v) :=
  fun _ _ _ H _ I h => ld_glob I hg hm ⟨v, H, I, r, h⟩ hd
theorem pe_bltn {x : Str} {v : V} {u : Value} {pos : Pos} (hg : Gl X x) (hm : X.mg x = none) (hv : bootBuiltins x = some u) (r : RelV v u) (hn : x ≠ "__name__" := by decide) (hd : (x == ("__debug__" : Str)) = false := by decide) : PE X (.Name x pos) (tC v) :=
  fun _ _ _ H _ I h => ld_blt I hg hm hv ⟨v, H, I, r, h⟩ hn hd

/-! ### arithmetic -/
/-- two ints -/
def t2I (ta tb : TE) (k : Int → Int → Hp → Prop) : St → Hp → Prop := fun σ H => ta σ H fun x H1 => tb σ H1 fun y H2 => ∃ i j, x = .int i ∧ y = .int j ∧ k i j H2
def tAdd (ta tb : TE) : TE := fun σ H Q => t2I ta tb (fun i j H2 => Q (.int (i + j)) H2) σ H
def tSub (ta tb : TE) : TE := fun σ H Q => t2I ta tb (fun i j H2 => Q (.int (i - j)) H2) σ H
/-- the left factor below 2^64 -/
def tMul (ta tb : TE) : TE := fun σ H Q => t2I ta tb (fun i j H2 => (-(2 ^ 64) < i ∧ i < 2 ^ 64) ∧ Q (.int (i * j)) H2) σ H
variable {a b : Expr} {ta tb : TE} {pos : Pos}
/-! ### comparisons -/
def PC (X : Cx) (op : CmpOp) (a b : Expr) (t : TE) : Prop :=
  ∀ (pins : List (Addr × Obj)) (s : Shared) (σ : St) (H : Hp) (Q : VK), Inv X pins σ H s → t σ H Q →
    wpAny (model X.prog X.w) X.A (eval a X.env) (fun v s₁ => wpAny (model X.prog X.w) X.A (eval b X.env) (fun u s₂ => wpAny (model X.prog X.w) X.A (compareOp op v u) (EP X pins σ Q) X.xe s₂) X.xe s₁) X.xe s
def tCmp (p : Int → Int → Bool) (ta tb : TE) : TE := fun σ H Q => t2I ta tb (fun i j H2 => Q (.bl (p i j)) H2) σ H
abbrev tLt : TE → TE → TE := tCmp fun i j => decide (i < j)
abbrev tLe : TE → TE → TE := tCmp fun i j => decide (i ≤ j)
abbrev tGt : TE → TE → TE := tCmp fun i j => decide (j < i)
abbrev tGe : TE → TE → TE := tCmp fun i j => decide (j ≤ i)
abbrev tEqI : TE → TE → TE := tCmp fun i j => decide (i = j)
abbrev tNeI : TE → TE → TE := tCmp fun i j => !decide (i = j)
/-- is None -/
def tIsN (ta : TE) : TE := fun σ H Q => ta σ H fun x H1 => Q (.bl (decide (x = .non))) H1
def tNotN (ta : TE) : TE := fun σ H Q => ta σ H fun x H1 => Q (.bl (!decide (x = .non))) H1
/-- a comparison as a value, as a test -/
def tB (t : TE) : TT := fun σ H Q => t σ H fun x H1 => ∃ c, x = .bl c ∧ Q c H1
theorem pt_cmp {op : CmpOp} {t : TE} (h : PC X op a b t) (h1 : behindInMarks op b = false := by first | exact nobehind _ (by decide) (by decide) | rfl) : PT X (.Compare a [op] [b] pos) (tB t) := by
  intro pins s σ H Q I hw
  refine wpAny_isTrue_Compare1 (thn (h pins s σ H _ I hw) fun v s1 h1 => thn h1 fun u s2 h2 => thn h2 fun c s3 ⟨x, H1, I1, r1, q1⟩ => ?_) h1
  obtain ⟨d, rfl, q⟩ := q1
  cases r1
  exact wpAny_truthy_bool ⟨H1, I1, q⟩
/-- an expression whose value is a bool, as a test -/
theorem pt_val {e : Expr} {t : TE} (h : PE X e t) (he : ∀ whole, isTrue e X.env whole = (do let v ← whole; standAt e.pos; holding [v] (truthy v)) := by intro _; rfl) : PT X e (tB t) := by
  intro pins s σ H Q I hw
  refine isTrue_plain (thn (h pins s σ H _ I hw) fun v s1 ⟨x, H1, I1, r1, q1⟩ => ?_) (he _)
  obtain ⟨d, rfl, q⟩ := q1
  cases r1
  exact wpAny_truthy_bool ⟨H1, I1, q⟩

/-! ### and, or, not -/
variable {tA tB' : TT} {rest : List Expr}
def tAnd (t u : TT) : TT := fun σ H Q => t σ H fun c H1 => if c = true then u σ H1 Q else Q false H1
def tOr (t u : TT) : TT := fun σ H Q => t σ H fun c H1 => if c = true then Q true H1 else u σ H1 Q
def tNot (t : TT) : TT := fun σ H Q => t σ H fun c H1 => Q (!c) H1
theorem pw_and1 (ha : PT X a tA) : PW X (.BoolOp .And [a] pos) tA := by
  intro wh pins s σ H Q I h
  refine isTrue_and (thn (ha pins s σ H Q I h) fun c s1 e => ?_)
  cases c with
  | true => exact isTrue_and_nil e
  | false => exact e
theorem pw_or1 (ha : PT X a tA) : PW X (.BoolOp .Or [a] pos) tA := by
  intro wh pins s σ H Q I h
  refine isTrue_or (thn (ha pins s σ H Q I h) fun c s1 e => ?_)
  cases c with
  | false => exact isTrue_or_nil e
  | true => exact e
theorem pw_and (ha : PT X a tA) (hb : PW X (.BoolOp .And (b :: rest) pos) tB') : PW X (.BoolOp .And (a :: b :: rest) pos) (tAnd tA tB') := by
  intro wh pins s σ H Q I h
  refine isTrue_and (thn (ha pins s σ H _ I h) fun c s1 ⟨H1, I1, q1⟩ => ?_)
  cases c with
  | true => exact hb wh pins s1 σ H1 Q I1 q1
  | false => exact ⟨H1, I1, q1⟩
theorem pw_or (ha : PT X a tA) (hb : PW X (.BoolOp .Or (b :: rest) pos) tB') : PW X (.BoolOp .Or (a :: b :: rest) pos) (tOr tA tB') := by
  intro wh pins s σ H Q I h
  refine isTrue_or (thn (ha pins s σ H _ I h) fun c s1 ⟨H1, I1, q1⟩ => ?_)
  cases c with
  | true => exact ⟨H1, I1, q1⟩
  | false => exact hb wh pins s1 σ H1 Q I1 q1
theorem pt_not (ha : PT X a tA) : PT X (.UnaryOp .Not a pos) (tNot tA) := by
  intro pins s σ H Q I h
  exact isTrue_not (ha pins s σ H (fun c H1 => Q (!c) H1) I h)
/-- .. as values (bools) -/
def tAndV (ta tb : TE) : TE := fun σ H Q => ta σ H fun x H1 => ∃ c, x = .bl c ∧ if c = true then tb σ H1 Q else Q (.bl false) H1
def tOrV (ta tb : TE) : TE := fun σ H Q => ta σ H fun x H1 => ∃ c, x = .bl c ∧ if c = true then Q (.bl true) H1 else tb σ H1 Q
def tNotV (ta : TE) : TE := fun σ H Q => ta σ H fun x H1 => ∃ c, x = .bl c ∧ Q (.bl (!c)) H1
theorem pe_one {op} {t : TE} (h : PE X a t) : PE X (.BoolOp op [a] pos) t := fun pins s σ H Q I hw => BoolOp_one (h pins s σ H Q I hw)
theorem pe_and (ha : PE X a ta) (hb : PE X (.BoolOp .And (b :: rest) pos) tb) : PE X (.BoolOp .And (a :: b :: rest) pos) (tAndV ta tb) := by
  intro pins s σ H Q I h
  refine BoolOp_and (thn (ha pins s σ H _ I h) fun v s1 ⟨x, H1, I1, r1, q1⟩ => ?_)
  obtain ⟨c, rfl, q1⟩ := q1
  cases r1
  refine wpAny_truthy_bool ?_
  cases c with
  | true => exact hb pins s1 σ H1 Q I1 q1
  | false => exact ⟨.bl false, H1, I1, rfl, q1⟩
theorem pe_or (ha : PE X a ta) (hb : PE X (.BoolOp .Or (b :: rest) pos) tb) : PE X (.BoolOp .Or (a :: b :: rest) pos) (tOrV ta tb) := by
  intro pins s σ H Q I h
  refine BoolOp_or (thn (ha pins s σ H _ I h) fun v s1 ⟨x, H1, I1, r1, q1⟩ => ?_)
  obtain ⟨c, rfl, q1⟩ := q1
  cases r1
  refine wpAny_truthy_bool ?_
  cases c with
  | false => exact hb pins s1 σ H1 Q I1 q1
  | true => exact ⟨.bl true, H1, I1, rfl, q1⟩
theorem pe_not (ha : PE X a ta) : PE X (.UnaryOp .Not a pos) (tNotV ta) := by
  intro pins s σ H Q I h
  refine UnaryOp_ (thn (ha pins s σ H _ I h) fun v s1 ⟨x, H1, I1, r1, q1⟩ => ?_)
  obtain ⟨c, rfl, q1⟩ := q1
  cases r1
  exact not_of (wpAny_truthy_bool ⟨.bl (!c), H1, I1, rfl, q1⟩)
/-- a if t else b -/
def tIf (t : TT) (ta tb : TE) : TE := fun σ H Q => t σ H fun c H1 => if c = true then ta σ H1 Q else tb σ H1 Q
end
end L2

namespace L2
open PySem PySem.Spec PyProof.Rows

/-! ### a list, a tuple that is read: tracked, frozen, or an object of the module -/
def SqL (K : PySem.W.Frag) (H : Hp) (a : Addr) (xs : List V) : Prop :=
  Rd H a (.lst xs) ∨
    ∃ (o : Obj) (its : Array Value) (n : Nat), K.lookup a = some o ∧ o.cls = .type "list" ∧ o.dict = none ∧ o.data = .seq its n ∧ its.size ≤ sizeLine ∧ Vals xs its.toList
def SqT (K : PySem.W.Frag) (H : Hp) (a : Addr) (xs : List V) : Prop :=
  Rd H a (.tup xs) ∨
    ∃ (o : Obj) (its : Array Value) (n : Nat), K.lookup a = some o ∧ o.cls = .type "tuple" ∧ o.data = .seq its n ∧ its.size ≤ sizeLine ∧ Vals xs its.toList
def absV : Value → Option V
  | .none => some .non
  | .bool b => some (.bl b)
  | .int i _ => some (.int i)
  | .str x _ => some (.str x)
  | .bytes b _ => some (.byt b)
  | .float b _ => some (.flt b)
  | .ref a => some (.ref a)
  | .type n => some (.ty n)
  | _ => none
theorem RelV.abs {x : V} {u : Value} (r : RelV x u) : absV u = some x := by
  cases x with
  | non => cases r; rfl
  | bl _ => cases r; rfl
  | int _ => obtain ⟨t, rfl⟩ := r; rfl
  | str _ => obtain ⟨t, rfl⟩ := r; rfl
  | byt _ => obtain ⟨t, rfl⟩ := r; rfl
  | flt _ => obtain ⟨t, rfl⟩ := r; rfl
  | ref _ => cases r; rfl
  | ty _ => cases r; rfl
theorem RelV.inj {x y : V} {u : Value} (r : RelV x u) (q : RelV y u) : x = y := Option.some.inj (r.abs.symm.trans q.abs)
theorem Vals.inj : ∀ {xs ys : List V} {us : List Value}, Vals xs us → Vals ys us → xs = ys
  | _, _, _, .nil, .nil => rfl
  | _, _, _, .cons r t, .cons r' t' => by rw [r.inj r', Vals.inj t t']
section
variable {X : Cx} {pins : List (Addr × Obj)} {σ : St} {H : Hp} {s : Shared} {a : Addr} {xs ys : List V}
theorem SqL.of {K : PySem.W.Frag} (h : H a = some (.lst xs)) : SqL K H a xs := .inl (.inl h)
theorem SqT.of {K : PySem.W.Frag} (h : H a = some (.tup xs)) : SqT K H a xs := .inl (.inl h)
theorem Inv.list (I : Inv X pins σ H s) (h : SqL X.K H a xs) : ∃ its : List Value, Vals xs its ∧ PlainL s.heap a its.toArray ∧ xs.length ≤ sizeLine := by
  rcases h with h | ⟨o, its, n, hk, hc, hd, hs, hz, r⟩
  · obtain ⟨z, its, n, r, e⟩ := h.ok I.hok
    exact ⟨its, r, ⟨_, n, e, rfl, rfl, rfl⟩, z⟩
  · refine ⟨its.toList, r, ⟨o, n, I.kIn a o hk, hc, hd, by simpa using hs⟩, ?_⟩
    have e := r.length
    simp only [Array.length_toList] at e
    omega
theorem Inv.tuple (I : Inv X pins σ H s) (h : SqT X.K H a xs) : ∃ its : List Value, Vals xs its ∧ IsTup s.heap a its.toArray ∧ xs.length ≤ sizeLine := by
  rcases h with h | ⟨o, its, n, hk, hc, hs, hz, r⟩
  · obtain ⟨z, its, r, p⟩ := h.ok I.hok
    exact ⟨its, r, p, z⟩
  · refine ⟨its.toList, r, ⟨o, I.kIn a o hk, hc, n, by simpa using hs⟩, ?_⟩
    have e := r.length
    simp only [Array.length_toList] at e
    omega
theorem Inv.list_inj (I : Inv X pins σ H s) (h : SqL X.K H a xs) (h' : SqL X.K H a ys) : xs = ys := by
  obtain ⟨its, r, ⟨o, n, e, _, _, d⟩, _⟩ := I.list h
  obtain ⟨its', r', ⟨o', n', e', _, _, d'⟩, _⟩ := I.list h'
  rw [e] at e'; cases e'
  rw [d] at d'
  injection d' with d1 _
  have : its = its' := by simpa using congrArg Array.toList d1
  subst this
  exact r.inj r'
theorem Inv.tuple_inj (I : Inv X pins σ H s) (h : SqT X.K H a xs) (h' : SqT X.K H a ys) : xs = ys := by
  obtain ⟨its, r, ⟨o, e, _, n, d⟩, _⟩ := I.tuple h
  obtain ⟨its', r', ⟨o', e', _, n', d'⟩, _⟩ := I.tuple h'
  rw [e] at e'; cases e'
  rw [d] at d'
  injection d' with d1 _
  have : its = its' := by simpa using congrArg Array.toList d1
  subst this
  exact r.inj r'
end

/-! ### another wish about exceptions -/
abbrev Cx.wish (X : Cx) (E : Value → Shared → Prop) : Cx := { X with xe := E }
/-- no exception leaves -/
abbrev Cx.nox (X : Cx) : Cx := X.wish fun _ _ => False
theorem Cx.Ok.wish {X : Cx} (ok : X.Ok) (E : Value → Shared → Prop) : (X.wish E).Ok :=
  ⟨ok.mod, ok.kind, ok.glob, ok.blt, ok.above, ok.inj, ok.has, ok.cab, ok.hd, ok.frames, ok.stk, ok.exf, ok.bs, ok.bsz, ok.noex, ok.exfs, ok.funs, ok.frf⟩
theorem Cx.Ok.unwish {X : Cx} {E : Value → Shared → Prop} (ok : (X.wish E).Ok) : X.Ok :=
  ⟨ok.mod, ok.kind, ok.glob, ok.blt, ok.above, ok.inj, ok.has, ok.cab, ok.hd, ok.frames, ok.stk, ok.exf, ok.bs, ok.bsz, ok.noex, ok.exfs, ok.funs, ok.frf⟩
section
variable {X : Cx} {pins : List (Addr × Obj)} {σ : St} {H : Hp} {s : Shared} {E : Value → Shared → Prop}
theorem Inv.wish (I : Inv X pins σ H s) (E : Value → Shared → Prop) : Inv (X.wish E) pins σ H s := ⟨I.ok.wish E, I.os, I.bare, I.base, I.loc, I.cell, I.free, I.freeC, I.pin, I.hok, I.len⟩
theorem Inv.unwish (I : Inv (X.wish E) pins σ H s) : Inv X pins σ H s := ⟨I.ok.unwish, I.os, I.bare, I.base, I.loc, I.cell, I.free, I.freeC, I.pin, I.hok, I.len⟩
theorem SP.unwish {D : Ends} {f : Flow} {s' : Shared} (h : SP (X.wish E) pins D f s') : SP X pins D f s' := by
  cases f with
  | next => obtain ⟨σ', H', I, q⟩ := h; exact ⟨σ', H', I.unwish, q⟩
  | brk => obtain ⟨σ', H', I, q⟩ := h; exact ⟨σ', H', I.unwish, q⟩
  | cont => obtain ⟨σ', H', I, q⟩ := h; exact ⟨σ', H', I.unwish, q⟩
  | ret u => obtain ⟨v, σ', H', I, r, q⟩ := h; exact ⟨v, σ', H', I.unwish, r, q⟩
theorem PSs.nox {st : List Stmt} {t : TS} (h : PSs X.nox st t) : PSs X st t := fun pins s σ H D I hw =>
  wpAny_mono (h pins s σ H D (I.wish _) hw) (fun _ _ q => q.unwish) fun _ _ z => False.elim z
end

/-! ### blocks and small statements -/
section
variable {X : Cx} {st : Stmt} {rest : List Stmt} {t u : TS} {e : Expr} {te : TE} {pos : Pos}
def tNext : TS := fun D σ H => D.nx σ H
def tSeq (t u : TS) : TS := fun D σ H => t { D with nx := u D } σ H
theorem pss_nil : PSs X [] tNext := fun _ _ σ H _ I h => wpAny_execs_nil ⟨σ, H, I, h⟩
theorem pss_cons (h1 : PS X st t) (h2 : PSs X rest u) : PSs X (st :: rest) (tSeq t u) := by
  intro pins s σ H D I h
  refine wpAny_execs_cons (thn (h1 pins s σ H { D with nx := u D } I h) fun f s1 q => ?_)
  cases f with
  | next =>
    obtain ⟨σ', H', I', q⟩ := q
    exact h2 pins s1 σ' H' D I' q
  | ret v => exact q
  | brk => exact q
  | cont => exact q
theorem pss_one (h1 : PS X st t) : PSs X [st] t := by
  intro pins s σ H D I h
  refine wpAny_execs_cons (thn (h1 pins s σ H D I h) fun f s1 q => ?_)
  cases f with
  | next => exact wpAny_execs_nil q
  | ret v => exact q
  | brk => exact q
  | cont => exact q
def tBreak : TS := fun D σ H => D.bk σ H
def tCont : TS := fun D σ H => D.ct σ H
/-- in a def's body nothing is shown -/
theorem Inv.quiet {pins : List (Addr × Obj)} {σ : St} {H : Hp} {s : Shared} (I : Inv X pins σ H s) : interactive X.env = false := by simp [interactive, I.ok.kind]
/-- an expression whose value is dropped -/
def tDrop (te : TE) : TS := fun D σ H => te σ H fun _ H1 => D.nx σ H1
theorem ps_expr (he : PE X e te) (hs : swapsWith e none pos.line X.env = pure false := by rfl) : PS X (.Expr e pos) (tDrop te) := by
  intro pins s σ H D I h
  exact wpAny_Expr_any (thn (he pins s σ H _ I h) fun v s1 ⟨x, H1, I1, r1, q1⟩ => ⟨σ, H1, I1, q1⟩) I.quiet hs
def tRet (te : TE) : TS := fun D σ H => te σ H D.rt
theorem ps_ret (he : PE X e te) : PS X (.Return (some e) pos) (tRet te) := by
  intro pins s σ H D I h
  exact wpAny_Return_some (thn (he pins s σ H _ I h) fun v s1 ⟨x, H1, I1, r1, q1⟩ => ⟨x, σ, H1, I1, r1, q1⟩)
def tRetN : TS := fun D _ H => D.rt .non H
def tIfS (c : TT) (t u : TS) : TS := fun D σ H => c σ H fun b H1 => if b = true then t D σ H1 else u D σ H1
theorem ps_if {c : Expr} {a b : List Stmt} {tc : TT} (hc : PT X c tc) (ha : PSs X a t) (hb : PSs X b u) : PS X (.If c a b pos) (tIfS tc t u) := by
  intro pins s σ H D I h
  refine wpAny_If (thn (hc pins s σ H _ I h) fun d s1 ⟨H1, I1, q1⟩ => ?_)
  cases d with
  | true => exact ha pins s1 σ H1 D I1 q1
  | false => exact hb pins s1 σ H1 D I1 q1
/-- code that the proof never comes to -/
def tNever : TS := fun _ _ _ => False
theorem pss_never {sts : List Stmt} : PSs X sts tNever := fun _ _ _ _ _ _ h => h.elim
end

/-! ### targets -/
abbrev TG := V → St → Hp → (St → Hp → Prop) → Prop
abbrev TGs := List V → St → Hp → (St → Hp → Prop) → Prop
def PG (X : Cx) (target : Expr) (t : TG) : Prop :=
  ∀ (pins : List (Addr × Obj)) (s : Shared) (σ : St) (H : Hp) (v : V) (u : Value) (Q : St → Hp → Prop), Inv X pins σ H s → RelV v u → t v σ H Q →
    wpAny (model X.prog X.w) X.A (assign target X.env u) (fun _ s' => ∃ σ' H', Inv X pins σ' H' s' ∧ Q σ' H') X.xe s
/-- several targets, one after another -/
def PGs (X : Cx) (ts : List Expr) (t : TGs) : Prop :=
  ∀ (pins : List (Addr × Obj)) (s : Shared) (σ : St) (H : Hp) (vs : List V) (us : List Value) (Q : St → Hp → Prop), Inv X pins σ H s → Vals vs us → t vs σ H Q →
    wpAny (model X.prog X.w) X.A (assignInOrder ((assignEach ts X.env).map (·.2)) us) (fun _ s' => ∃ σ' H', Inv X pins σ' H' s' ∧ Q σ' H') X.xe s
/-- o[i] = v, by values -/
abbrev TSet := V → V → V → Hp → (Hp → Prop) → Prop
def PSet (X : Cx) (t : TSet) : Prop :=
  ∀ (pins : List (Addr × Obj)) (s : Shared) (σ : St) (H : Hp) (o i v : V) (ov iv u : Value) (Q : Hp → Prop), Inv X pins σ H s → RelV o ov → RelV i iv → RelV v u → t o i v H Q →
    wpAny (model X.prog X.w) X.A (setItem ov iv u) (fun _ s' => ∃ H', Inv X pins σ H' s' ∧ Q H') X.xe s
/-- a op= b, by values -/
abbrev TIp := V → V → Hp → VK → Prop
def PIp (X : Cx) (op : Operator) (t : TIp) : Prop :=
  ∀ (pins : List (Addr × Obj)) (s : Shared) (σ : St) (H : Hp) (x y : V) (v u : Value) (Q : VK), Inv X pins σ H s → RelV x v → RelV y u → t x y H Q →
    wpAny (model X.prog X.w) X.A (inplaceOp op v u) (EP X pins σ Q) X.xe s
section
variable {X : Cx} {pos : Pos}
def gName (i : Nat) : TG := fun v σ H Q => Q (σ.set i (some v)) H
theorem pg_name {i : Nat} {x : Str} (hN : X.N.Nodup) (hi : X.N[i]? = some x) (hx : Loc X.env.scope x) (hf : X.fn x = true ∨ X.env.scope.names.lookup x = some .local := by first | exact .inl rfl | exact .inr rfl | assumption) : PG X (.Name x pos) (gName i) := by
  intro pins s σ H v u Q I r h
  exact wpAny_assign_Name (store_ok I hN hi hx r (fun s' I' => ⟨_, H, I', h⟩) hf)
def gNil : TGs := fun vs σ H Q => vs = [] ∧ Q σ H
def gCons (t : TG) (u : TGs) : TGs := fun vs σ H Q => ∃ v r, vs = v :: r ∧ t v σ H fun σ' H' => u r σ' H' Q
theorem pgs_nil : PGs X [] gNil := by
  intro pins s σ H vs us Q I r h
  obtain ⟨e, h⟩ := h
  subst e
  cases r
  exact assignInOrder_nil ⟨σ, H, I, h⟩
theorem pgs_cons {e : Expr} {es : List Expr} {t : TG} {u : TGs} (h1 : PG X e t) (h2 : PGs X es u)
    (hs : (assignEach (e :: es) X.env).map (·.2) = assign e X.env :: (assignEach es X.env).map (·.2) := by rfl) : PGs X (e :: es) (gCons t u) := by
  intro pins s σ H vs us Q I r h
  obtain ⟨v, vr, e1, h⟩ := h
  subst e1
  cases r with
  | cons r rr =>
    rw [hs]
    refine assignInOrder_cons (thn (h1 pins s σ H _ _ _ I r h) fun _ s1 ⟨σ1, H1, I1, q1⟩ => ?_)
    exact h2 pins s1 σ1 H1 _ _ Q I1 rr q1
/-- (a, b, ..) = a tuple of that length -/
def gTup (K : PySem.W.Frag) (n : Nat) (t : TGs) : TG := fun v σ H Q => ∃ a xs, v = .ref a ∧ SqT K H a xs ∧ xs.length = n ∧ t xs σ H Q
theorem pg_tup {es : List Expr} {k : Nat} {t : TGs} {n : Nat} (hc : X.calm = true) (h : PGs X es t)
    (hn : (assignEach es X.env).length = n := by rfl) (hst : (assignEach es X.env).findIdx? (·.1) = none := by rfl) : PG X (.Tuple es k pos) (gTup X.K n t) := by
  intro pins s σ H v u Q I r hw
  obtain ⟨a, xs, e1, hq, hl, hw⟩ := hw
  subst e1
  cases r
  obtain ⟨its, rv, ht, hz⟩ := I.tuple hq
  refine assign_Tuple_tuple (I.ok.hd hc) ht (by simp [hn, ← hl, rv.length]) hst fun h' hx => ?_
  have I1 : Inv X pins σ H { s with heap := h' } := I.kept (t' := s.toks) fun b o e => hx b o (Nat.ne_of_lt (Heap.lt_size e)) e
  exact h pins _ σ H xs _ Q I1 (by simpa using rv) hw
/-- o[i] = .. -/
def gSub (to ti : TE) (t : TSet) : TG := fun v σ H Q => to σ H fun o H1 => ti σ H1 fun i H2 => t o i v H2 fun H3 => Q σ H3
/-- target = value -/
def tAsg (te : TE) (g : TG) : TS := fun D σ H => te σ H fun x H1 => g x σ H1 D.nx
theorem ps_asg {tg e : Expr} {te : TE} {g : TG} (he : PE X e te) (hg : PG X tg g) (hs : swapsWithSole [tg] e pos.line X.env = pure false := by rfl) (hw : swappedStores [tg] e X.env = pure none := by rfl)
    (h1 : (assignEach [tg] X.env).map (·.2) = [assign tg X.env] := by rfl) : PS X (.Assign [tg] e pos) (tAsg te g) := by
  intro pins s σ H D I h
  refine wpAny_Assign_stores (thn (he pins s σ H _ I h) fun v s1 ⟨x, H1, I1, r1, q1⟩ => ?_) hs hw
  rw [h1]
  exact thn (hg pins s1 σ H1 x v _ I1 r1 q1) fun _ s2 q => q
/-- name = value -/
theorem ps_set {i : Nat} {x : Str} {e : Expr} {te : TE} {pos' : Pos} (hN : X.N.Nodup) (hi : X.N[i]? = some x) (hx : Loc X.env.scope x) (he : PE X e te) (hs : swapsWith e (some (.Name x pos')) pos.line X.env = pure false := by rfl) (hf : X.fn x = true ∨ X.env.scope.names.lookup x = some .local := by first | exact .inl rfl | exact .inr rfl | assumption) :
    PS X (.Assign [.Name x pos'] e pos) (tAsg te (gName i)) := by
  intro pins s σ H D I h
  refine wpAny_Assign_Name (thn (he pins s σ H _ I h) fun v s1 ⟨y, H1, I1, r1, q1⟩ => ?_) hs
  exact store_ok I1 hN hi hx r1 (fun s2 I2 => ⟨_, H1, I2, q1⟩) hf
/-- a, b = x, y with plain local names: stored from the right; the pair itself is not tracked (the opening rows as in PyProof/Rows/TupAssign.lean:23) -/
def tPar (i j : Nat) (ta : TA) : TS := fun D σ H => ta σ H fun vs H1 => ∃ v w, vs = [v, w] ∧ D.nx ((σ.set i (some v)).set j (some w)) H1
/-- name op= e -/
def tAug (i : Nat) (te : TE) (ti : TIp) : TS := fun D σ H => ∃ x, σ[i]? = some (some x) ∧ te σ H fun y H1 => ti x y H1 fun z H2 => D.nx (σ.set i (some z)) H2
theorem ps_aug {i : Nat} {x : Str} {e : Expr} {te : TE} {op : Operator} {ti : TIp} {pos' : Pos} (hN : X.N.Nodup) (hi : X.N[i]? = some x) (hx : Loc X.env.scope x) (he : PE X e te) (ho : PIp X op ti) (hf : X.fn x = true ∨ X.env.scope.names.lookup x = some .local := by first | exact .inl rfl | exact .inr rfl | assumption) :
    PS X (.AugAssign (.Name x pos') op e pos) (tAug i te ti) := by
  intro pins s σ H D I h
  obtain ⟨v, e1, h⟩ := h
  obtain ⟨m, hn, hl⟩ := I.loc
  have vis : Vis X.env.scope x := by rcases hx with k | k; exact .inl k; exact .inr (.inl k)
  obtain ⟨u, r, l⟩ := hl i x v hi e1 vis
  refine wpAny_AugAssign_Name ?_
  have go : wpAny (model X.prog X.w) X.A (eval e X.env) (fun w s₂ => wpAny (model X.prog X.w) X.A (inplaceOp op u w) (fun r s₃ => wpAny (model X.prog X.w) X.A (storeName X.env x r) (fun _ => SP X pins D .next) X.xe s₃) X.xe s₂) X.xe s := by
    refine thn (he pins s σ H _ I h) fun w s1 ⟨y, H1, I1, r1, q1⟩ => ?_
    refine thn (ho pins s1 σ H1 v y u w _ I1 r r1 q1) fun z s2 ⟨zv, H2, I2, r2, q2⟩ => ?_
    exact store_ok I2 hN hi hx r2 (fun s3 I3 => ⟨_, H2, I3, q2⟩) hf
  rcases l with ⟨hk, hm⟩ | ⟨hk, c, hc, hcell⟩
  · exact wpAny_loadName_local I.ok.kind hk hn hm go
  · rcases hk with hk | hk
    · exact wpAny_loadName_cell I.ok.kind hk hc hcell go
    · rcases hx with k | k
      · have : X.env.scope.names.lookup x = some .free := hk
        rw [k] at this; cases this
      · have : X.env.scope.names.lookup x = some .free := hk
        rw [k] at this; cases this
/-- o[i] op= e -/
def tAugS (to ti te : TE) (tget : V → V → Hp → VK → Prop) (tip : TIp) (tset : TSet) : TS := fun D σ H => to σ H fun o H1 => ti σ H1 fun i H2 => tget o i H2 fun x H3 => te σ H3 fun y H4 => tip x y H4 fun z H5 => tset o i z H5 fun H6 => D.nx σ H6
/-- o[i], by values -/
def PGet (X : Cx) (t : V → V → Hp → VK → Prop) : Prop :=
  ∀ (pins : List (Addr × Obj)) (s : Shared) (σ : St) (H : Hp) (o i : V) (ov iv : Value) (Q : VK), Inv X pins σ H s → RelV o ov → RelV i iv → t o i H Q →
    wpAny (model X.prog X.w) X.A (getItem ov iv) (EP X pins σ Q) X.xe s
/-- ints -/
def ipI (f : Int → Int → Int) : TIp := fun x y H Q => ∃ i j, x = .int i ∧ y = .int j ∧ Q (.int (f i j)) H
end

/-! ### while -/
section
variable {X : Cx} {pos : Pos}
/-- the invariant W with its measure -/
def tWhile (c : TT) (tb : TS) : TS := fun D σ H => ∃ W : Nat → St → Hp → Prop, (∃ m, W m σ H) ∧ ∀ m σ H, W m σ H →
  c σ H fun b H1 => if b = true then ∃ N : St → Hp → Prop, (∀ σ' H', N σ' H' → ∃ m', m' < m ∧ W m' σ' H') ∧ tb { D with nx := N, ct := N, bk := D.nx } σ H1 else D.nx σ H1
end

/-! ### what a loop or a comprehension walks -/
/-- at turn i: it yields x (the heap may grow), or it stops -/
structure It where
  go : Nat → Hp → Prop
  yld : Nat → Hp → V → Hp → Prop
  stop : Nat → Hp → Prop
/-- the iterator's own objects may turn: they are not the frame's, not pinned, younger than the entry (or a comprehension's own) -/
def FpOk (X : Cx) (pins : List (Addr × Obj)) (H : Hp) (b : Addr) : Prop :=
  H b = none ∧ b ≠ X.env.locals ∧ b ∉ X.fs ∧ (b ∈ X.ex ∨ X.s₀.heap.objs.size ≤ b) ∧ (∀ x c, X.env.cells.lookup x = some c → c ≠ b) ∧ ∀ p ∈ X.pn ++ pins, p.1 ≠ b
theorem Inv.fpOk {X : Cx} {pins : List (Addr × Obj)} {σ : St} {H H' : Hp} {s : Shared} {b : Addr} (I : Inv X pins σ H s) (hb : s.heap.objs.size ≤ b) (hn : H' b = none) : FpOk X pins H' b := by
  refine ⟨hn, Nat.ne_of_gt (Nat.lt_of_lt_of_le I.lt hb), I.nofs hb, .inr (Nat.le_trans I.sz hb), fun x c e z => ?_, fun p hp z => ?_⟩
  · obtain ⟨v, q⟩ := I.cell x c e
    exact absurd (Nat.lt_of_lt_of_le q.lt (by rw [z]; exact hb)) (Nat.lt_irrefl _)
  · exact absurd (Nat.lt_of_lt_of_le (Heap.lt_size (I.pin p hp).1) (by rw [z]; exact hb)) (Nat.lt_irrefl _)
structure Turn (P : Program) (w : World) (K : PySem.W.Frag) (tg : Expr) (J : It) (fp : List Addr) (it : Addr) (tn : Nat → Heap → Prop) : Prop where
  mem : it ∈ fp
  obj : ∀ i h, tn i h → ∀ b ∈ fp, ∃ o, h.get? b = some o ∧ ∀ v, o.data ≠ .cell v
  keep : ∀ i h h', tn i h → (∀ b ∈ fp, ∀ o, h.get? b = some o → h'.get? b = some o) → tn i h'
  item : ∀ (X : Cx), X.prog = P → X.w = w → X.K = K → X.calm = true → ∀ (i : Nat) (pins : List (Addr × Obj)) (s : Shared) (σ : St) (H : Hp) (E : Value → Shared → Prop), Inv X pins σ H s → (∀ b ∈ fp, FpOk X pins H b) → tn i s.heap → J.go i H →
    wpAny (model P w) X.A (pyNext (.ref it)) (fun r s1 => ∃ u, r = some u ∧
      wpAny (model P w) X.A (letOwnedTupleGo tg (.ref it) u) (fun _ s2 => ∃ x H', Inv X pins σ H' s2 ∧ RelV x u ∧ J.yld i H x H' ∧ tn (i + 1) s2.heap ∧ ∀ b ∈ fp, H' b = none) E s1) E s
  done : ∀ (X : Cx), X.prog = P → X.w = w → X.K = K → X.calm = true → ∀ (i : Nat) (pins : List (Addr × Obj)) (s : Shared) (σ : St) (H : Hp) (E : Value → Shared → Prop), Inv X pins σ H s → (∀ b ∈ fp, FpOk X pins H b) → tn i s.heap → J.stop i H →
    wpAny (model P w) X.A (pyNext (.ref it)) (fun r s1 => r = none ∧ Inv X pins σ H s1) E s
  self : ∀ (A : Around) (i : Nat) (s : Shared) (Q : Value → Shared → Prop) (E : Value → Shared → Prop), tn i s.heap → Q (.ref it) s → wpAny (model P w) A (pyIter (.ref it)) Q E s
abbrev TI := St → Hp → (It → Hp → Prop) → Prop
/-- an iterator has come -/
def PIE (X : Cx) (pins : List (Addr × Obj)) (σ : St) (tg : Expr) (R : It → Hp → Prop) (itv : Value) (s2 : Shared) : Prop :=
  ∃ (it : Addr) (fp : List Addr) (tn : Nat → Heap → Prop) (J : It) (H' : Hp), itv = .ref it ∧ Inv X pins σ H' s2 ∧ Turn X.prog X.w X.K tg J fp it tn ∧ tn 0 s2.heap ∧ (∀ b ∈ fp, FpOk X pins H' b) ∧ R J H'
def PI (X : Cx) (tg iter : Expr) (wi : TI) : Prop :=
  ∀ (pins : List (Addr × Obj)) (s : Shared) (σ : St) (H : Hp) (R : It → Hp → Prop), Inv X pins σ H s → wi σ H R →
    wpAny (model X.prog X.w) X.A (eval iter X.env) (fun v s1 => wpAny (model X.prog X.w) X.A (pyIter v) (PIE X pins σ tg R) X.xe s1) X.xe s

/-- the step ahead of the store is nothing for an iterator that keeps no tuple -/
theorem go_of {M : Model} {A : Around} {E : Value → Shared → Prop} {s : Shared} {tg : Expr} {it : Addr} {u : Value} {o : Obj} {n : String} {vs : Array Value} {Q : Unit → Shared → Prop} (ho : s.heap.get? it = some o) (hc : o.cls = .type n) (hd : o.data = .fields vs)
    (hn : ["enumerate", "zip", "dict_itemiterator", "dict_reverseitemiterator", "odict_iterator", "itertools.zip_longest", "itertools.pairwise"].contains n = false) (hQ : Q () s) : wpAny M A (letOwnedTupleGo tg (.ref it) u) Q E s := by
  unfold letOwnedTupleGo
  cases tg <;> first
    | exact wpAny_pure hQ
    | (cases u <;> first
        | exact wpAny_pure hQ
        | (refine wpAny_bind (wpAny_load ho ?_)
           rw [hc, hd]
           show wpAny M A (if (["enumerate", "zip", "dict_itemiterator", "dict_reverseitemiterator", "odict_iterator", "itertools.zip_longest", "itertools.pairwise"].contains n && vs[0]? == some (rawInt _)) = true then _ else _) Q E s
           rw [if_neg (by intro h; rw [hn, Bool.false_and] at h; cases h)]
           exact wpAny_pure hQ))

/-- the list at a, as it stands at each turn (a loop may append to it) -/
def Itl (K : PySem.W.Frag) (a : Addr) : It :=
  ⟨fun i H => ∃ xs x, SqL K H a xs ∧ xs[i]? = some x, fun i H x H' => H' = H ∧ ∀ xs, SqL K H a xs → xs[i]? = some x, fun i H => ∃ xs, SqL K H a xs ∧ xs.length ≤ i⟩
def Itt (K : PySem.W.Frag) (a : Addr) : It :=
  ⟨fun i H => ∃ xs x, SqT K H a xs ∧ xs[i]? = some x, fun i H x H' => H' = H ∧ ∀ xs, SqT K H a xs → xs[i]? = some x, fun i H => ∃ xs, SqT K H a xs ∧ xs.length ≤ i⟩
/-- lo, lo + 1, .. (n of them) -/
def Itr (lo : Int) (n : Nat) : It := ⟨fun i _ => i < n, fun i H x H' => H' = H ∧ x = .int (lo + i), fun i _ => n ≤ i⟩
theorem turn_list {P : Program} {w : World} {K : PySem.W.Frag} {tg : Expr} (a it : Addr) : Turn P w K tg (Itl K a) [it] it (fun i h => h.IsListIter it a i) where
  mem := by simp
  obj := fun i h st b hb => by
    have e : b = it := by simpa using hb
    subst e
    obtain ⟨o, e, c, d⟩ := st
    exact ⟨o, e, fun v z => by rw [d] at z; cases z⟩
  keep := fun i h h' st k => st.at fun o e => k it (by simp) o e
  item := by
    intro X hP hw hK hc i pins s σ H E I hf st hg
    subst hP hw hK
    obtain ⟨xs, x, hq, hx⟩ := hg
    obtain ⟨its, rv, p, hz⟩ := I.list hq
    obtain ⟨u, hu, ru⟩ := rv.get hx
    obtain ⟨f0, f1, f2, f3, f4, f5⟩ := hf it (by simp)
    refine wpAny_pyNext_list_item st p.isList (x := u) (by simpa using hu) fun h' st' sb => ?_
    have I1 : Inv X pins σ H { s with heap := h' } := I.turned (t' := s.toks) (fun b o hb e => (sb.2 b hb).trans e) f0 f1 f3 f4 f5
    obtain ⟨o, e, c, d⟩ := id st'
    exact ⟨u, rfl, go_of (s := { s with heap := h' }) e c d (by decide) ⟨x, H, I1, ru, ⟨rfl, fun ys hy => by rw [I.list_inj hy hq]; exact hx⟩, st', fun b hb => (hf b hb).1⟩⟩
  done := by
    intro X hP hw hK hc i pins s σ H E I hf st hg
    subst hP hw hK
    obtain ⟨xs, hq, hx⟩ := hg
    obtain ⟨its, rv, p, hz⟩ := I.list hq
    obtain ⟨f0, f1, f2, f3, f4, f5⟩ := hf it (by simp)
    have hl := rv.length
    exact wpAny_pyNext_list_end (I.ok.hd hc) st p.isList (by simp; omega) fun h' eb => ⟨rfl, I.turned (t' := s.toks) (fun b o hb e => eb b o hb e) f0 f1 f3 f4 f5⟩
  self := fun _ _ _ _ _ st h => wpAny_pyIter_listiter st h
theorem turn_tuple {P : Program} {w : World} {K : PySem.W.Frag} {tg : Expr} (a it : Addr) : Turn P w K tg (Itt K a) [it] it (fun i h => h.IsTupleIter it a i) where
  mem := by simp
  obj := fun i h st b hb => by
    have e : b = it := by simpa using hb
    subst e
    obtain ⟨o, e, c, d⟩ := st
    exact ⟨o, e, fun v z => by rw [d] at z; cases z⟩
  keep := fun i h h' st k => st.at fun o e => k it (by simp) o e
  item := by
    intro X hP hw hK hc i pins s σ H E I hf st hg
    subst hP hw hK
    obtain ⟨xs, x, hq, hx⟩ := hg
    obtain ⟨its, rv, p, hz⟩ := I.tuple hq
    obtain ⟨u, hu, ru⟩ := rv.get hx
    obtain ⟨f0, f1, f2, f3, f4, f5⟩ := hf it (by simp)
    refine wpAny_pyNext_tuple_item st (show s.heap.IsTuple a its.toArray from p) (x := u) (by simpa using hu) fun h' st' sb => ?_
    have I1 : Inv X pins σ H { s with heap := h' } := I.turned (t' := s.toks) (fun b o hb e => (sb.2 b hb).trans e) f0 f1 f3 f4 f5
    obtain ⟨o, e, c, d⟩ := id st'
    exact ⟨u, rfl, go_of (s := { s with heap := h' }) e c d (by decide) ⟨x, H, I1, ru, ⟨rfl, fun ys hy => by rw [I.tuple_inj hy hq]; exact hx⟩, st', fun b hb => (hf b hb).1⟩⟩
  done := by
    intro X hP hw hK hc i pins s σ H E I hf st hg
    subst hP hw hK
    obtain ⟨xs, hq, hx⟩ := hg
    obtain ⟨its, rv, p, hz⟩ := I.tuple hq
    obtain ⟨f0, f1, f2, f3, f4, f5⟩ := hf it (by simp)
    have hl := rv.length
    exact wpAny_pyNext_tuple_end (I.ok.hd hc) st (show s.heap.IsTuple a its.toArray from p) (by simp; omega) fun h' eb => ⟨rfl, I.turned (t' := s.toks) (fun b o hb e => eb b o hb e) f0 f1 f3 f4 f5⟩
  self := fun _ _ _ _ _ st h => wpAny_pyIter_tupleiter st h
theorem turn_range {P : Program} {w : World} {K : PySem.W.Frag} {tg : Expr} (it : Addr) (lo : Int) (n : Nat) : Turn P w K tg (Itr lo n) [it] it (fun i h => IsRangeIter h it (lo + (i : Nat) * 1) ((n : Int) - (i : Nat)) 1) where
  mem := by simp
  obj := fun i h st b hb => by
    have e : b = it := by simpa using hb
    subst e
    exact ⟨_, st, fun v z => by
      have z' : Data.fields _ = Data.cell v := z
      cases z'⟩
  keep := fun i h h' st k => k it (by simp) _ st
  item := by
    intro X hP hw hK hc i pins s σ H E I hf st hg
    subst hP hw hK
    obtain ⟨f0, f1, f2, f3, f4, f5⟩ := hf it (by simp)
    have W := Walks.range (prog := X.prog) (w := X.w) (I.ok.hd hc) it lo 1 n
    refine W.item i s _ _ hg st fun v h' tk hv st' kk => ?_
    obtain ⟨t, rfl⟩ := hv
    have I1 : Inv X pins σ H { s with heap := h', toks := tk } := I.turned (fun b o hb e => kk b o (by simpa using hb) e) f0 f1 f3 f4 f5
    refine ⟨_, rfl, go_of (s := { s with heap := h', toks := tk }) (n := "range_iterator") st' rfl rfl (by decide) ⟨.int (lo + i), H, I1, ⟨t, ?_⟩, ⟨rfl, rfl⟩, st', fun b hb => (hf b hb).1⟩⟩
    rw [Int.mul_one]
  done := by
    intro X hP hw hK hc i pins s σ H E I hf st hg
    subst hP hw hK
    obtain ⟨f0, f1, f2, f3, f4, f5⟩ := hf it (by simp)
    exact wpAny_pyNext_range_end (I.ok.hd hc) st (by have : n ≤ i := hg; omega) fun h' eb => ⟨rfl, I.turned (t' := s.toks) (fun b o hb e => eb b o hb e) f0 f1 f3 f4 f5⟩
  self := fun _ _ _ _ _ st h => wpAny_pyIter_rangeiter st h
end L2

namespace L2
open PySem PySem.Spec PyProof.Rows
section
variable {X : Cx} {tg : Expr}
def iList (K : PySem.W.Frag) (tl : TE) : TI := fun σ H R => tl σ H fun x H1 => ∃ a, x = .ref a ∧ (∃ xs, SqL K H1 a xs) ∧ R (Itl K a) H1
def iTup (K : PySem.W.Frag) (tl : TE) : TI := fun σ H R => tl σ H fun x H1 => ∃ a, x = .ref a ∧ (∃ xs, SqT K H1 a xs) ∧ R (Itt K a) H1
theorem pi_list {l : Expr} {tl : TE} (hl : PE X l tl) : PI X tg l (iList X.K tl) := by
  intro pins s σ H R I h
  refine thn (hl pins s σ H _ I h) fun v s1 ⟨x, H1, I1, r1, q1⟩ => ?_
  obtain ⟨a, e, ⟨xs, hq⟩, q⟩ := q1
  subst e
  cases r1
  obtain ⟨its, rv, p, hz⟩ := I1.list hq
  refine wpAny_pyIter_list p.isList ?_
  refine ⟨s1.heap.objs.size, [s1.heap.objs.size], _, _, H1, rfl, I1.kept (t' := s1.toks) fun b o e => Heap.get?_push_of_some _ e, turn_list a _, ⟨_, Heap.get?_push_size _ rfl, rfl, rfl⟩, fun b hb => ?_, q⟩
  have e : b = s1.heap.objs.size := by simpa using hb
  subst e
  exact I1.fpOk (Nat.le_refl _) (I1.hok.fresh (Nat.le_refl _))
theorem pi_tup {l : Expr} {tl : TE} (hl : PE X l tl) : PI X tg l (iTup X.K tl) := by
  intro pins s σ H R I h
  refine thn (hl pins s σ H _ I h) fun v s1 ⟨x, H1, I1, r1, q1⟩ => ?_
  obtain ⟨a, e, ⟨xs, hq⟩, q⟩ := q1
  subst e
  cases r1
  obtain ⟨its, rv, p, hz⟩ := I1.tuple hq
  refine wpAny_pyIter_tuple (show s1.heap.IsTuple a its.toArray from p) ?_
  refine ⟨s1.heap.objs.size, [s1.heap.objs.size], _, _, H1, rfl, I1.kept (t' := s1.toks) fun b o e => Heap.get?_push_of_some _ e, turn_tuple a _, ⟨_, Heap.get?_push_size _ rfl, rfl, rfl⟩, fun b hb => ?_, q⟩
  have e : b = s1.heap.objs.size := by simpa using hb
  subst e
  exact I1.fpOk (Nat.le_refl _) (I1.hok.fresh (Nat.le_refl _))
/-- a range object just made, walked -/
theorem range_it {pins : List (Addr × Obj)} {σ : St} {H : Hp} {s : Shared} {R : It → Hp → Prop} {E : Value → Shared → Prop} {lo hi : Int} {t u v : Tok} {tk : Nat} (I : Inv X pins σ H s) (h1 : -(2 ^ 62) ≤ lo) (h2 : lo < 2 ^ 62) (h3 : -(2 ^ 62) ≤ hi) (h4 : hi < 2 ^ 62)
    (q : R (Itr lo (hi - lo).toNat) H) : wpAny (model X.prog X.w) X.A (pyIter (.ref s.heap.objs.size)) (PIE X pins σ tg R) E { s with heap := s.heap.push { cls := .type "range", data := .fields #[.int lo t, .int hi u, .int 1 v] }, toks := tk } := by
  refine wpAny_pyIter_range (IsRange.new ..) (small_one h1 h2 h3 h4) ?_
  have I1 : Inv X pins σ H { s with heap := s.heap.push { cls := .type "range", data := .fields #[.int lo t, .int hi u, .int 1 v] }, toks := tk } := I.kept fun b o e => Heap.get?_push_of_some _ e
  refine ⟨(s.heap.push { cls := .type "range", data := .fields #[.int lo t, .int hi u, .int 1 v] }).objs.size, [(s.heap.push { cls := .type "range", data := .fields #[.int lo t, .int hi u, .int 1 v] }).objs.size], _, _, H, rfl,
    I1.kept (t' := tk) fun b o e => Heap.get?_push_of_some _ e, turn_range _ lo (hi - lo).toNat, ?_, fun b hb => ?_, q⟩
  · have e1 : lo + ((0 : Nat) : Int) * 1 = lo := by simp
    have e2 : (((hi - lo).toNat : Nat) : Int) - ((0 : Nat) : Int) = Builtin.Range.rangeSize lo hi 1 := by rw [rangeSize_one]; split <;> omega
    show IsRangeIter _ _ (lo + ((0 : Nat) : Int) * 1) ((((hi - lo).toNat : Nat) : Int) - ((0 : Nat) : Int)) 1
    rw [e1, e2]
    exact Heap.get?_push_size _ rfl
  · have e : b = (s.heap.push { cls := .type "range", data := .fields #[.int lo t, .int hi u, .int 1 v] }).objs.size := by simpa using hb
    subst e
    exact I1.fpOk (Nat.le_refl _) (I1.hok.fresh (Nat.le_refl _))
def iRng1 (ta : TA) : TI := fun σ H R => ta σ H fun vs H1 => ∃ j : Int, vs = [.int j] ∧ -(2 ^ 62) ≤ j ∧ j < 2 ^ 62 ∧ R (Itr 0 j.toNat) H1
def iRng2 (ta : TA) : TI := fun σ H R => ta σ H fun vs H1 => ∃ i j : Int, vs = [.int i, .int j] ∧ (-(2 ^ 62) ≤ i ∧ i < 2 ^ 62 ∧ -(2 ^ 62) ≤ j ∧ j < 2 ^ 62) ∧ R (Itr i (j - i).toNat) H1
theorem pi_range1 {a : Expr} {ta : TA} {p pos : Pos} (hg : Gl X "range") (hm : X.mg "range" = none) (ha : PA X [a] ta) (hs : starEach [a] X.env = [(false, eval a X.env)] := by rfl) : PI X tg (.Call (.Name "range" p) [a] [] pos) (iRng1 ta) := by
  intro pins s σ H R I h
  refine Call_ (ld_blt I hg hm boot_range (PyProof.Rows.callWith_type1 (thn (ha pos pins s σ H _ I h) fun us s1 ⟨vs, H1, I1, r1, q1⟩ => ?_) hs rfl))
  obtain ⟨j, e, q1, q2, q⟩ := q1
  subst e
  cases r1 with
  | cons r rr =>
    cases rr
    obtain ⟨t, rfl⟩ := r
    exact call_range_1 (range_it I1 (by omega) (by omega) q1 q2 (by simpa using q))
theorem pi_range2 {a b : Expr} {ta : TA} {p pos : Pos} (hg : Gl X "range") (hm : X.mg "range" = none) (ha : PA X [a, b] ta) (hs : starEach [a, b] X.env = [(false, eval a X.env), (false, eval b X.env)] := by rfl) (hs2 : starEach [b] X.env = [(false, eval b X.env)] := by rfl) :
    PI X tg (.Call (.Name "range" p) [a, b] [] pos) (iRng2 ta) := by
  intro pins s σ H R I h
  refine Call_ (ld_blt I hg hm boot_range (PyProof.Rows.callWith_type1 (thn (ha pos pins s σ H _ I h) fun us s1 ⟨vs, H1, I1, r1, q1⟩ => ?_) (by rw [hs, hs2]) (by rw [hs2]; rfl)))
  obtain ⟨i, j, e, ⟨q1, q2, q3, q4⟩, q⟩ := q1
  subst e
  cases r1 with
  | cons r rr =>
    cases rr with
    | cons r' rr =>
      cases rr
      obtain ⟨t, rfl⟩ := r
      obtain ⟨t', rfl⟩ := r'
      exact call_range_2 (range_it I1 q1 q2 q3 q4 q)

/-! ### for -/
/-- W: the invariant by the turn and a measure; N: what the body is to reach -/
def tFor (wi : TI) (g : TG) (tb : TS) : TS := fun D σ H => wi σ H fun J H1 => ∃ W : Nat → Nat → St → Hp → Prop, (∃ m, W 0 m σ H1) ∧ ∀ i m σ H, W i m σ H →
  (J.stop i H ∧ D.nx σ H) ∨ (J.go i H ∧ ∃ N : St → Hp → Prop, (∀ σ' H', N σ' H' → ∃ m', m' < m ∧ W (i + 1) m' σ' H') ∧ ∀ x H', J.yld i H x H' → g x σ H' fun σ2 H2 => tb { D with nx := N, ct := N, bk := D.nx } σ2 H2)
/-- the records at fp as they stand -/
def pinsAt (fp : List Addr) (h : Heap) : List (Addr × Obj) := fp.filterMap fun b => (h.get? b).map fun o => (b, o)
theorem mem_pinsAt {fp : List Addr} {h : Heap} {b : Addr} {o : Obj} (hb : b ∈ fp) (e : h.get? b = some o) : (b, o) ∈ pinsAt fp h := List.mem_filterMap.mpr ⟨b, hb, by rw [e]; rfl⟩
theorem of_pinsAt {fp : List Addr} {h : Heap} {p : Addr × Obj} (hp : p ∈ pinsAt fp h) : p.1 ∈ fp ∧ h.get? p.1 = some p.2 := by
  obtain ⟨b, hb, e⟩ := List.mem_filterMap.mp hp
  cases q : h.get? b with
  | none => rw [q] at e; cases e
  | some o =>
    rw [q] at e
    have e' : (b, o) = p := Option.some.inj e
    subst e'
    exact ⟨hb, q⟩
theorem Inv.pinned {pins : List (Addr × Obj)} {σ : St} {H : Hp} {s : Shared} {fp : List Addr} (I : Inv X pins σ H s) (hf : ∀ b ∈ fp, FpOk X pins H b) (ho : ∀ b ∈ fp, ∃ o, s.heap.get? b = some o ∧ ∀ v, o.data ≠ .cell v) : Inv X (pins ++ pinsAt fp s.heap) σ H s :=
  I.pins_of fun p hp => (List.mem_append.mp hp).elim (fun z => I.pin p (List.mem_append_right _ z)) fun z => by
    obtain ⟨hb, e⟩ := of_pinsAt z
    obtain ⟨f0, f1, f2, _⟩ := hf p.1 hb
    obtain ⟨o, e', d⟩ := ho p.1 hb
    rw [e] at e'; cases e'
    exact ⟨e, f0, f1, f2, d⟩
theorem Inv.unpinned {pins pl : List (Addr × Obj)} {σ : St} {H : Hp} {s : Shared} (I : Inv X (pins ++ pl) σ H s) : Inv X pins σ H s := I.pins_of fun p hp => I.pin p (List.mem_append_right _ (List.mem_append_left _ hp))
theorem ps_for {iter : Expr} {body : List Stmt} {wi : TI} {g : TG} {tb : TS} {pos : Pos} (hp : PassesOwn (model X.prog X.w) X.A X.env X.xe) (hc : X.calm = true) (hi : PI X tg iter wi) (hg : PG X tg g) (hb : PSs X body tb)
    (hs : ∀ x, foldedSetIterable iter X.env x = pure x := by intro _; rfl) : PS X (.For tg iter body [] pos) (tFor wi g tb) := by
  intro pins s σ H D I h
  refine wpAny_For (thn (hi pins s σ H _ I h) fun v s1 h1 => thn h1 fun itv s2 h2 => ?_) hs
  obtain ⟨it, fp, tn, J, H2, e, I2, T, st2, f2, W, ⟨m0, w0⟩, turn⟩ := h2
  subst e
  -- what stays true of the iterator's objects through the loop
  have stat : ∀ {H' : Hp}, (∀ b ∈ fp, H' b = none) → ∀ b ∈ fp, FpOk X pins H' b := fun hn b hb => ⟨hn b hb, (f2 b hb).2⟩
  refine codeAny_forLoop_any (fun n s' => ∃ i σ' H', Inv X pins σ' H' s' ∧ tn i s'.heap ∧ (∀ b ∈ fp, H' b = none) ∧ W i n σ' H') ?_ m0 ⟨0, σ, H2, I2, st2, fun b hb => (f2 b hb).1, w0⟩
  rintro n s3 ⟨i, σ3, H3, I3, st3, fr3, w3⟩
  rcases turn i n σ3 H3 w3 with ⟨stop, qn⟩ | ⟨go, N, hN, step⟩
  · refine wpAny_passesOwn hp (thn (T.done X rfl rfl rfl hc i pins s3 σ3 H3 X.xe I3 (stat fr3) st3 stop) fun r s4 ⟨hr, I4⟩ => ?_)
    subst hr
    exact wpAny_execs_nil ⟨σ3, H3, I4, qn⟩
  · refine wpAny_passesOwn hp (thn (T.item X rfl rfl rfl hc i pins s3 σ3 H3 X.xe I3 (stat fr3) st3 go) fun r s4 ⟨u, hr, h4⟩ => ?_)
    subst hr
    refine wpAny_passesOwn hp (thn h4 fun _ s5 ⟨x, H5, I5, r5, y5, st5, fr5⟩ => ?_)
    have I5' := I5.pinned (stat fr5) (T.obj _ _ st5)
    refine wpAny_passesOwn hp (thn (hg _ s5 σ3 H5 x u _ I5' r5 (step x H5 y5)) fun _ s6 ⟨σ6, H6, I6, q6⟩ => ?_)
    refine wpAny_passesOwn hp (thn (hb _ s6 σ6 H6 _ I6 q6) fun f s7 q7 => ?_)
    have again : ∀ {σ7 : St} {H7 : Hp}, Inv X (pins ++ pinsAt fp s5.heap) σ7 H7 s7 → N σ7 H7 → ∃ m, m < n ∧ ∃ i σ' H', Inv X pins σ' H' s7 ∧ tn i s7.heap ∧ (∀ b ∈ fp, H' b = none) ∧ W i m σ' H' := fun {σ7 H7} I7 n7 => by
      obtain ⟨m', hm, w7⟩ := hN σ7 H7 n7
      refine ⟨m', hm, i + 1, σ7, H7, I7.unpinned, T.keep _ _ _ st5 fun b hb o e => (I7.pin (b, o) (List.mem_append_right _ (List.mem_append_right _ (mem_pinsAt hb e)))).1, fun b hb => ?_, w7⟩
      obtain ⟨o, e, d⟩ := T.obj _ _ st5 b hb
      exact (I7.pin (b, o) (List.mem_append_right _ (List.mem_append_right _ (mem_pinsAt hb e)))).2.1
    cases f with
    | next => obtain ⟨σ7, H7, I7, n7⟩ := q7; exact again I7 n7
    | cont => obtain ⟨σ7, H7, I7, n7⟩ := q7; exact again I7 n7
    | brk => obtain ⟨σ7, H7, I7, q7⟩ := q7; exact ⟨σ7, H7, I7.unpinned, q7⟩
    | ret v => obtain ⟨x7, σ7, H7, I7, r7, q7⟩ := q7; exact ⟨x7, σ7, H7, I7.unpinned, r7, q7⟩
end

/-! ### the forms one uses -/
/-- over a list that the body leaves as it is -/
theorem for_list {K : PySem.W.Frag} {a : Addr} {xs : List V} {g : TG} {tb : TS} {D : Ends} {σ : St} {H : Hp} (Pv : Nat → St → Hp → Prop) (h0 : Pv 0 σ H) (hl : ∀ i σ H, i ≤ xs.length → Pv i σ H → SqL K H a xs)
    (hs : ∀ i x σ H, xs[i]? = some x → Pv i σ H → g x σ H fun σ2 H2 => tb { D with nx := Pv (i + 1), ct := Pv (i + 1), bk := D.nx } σ2 H2) (hd : ∀ σ H, Pv xs.length σ H → D.nx σ H) :
    ∃ W : Nat → Nat → St → Hp → Prop, (∃ m, W 0 m σ H) ∧ ∀ i m σ H, W i m σ H →
      ((Itl K a).stop i H ∧ D.nx σ H) ∨ ((Itl K a).go i H ∧ ∃ N : St → Hp → Prop, (∀ σ' H', N σ' H' → ∃ m', m' < m ∧ W (i + 1) m' σ' H') ∧ ∀ x H', (Itl K a).yld i H x H' → g x σ H' fun σ2 H2 => tb { D with nx := N, ct := N, bk := D.nx } σ2 H2) := by
  refine ⟨fun i m σ H => m = xs.length - i ∧ i ≤ xs.length ∧ Pv i σ H, ⟨xs.length, by simp, Nat.zero_le _, h0⟩, ?_⟩
  rintro i m σ H ⟨rfl, hi, p⟩
  have q := hl i σ H hi p
  by_cases hlt : i < xs.length
  · refine .inr ⟨⟨xs, xs[i], q, by simp [hlt]⟩, Pv (i + 1), fun σ' H' p' => ⟨xs.length - (i + 1), by omega, rfl, hlt, p'⟩, fun x H' y => ?_⟩
    obtain ⟨e, y⟩ := y
    subst e
    exact hs i x σ _ (y xs q) p
  · have e : i = xs.length := by omega
    subst e
    exact .inl ⟨⟨xs, q, Nat.le_refl _⟩, hd σ H p⟩
theorem for_tup {K : PySem.W.Frag} {a : Addr} {xs : List V} {g : TG} {tb : TS} {D : Ends} {σ : St} {H : Hp} (Pv : Nat → St → Hp → Prop) (h0 : Pv 0 σ H) (hl : ∀ i σ H, i ≤ xs.length → Pv i σ H → SqT K H a xs)
    (hs : ∀ i x σ H, xs[i]? = some x → Pv i σ H → g x σ H fun σ2 H2 => tb { D with nx := Pv (i + 1), ct := Pv (i + 1), bk := D.nx } σ2 H2) (hd : ∀ σ H, Pv xs.length σ H → D.nx σ H) :
    ∃ W : Nat → Nat → St → Hp → Prop, (∃ m, W 0 m σ H) ∧ ∀ i m σ H, W i m σ H →
      ((Itt K a).stop i H ∧ D.nx σ H) ∨ ((Itt K a).go i H ∧ ∃ N : St → Hp → Prop, (∀ σ' H', N σ' H' → ∃ m', m' < m ∧ W (i + 1) m' σ' H') ∧ ∀ x H', (Itt K a).yld i H x H' → g x σ H' fun σ2 H2 => tb { D with nx := N, ct := N, bk := D.nx } σ2 H2) := by
  refine ⟨fun i m σ H => m = xs.length - i ∧ i ≤ xs.length ∧ Pv i σ H, ⟨xs.length, by simp, Nat.zero_le _, h0⟩, ?_⟩
  rintro i m σ H ⟨rfl, hi, p⟩
  have q := hl i σ H hi p
  by_cases hlt : i < xs.length
  · refine .inr ⟨⟨xs, xs[i], q, by simp [hlt]⟩, Pv (i + 1), fun σ' H' p' => ⟨xs.length - (i + 1), by omega, rfl, hlt, p'⟩, fun x H' y => ?_⟩
    obtain ⟨e, y⟩ := y
    subst e
    exact hs i x σ _ (y xs q) p
  · have e : i = xs.length := by omega
    subst e
    exact .inl ⟨⟨xs, q, Nat.le_refl _⟩, hd σ H p⟩
theorem for_range {lo : Int} {n : Nat} {g : TG} {tb : TS} {D : Ends} {σ : St} {H : Hp} (Pv : Nat → St → Hp → Prop) (h0 : Pv 0 σ H)
    (hs : ∀ i σ H, i < n → Pv i σ H → g (.int (lo + i)) σ H fun σ2 H2 => tb { D with nx := Pv (i + 1), ct := Pv (i + 1), bk := D.nx } σ2 H2) (hd : ∀ σ H, Pv n σ H → D.nx σ H) :
    ∃ W : Nat → Nat → St → Hp → Prop, (∃ m, W 0 m σ H) ∧ ∀ i m σ H, W i m σ H →
      ((Itr lo n).stop i H ∧ D.nx σ H) ∨ ((Itr lo n).go i H ∧ ∃ N : St → Hp → Prop, (∀ σ' H', N σ' H' → ∃ m', m' < m ∧ W (i + 1) m' σ' H') ∧ ∀ x H', (Itr lo n).yld i H x H' → g x σ H' fun σ2 H2 => tb { D with nx := N, ct := N, bk := D.nx } σ2 H2) := by
  refine ⟨fun i m σ H => m = n - i ∧ i ≤ n ∧ Pv i σ H, ⟨n, by simp, Nat.zero_le _, h0⟩, ?_⟩
  rintro i m σ H ⟨rfl, hi, p⟩
  by_cases hlt : i < n
  · refine .inr ⟨hlt, Pv (i + 1), fun σ' H' p' => ⟨n - (i + 1), by omega, rfl, hlt, p'⟩, fun x H' y => ?_⟩
    obtain ⟨e, y⟩ := y
    subst e y
    exact hs i σ _ hlt p
  · have e : i = n := by omega
    subst e
    exact .inl ⟨Nat.le_refl _, hd σ H p⟩
end L2

namespace L2
open PySem PySem.Spec PyProof.Rows

abbrev R2 := V → V → Hp → VK → Prop
/-- a two-place operation on values: f is binaryOp op, inplaceOp op or compareOp op -/
def OpR (X : Cx) (f : Value → Value → Sem Value) (r : R2) : Prop :=
  ∀ (pins : List (Addr × Obj)) (s : Shared) (σ : St) (H : Hp) (x y : V) (v u : Value) (Q : VK), Inv X pins σ H s → RelV x v → RelV y u → r x y H Q →
    wpAny (model X.prog X.w) X.A (f v u) (EP X pins σ Q) X.xe s
/-- a one-place operation -/
def UnR (X : Cx) (f : Value → Sem Value) (r : V → Hp → VK → Prop) : Prop :=
  ∀ (pins : List (Addr × Obj)) (s : Shared) (σ : St) (H : Hp) (x : V) (v : Value) (Q : VK), Inv X pins σ H s → RelV x v → r x H Q →
    wpAny (model X.prog X.w) X.A (f v) (EP X pins σ Q) X.xe s
/-- a call of a value that is known (a builtin, a type) with values -/
def CallR (X : Cx) (f : Value) (r : List V → Hp → VK → Prop) : Prop :=
  ∀ (pins : List (Addr × Obj)) (s : Shared) (σ : St) (H : Hp) (xs : List V) (us : List Value) (Q : VK), Inv X pins σ H s → Vals xs us → r xs H Q →
    wpAny (model X.prog X.w) X.A (call f us) (EP X pins σ Q) X.xe s
/-- a value's truth -/
def TruR (X : Cx) (r : V → Hp → (Bool → Hp → Prop) → Prop) : Prop :=
  ∀ (pins : List (Addr × Obj)) (s : Shared) (σ : St) (H : Hp) (x : V) (v : Value) (Q : Bool → Hp → Prop), Inv X pins σ H s → RelV x v → r x H Q →
    wpAny (model X.prog X.w) X.A (truthy v) (TP X pins σ Q) X.xe s

def tOp (r : R2) (ta tb : TE) : TE := fun σ H Q => ta σ H fun x H1 => tb σ H1 fun y H2 => r x y H2 Q
def tUn (r : V → Hp → VK → Prop) (ta : TE) : TE := fun σ H Q => ta σ H fun x H1 => r x H1 Q
/-- ints in, under C, and a value out -/
def rI (C : Int → Int → Prop) (g : Int → Int → V) : R2 := fun x y H Q => ∃ i j, x = .int i ∧ y = .int j ∧ C i j ∧ Q (g i j) H
def rI0 (g : Int → Int → V) : R2 := fun x y H Q => ∃ i j, x = .int i ∧ y = .int j ∧ Q (g i j) H
def rU (g : Int → V) : V → Hp → VK → Prop := fun x H Q => ∃ i, x = .int i ∧ Q (g i) H

section
variable {X : Cx} {a b c : Expr} {ta tb tc : TE} {pos : Pos}

theorem binT (ha : PE X a ta) (hb : PE X b tb) {pins : List (Addr × Obj)} {s : Shared} {σ : St} {H : Hp} {R : V → V → Hp → Prop} (I : Inv X pins σ H s)
    (h : ta σ H fun x H1 => tb σ H1 fun y H2 => R x y H2) {Q : Value → Shared → Prop} {f : Value → Value → Sem Value}
    (hf : ∀ v u s2 x y H2, Inv X pins σ H2 s2 → RelV x v → RelV y u → R x y H2 → wpAny (model X.prog X.w) X.A (f v u) Q X.xe s2) :
    wpAny (model X.prog X.w) X.A (eval a X.env) (fun v s₁ => wpAny (model X.prog X.w) X.A (eval b X.env) (fun u s₂ => wpAny (model X.prog X.w) X.A (f v u) Q X.xe s₂) X.xe s₁) X.xe s := by
  refine thn (ha pins s σ H _ I h) fun v s1 ⟨x, H1, I1, r1, q1⟩ => ?_
  refine thn (hb pins s1 σ H1 _ I1 q1) fun u s2 ⟨y, H2, I2, r2, q2⟩ => ?_
  exact hf v u s2 x y H2 I2 r1 r2 q2

theorem pe_op {op : Operator} {r : R2} (ho : OpR X (binaryOp op) r) (ha : PE X a ta) (hb : PE X b tb) : PE X (.BinOp a op b pos) (tOp r ta tb) := by
  intro pins s σ H Q I h
  exact wpAny_BinOp (binT ha hb I h fun v u s2 x y H2 I2 rx ry q => ho pins s2 σ H2 x y v u Q I2 rx ry q)
theorem pe_un {op : UnaryOp} {r : V → Hp → VK → Prop} (ho : UnR X (unaryOp op) r) (ha : PE X a ta) : PE X (.UnaryOp op a pos) (tUn r ta) := by
  intro pins s σ H Q I h
  exact UnaryOp_ (thn (ha pins s σ H _ I h) fun v s1 ⟨x, H1, I1, r1, q1⟩ => ho pins s1 σ H1 x v Q I1 r1 q1)
/-! ### ints -/
theorem opI {f : Value → Value → Sem Value} {C : Int → Int → Prop} {g : Int → Int → Int}
    (rule : ∀ (i j : Int) (t u : Tok) (s : Shared) (Q : Value → Shared → Prop) (E : Value → Shared → Prop), C i j → Q (.int (g i j) s.toks) { s with toks := s.toks + 1 } → wpAny (model X.prog X.w) X.A (f (.int i t) (.int j u)) Q E s) :
    OpR X f (rI C fun i j => .int (g i j)) := by
  intro pins s σ H x y v u Q I rx ry h
  obtain ⟨i, j, rfl, rfl, hc, q⟩ := h
  obtain ⟨t, rfl⟩ := rx
  obtain ⟨t', rfl⟩ := ry
  exact rule i j t t' s _ _ hc ⟨.int (g i j), H, I.tok _, ⟨_, rfl⟩, q⟩
theorem opI0 {f : Value → Value → Sem Value} {g : Int → Int → Int}
    (rule : ∀ (i j : Int) (t u : Tok) (s : Shared) (Q : Value → Shared → Prop) (E : Value → Shared → Prop), Q (.int (g i j) s.toks) { s with toks := s.toks + 1 } → wpAny (model X.prog X.w) X.A (f (.int i t) (.int j u)) Q E s) :
    OpR X f (rI0 fun i j => .int (g i j)) := by
  intro pins s σ H x y v u Q I rx ry h
  obtain ⟨i, j, rfl, rfl, q⟩ := h
  obtain ⟨t, rfl⟩ := rx
  obtain ⟨t', rfl⟩ := ry
  exact rule i j t t' s _ _ ⟨.int (g i j), H, I.tok _, ⟨_, rfl⟩, q⟩
theorem opB0 {f : Value → Value → Sem Value} {g : Int → Int → Bool}
    (rule : ∀ (i j : Int) (t u : Tok) (s : Shared) (Q : Value → Shared → Prop) (E : Value → Shared → Prop), Q (.bool (g i j)) s → wpAny (model X.prog X.w) X.A (f (.int i t) (.int j u)) Q E s) :
    OpR X f (rI0 fun i j => .bl (g i j)) := by
  intro pins s σ H x y v u Q I rx ry h
  obtain ⟨i, j, rfl, rfl, q⟩ := h
  obtain ⟨t, rfl⟩ := rx
  obtain ⟨t', rfl⟩ := ry
  exact rule i j t t' s _ _ ⟨.bl (g i j), H, I, rfl, q⟩

def CDiv (i j : Int) : Prop := 0 < j ∧ j < 1073741824
def CDivN (i j : Int) : Prop := j ≠ 0 ∧ j.natAbs < 1073741824
def CPow (i j : Int) : Prop := 0 ≤ j ∧ j ≤ 1000000 ∧ i.natAbs < 2 ^ 64
def CMul (i j : Int) : Prop := (-(2 ^ 64) < i ∧ i < 2 ^ 64) ∨ (-(2 ^ 64) < j ∧ j < 2 ^ 64)
theorem CMul.ok {i j : Int} (h : CMul i j) : IntMulOk i j := by
  rcases h with ⟨h1, h2⟩ | ⟨h1, h2⟩
  · exact .of_left (intBits_le_64 h1 h2)
  · exact .of_right (intBits_le_64 h1 h2)
theorem op_add : OpR X (binaryOp .Add) (rI0 fun i j => .int (i + j)) := opI0 fun _ _ _ _ _ _ _ q => add_int q
theorem op_sub : OpR X (binaryOp .Sub) (rI0 fun i j => .int (i - j)) := opI0 fun _ _ _ _ _ _ _ q => sub_int q
theorem op_mul : OpR X (binaryOp .Mult) (rI CMul fun i j => .int (i * j)) := opI fun _ _ _ _ _ _ _ hc q => mul_int q hc.ok
/-- // by a positive divisor -/
theorem op_fdiv : OpR X (binaryOp .FloorDiv) (rI CDiv fun i j => .int (i / j)) := opI fun i j _ _ _ _ _ hc q => by
  have h1 : (0 : Int) < j := hc.1
  have h2 : j < 1073741824 := hc.2
  exact floordiv_int (by omega) (by rw [Int.fdiv_eq_ediv_of_nonneg i (by omega)]; exact q) (.inl (PyProof.noPylong_small (by omega)))
/-- % by a positive divisor of any size -/
theorem op_mod : OpR X (binaryOp .Mod) (rI (fun _ j => 0 < j) fun i j => .int (i % j)) := opI fun i j _ _ _ _ _ hc q => by
  have h1 : (0 : Int) < j := hc
  exact mod_int' (by omega) (by rw [Int.fmod_eq_emod_of_nonneg i (by omega)]; exact q)
theorem unI {f : Value → Sem Value} {g : Int → Int}
    (rule : ∀ (i : Int) (t : Tok) (s : Shared) (Q : Value → Shared → Prop) (E : Value → Shared → Prop), Q (.int (g i) s.toks) { s with toks := s.toks + 1 } → wpAny (model X.prog X.w) X.A (f (.int i t)) Q E s) :
    UnR X f (rU fun i => .int (g i)) := by
  intro pins s σ H x v Q I rx h
  obtain ⟨i, rfl, q⟩ := h
  obtain ⟨t, rfl⟩ := rx
  exact rule i t s _ _ ⟨.int (g i), H, I.tok _, ⟨_, rfl⟩, q⟩
theorem un_neg : UnR X (unaryOp .USub) (rU fun i => .int (-i)) := unI fun _ _ _ _ _ q => neg_int q
/-! ### bools among ints: n += (a < b) -/
end

/-! ### comparisons -/
/-- the scalars that == tells apart as data does -/
def scal : V → V → Bool
  | .non, .non => true | .non, .int _ => true | .int _, .non => true | .non, .bl _ => true | .bl _, .non => true | .non, .str _ => true | .str _, .non => true
  | .int _, .int _ => true | .bl _, .bl _ => true | .str _, .str _ => true | .byt _, .byt _ => true
  | .int _, .str _ => true | .str _, .int _ => true | .bl _, .str _ => true | .str _, .bl _ => true
  | _, _ => false
def rEq : R2 := fun x y H Q => scal x y = true ∧ Q (.bl (decide (x = y))) H
def rNe : R2 := fun x y H Q => scal x y = true ∧ Q (.bl (!decide (x = y))) H

theorem dec_int {i j : Int} : decide (V.int i = V.int j) = (i == j) := by
  rw [Bool.eq_iff_iff]
  simp
theorem dec_bl {i j : Bool} : decide (V.bl i = V.bl j) = (i == j) := by
  rw [Bool.eq_iff_iff]
  simp
theorem dec_str {i j : Str} : decide (V.str i = V.str j) = (i == j) := by
  rw [Bool.eq_iff_iff]
  simp
theorem dec_byt {i j : Array UInt8} : decide (V.byt i = V.byt j) = (i.toList == j.toList) := by
  rw [Bool.eq_iff_iff]
  cases i
  cases j
  simp

section
variable {X : Cx} {a b c : Expr} {ta tb tc : TE} {pos : Pos}
theorem fin_bl {pins : List (Addr × Obj)} {σ : St} {H : Hp} {s : Shared} {Q : VK} {k k' : Bool} (I : Inv X pins σ H s) (q : Q (.bl k) H) (e : k = k') : EP X pins σ Q (.bool k') s := by
  subst e
  exact ⟨.bl k, H, I, rfl, q⟩
theorem op_eq : OpR X (compareOp .Eq) rEq := by
  intro pins s σ H x y v u Q I rx ry h
  obtain ⟨hs, q⟩ := h
  cases x with
  | non =>
    cases rx
    cases y with
    | non => cases ry; exact PySem.EqNone.eq_none_none (fin_bl I q (by simp))
    | bl j => cases ry; exact PySem.EqNone.eq_none_bool (fin_bl I q (by simp))
    | int j => obtain ⟨t', rfl⟩ := ry; exact PySem.EqNone.eq_none_int (fin_bl I q (by simp))
    | str j => obtain ⟨t', rfl⟩ := ry; exact PySem.EqNone.eq_none_str (fin_bl I q (by simp))
    | _ => exact absurd (show false = true from hs) Bool.false_ne_true
  | bl i =>
    cases rx
    cases y with
    | non => cases ry; exact PySem.EqNone.eq_bool_none (fin_bl I q (by simp))
    | bl j => cases ry; exact eq_bool (fin_bl I q dec_bl)
    | str j => obtain ⟨t', rfl⟩ := ry; exact PySem.EqMixed.eq_bool_str (fin_bl I q (by simp))
    | _ => exact absurd (show false = true from hs) Bool.false_ne_true
  | int i =>
    obtain ⟨t, rfl⟩ := rx
    cases y with
    | non => cases ry; exact PySem.EqNone.eq_int_none (fin_bl I q (by simp))
    | int j => obtain ⟨t', rfl⟩ := ry; exact eq_int (fin_bl I q dec_int)
    | str j => obtain ⟨t', rfl⟩ := ry; exact PySem.EqMixed.eq_int_str (fin_bl I q (by simp))
    | _ => exact absurd (show false = true from hs) Bool.false_ne_true
  | str i =>
    obtain ⟨t, rfl⟩ := rx
    cases y with
    | non => cases ry; exact PySem.EqNone.eq_str_none (fin_bl I q (by simp))
    | bl j => cases ry; exact PySem.EqMixed.eq_str_bool (fin_bl I q (by simp))
    | int j => obtain ⟨t', rfl⟩ := ry; exact PySem.EqMixed.eq_str_int (fin_bl I q (by simp))
    | str j => obtain ⟨t', rfl⟩ := ry; exact eq_str (fin_bl I q dec_str)
    | _ => exact absurd (show false = true from hs) Bool.false_ne_true
  | byt i =>
    obtain ⟨t, rfl⟩ := rx
    cases y with
    | byt j => obtain ⟨t', rfl⟩ := ry; exact PySem.W.eq_bytes (fin_bl I q dec_byt)
    | _ => exact absurd (show false = true from hs) Bool.false_ne_true
  | _ => cases y <;> exact absurd (show false = true from hs) Bool.false_ne_true
theorem op_ne : OpR X (compareOp .NotEq) rNe := by
  intro pins s σ H x y v u Q I rx ry h
  obtain ⟨hs, q⟩ := h
  cases x with
  | non =>
    cases rx
    cases y with
    | non => cases ry; exact PySem.EqNone.ne_none_none (fin_bl I q (by simp))
    | bl j => cases ry; exact PySem.EqNone.ne_none_bool (fin_bl I q (by simp))
    | int j => obtain ⟨t', rfl⟩ := ry; exact PySem.EqNone.ne_none_int (fin_bl I q (by simp))
    | str j => obtain ⟨t', rfl⟩ := ry; exact PySem.EqNone.ne_none_str (fin_bl I q (by simp))
    | _ => exact absurd (show false = true from hs) Bool.false_ne_true
  | bl i =>
    cases rx
    cases y with
    | non => cases ry; exact PySem.EqNone.ne_bool_none (fin_bl I q (by simp))
    | bl j => cases ry; exact ne_bool (fin_bl I q (congrArg not dec_bl))
    | str j => obtain ⟨t', rfl⟩ := ry; exact PySem.EqMixed.ne_bool_str (fin_bl I q (by simp))
    | _ => exact absurd (show false = true from hs) Bool.false_ne_true
  | int i =>
    obtain ⟨t, rfl⟩ := rx
    cases y with
    | non => cases ry; exact PySem.EqNone.ne_int_none (fin_bl I q (by simp))
    | int j => obtain ⟨t', rfl⟩ := ry; exact ne_int (fin_bl I q (congrArg not dec_int))
    | str j => obtain ⟨t', rfl⟩ := ry; exact PySem.EqMixed.ne_int_str (fin_bl I q (by simp))
    | _ => exact absurd (show false = true from hs) Bool.false_ne_true
  | str i =>
    obtain ⟨t, rfl⟩ := rx
    cases y with
    | non => cases ry; exact PySem.EqNone.ne_str_none (fin_bl I q (by simp))
    | bl j => cases ry; exact PySem.EqMixed.ne_str_bool (fin_bl I q (by simp))
    | int j => obtain ⟨t', rfl⟩ := ry; exact PySem.EqMixed.ne_str_int (fin_bl I q (by simp))
    | str j => obtain ⟨t', rfl⟩ := ry; exact ne_str (fin_bl I q (congrArg not dec_str))
    | _ => exact absurd (show false = true from hs) Bool.false_ne_true
  | byt i =>
    obtain ⟨t, rfl⟩ := rx
    cases y with
    | byt j => obtain ⟨t', rfl⟩ := ry; exact PySem.W.ne_bytes (fin_bl I q (congrArg not dec_byt))
    | _ => exact absurd (show false = true from hs) Bool.false_ne_true
  | _ => cases y <;> exact absurd (show false = true from hs) Bool.false_ne_true

theorem op_lt : OpR X (compareOp .Lt) (rI0 fun i j => .bl (decide (i < j))) := opB0 fun _ _ _ _ _ _ _ q => lt_int q
theorem op_le : OpR X (compareOp .LtE) (rI0 fun i j => .bl (decide (i ≤ j))) := opB0 fun _ _ _ _ _ _ _ q => le_int q
theorem op_gt : OpR X (compareOp .Gt) (rI0 fun i j => .bl (decide (j < i))) := opB0 fun _ _ _ _ _ _ _ q => gt_int q
/-- the one string within the other -/
theorem op_in_str : OpR X (compareOp .In) (fun x y H Q => ∃ i j, x = .str i ∧ y = .str j ∧ Q (.bl (!(Builtin.Str.occurrences j i 0 j.length 1).isEmpty)) H) := by
  intro pins s σ H x y v u Q I rx ry h
  obtain ⟨i, j, rfl, rfl, q⟩ := h
  obtain ⟨t, rfl⟩ := rx
  obtain ⟨t', rfl⟩ := ry
  exact in_str (fin_bl I q rfl)

/-- is None, is not None: the right side a value none -/
theorem op_isN : OpR X (compareOp .Is) (fun x y H Q => y = .non ∧ Q (.bl (decide (x = .non))) H) := by
  intro pins s σ H x y v u Q I rx ry h
  obtain ⟨rfl, q⟩ := h
  cases ry
  refine is_none_gen (fin_bl I q ?_)
  cases x <;> first
    | (cases rx; rfl)
    | (obtain ⟨t, rfl⟩ := rx; rfl)
/-- is, is not of two objects that are tracked lists or instances -/
def isObj : HO → Bool
  | .lst _ => true
  | .ins _ _ _ => true
  | _ => false
theorem nomark (b : Expr) {op : CmpOp} (h : op ≠ .In := by decide) (h2 : op ≠ .NotIn := by decide) : behindInMarks op b = false := by
  have e1 : (op == CmpOp.In) = false := by cases op <;> first | rfl | exact absurd rfl h
  have e2 : (op == CmpOp.NotIn) = false := by cases op <;> first | rfl | exact absurd rfl h2
  cases b <;> simp [behindInMarks, e1, e2]
/-- a comparison as a value; hm: nomark b, or (for in, not in) by with_unfolding_all rfl -/
theorem pe_cmpR {op : CmpOp} {r : R2} (ho : OpR X (compareOp op) r) (ha : PE X a ta) (hb : PE X b tb) (hm : behindInMarks op b = false) : PE X (.Compare a [op] [b] pos) (tOp r ta tb) := by
  intro pins s σ H Q I h
  exact wpAny_Compare1 (binT ha hb I h fun v u s2 x y H2 I2 rx ry q => ho pins s2 σ H2 x y v u Q I2 rx ry q) hm
/-- a reading of a value as a test -/
def tTest (t : TE) : TT := fun σ H Q => t σ H fun x H' => ∃ k, x = .bl k ∧ Q k H'
theorem pt_cmpR {op : CmpOp} {r : R2} (ho : OpR X (compareOp op) r) (ha : PE X a ta) (hb : PE X b tb) (hm : behindInMarks op b = false) : PT X (.Compare a [op] [b] pos) (tTest (tOp r ta tb)) := by
  intro pins s σ H Q I h
  refine wpAny_isTrue_Compare1 (thn (ha pins s σ H _ I h) fun v s1 ⟨x, H1, I1, r1, q1⟩ => thn (hb pins s1 σ H1 _ I1 q1) fun u s2 ⟨y, H2, I2, r2, q2⟩ =>
    thn (ho pins s2 σ H2 x y v u _ I2 r1 r2 q2) fun c s3 ⟨z, H3, I3, r3, k, e, q3⟩ => ?_) hm
  subst e
  cases r3
  exact wpAny_truthy_bool ⟨H3, I3, q3⟩
/-- a op1 b op2 c -/
def tChain (r r' : R2) (ta tb tc : TE) : TE := fun σ H Q => ta σ H fun x H1 => tb σ H1 fun y H2 => r x y H2 fun z H3 => ∃ k, z = .bl k ∧
  (if k = true then tc σ H3 fun w' H4 => r' y w' H4 Q else Q (.bl false) H3)
theorem pe_chain {op op' : CmpOp} {r r' : R2} (ho : OpR X (compareOp op) r) (ho' : OpR X (compareOp op') r') (ha : PE X a ta) (hb : PE X b tb) (hc : PE X c tc)
    (hm : lastMarks [op, op'] [b, c] = false := by with_unfolding_all rfl) : PE X (.Compare a [op, op'] [b, c] pos) (tChain r r' ta tb tc) := by
  intro pins s σ H Q I h
  refine Compare_chain (thn (ha pins s σ H _ I h) fun v s1 ⟨x, H1, I1, r1, q1⟩ => chain_link (thn (hb pins s1 σ H1 _ I1 q1) fun u s2 ⟨y, H2, I2, r2, q2⟩ =>
    thn (ho pins s2 σ H2 x y v u _ I2 r1 r2 q2) fun d s3 ⟨z, H3, I3, r3, k, e, q3⟩ => ?_)) hm
  subst e
  cases r3
  refine wpAny_truthy_bool ?_
  cases k with
  | false => exact ite_ff ⟨.bl false, H3, I3, rfl, q3⟩
  | true => exact ite_tt (chain_last (thn (hc pins s3 σ H3 _ I3 q3) fun w' s4 ⟨z', H4, I4, r4, q4⟩ => ho' pins s4 σ H4 y z' u w' Q I4 r2 r4 q4))
theorem pt_chain {op op' : CmpOp} {r r' : R2} (ho : OpR X (compareOp op) r) (ho' : OpR X (compareOp op') r') (ha : PE X a ta) (hb : PE X b tb) (hc : PE X c tc)
    (hm : lastMarks [op, op'] [b, c] = false := by with_unfolding_all rfl) : PT X (.Compare a [op, op'] [b, c] pos) (tTest (tChain r r' ta tb tc)) := by
  intro pins s σ H Q I h
  refine isTrue_chain (thn (ha pins s σ H _ I h) fun v s1 ⟨x, H1, I1, r1, q1⟩ => test_link (thn (hb pins s1 σ H1 _ I1 q1) fun u s2 ⟨y, H2, I2, r2, q2⟩ =>
    thn (ho pins s2 σ H2 x y v u _ I2 r1 r2 q2) fun d s3 ⟨z, H3, I3, r3, k, e, q3⟩ => ?_)) hm
  subst e
  cases r3
  refine wpAny_truthy_bool ?_
  cases k with
  | false =>
    obtain ⟨k', e', q'⟩ := q3
    cases e'
    exact ite_ff ⟨H3, I3, q'⟩
  | true =>
    refine ite_tt (test_last (thn (hc pins s3 σ H3 _ I3 q3) fun w' s4 ⟨z', H4, I4, r4, q4⟩ => thn (ho' pins s4 σ H4 y z' u w' _ I4 r2 r4 q4) fun d' s5 ⟨z2, H5, I5, r5, k2, e2, q5⟩ => ?_))
    subst e2
    cases r5
    exact wpAny_truthy_bool ⟨H5, I5, q5⟩

/-! ### truth -/
/-- a value's truth by the abstract heap -/
def TruV (K : PySem.W.Frag) (x : V) (H : Hp) (k : Bool) : Prop :=
  match x with
  | .non => k = false
  | .bl b => k = b
  | .int i => k = (i != 0)
  | .str y => y.length ≤ sizeLine ∧ k = ((y.length : Int) != 0)
  | .byt y => y.size ≤ sizeLine ∧ k = ((y.size : Int) != 0)
  | .ref p => (∃ xs, SqL K H p xs ∧ k = !xs.isEmpty) ∨ (∃ xs, SqT K H p xs ∧ k = !xs.isEmpty) ∨ ∃ kvs, H p = some (.dK kvs) ∧ k = !kvs.isEmpty
  | _ => False
theorem line63 : (sizeLine : Nat) < 2 ^ 63 := by rw [sizeLine_eq]; decide
/-! ### strs and bytes -/
theorem op_add_str : OpR X (binaryOp .Add) (fun x y H Q => ∃ i j, x = .str i ∧ y = .str j ∧ i.length + j.length ≤ sizeLine ∧ Q (.str (i ++ j)) H) := by
  intro pins s σ H x y v u Q I rx ry h
  obtain ⟨i, j, rfl, rfl, hz, q⟩ := h
  obtain ⟨t, rfl⟩ := rx
  obtain ⟨t', rfl⟩ := ry
  exact add_str (fun t' tk => ⟨.str (i ++ j), H, I.tok _, ⟨_, rfl⟩, q⟩) hz
def PlainIxT (b : Expr) : Prop := ∀ o i, subscripted b false o i = operate [o, i] (getItem o i)
/-! ### scalar builtins, by CallR -/
theorem vals1 {x : V} {us : List Value} (r : Vals [x] us) : ∃ u, us = [u] ∧ RelV x u := by
  cases r with
  | cons r1 r2 => cases r2; exact ⟨_, rfl, r1⟩
theorem vals2 {x y : V} {us : List Value} (r : Vals [x, y] us) : ∃ u w', us = [u, w'] ∧ RelV x u ∧ RelV y w' := by
  cases r with
  | cons r1 r2 =>
    cases r2 with
    | cons r3 r4 => cases r4; exact ⟨_, _, rfl, r1, r3⟩
theorem call_max2 (hc : X.calm = true) : CallR X (.builtin "max") (fun xs H Q => ∃ i j, xs = [.int i, .int j] ∧ Q (.int (if j > i then j else i)) H) := by
  intro pins s σ H xs us Q I r h
  obtain ⟨i, j, rfl, q⟩ := h
  obtain ⟨u, w', rfl, ⟨t, rfl⟩, ⟨t', rfl⟩⟩ := vals2 r
  refine max_two_ints (I.ok.hd hc) fun h' tk k => ⟨_, H, I.kept k, ?_, q⟩
  by_cases hj : j > i
  · rw [if_pos hj, if_pos hj]; exact ⟨_, rfl⟩
  · rw [if_neg hj, if_neg hj]; exact ⟨_, rfl⟩
theorem call_min2 (hc : X.calm = true) : CallR X (.builtin "min") (fun xs H Q => ∃ i j, xs = [.int i, .int j] ∧ Q (.int (if j < i then j else i)) H) := by
  intro pins s σ H xs us Q I r h
  obtain ⟨i, j, rfl, q⟩ := h
  obtain ⟨u, w', rfl, ⟨t, rfl⟩, ⟨t', rfl⟩⟩ := vals2 r
  refine min_two_ints (I.ok.hd hc) fun h' tk k => ⟨_, H, I.kept k, ?_, q⟩
  by_cases hj : j < i
  · rw [if_pos hj, if_pos hj]; exact ⟨_, rfl⟩
  · rw [if_neg hj, if_neg hj]; exact ⟨_, rfl⟩
theorem call_int1 : CallR X (.type "int") (fun xs H Q => (∃ i, xs = [.int i] ∧ Q (.int i) H) ∨ ∃ k, xs = [.bl k] ∧ Q (.int (if k then 1 else 0)) H) := by
  intro pins s σ H xs us Q I r h
  rcases h with ⟨i, rfl, q⟩ | ⟨k, rfl, q⟩
  · obtain ⟨u, rfl, t, rfl⟩ := vals1 r
    exact call_int_int ⟨.int i, H, I, ⟨_, rfl⟩, q⟩
  · obtain ⟨u, rfl, r1⟩ := vals1 r
    cases r1
    exact call_int_bool ⟨.int (if k then 1 else 0), H, I.tok _, ⟨_, rfl⟩, q⟩
theorem call_str_int : CallR X (.type "str") (fun xs H Q => ∃ i, xs = [.int i] ∧ i.natAbs.log2 < 1920 ∧ Q (.str (toString i)) H) := by
  intro pins s σ H xs us Q I r h
  obtain ⟨i, rfl, hz, q⟩ := h
  obtain ⟨u, rfl, t, rfl⟩ := vals1 r
  exact PySem.P.str_of_int hz ⟨.str _, H, I.tok _, ⟨_, rfl⟩, q⟩
/-- len of a str, a bytes, a list, a tuple -/
def LenV (K : PySem.W.Frag) (x : V) (H : Hp) (n : Nat) : Prop :=
  match x with
  | .str y => y.length ≤ sizeLine ∧ n = y.length
  | .byt y => y.size ≤ sizeLine ∧ n = y.size
  | .ref p => (∃ xs, SqL K H p xs ∧ n = xs.length) ∨ ∃ xs, SqT K H p xs ∧ n = xs.length
  | _ => False
end
end L2

namespace L2
open PySem PySem.Spec PyProof.Rows

/-! ### an instance, its attributes a map -/
structure ObjM (h : Heap) (x dx C : Addr) (mA : Str → Option Value) : Prop where
  obj : h.get? x = some (PySem.W.instObj C dx)
  ns : h.Ns1 dx mA
  ne : dx ≠ x

theorem lookIn_ns {h : Heap} {dx : Addr} {mA : Str → Option Value} (n : h.Ns1 dx mA) : ∃ od, h.get? dx = some od ∧ ∀ name, PySem.W.lookIn name od = some (mA name) := by
  obtain ⟨o, es, ep, ho, hd, hk, _, hm⟩ := n
  refine ⟨o, ho, fun name => ?_⟩
  have e := hm name
  unfold nsFind findBy at e
  rw [← Array.find?_toList] at e
  unfold PySem.W.lookIn
  rw [hd]
  dsimp only
  split
  · rename_i y q
    rw [q] at e
    exact congrArg some e
  · rename_i q
    rw [q] at e
    have a : es.toList.any (·.refKey) = false := by
      rw [List.any_eq_false]
      intro y hy
      obtain ⟨z, t, hkey⟩ := hk y (Array.mem_toList_iff.mp hy)
      simp [DictEntry.refKey, hkey]
    have a' : ¬ es.toList.any (·.refKey) = true := by rw [a]; exact Bool.false_ne_true
    rw [if_neg a']
    exact congrArg some e

theorem ObjM.look {h : Heap} {x dx C : Addr} {mA : Str → Option Value} (I : ObjM h x dx C mA) : ∃ od, PySem.W.InstAt h x (PySem.W.instObj C dx) C (some od) ∧ ∀ name, PySem.W.lookIn name od = some (mA name) :=
  let ⟨od, ho, hl⟩ := lookIn_ns I.ns
  ⟨od, ⟨I.obj, rfl, rfl, ho⟩, hl⟩

section
variable {prog : Program} {w : World} {A : Around} {E : Value → Shared → Prop} {s : Shared} {K : PySem.W.Frag} {x dx C f : Addr} {mA : Str → Option Value} {name : Str} {v : Value}

theorem get_meth {pl : Sem Bool} {Q : Value × List Value → Shared → Prop} (X : K.In s.heap) (I : ObjM s.heap x dx C mA) (hg : PySem.W.plainGet K C name = true)
    (hf : PySem.W.findIn K (.ref C) name = some (some (.ref f))) (ht : PySem.W.isFn K (.ref f) = true) (hv : mA name = none) (h : Q (.ref f, [.ref x]) s) :
    wpAny (model prog w) A (getMethod (.ref x) name pl) Q E s := by
  obtain ⟨od, J, hl⟩ := I.look
  exact PySem.W.method_fn X J (PySem.W.plainGet_of hg).1 (PySem.W.plainGet_of hg).2 hf (beq_iff_eq.mp ht) (by show (PySem.W.lookIn name od).map (·.isSome) = some false; rw [hl, hv]; rfl) h

theorem set_map {ns : List Str} {Q : Unit → Shared → Prop} (X : K.In s.heap) (I : ObjM s.heap x dx C mA)
    (hs : PySem.W.findIn K (.ref C) "__setattr__" = some (some (.builtin "object.__setattr__"))) (hp : PySem.W.plainOver K C = true) (ht : PySem.W.takerIn K C name = some none) (hh : PySem.W.hasDictIn K C = true)
    (hw : PySem.Within mA ns) (hsz : ns.length ≤ sizeLine)
    (h : ∀ h', ObjM h' x dx C (fun y => if y = name then some v else mA y) → Heap.SameBut dx s.heap h' → Q () { s with heap := h', toks := s.toks + 2 }) :
    wpAny (model prog w) A (setAttr (.ref x) name v) Q E s := by
  obtain ⟨od, J, hl⟩ := I.look
  refine PySem.W.set_plain X J hs (PySem.W.osa_open (s := { s with toks := s.toks + 1 }) (r := none) X J hp ht fun b => ?_)
  obtain ⟨cd, hc, hd'⟩ := PySem.W.any_some hh
  have hx : s.heap.get? x = some ⟨.ref C, some dx, .plain, #[]⟩ := I.obj
  refine wpAny_bind (wpAny_pure (wpAny_bind (wpAny_bind (wpAny_loadPart hx (wpAny_bind (PySem.W.Looks.here (s := { s with toks := s.toks + 1 }) (PySem.W.looks_clsIn X hc) ?_))))))
  rw [hd']
  refine wpAny_pure (a := some dx) (wpAny_bind (wpAny_pure (wpAny_bind ?_)))
  refine wpAny_nsSet1 (s := { s with toks := s.toks + 1 }) I.ns fun h' hn2 hs2 => ?_
  obtain ⟨oD, esD, epD, hoD, hdD, hcD⟩ := hn2.count (PySem.Within.cons name v hw)
  refine wpAny_bind (wpAny_lookBehind hoD (by rw [hdD]; exact pastItsLine_dict (Nat.le_trans hcD (by rw [List.length_cons]; omega))) ?_)
  exact wpAny_pure (h _ ⟨(hs2.2 _ (Ne.symm I.ne)).trans I.obj, hn2, I.ne⟩ hs2)

/-- C(..): the dict at the heap's end, the instance behind it; then its __init__ -/
theorem make_map {R : Result → Shared → Prop} {vs : List Value} {kw : List (Str × Value)} (X : K.In s.heap) (hm : PySem.W.makesIn K C = true)
    (hi : PySem.W.findIn K (.ref C) "__init__" = some (some (.ref f))) (hf : PySem.W.typeIn K (.ref f) = some (.type "function"))
    (h : codeAny (model prog w) (A.under (.builtin "type.__call__" ⟨.ref C :: vs, kw⟩)) (.call (.ref f) ⟨.ref (s.heap.objs.size + 1) :: vs, kw⟩) (PySem.W.InitBack (s.heap.objs.size + 1) R)
      { s with heap := (s.heap.push PySem.W.emptyDict).push (PySem.W.instObj C s.heap.objs.size) }) :
    codeAny (model prog w) A (.call (.ref C) ⟨vs, kw⟩) R s := by
  obtain ⟨hh, g, d, t, os⟩ := s
  exact PySem.W.make_core (PySem.W.makes_of X hm) (PySem.W.looks_findIn X hi) (fun self => PySem.W.bind_fn X self hf) (.inl rfl) h
end

/-! ### the attributes as a list of pairs -/
def putF (f : Str) (v : V) : List (Str × V) → List (Str × V)
  | [] => [(f, v)]
  | (g, x) :: r => if g = f then (g, v) :: r else (g, x) :: putF f v r
theorem lookup_putF (f g : Str) (v : V) : ∀ fs : List (Str × V), (putF f v fs).lookup g = if g = f then some v else fs.lookup g
  | [] => by
    show List.lookup g [(f, v)] = _
    by_cases h : g = f
    · have hb : (g == f) = true := beq_iff_eq.mpr h
      simp only [List.lookup, hb, if_pos h]
    · have hb : (g == f) = false := beq_eq_false_iff_ne.mpr h
      simp only [List.lookup, hb, if_neg h]
  | (k, x) :: r => by
    have ih := lookup_putF f g v r
    rw [show putF f v ((k, x) :: r) = (if k = f then (k, v) :: r else (k, x) :: putF f v r) from rfl]
    by_cases hk : k = f
    · rw [if_pos hk]
      by_cases h : g = k
      · have hb : (g == k) = true := beq_iff_eq.mpr h
        simp only [List.lookup, hb, if_pos (h.trans hk)]
      · have hb : (g == k) = false := beq_eq_false_iff_ne.mpr h
        simp only [List.lookup, hb, if_neg (fun e : g = f => h (e.trans hk.symm))]
    · rw [if_neg hk]
      by_cases h : g = k
      · have hb : (g == k) = true := beq_iff_eq.mpr h
        simp only [List.lookup, hb, if_neg (fun e : g = f => hk (h.symm.trans e))]
      · have hb : (g == k) = false := beq_eq_false_iff_ne.mpr h
        simp only [List.lookup, hb]
        exact ih
theorem keys_putF (f : Str) (v : V) : ∀ fs : List (Str × V), f ∈ (putF f v fs).map (·.1) ∧ ∀ g, g ∈ fs.map (·.1) → g ∈ (putF f v fs).map (·.1)
  | [] => ⟨by simp [putF], fun g h => by simp at h⟩
  | (k, x) :: r => by
    obtain ⟨i1, i2⟩ := keys_putF f v r
    rw [show putF f v ((k, x) :: r) = (if k = f then (k, v) :: r else (k, x) :: putF f v r) from rfl]
    by_cases hk : k = f
    · rw [if_pos hk]
      subst hk
      exact ⟨by simp, fun g h => by simpa using h⟩
    · rw [if_neg hk]
      refine ⟨?_, fun g h => ?_⟩
      · rw [List.map_cons]
        exact List.mem_cons_of_mem _ i1
      · rw [List.map_cons] at h ⊢
        rcases List.mem_cons.mp h with e | e
        · exact List.mem_cons.mpr (.inl e)
        · exact List.mem_cons_of_mem _ (i2 g e)
theorem length_putF (f : Str) (v : V) : ∀ fs : List (Str × V), (putF f v fs).length ≤ fs.length + 1
  | [] => by simp [putF]
  | (k, x) :: r => by
    have ih := length_putF f v r
    rw [show putF f v ((k, x) :: r) = (if k = f then (k, v) :: r else (k, x) :: putF f v r) from rfl]
    by_cases hk : k = f
    · rw [if_pos hk, List.length_cons, List.length_cons]; omega
    · rw [if_neg hk, List.length_cons, List.length_cons]; omega

theorem RelO.none_of {o : Option Value} (r : RelO none o) : o = none := by
  cases o with
  | none => rfl
  | some u => exact (show False from r).elim
theorem handed_of {v : V} {u : Value} (r : RelV v u) : PySem.W.handedIn u = true := by
  cases v with
  | non => cases (show u = Value.none from r); rfl
  | bl b => cases (show u = Value.bool b from r); rfl
  | int i => obtain ⟨t, e⟩ := (show ∃ t, u = Value.int i t from r); cases e; rfl
  | str x => obtain ⟨t, e⟩ := (show ∃ t, u = Value.str x t from r); cases e; rfl
  | byt b => obtain ⟨t, e⟩ := (show ∃ t, u = Value.bytes b t from r); cases e; rfl
  | flt b => obtain ⟨t, e⟩ := (show ∃ t, u = Value.float b t from r); cases e; rfl
  | ref a => cases (show u = Value.ref a from r); rfl
  | ty n => cases (show u = Value.type n from r); rfl

section
variable {P : Program} {w : World} {H H' : Hp} {h h' : Heap} {a C dx : Addr} {fs fs' : List (Str × V)}
theorem ins_get (hok : HOk P w H h) (e : H a = some (.ins C dx fs)) : ∃ mA, ObjM h a dx C mA ∧ (∀ f, RelO (fs.lookup f) (mA f)) ∧ PySem.Within mA (fs.map (·.1)) ∧ fs.length ≤ 1000 ∧ H dx = some (.own a) := by
  obtain ⟨d, z, ne, ob, mA, n, r, q⟩ := (show ObjOk P w H h a (.ins C dx fs) from hok a _ e)
  exact ⟨mA, ⟨ob, n, ne⟩, r, q, z, d⟩
end

/-! ### what of the text a class must have -/
structure Cls (K : PySem.W.Frag) (C : Addr) : Prop where
  pg : PySem.W.plainGet K C Str.empty = true
  hd : PySem.W.hasDictIn K C = true
  po : PySem.W.plainOver K C = true
  sa : PySem.W.findIn K (.ref C) "__setattr__" = some (some (.builtin "object.__setattr__"))
theorem Cls.get {K : PySem.W.Frag} {C : Addr} (c : Cls K C) (f : Str) : PySem.W.plainGet K C f = true := c.pg
/-- no class of it has the name -/
def NoAttr (K : PySem.W.Frag) (C : Addr) (f : Str) : Prop := PySem.W.findIn K (.ref C) f = some none
theorem NoAttr.taker {K : PySem.W.Frag} {C : Addr} {f : Str} (n : NoAttr K C f) : PySem.W.takerIn K C f = some none := by
  unfold PySem.W.takerIn
  rw [show PySem.W.findIn K (.ref C) f = some none from n]
  rfl
/-- a constant of the class -/
structure Con (K : PySem.W.Frag) (C : Addr) (f : Str) (v : V) (u : Value) : Prop where
  at_ : PySem.W.findIn K (.ref C) f = some (some u)
  rel : RelV v u
  get : PySem.W.specialIn K u "__get__" = some none
  cp : PySem.W.copiedNames.contains f = false
/-- a method: a plain def of the class or of one above it -/
structure Meth (K : PySem.W.Frag) (C : Addr) (m : Str) (f : Addr) : Prop where
  at_ : PySem.W.findIn K (.ref C) m = some (some (.ref f))
  fn : PySem.W.isFn K (.ref f) = true
  kp : PySem.W.keepIn K (.ref f) = true

section
variable {X : Cx} {pins : List (Addr × Obj)} {σ : St} {H : Hp} {s : Shared} {a C dx : Addr} {fs : List (Str × V)} {f : Str} {v : V} {A : Around} {E : Value → Shared → Prop}

theorem getmeth_ok {m : Str} {g : Addr} {pl : Sem Bool} {Q : Value × List Value → Shared → Prop} (I : Inv X pins σ H s) (e : H a = some (.ins C dx fs)) (c : Cls X.K C) (k : Meth X.K C m g) (l : fs.lookup m = none)
    (h : Q (.ref g, [.ref a]) s) : wpAny (model X.prog X.w) A (getMethod (.ref a) m pl) Q E s := by
  obtain ⟨mA, O, r, _, _, _⟩ := ins_get I.hok e
  have hn : mA m = none := RelO.none_of (by rw [← l]; exact r m)
  exact get_meth I.kIn O (c.get m) k.at_ k.fn hn h

theorem setattr_ok {y : V} {u : Value} {Q : Unit → Shared → Prop} (I : Inv X pins σ H s) (e : H a = some (.ins C dx fs)) (c : Cls X.K C) (n : NoAttr X.K C f) (hl : fs.length < 1000) (ry : RelV y u)
    (h : ∀ s', Inv X pins σ (upd H a (.ins C dx (putF f y fs))) s' → Q () s') : wpAny (model X.prog X.w) A (setAttr (.ref a) f u) Q E s := by
  obtain ⟨mA, O, r, wi, _, ho⟩ := ins_get I.hok e
  have hz : (fs.map (·.1)).length ≤ sizeLine := by rw [List.length_map, sizeLine_eq]; omega
  refine set_map I.kIn O c.sa c.po n.taker c.hd wi hz fun h' O' sb => h _ ?_
  have hd : ∃ o, h'.get? dx = some o := let ⟨o, _, _, e', _⟩ := O'.ns; ⟨o, e'⟩
  refine I.write (x := a) (e := dx) (by rw [e]; exact True.intro) (.inr ho) (fun b q hb z => (sb.2 b hb).trans z) hd ?_
  refine ⟨by rw [upd_ne O.ne]; exact ho, ?_, O.ne, O'.obj, _, O'.ns, fun g => ?_, fun g hg => ?_⟩
  · have := length_putF f y fs; omega
  · show RelO ((putF f y fs).lookup g) (if g = f then some u else mA g)
    rw [lookup_putF]
    by_cases q : g = f
    · rw [if_pos q, if_pos q]; exact ry
    · rw [if_neg q, if_neg q]; exact r g
  · by_cases q : g = f
    · rw [q]; exact (keys_putF f y fs).1
    · refine (keys_putF f y fs).2 g (wi g fun z => hg ?_)
      show (if g = f then some u else mA g) = none
      rw [if_neg q]; exact z

/-- a new instance, tracked, without attributes -/
theorem Inv.made (I : Inv X pins σ H s) : Inv X pins σ (upd (upd H s.heap.objs.size (.own (s.heap.objs.size + 1))) (s.heap.objs.size + 1) (.ins C s.heap.objs.size []))
    { s with heap := (s.heap.push PySem.W.emptyDict).push (PySem.W.instObj C s.heap.objs.size) } := by
  have e1 : (s.heap.push PySem.W.emptyDict).get? s.heap.objs.size = some PySem.W.emptyDict := Heap.get?_push_size s.heap rfl
  have e2 : ((s.heap.push PySem.W.emptyDict).push (PySem.W.instObj C s.heap.objs.size)).get? (s.heap.objs.size + 1) = some (PySem.W.instObj C s.heap.objs.size) := by
    have := Heap.get?_push_size (s.heap.push PySem.W.emptyDict) (o := PySem.W.instObj C s.heap.objs.size) rfl
    rwa [Heap.size_push] at this
  have e3 : (s.heap.push PySem.W.emptyDict).Ns s.heap.objs.size (fun _ => none) := ⟨PySem.W.emptyDict, #[], _, e1, rfl, (fun e he => absurd he (by simp)), fun _ => rfl⟩
  have I1 := I.laid (a := s.heap.objs.size) (o := .own (s.heap.objs.size + 1)) (h' := s.heap.push PySem.W.emptyDict) (t' := s.toks) (fun b u q => Heap.get?_push_of_some _ q) (Nat.le_refl _) ⟨_, e1⟩
  refine I1.laid (a := s.heap.objs.size + 1) (o := .ins C s.heap.objs.size []) (t' := s.toks) (fun b u q => Heap.get?_push_of_some _ q) (Nat.le_of_eq (Heap.size_push _ _)) ?_
  have ne : s.heap.objs.size ≠ s.heap.objs.size + 1 := Nat.ne_of_lt (Nat.lt_succ_self _)
  refine ⟨by rw [upd_ne ne, upd_same], Nat.zero_le _, ne, e2, fun _ => none, (Heap.Ns1.of_empty e3).at fun o q => Heap.get?_push_of_some _ q, fun _ => True.intro, fun y hy => absurd rfl hy⟩

/-- e.f where nothing but the object is asked: through attributeBase (super) and the last hold -/
theorem attr_of {prog : Program} {w : World} {env : Env} {e : Expr} {f : Str} {pos : Pos} {s : Shared} {Q : Value → Shared → Prop} (hb : attributeBase e f env (eval e env) = eval e env)
    (h : wpAny (model prog w) A (eval e env) (fun o s₁ => wpAny (model prog w) A (getAttr o f true) Q E s₁) E s) : wpAny (model prog w) A (eval (.Attribute e f pos) env) Q E s :=
  Attribute_any_ h (by rw [arm_eval_Attribute, hb])
end

/-! ### readings and rules -/
/-- e.f, an attribute of the instance -/
def tFld (K : PySem.W.Frag) (ta : TE) (f : Str) : TE := fun σ H Q => ta σ H fun x H1 => ∃ a C dx fs v, x = .ref a ∧ H1 a = some (.ins C dx fs) ∧ Cls K C ∧ NoAttr K C f ∧ fs.lookup f = some v ∧ Q v H1
/-- e.f, a constant of the class -/
def tCon (K : PySem.W.Frag) (ta : TE) (f : Str) : TE := fun σ H Q => ta σ H fun x H1 => ∃ a C dx fs v u, x = .ref a ∧ H1 a = some (.ins C dx fs) ∧ Cls K C ∧ Con K C f v u ∧ fs.lookup f = none ∧ Q v H1
/-- e.f = value -/
def sFld (K : PySem.W.Frag) (ta tv : TE) (f : Str) : TS := fun D σ H => tv σ H fun y H1 => ta σ H1 fun x H2 => ∃ a C dx fs, x = .ref a ∧ H2 a = some (.ins C dx fs) ∧ Cls K C ∧ NoAttr K C f ∧ fs.length < 1000 ∧
  D.nx σ (upd H2 a (.ins C dx (putF f y fs)))
/-- an augmented operator on two values -/
def InOp (X : Cx) (op : Operator) (rd : V → V → Hp → VK → Prop) : Prop :=
  ∀ (pins : List (Addr × Obj)) (s : Shared) (σ : St) (H : Hp) (x y : V) (u v : Value) (Q : VK), Inv X pins σ H s → RelV x u → RelV y v → rd x y H Q → wpAny (model X.prog X.w) X.A (inplaceOp op u v) (EP X pins σ Q) X.xe s
/-- e.f op= value -/
def sFldAug (K : PySem.W.Frag) (ta tv : TE) (rd : V → V → Hp → VK → Prop) (f : Str) : TS := fun D σ H => ta σ H fun x H1 => ∃ a C dx fs v, x = .ref a ∧ H1 a = some (.ins C dx fs) ∧ Cls K C ∧ NoAttr K C f ∧ fs.lookup f = some v ∧
  tv σ H1 fun y H2 => rd v y H2 fun z H3 => ∃ dx' fs', H3 a = some (.ins C dx' fs') ∧ fs'.length < 1000 ∧ D.nx σ (upd H3 a (.ins C dx' (putF f z fs')))

section
variable {X : Cx} {o e value : Expr} {f : Str} {pos pos' tpos : Pos} {ta tv : TE}
theorem ps_fld (ha : PE X o ta) (hv : PE X value tv) (hs : swapsWith value (some (.Attribute o f pos')) pos.line X.env = pure false) : PS X (.Assign [.Attribute o f pos'] value pos) (sFld X.K ta tv f) := by
  intro pins s σ H D I h
  refine plainObj_wpAny_Assign_Attribute (thn (hv pins s σ H _ I h) fun u s1 ⟨y, H1, I1, ry, q⟩ => thn (ha pins s1 σ H1 _ I1 q) fun ov s2 ⟨x, H2, I2, rx, a, C, dx, fs, ex, ea, c, n, l, q2⟩ => ?_) hs
  subst ex
  obtain rfl : ov = Value.ref a := rx
  exact setattr_ok I2 ea c n l ry fun s3 I3 => ⟨σ, _, I3, q2⟩
def rAdd : V → V → Hp → VK → Prop := fun x y H Q => ∃ i j, x = .int i ∧ y = .int j ∧ Q (.int (i + j)) H
def rSub : V → V → Hp → VK → Prop := fun x y H Q => ∃ i j, x = .int i ∧ y = .int j ∧ Q (.int (i - j)) H
/-- what is between an instance and its method: the tree of a method call -/
theorem methcall_of {pl : Sem Bool} {m : Str} {apos : Pos} {args : List Expr} {pins : List (Addr × Obj)} {s : Shared} {σ : St} {H : Hp} {Q : Value → Shared → Prop} {te : TE} (he : PE X e te) (I : Inv X pins σ H s)
    (h : te σ H fun x H1 => ∃ a C dx fs g, x = .ref a ∧ H1 a = some (.ins C dx fs) ∧ Cls X.K C ∧ Meth X.K C m g ∧ fs.lookup m = none ∧
      ∀ s1, Inv X pins σ H1 s1 → wpAny (model X.prog X.w) X.A (callWith pos (.ref g) [.ref a] (backTo pos (starEach args X.env)) (backToKw pos (keywordEach [] X.env))) Q X.xe s1)
    (ht : eval (.Call (.Attribute e m apos) args [] pos) X.env = (do
      let ov ← eval e X.env
      standAt apos.atName
      let (f, first) ← holding [ov] (getMethod ov m pl)
      callWith pos f first (backTo pos (starEach args X.env)) (backToKw pos (keywordEach [] X.env)))) :
    wpAny (model X.prog X.w) X.A (eval (.Call (.Attribute e m apos) args [] pos) X.env) Q X.xe s := by
  refine PySem.W.methodCall_KW (pl := pl) (thn (he pins s σ H _ I h) fun u s1 ⟨x, H1, I1, rx, a, C, dx, fs, g, ex, ea, c, k, l, q⟩ => ?_) ht
  subst ex
  obtain rfl : u = Value.ref a := rx
  exact getmeth_ok I1 ea c k l (q s1 I1)
end

/-! ### isinstance -/
section
variable {X : Cx} {pins : List (Addr × Obj)} {σ : St} {H : Hp} {s : Shared} {A : Around} {E : Value → Shared → Prop} {Q : Value → Shared → Prop} {c : Value} {b : Bool}
/-- the type of a value, as the fragment's deciders take it; for an instance its class -/
inductive TyOf (K : PySem.W.Frag) (H : Hp) : V → Value → Prop where
  | non : TyOf K H .non (.type "NoneType")
  | bl (x : Bool) : TyOf K H (.bl x) (.type "bool")
  | int (i : Int) : TyOf K H (.int i) (.type "int")
  | str (x : Str) : TyOf K H (.str x) (.type "str")
  | flt (x : UInt64) : TyOf K H (.flt x) (.type "float")
  | lst {a : Addr} {xs : List V} (e : H a = some (.lst xs)) : TyOf K H (.ref a) (.type "list")
  | frz {a : Addr} {o : Obj} {xs : List V} (e : H a = some (.frz o (.lst xs))) : TyOf K H (.ref a) (.type "list")
  | tup {a : Addr} {xs : List V} (e : H a = some (.tup xs)) : TyOf K H (.ref a) (.type "tuple")
  | dK {a : Addr} {kvs : List (Key × V)} (e : H a = some (.dK kvs)) : TyOf K H (.ref a) (.type "dict")
  | dT {a : Addr} {kvs : List (List Key × V)} (e : H a = some (.dT kvs)) : TyOf K H (.ref a) (.type "dict")
  | ins {a C dx : Addr} {fs : List (Str × V)} (e : H a = some (.ins C dx fs)) (cl : Cls K C) (ha : PySem.W.findIn K (.ref C) "__class__" = some (some (.builtin "object.__class__")))
      (hn : PySem.W.specialIn K (.builtin "object.__class__") "__get__" = some (some (.builtin "getset_descriptor.__get__"))) (htk : PySem.W.takesIn K (.builtin "object.__class__") = some true)
      (hm : PySem.W.mroIn K C (.type "object") = some true) : TyOf K H (.ref a) (.ref C)
/-- isinstance(x, c) for one class c, a built-in or an own one: kitOne's answer -/
theorem isinst_ok {x : V} {u t : Value} (I : Inv X pins σ H s) (rx : RelV x u) (ty : TyOf X.K H x t) (e : PySem.W.kitOne X.K t c = some b) (h : ∀ tk, Q (.bool b) { s with toks := tk }) :
    wpAny (model X.prog X.w) A (call (.builtin "isinstance") [u, c]) Q E s := by
  cases ty with
  | non => cases (show u = Value.none from rx); exact PySem.W.kia_one PySem.W.kitx_none I.kIn True.intro e (fun z => nomatch z) h
  | bl y => cases (show u = Value.bool y from rx); exact PySem.W.kia_one PySem.W.kitx_bool I.kIn True.intro e (fun z => nomatch z) h
  | int i => obtain ⟨t, q⟩ := (show ∃ t, u = Value.int i t from rx); cases q; exact PySem.W.kia_one PySem.W.kitx_int I.kIn True.intro e (fun z => nomatch z) h
  | str y => obtain ⟨t, q⟩ := (show ∃ t, u = Value.str y t from rx); cases q; exact PySem.W.kia_one PySem.W.kitx_str I.kIn True.intro e (fun z => nomatch z) h
  | flt y => obtain ⟨t, q⟩ := (show ∃ t, u = Value.float y t from rx); cases q; exact PySem.W.kia_one PySem.W.kitx_float I.kIn True.intro e (fun z => nomatch z) h
  | @lst a xs ea =>
    cases (show u = Value.ref a from rx)
    obtain ⟨_, _, n, _, h1⟩ := (show ObjOk X.prog X.w H s.heap a (.lst xs) from I.hok a _ ea)
    exact PySem.W.kia_one PySem.W.kitx_list I.kIn ⟨_, h1, rfl⟩ e (fun z => nomatch z) h
  | @frz a ob xs ea =>
    cases (show u = Value.ref a from rx)
    obtain ⟨_, _, _, n, _, h1⟩ := (show ObjOk X.prog X.w H s.heap a (.frz ob (.lst xs)) from I.hok a _ ea)
    exact PySem.W.kia_one PySem.W.kitx_list I.kIn ⟨_, h1, rfl⟩ e (fun z => nomatch z) h
  | @tup a xs ea =>
    cases (show u = Value.ref a from rx)
    obtain ⟨_, _, _, p⟩ := (show ObjOk X.prog X.w H s.heap a (.tup xs) from I.hok a _ ea)
    obtain ⟨o, h1, h2, _⟩ := p
    exact PySem.W.kia_one PySem.W.kitx_tuple I.kIn ⟨o, h1, h2⟩ e (fun z => nomatch z) h
  | @dK a kvs ea =>
    cases (show u = Value.ref a from rx)
    obtain ⟨_, _, vs, _, p⟩ := (show ObjOk X.prog X.w H s.heap a (.dK kvs) from I.hok a _ ea)
    obtain ⟨o, es, ep, h1, h2, _⟩ := p
    exact PySem.W.kia_one PySem.W.kitx_dict I.kIn ⟨o, h1, h2.1⟩ e (fun z => nomatch z) h
  | @dT a kvs ea =>
    cases (show u = Value.ref a from rx)
    obtain ⟨_, _, xs, _, o, es, ep, h1, h2, _⟩ := (show ObjOk X.prog X.w H s.heap a (.dT kvs) from I.hok a _ ea)
    exact PySem.W.kia_one PySem.W.kitx_dict I.kIn ⟨o, h1, h2.1⟩ e (fun z => nomatch z) h
  | @ins a C dx fs ea cl ha hn htk hm =>
    cases (show u = Value.ref a from rx)
    obtain ⟨mA, O, _⟩ := ins_get I.hok ea
    obtain ⟨od, J, _⟩ := O.look
    exact PySem.W.kia_one (PySem.W.kitx_own (cl.get _) cl.hd ha hn htk hm) I.kIn J e (fun z => nomatch z) h
end
end L2

namespace L2
open PySem PySem.Spec PyProof.Rows

/-! ### room -/
structure Room (k : Nat) (A : Around) : Prop where
  hd : A.handled = none
  dp : A.depth + 3 * k + 5 < recursionLimit
  un : A.units + 16 * k + 200 < cLine
theorem Room.mono {j k : Nat} {A : Around} (r : Room k A) (h : j ≤ k) : Room j A := ⟨r.hd, by have := r.dp; omega, by have := r.un; omega⟩
theorem Room.deeper {k : Nat} {A : Around} (r : Room (k + 1) A) (env : Env) : Room k (A.deeper env) :=
  ⟨r.hd, by have := r.dp; show A.depth + 1 + 3 * k + 5 < _; omega, by have := r.un; show A.units + 3 + 16 * k + 200 < _; omega⟩
theorem make_depth {A : Around} {C : Addr} {us : List Value} {kw : List (Str × Value)} : (A.under (.builtin "type.__call__" ⟨.ref C :: us, kw⟩)).depth = A.depth + 1 := by
  first | rfl | simp [Around.under, Code.weight, Code.isCreation, Code.isGuard, Code.isCaller, Code.frames, Code.isFrame, guardIds]
theorem make_units {A : Around} {C : Addr} {us : List Value} {kw : List (Str × Value)} : (A.under (.builtin "type.__call__" ⟨.ref C :: us, kw⟩)).units = A.units + 1 := by
  first | rfl | simp [Around.under, Code.cUnits, Code.frames, Code.isFrame]
theorem Room.make {k : Nat} {A : Around} (r : Room (k + 1) A) (C : Addr) (us : List Value) (kw : List (Str × Value)) : Room k (A.under (.builtin "type.__call__" ⟨.ref C :: us, kw⟩)) :=
  ⟨r.hd, by have := r.dp; rw [make_depth]; omega, by have := r.un; rw [make_units]; omega⟩
theorem Room.depth {k : Nat} {A : Around} (r : Room k A) : A.depth < recursionLimit := by have := r.dp; omega
theorem Room.units {k : Nat} {A : Around} (r : Room k A) : A.units + 64 < cLine := by have := r.un; omega
theorem Room.units0 {k : Nat} {A : Around} (r : Room k A) : A.units < cLine := by have := r.un; omega

/-! ### argument lists and displays -/
def tNil : TA := fun _ H Q => Q [] H
def tCons (ta : TE) (tr : TA) : TA := fun σ H Q => ta σ H fun x H1 => tr σ H1 fun xs H2 => Q (x :: xs) H2
section
variable {X : Cx} {e : Expr} {es : List Expr} {te : TE} {t : TA} {pos : Pos}
theorem pa_nil : PA X [] tNil := fun _ _ _ _ H Q I h => Calls.spliced_nil ⟨[], H, I, .nil, h⟩
theorem pa_cons (ha : PE X e te) (hr : PA X es t) (hs : starEach (e :: es) X.env = (false, eval e X.env) :: starEach es X.env := by rfl) : PA X (e :: es) (tCons te t) := by
  intro pos pins s σ H Q I h
  rw [hs]
  show wpAny _ _ (spliced ((false, eval e X.env) :: backTo pos (starEach es X.env))) _ _ s
  refine Calls.spliced_cons (thn (ha pins s σ H _ I h) fun u s1 ⟨x, H1, I1, r1, q1⟩ => ?_)
  exact thn (hr pos pins s1 σ H1 _ I1 q1) fun us s2 ⟨xs, H2, I2, r2, q2⟩ => ⟨x :: xs, H2, I2, .cons r1 r2, q2⟩

/-- a tuple, a list of written items -/
def tTup (t : TA) : TE := fun σ H Q => t σ H fun xs H1 => xs.length ≤ sizeLine ∧ ∀ p, H1 p = none → Q (.ref p) (upd H1 p (.tup xs))
def tLst (t : TA) : TE := fun σ H Q => t σ H fun xs H1 => xs.length ≤ sizeLine ∧ ∀ p, H1 p = none → Q (.ref p) (upd H1 p (.lst xs))
theorem pe_tup {x1} (h : PA X es t) : PE X (.Tuple es x1 pos) (tTup t) := by
  intro pins s σ H Q I hq
  refine wpAny_Tuple_spliced (thn (h pos pins s σ H _ I hq) fun us s1 ⟨xs, H1, I1, r, z, q⟩ => ⟨by rw [← r.length]; exact z, ?_⟩)
  have hf : H1 s1.heap.objs.size = none := I1.hok.fresh (Nat.le_refl _)
  refine ⟨.ref s1.heap.objs.size, upd H1 s1.heap.objs.size (.tup xs), I1.laid (t' := s1.toks) (fun b u e => Heap.get?_push_of_some _ e) (Nat.le_refl _) ?_, rfl, q _ hf⟩
  exact ⟨z, us, r, ⟨_, Heap.get?_push_size _ rfl, rfl, _, rfl⟩⟩
theorem pe_lst (h : PA X es t) : PE X (.List es pos) (tLst t) := by
  intro pins s σ H Q I hq
  refine wpAny_List_spliced (thn (h pos pins s σ H _ I hq) fun us s1 ⟨xs, H1, I1, r, z, q⟩ => ⟨by rw [← r.length]; exact z, ?_⟩)
  have hf : H1 s1.heap.objs.size = none := I1.hok.fresh (Nat.le_refl _)
  refine ⟨.ref s1.heap.objs.size, upd H1 s1.heap.objs.size (.lst xs), I1.laid (t' := s1.toks) (fun b u e => Heap.get?_push_of_some _ e) (Nat.le_refl _) ?_, rfl, q _ hf⟩
  exact ⟨z, us, 0, r, Heap.get?_push_size _ rfl⟩
end

/-! ### what a def promises -/
/-- a def's promise: the bound arguments in the parameters' order, the heap, the wanted end, the wanted exception -/
abbrev Sp := List V → Hp → VK → XK → Prop
/-- how an exception lies behind a call (file 08 gives it): the callers' frames, abstract heap and state ahead of the call, the wish, the exception, the state -/
abbrev CXT := List Env → Hp → Shared → XK → Value → Shared → Prop

/-- the state at a call -/
structure Env0 (P : Program) (w : World) (K : PySem.W.Frag) (mg : Str → Option Value) (base : Heap) (A : Around) (outer : List Env) (s : Shared) (H : Hp) : Prop where
  frames : A.frames = some outer
  mod : Mod K mg base
  bs : ∀ b o, base.get? b = some o → s.heap.get? b = some o ∧ H b = none
  bsz : base.objs.size ≤ s.heap.objs.size
  funs : s.heap.FunFrames base outer
  frf : ∀ b ∈ frs outer, H b = none
  hok : HOk P w H s.heap
  bare : AllBare s.gens
/-- a call's end -/
def CE (outer : List Env) (P : Program) (w : World) (H : Hp) (s : Shared) (Q : VK) (u : Value) (s' : Shared) : Prop :=
  ∃ v H', s'.os = s.os ∧ AllBare s'.gens ∧ Un (frs outer) [] H H' s.heap s'.heap ∧ HOk P w H' s'.heap ∧ RelV v u ∧ Q v H'
def CR (CX : CXT) (outer : List Env) (P : Program) (w : World) (H : Hp) (s : Shared) (Q : VK) (E : XK) (r : Result) (s' : Shared) : Prop :=
  match r with
  | .ok (.ret u) => CE outer P w H s Q u s'
  | .ok _ => False
  | .error e => CX outer H s E e s'
structure FnOk (P : Program) (w : World) (K : PySem.W.Frag) (mg : Str → Option Value) (base : Heap) (CX : CXT) (k : Nat) (f : Addr) (fd : FuncData) (ps : List Str) (sp : Sp) : Prop where
  len : ∀ vs H Q E, sp vs H Q E → vs.length = ps.length
  run : ∀ (A : Around) (outer : List Env) (s : Shared) (H : Hp) (args : Args) (us : List Value) (vs : List V) (Q : VK) (E : XK), Room k A → Env0 P w K mg base A outer s H → BindsTo s fd args (ps.zip us) → Vals vs us → sp vs H Q E →
    codeAny (model P w) A (.call (.ref f) args) (CR CX outer P w H s Q E) s
theorem Env0.make {P : Program} {w : World} {K : PySem.W.Frag} {mg : Str → Option Value} {base : Heap} {A : Around} {outer : List Env} {s : Shared} {H : Hp} (e : Env0 P w K mg base A outer s H) (C : Addr) (us : List Value) (kw : List (Str × Value)) :
    Env0 P w K mg base (A.under (.builtin "type.__call__" ⟨.ref C :: us, kw⟩)) outer s H := ⟨by first | exact e.frames | (simpa [Around.under, Code.envs, Code.isFrame, pushEnvs] using e.frames), e.mod, e.bs, e.bsz, e.funs, e.frf, e.hok, e.bare⟩
section
variable {X : Cx} {pins : List (Addr × Obj)} {σ : St} {H : Hp} {s s' : Shared}
/-- from a body: what a callee wants -/
theorem Inv.env0 (I : Inv X pins σ H s) : Env0 X.prog X.w X.K X.mg X.base X.A X.stack s H :=
  ⟨I.ok.frames, I.ok.mod, I.bs, Nat.le_trans I.ok.bsz I.sz, I.stack, I.stkFree, I.hok, I.bare⟩
/-- behind a call -/
theorem Inv.after {Q : VK} {u : Value} (I : Inv X pins σ H s) (h : CE X.stack X.prog X.w H s Q u s') : EP X pins σ Q u s' := by
  obtain ⟨v, H', os, bare, un, hok, r, q⟩ := h
  obtain ⟨hh, g, d, t, os'⟩ := s'
  obtain rfl : os' = s.os := os
  exact ⟨v, H', I.call (h' := hh) (g' := g) (d' := d) (t' := t) (ch := []) un hok bare (fun b z => absurd z (by simp)), r, q⟩
end

/-! ### calls -/
/-- f(..): the written arguments, then the defaults dvs; E: what is wanted of an exception -/
def tCall (sp : Sp) (dvs : List V) (E : XK) (t : TA) : TE := fun σ H Q => t σ H fun vs H1 => sp (vs ++ dvs) H1 Q E
/-- o.m(..) of an instance of the class at C -/
def tMeth (C : Addr) (m : Str) (sp : Sp) (dvs : List V) (E : XK) (ta : TE) (t : TA) : TE := fun σ H Q => ta σ H fun x H1 => ∃ a dx fs, x = .ref a ∧ H1 a = some (.ins C dx fs) ∧ fs.lookup m = none ∧
  t σ H1 fun vs H2 => sp (x :: (vs ++ dvs)) H2 Q E
/-- C(..): a new instance and its dict, then __init__ -/
def tMake (C : Addr) (sp : Sp) (dvs : List V) (E : XK) (t : TA) : TE := fun σ H Q => t σ H fun vs H1 => ∀ x dx, H1 x = none → H1 dx = none → dx ≠ x →
  sp (.ref x :: (vs ++ dvs)) (upd (upd H1 dx (.own x)) x (.ins C dx [])) (fun v H2 => v = .non ∧ Q (.ref x) H2) E

/-- how the parameters are bound: us the positional arguments, kw the keywords' values by name, ds the defaults that fill up -/
def Binds (K : PySem.W.Frag) (fd : FuncData) (ps : List Str) (ds : List Value) : Prop :=
  ∀ (s : Shared) (us : List Value), K.In s.heap → (us ++ ds).length = ps.length → BindsTo s fd ⟨us, []⟩ (ps.zip (us ++ ds))
/-- every parameter is given -/
theorem Binds.all {K : PySem.W.Frag} {fd : FuncData} {ps : List Str} (h : ∀ us : List Value, us.length = ps.length → bindArgs fd ⟨us, []⟩ = pure (ps.zip us)) : Binds K fd ps [] := fun s us _ hl => by
  rw [List.append_nil] at hl ⊢
  exact .of_eq (h us hl)

/-- an exception of a callee reaches what this body wants of exceptions -/
def Passes (CX : CXT) (X : Cx) (E : XK) : Prop := ∀ (pins : List (Addr × Obj)) (σ : St) (H : Hp) (s : Shared) (e : Value) (s' : Shared), Inv X pins σ H s → CX X.stack H s E e s' → X.xe e s'

section
variable {X : Cx} {CX : CXT} {k : Nat} {f C : Addr} {fd : FuncData} {ps : List Str} {sp : Sp} {dvs : List V} {ds : List Value} {E : XK} {x m : Str} {p pos apos : Pos} {e o : Expr} {es : List Expr} {ta : TE} {t : TA}

/-- the callee runs -/
theorem run_fn {pins : List (Addr × Obj)} {σ : St} {H : Hp} {s : Shared} {Q : VK} {us : List Value} {vs : List V} (F : FnOk X.prog X.w X.K X.mg X.base CX k f fd ps sp) (hr : Room k X.A) (hb : Binds X.K fd ps ds) (hd : Vals dvs ds) (hx : Passes CX X E)
    (I : Inv X pins σ H s) (r : Vals vs us) (h : sp (vs ++ dvs) H Q E) : wpAny (model X.prog X.w) X.A (call (.ref f) us) (EP X pins σ Q) X.xe s := by
  have r2 : Vals (vs ++ dvs) (us ++ ds) := r.append hd
  have hl : (us ++ ds).length = ps.length := by rw [← r2.length]; exact F.len _ _ _ _ h
  refine wpAny_call (codeAny_mono (F.run X.A X.stack s H ⟨us, []⟩ (us ++ ds) (vs ++ dvs) Q E hr I.env0 (hb s us I.kIn hl) r2 h) fun r s' hq => ?_)
  cases r with
  | error e => exact hx pins σ H s e s' I hq
  | ok fl =>
    cases fl with
    | ret u => exact I.after hq
    | next => exact False.elim hq
    | brk => exact False.elim hq
    | cont => exact False.elim hq

theorem pe_call (F : FnOk X.prog X.w X.K X.mg X.base CX k f fd ps sp) (hr : Room k X.A) (hg : Gl X x) (hm : X.mg x = some (.ref f)) (hk : PySem.W.keepIn X.K (.ref f) = true) (hb : Binds X.K fd ps ds) (hd : Vals dvs ds) (hx : Passes CX X E)
    (ha : PA X (e :: es) t) (hdb : (x == ("__debug__" : Str)) = false := by decide) (he : starEach (e :: es) X.env = (false, eval e X.env) :: starEach es X.env := by rfl) (hpl : (backTo pos (starEach es X.env)).any (·.1) = false := by rfl) :
    PE X (.Call (.Name x p) (e :: es) [] pos) (tCall sp dvs E t) := by
  intro pins s σ H Q I h
  refine wpAny_Call_Name_kw (ld_glob I hg hm ?_ hdb)
  refine PySem.W.callWith_K (h₀ := X.base) I.ok.mod.kin hk (thn (ha pos pins s σ H _ I h) fun us s1 ⟨vs, H1, I1, r, q⟩ => ⟨I1.kIn, ?_⟩) he hpl
  exact run_fn F hr hb hd hx I1 r q
/-- what a class must have to be made -/
structure Mk (K : PySem.W.Frag) (C f : Addr) : Prop where
  makes : PySem.W.makesIn K C = true
  init : PySem.W.findIn K (.ref C) "__init__" = some (some (.ref f))
  fn : PySem.W.isFn K (.ref f) = true
  kp : PySem.W.keepIn K (.ref C) = true

theorem run_make {pins : List (Addr × Obj)} {σ : St} {H : Hp} {s : Shared} {Q : VK} {us : List Value} {vs : List V} (M : Mk X.K C f) (F : FnOk X.prog X.w X.K X.mg X.base CX k f fd ps sp) (hr : Room (k + 1) X.A) (hb : Binds X.K fd ps ds) (hd : Vals dvs ds)
    (hx : Passes CX X E) (I : Inv X pins σ H s) (r : Vals vs us)
    (h : ∀ x dx, H x = none → H dx = none → dx ≠ x → sp (.ref x :: (vs ++ dvs)) (upd (upd H dx (.own x)) x (.ins C dx [])) (fun v H2 => v = .non ∧ Q (.ref x) H2) E) :
    wpAny (model X.prog X.w) X.A (call (.ref C) us) (EP X pins σ Q) X.xe s := by
  have hq := h (s.heap.objs.size + 1) s.heap.objs.size (I.hok.fresh (Nat.le_succ _)) (I.hok.fresh (Nat.le_refl _)) (Nat.ne_of_lt (Nat.lt_succ_self _))
  have I2 := Inv.made (C := C) I
  have r2 : Vals (V.ref (s.heap.objs.size + 1) :: (vs ++ dvs)) (Value.ref (s.heap.objs.size + 1) :: (us ++ ds)) := .cons rfl (r.append hd)
  have hl : (Value.ref (s.heap.objs.size + 1) :: us ++ ds).length = ps.length := by
    have e := r2.length
    rw [F.len _ _ _ _ hq] at e
    exact e.symm
  refine wpAny_call (make_map (f := f) I.kIn M.makes M.init (beq_iff_eq.mp M.fn) (codeAny_mono (F.run _ X.stack _ _ ⟨Value.ref (s.heap.objs.size + 1) :: us, []⟩ (Value.ref (s.heap.objs.size + 1) :: (us ++ ds)) _ _ E (hr.make C us [])
    (I2.env0.make C us []) (hb _ (Value.ref (s.heap.objs.size + 1) :: us) I2.kIn hl) r2 hq) fun r s' hq' => ?_))
  cases r with
  | error e => exact hx pins σ _ _ e s' I2 hq'
  | ok fl =>
    cases fl with
    | ret u =>
      obtain ⟨v, H', I3, rv, ev, q3⟩ := I2.after hq'
      subst ev
      exact ⟨rv, ⟨V.ref (s.heap.objs.size + 1), H', I3, rfl, q3⟩⟩
    | next => exact False.elim hq'
    | brk => exact False.elim hq'
    | cont => exact False.elim hq'
theorem pe_make (M : Mk X.K C f) (F : FnOk X.prog X.w X.K X.mg X.base CX k f fd ps sp) (hr : Room (k + 1) X.A) (hg : Gl X x) (hm : X.mg x = some (.ref C)) (hb : Binds X.K fd ps ds) (hd : Vals dvs ds) (hx : Passes CX X E)
    (ha : PA X (e :: es) t) (hdb : (x == ("__debug__" : Str)) = false := by decide) (he : starEach (e :: es) X.env = (false, eval e X.env) :: starEach es X.env := by rfl) (hpl : (backTo pos (starEach es X.env)).any (·.1) = false := by rfl) :
    PE X (.Call (.Name x p) (e :: es) [] pos) (tMake C sp dvs E t) := by
  intro pins s σ H Q I h
  refine wpAny_Call_Name_kw (ld_glob I hg hm ?_ hdb)
  refine PySem.W.callWith_K (h₀ := X.base) I.ok.mod.kin M.kp (thn (ha pos pins s σ H _ I h) fun us s1 ⟨vs, H1, I1, r, q⟩ => ⟨I1.kIn, ?_⟩) he hpl
  exact run_make M F hr hb hd hx I1 r q
theorem pe_make0 (M : Mk X.K C f) (F : FnOk X.prog X.w X.K X.mg X.base CX k f fd ps sp) (hr : Room (k + 1) X.A) (hg : Gl X x) (hm : X.mg x = some (.ref C)) (hb : Binds X.K fd ps ds) (hd : Vals dvs ds) (hx : Passes CX X E)
    (hdb : (x == ("__debug__" : Str)) = false := by decide) : PE X (.Call (.Name x p) [] [] pos) (tMake C sp dvs E tNil) := by
  intro pins s σ H Q I h
  refine wpAny_Call_Name_kw (ld_glob I hg hm ?_ hdb)
  exact PySem.W.callWith_K0 I.kIn M.kp (run_make (us := []) M F hr hb hd hx I .nil h)
end

/-! ### keywords -/
/-- the values of the keywords, from the left -/
def PK (X : Cx) (kws : List Keyword) (t : TA) : Prop :=
  ∀ (pos : Pos) (pins : List (Addr × Obj)) (s : Shared) (σ : St) (H : Hp) (Q : List V → Hp → Prop), Inv X pins σ H s → t σ H Q → wpAny (model X.prog X.w) X.A (evalAll ((backToKw pos (keywordEach kws X.env)).map (·.2))) (AP X pins σ Q) X.xe s
section
variable {X : Cx} {CX : CXT} {k : Nat} {f C : Addr} {fd : FuncData} {ps ks : List Str} {sp : Sp} {E : XK} {x m : Str} {p pos apos kpos : Pos} {e o : Expr} {es : List Expr} {kws : List Keyword} {te ta : TE} {t tk : TA} {nm : Option Str}
/-- how a call with keywords binds: g puts the positional values us and the keywords' values ws (names ks) in the parameters' order, defaults among them -/
structure KBinds (K : PySem.W.Frag) (fd : FuncData) (ps ks : List Str) (g : List Value → List Value → List Value) (gV : List V → List V → List V) : Prop where
  to : ∀ (s : Shared) (us ws : List Value), K.In s.heap → (g us ws).length = ps.length → BindsTo s fd ⟨us, ks.zip ws⟩ (ps.zip (g us ws))
  rel : ∀ {vs : List V} {us : List Value} {zs : List V} {ws : List Value}, Vals vs us → Vals zs ws → Vals (gV vs zs) (g us ws)
def tCallK (sp : Sp) (gV : List V → List V → List V) (E : XK) (t tk : TA) : TE := fun σ H Q => t σ H fun vs H1 => tk σ H1 fun zs H2 => sp (gV vs zs) H2 Q E
variable {g : List Value → List Value → List Value} {gV : List V → List V → List V}
end

/-! ### a def's body keeps its promise -/
/-- names: the parameters first -/
structure FnScope (N P : List Str) (sc : Scope) : Prop where
  kind : sc.kind = .function
  co : sc.isCoroutine = false
  gen : sc.isGenerator = false
  nd : N.Nodup
  pre : N.take P.length = P
  par : ∀ x ∈ P, sc.names.lookup x = some .local ∨ sc.names.lookup x = some .cell
  nofree : ∀ y ∈ sc.names, y.2 ≠ .free

theorem bindL_out {kindOf : Str → Option NameKind} {x : Str} : ∀ {binds : List (Str × Value)} {m : Str → Option Value}, (∀ v, (x, v) ∉ binds) → bindL kindOf binds m x = m x
  | [], _, _ => rfl
  | (n, v) :: r, m, h => by
    unfold bindL
    rw [bindL_out fun w hw => h w (List.mem_cons_of_mem _ hw)]
    split
    · have : x ≠ n := by rintro rfl; exact h v List.mem_cons_self
      simp [this]
    · rfl
theorem bindC_out {kindOf : Str → Option NameKind} {x : Str} : ∀ {binds : List (Str × Value)} {m : Str → Option Value}, (∀ v, (x, v) ∉ binds) → bindC kindOf binds m x = m x
  | [], _, _ => rfl
  | (n, v) :: r, m, h => by
    unfold bindC
    rw [bindC_out fun w hw => h w (List.mem_cons_of_mem _ hw)]
    split
    · rfl
    · have : x ≠ n := by rintro rfl; exact h v List.mem_cons_self
      simp [this]
theorem bindL_get {kindOf : Str → Option NameKind} {x : Str} {v : Value} : ∀ {P : List Str} {vs : List Value} {i : Nat} {m : Str → Option Value}, P.Nodup → P[i]? = some x → vs[i]? = some v → kindOf x = some .local →
    bindL kindOf (P.zip vs) m x = some v
  | [], _, _, _, _, h, _, _ => by simp at h
  | _ :: _, [], _, _, _, _, h, _ => by simp at h
  | p :: P, w :: vs, 0, m, nd, h1, h2, hk => by
    simp at h1 h2; subst h1; subst h2
    show bindL kindOf ((p, w) :: P.zip vs) m p = _
    unfold bindL
    rw [bindL_out fun v hv => (List.nodup_cons.mp nd).1 (List.of_mem_zip hv).1, if_pos hk]
    simp
  | p :: P, w :: vs, i + 1, m, nd, h1, h2, hk => by
    show bindL kindOf ((p, w) :: P.zip vs) m x = _
    unfold bindL
    exact bindL_get (i := i) (List.nodup_cons.mp nd).2 (by simpa using h1) (by simpa using h2) hk
theorem bindC_get {kindOf : Str → Option NameKind} {x : Str} {v : Value} : ∀ {P : List Str} {vs : List Value} {i : Nat} {m : Str → Option Value}, P.Nodup → P[i]? = some x → vs[i]? = some v → kindOf x ≠ some .local →
    bindC kindOf (P.zip vs) m x = some v
  | [], _, _, _, _, h, _, _ => by simp at h
  | _ :: _, [], _, _, _, _, h, _ => by simp at h
  | p :: P, w :: vs, 0, m, nd, h1, h2, hk => by
    simp at h1 h2; subst h1; subst h2
    show bindC kindOf ((p, w) :: P.zip vs) m p = _
    unfold bindC
    rw [bindC_out fun v hv => (List.nodup_cons.mp nd).1 (List.of_mem_zip hv).1, if_neg hk]
    simp
  | p :: P, w :: vs, i + 1, m, nd, h1, h2, hk => by
    show bindC kindOf ((p, w) :: P.zip vs) m x = _
    unfold bindC
    exact bindC_get (i := i) (List.nodup_cons.mp nd).2 (by simpa using h1) (by simpa using h2) hk

/-- the names' values at the entry -/
def start (N : List Str) (vs : List V) : St := vs.map some ++ List.replicate (N.length - vs.length) none

/-- the context of a def's body, at its entry; an exception leaves the frame, then lies as CX says -/
def cxOf (CX : CXT) (P : Program) (w : World) (K : PySem.W.Frag) (mg : Str → Option Value) (base : Heap) (N : List Str) (qual : Str) (scope : Scope) (f : Addr) (cd : Value) (A : Around) (outer : List Env) (s : Shared) (H : Hp) (E : XK) : Cx where
  prog := P
  w := w
  K := K
  mg := mg
  base := base
  A := A.deeper (envOfC qual scope s.heap.objs.size f cd)
  N := N
  s₀ := s
  H₀ := H
  env := envOfC qual scope s.heap.objs.size f cd
  outer := outer
  stack := envOfC qual scope s.heap.objs.size f cd :: outer
  ex := []
  calm := true
  fn := fun _ => true
  pn := []
  xe := fun e s' => wpAny (model P w) (A.deeper (envOfC qual scope s.heap.objs.size f cd)) (leaving (envOfC qual scope s.heap.objs.size f cd) e) (fun _ s'' => CX outer H s E e s'') (fun e' s'' => CX outer H s E e' s'') s'

theorem cell_has {sc : Scope} {n : Nat} {x : Str} (h : sc.names.lookup x = some .cell) : ∃ c, (cellsFrom n sc.names []).lookup x = some c := by
  have q := PySem.W.cellsFrom_some sc.names n [] (.inl h)
  exact Option.isSome_iff_exists.mp q

theorem inv_start {CX : CXT} {P : Program} {w : World} {K : PySem.W.Frag} {mg : Str → Option Value} {base : Heap} {N ps : List Str} {qual : Str} {scope : Scope} {f : Addr} {cd : Value} {A : Around} {outer : List Env} {s s1 : Shared} {H : Hp} {E : XK} {us : List Value} {vs : List V}
    (S : FnScope N ps scope) (hd : A.handled = none) (e0 : Env0 P w K mg base A outer s H) (hl : vs.length = ps.length) (r : Vals vs us)
    (x : InCallC s s.heap.objs.size (bindL (envOfC qual scope s.heap.objs.size f cd).kindOf (ps.zip us) fun _ => none) (cellsFrom (s.heap.objs.size + 1) scope.names []) (bindC (envOfC qual scope s.heap.objs.size f cd).kindOf (ps.zip us) fun _ => none) s1) :
    Inv (cxOf CX P w K mg base N qual scope f cd A outer s H E) [] (start N vs) H s1 := by
  have hpl : ps.length ≤ N.length := by have := congrArg List.length S.pre; rw [List.length_take] at this; omega
  obtain ⟨h1, tk, rfl, hk⟩ := x.done
  have noA : ∀ b : Addr, b ∉ (cxOf CX P w K mg base N qual scope f cd A outer s H E).ex := fun b z => absurd (show b ∈ ([] : List Addr) from z) (by simp)
  refine ⟨⟨e0.mod, S.kind, rfl, rfl, Nat.le_refl _, fun y z c h1 h2 => ?_, fun y hy => ?_, fun y c _ h => ?_, fun _ => hd, Around.frames_deeper e0.frames, .inr ⟨rfl, rfl⟩, fun b z => absurd z (noA b), e0.bs, e0.bsz, fun b _ _ => noA b, fun b z => absurd z (noA b), e0.funs, e0.frf⟩,
    rfl, e0.bare, Un.kept hk, ⟨_, x.toInCall.ns, fun i y v h1 h2 h3 => ?_⟩, fun y c h => ⟨_, x.cell y c h⟩, e0.hok.fresh (Nat.le_refl _), fun y c h => ?_, fun p hp => absurd (show p ∈ ([] : List (Addr × Obj)) from hp) (by simp), e0.hok.kept hk, ?_⟩
  · exact name_of_addr x.apart (PySem.mem_of_lookup h1) (PySem.mem_of_lookup h2)
  · have hy : scope.names.lookup y = some .cell ∨ scope.names.lookup y = some .free := hy
    rcases hy with hy | hy
    · exact cell_has hy
    · exact absurd rfl (S.nofree _ (PySem.mem_of_lookup hy))
  · exact Nat.le_of_lt (x.above y c (PySem.mem_of_lookup h))
  · have hi : i < vs.length := by
      unfold start at h2
      by_cases hi : i < vs.length
      · exact hi
      · rw [List.getElem?_append_right (by simpa using hi)] at h2
        rw [List.getElem?_replicate] at h2
        split at h2 <;> cases h2
    have ha : vs[i]? = some v := by
      unfold start at h2
      rw [List.getElem?_append_left (by simpa using hi), List.getElem?_map] at h2
      cases e : vs[i]? with
      | none => rw [e] at h2; cases h2
      | some a => rw [e] at h2; cases h2; rfl
    obtain ⟨u, hu, rv⟩ := r.get ha
    have hp : ps[i]? = some y := by
      rw [← S.pre, List.getElem?_take_of_lt (by omega)]; exact h1
    have ndP : ps.Nodup := by rw [← S.pre]; exact S.nd.sublist (List.take_sublist _ _)
    refine ⟨u, rv, ?_⟩
    rcases S.par y (List.mem_of_getElem? hp) with k | k
    · exact .inl ⟨k, bindL_get ndP hp hu k⟩
    · obtain ⟨c, e⟩ := cell_has (n := s.heap.objs.size + 1) k
      refine .inr ⟨.inl k, c, e, ?_⟩
      have q := x.cell y c e
      rw [bindC_get ndP hp hu (by show scope.names.lookup y ≠ _; rw [k]; decide)] at q
      exact q
  · exact e0.hok.fresh (Nat.le_of_lt (x.above y c (PySem.mem_of_lookup h)))
  · unfold start
    show _ = N.length
    rw [List.length_append, List.length_map, List.length_replicate]
    omega

/-- THE RULE: a def (or a method) of the text, by its body. The body's reading t is chosen for each entry; it is run at the parameters' values -/
theorem fn_of {CX : CXT} {P : Program} {w : World} {K : PySem.W.Frag} {mg : Str → Option Value} {base : Heap} {k : Nat} {f : Addr} {name qual : Str} {params : Arguments} {body : List Stmt} {scope : Scope} {dV kV doc pm cdv ct oc : Value} {an od : Option Addr}
    {osl : Array (Option Value)} {N ps : List Str} {sp : Sp} (lk : K.lookup f = some ⟨oc, od, .func (PySem.W.fnOf name qual params body scope dV kV doc pm an cdv ct), osl⟩) (hcd : PySem.W.codeIn K cdv qual = true) (S : FnScope N ps scope)
    (len : ∀ vs H Q E, sp vs H Q E → vs.length = ps.length)
    (hbody : ∀ (A : Around) (outer : List Env) (s : Shared) (H : Hp) (vs : List V) (Q : VK) (E : XK), Room k (A.deeper (envOfC qual scope s.heap.objs.size f cdv)) → sp vs H Q E →
      ∃ t, PSs (cxOf CX P w K mg base N qual scope f cdv A outer s H E) body t ∧ t { nx := fun _ H' => Q .non H', rt := Q } (start N vs) H) :
    FnOk P w K mg base CX (k + 1) f (PySem.W.fnOf name qual params body scope dV kV doc pm an cdv ct) ps sp := by
  refine ⟨len, fun A outer s H args us vs Q E hr e0 hb r hsp => ?_⟩
  have hl := len _ _ _ _ hsp
  have KX : K.In s.heap := e0.mod.kin.keeps fun b o e => (e0.bs b o e).1
  have lim : s.heap.NoLimit := e0.mod.nolimit.keeps fun b o e => (e0.bs b o e).1
  have hkind : ∀ y ∈ ps.zip us, scope.names.lookup y.1 = some .local ∨ (scope.names.lookup y.1 = some .cell ∧ ((cellsFrom (s.heap.objs.size + 1) scope.names []).lookup y.1).isSome = true) := fun ⟨n, v⟩ hy => by
    rcases S.par n (List.of_mem_zip hy).1 with q | q
    · exact .inl q
    · exact .inr ⟨q, PySem.W.cellsFrom_some _ _ _ (.inl q)⟩
  refine codeAny_call_function hr.depth (KX _ _ lk) rfl S.co S.gen rfl (PySem.W.codeRec_of KX hcd) (hb _ _ _ _ ?_)
  refine wpAny_newFunctionEnv_cells S.kind hkind fun env he s1 x => ?_
  subst he
  refine ⟨lim.keeps x.toInCall.keep, codeAny_func ?_⟩
  obtain ⟨t, ht, hq⟩ := hbody A outer s H vs Q E (hr.deeper _) hsp
  have I : Inv (cxOf CX P w K mg base N qual scope f cdv A outer s H E) [] (start N vs) H s1 := inv_start S hr.hd e0 hl r x
  refine wpAny_mono (ht [] s1 (start N vs) H _ I hq) (fun fl s' hs => ?_) fun e s' hs => hs
  have fin : ∀ {σ' : St} {H' : Hp} {v : V} {u : Value}, Inv (cxOf CX P w K mg base N qual scope f cdv A outer s H E) [] σ' H' s' → RelV v u → Q v H' → CE outer P w H s Q u s' :=
    fun {σ' H' v u} J rv q => ⟨v, H', J.os, J.bare, J.base, J.hok, rv, q⟩
  cases fl with
  | ret u =>
    obtain ⟨v, σ', H', J, rv, q⟩ := hs
    exact fin J rv q
  | next =>
    obtain ⟨σ', H', J, q⟩ := hs
    exact fin (v := V.non) (u := Value.none) J rfl q
  | brk =>
    obtain ⟨_, _, _, q⟩ := hs
    exact False.elim q
  | cont =>
    obtain ⟨_, _, _, q⟩ := hs
    exact False.elim q
end L2

namespace L2
open PySem PySem.Spec PyProof.Rows
section
variable {X : Cx} {x : Str} {p pos : Pos} {e : Expr} {es : List Expr} {t : TA} {id T : String} {r : List V → Hp → VK → Prop}

def tCB (r : List V → Hp → VK → Prop) (t : TA) : TE := fun σ H Q => t σ H fun vs H1 => r vs H1 Q
/-- f(e, ..), f a built-in function -/
theorem pe_callB (hc : CallR X (.builtin id) r) (hg : Gl X x) (hm : X.mg x = none) (hv : bootBuiltins x = some (.builtin id)) (ha : PA X (e :: es) t) (hn : x ≠ "__name__" := by decide) (hdb : (x == ("__debug__" : Str)) = false := by decide)
    (he : starEach (e :: es) X.env = (false, eval e X.env) :: starEach es X.env := by rfl) (hpl : (backTo pos (starEach es X.env)).any (·.1) = false := by rfl) : PE X (.Call (.Name x p) (e :: es) [] pos) (tCB r t) := by
  intro pins s σ H Q I h
  refine wpAny_Call_Name_kw (ld_blt I hg hm hv ?_ hn hdb)
  exact PyProof.Rows.callWith_builtin1 (thn (ha pos pins s σ H _ I h) fun us s1 ⟨vs, H1, I1, r1, q1⟩ => hc pins s1 σ H1 vs us Q I1 r1 q1) he hpl
/-- T(e, ..), T a built-in type -/
theorem pe_callTy (hc : CallR X (.type T) r) (hg : Gl X x) (hm : X.mg x = none) (hv : bootBuiltins x = some (.type T)) (ha : PA X (e :: es) t) (hn : x ≠ "__name__" := by decide) (hdb : (x == ("__debug__" : Str)) = false := by decide)
    (he : starEach (e :: es) X.env = (false, eval e X.env) :: starEach es X.env := by rfl) (hpl : (backTo pos (starEach es X.env)).any (·.1) = false := by rfl) : PE X (.Call (.Name x p) (e :: es) [] pos) (tCB r t) := by
  intro pins s σ H Q I h
  refine wpAny_Call_Name_kw (ld_blt I hg hm hv ?_ hn hdb)
  exact PyProof.Rows.callWith_type1 (thn (ha pos pins s σ H _ I h) fun us s1 ⟨vs, H1, I1, r1, q1⟩ => hc pins s1 σ H1 vs us Q I1 r1 q1) he hpl
end
end L2

namespace HT
open PySem PyProof.Rows

/-- t < u of tuples of ints -/
def lexLt : List Int → List Int → Bool
  | [], [] => false
  | [], _ :: _ => true
  | _ :: _, [] => false
  | x :: xs, y :: ys => if x = y then lexLt xs ys else decide (x < y)
section
open PySem.SeqAt
open PySem.AutoSeq1 (wpAny_loadPart')
open PySem.MeetsSeq PySem.MeetsSeq2 PySem.MeetsSeq3

end

section
variable {prog : Program} {w : World} {A : Around} {E : Value → Shared → Prop} {s : Shared}

/-! ### t[a:b], not the whole -/
/-- a slice's bound as a place among n (d where it is left out) -/
def sIx (n d : Nat) : Option Int → Nat
  | none => d
  | some v => if v < 0 then (v + (n : Int)).toNat else min v.toNat n
theorem sIx_none (n d : Nat) : sIx n d none = d := rfl
theorem sIx_nat (n d k : Nat) : sIx n d (some (k : Int)) = min k n := by
  show (if (k : Int) < 0 then ((k : Int) + (n : Int)).toNat else min (k : Int).toNat n) = min k n
  rw [if_neg (by omega), Int.toNat_natCast]
theorem sIx_le (n d : Nat) (hd : d ≤ n) (o : Option Int) : sIx n d o ≤ n := by
  cases o with
  | none => exact hd
  | some v =>
    show (if v < 0 then (v + (n : Int)).toNat else min v.toNat n) ≤ n
    by_cases hv : v < 0
    · rw [if_pos hv]; omega
    · rw [if_neg hv]; exact Nat.min_le_right _ _
end
end HT

namespace L2
open PySem PySem.Spec PyProof.Rows

/-! ### the parts of a slice -/
abbrev TO := St → Hp → (Option Int → Hp → Prop) → Prop
/-- a slice's part (left out, or an int) -/
def PO (X : Cx) (e : Option Expr) (t : TO) : Prop :=
  ∀ (pins : List (Addr × Obj)) (s : Shared) (σ : St) (H : Hp) (Q : Option Int → Hp → Prop), Inv X pins σ H s → t σ H Q →
    wpAny (model X.prog X.w) X.A (evalPart e X.env) (fun u s' => ∃ o H', Inv X pins σ H' s' ∧ IsPart u o ∧ Q o H') X.xe s
def tNoPart : TO := fun _ H Q => Q none H
def tPart (t : TE) : TO := fun σ H Q => t σ H fun x H1 => ∃ i, x = .int i ∧ Q (some i) H1

section
variable {X : Cx} {e : Expr} {te : TE} {lo hi : Option Expr} {tl th : TO} {pos p2 : Pos}

theorem po_none : PO X none tNoPart := by
  intro pins s σ H Q I h
  rw [evalPart_none]
  exact wpAny_pure ⟨none, H, I, .none, h⟩
theorem po_some (h : PE X e te) : PO X (some e) (tPart te) := by
  intro pins s σ H Q I hw
  rw [evalPart_some]
  refine thn (h pins s σ H _ I hw) fun u s1 ⟨x, H1, I1, r1, q1⟩ => ?_
  obtain ⟨i, rfl, q⟩ := q1
  obtain ⟨t, rfl⟩ := r1
  exact ⟨some i, H1, I1, .int i t, q⟩

/-- what a slice of a value is, by values: the slice object stands at sl -/
def SlR (X : Cx) (r : V → Option Int → Option Int → Hp → VK → Prop) : Prop :=
  ∀ (pins : List (Addr × Obj)) (s : Shared) (σ : St) (H : Hp) (x : V) (v vl vu : Value) (lo hi : Option Int) (sl : Addr) (Q : VK), Inv X pins σ H s → RelV x v → s.heap.IsSliceOf sl vl vu .none → IsPart vl lo → IsPart vu hi → r x lo hi H Q →
    ∃ T id, typeLookup (.type T) "__getitem__" = pure (some (.builtin id)) ∧ s.TypeIs v T ∧ wpAny (model X.prog X.w) X.A (getItem v (.ref sl)) (EP X pins σ Q) X.xe s
def tSl (r : V → Option Int → Option Int → Hp → VK → Prop) (te : TE) (tl th : TO) : TE := fun σ H Q => te σ H fun x H1 => tl σ H1 fun l H2 => th σ H2 fun u H3 => r x l u H3 Q
/-- a[lo:hi], any a -/
theorem pe_slice {r : V → Option Int → Option Int → Hp → VK → Prop} (hr : SlR X r) (he : PE X e te) (hl : PO X lo tl) (hu : PO X hi th) : PE X (.Subscript e (.Slice lo hi none p2) pos) (tSl r te tl th) := by
  intro pins s σ H Q I h
  refine Subscript_ (thn (he pins s σ H _ I h) fun v s1 ⟨x, H1, I1, r1, q1⟩ => ?_)
  refine wpAny_Slice (thn (hl pins s1 σ H1 _ I1 q1) fun vl s2 ⟨l, H2, I2, pl, q2⟩ => thn (hu pins s2 σ H2 _ I2 q2) fun vu s3 ⟨u, H3, I3, pu, q3⟩ => ?_)
  rw [evalPart_none]
  refine wpAny_pure ?_
  have I4 : Inv X pins σ H3 { s3 with heap := s3.heap.push { cls := .type "slice", data := .fields #[vl, vu, .none] } } := I3.kept (t' := s3.toks) fun b ob q => Heap.get?_push_of_some _ q
  obtain ⟨T, id, hT, ht, hg⟩ := hr pins { s3 with heap := s3.heap.push { cls := .type "slice", data := .fields #[vl, vu, .none] } } σ H3 x v vl vu l u s3.heap.objs.size Q I4 r1 (Heap.IsSliceOf.new ..) pl pu q3
  show wpAny (model X.prog X.w) X.A (subscriptTail e (.Slice lo hi none p2) v (.ref s3.heap.objs.size)) (EP X pins σ Q) X.xe { s3 with heap := s3.heap.push { cls := .type "slice", data := .fields #[vl, vu, .none] } }
  exact tail_any (ops := [.ref s3.heap.objs.size, v]) ht hT hg (by with_unfolding_all rfl)

/-- the items of xs[lo:hi] -/
def cutV (xs : List V) (lo hi : Option Int) : List V := (xs.drop (HT.sIx xs.length 0 lo)).take (HT.sIx xs.length xs.length hi - HT.sIx xs.length 0 lo)
theorem cutV_length (xs : List V) (lo hi : Option Int) : (cutV xs lo hi).length ≤ xs.length := by
  unfold cutV
  rw [List.length_take, List.length_drop]
  omega
/-- t[lo:hi], not the whole of it (the whole would be t itself) -/
def rSlT (K : PySem.W.Frag) : V → Option Int → Option Int → Hp → VK → Prop := fun x lo hi H Q => ∃ a xs, x = .ref a ∧ SqT K H a xs ∧
  ¬ (HT.sIx xs.length 0 lo = 0 ∧ HT.sIx xs.length xs.length hi = xs.length) ∧ ∀ p, H p = none → Q (.ref p) (upd H p (.tup (cutV xs lo hi)))
/-! ### t < u, t + u -/
def rLtT (K : PySem.W.Frag) : R2 := fun x y H Q => ∃ a b ns ms, x = .ref a ∧ y = .ref b ∧ SqT K H a (ns.map V.int) ∧ SqT K H b (ms.map V.int) ∧ Q (.bl (HT.lexLt ns ms)) H
/-- t + u, t not empty: u empty gives t itself -/
def rCatT (K : PySem.W.Frag) : R2 := fun x y H Q => ∃ a b xs ys, x = .ref a ∧ y = .ref b ∧ SqT K H a xs ∧ SqT K H b ys ∧ xs ≠ [] ∧ xs.length + ys.length ≤ sizeLine ∧
  (ys = [] → Q (.ref a) H) ∧ (ys ≠ [] → ∀ p, H p = none → Q (.ref p) (upd H p (.tup (xs ++ ys))))
end
end L2

namespace L2
open PySem PySem.Spec PyProof.Rows

/-! ### places -/
/-- the place that an index of any sign means -/
def ixN (n : Nat) (i : Int) : Option Nat := if 0 ≤ i then (if i < n then some i.toNat else none) else if -(n : Int) ≤ i then some (i + n).toNat else none
def atI {α : Type} (xs : List α) (i : Int) : Option α := (ixN xs.length i).bind fun j => xs[j]?
theorem ixN_seq {n : Nat} {i : Int} {j : Nat} (h : ixN n i = some j) : seqIndex? i n = some j ∧ j < n ∧ -(n : Int) ≤ i ∧ i < n := by
  unfold ixN at h
  by_cases h0 : 0 ≤ i
  · rw [if_pos h0] at h
    by_cases h1 : i < n
    · rw [if_pos h1] at h
      have e : i.toNat = j := Option.some.inj h
      exact ⟨by rw [seqIndex_of h0 h1, e], by omega, by omega, h1⟩
    · rw [if_neg h1] at h; cases h
  · rw [if_neg h0] at h
    by_cases h1 : -(n : Int) ≤ i
    · rw [if_pos h1] at h
      have e : (i + n).toNat = j := Option.some.inj h
      exact ⟨by rw [seqIndex_neg (by omega) h1, e], by omega, h1, by omega⟩
    · rw [if_neg h1] at h; cases h
theorem atI_get {α : Type} {xs : List α} {i : Int} {v : α} (h : atI xs i = some v) : ∃ j, seqIndex? i xs.length = some j ∧ xs[j]? = some v ∧ j < xs.length ∧ -(xs.length : Int) ≤ i ∧ i < xs.length := by
  unfold atI at h
  cases e : ixN xs.length i with
  | none => rw [e] at h; cases h
  | some j =>
    rw [e] at h
    obtain ⟨h1, h2, h3, h4⟩ := ixN_seq e
    exact ⟨j, h1, h, h2, h3, h4⟩
theorem atI_nat {α : Type} {xs : List α} {j : Nat} {v : α} (h : xs[j]? = some v) : atI xs (j : Int) = some v := by
  have hj : j < xs.length := (List.getElem?_eq_some_iff.mp h).1
  have e : ixN xs.length (j : Int) = some j := by
    unfold ixN
    rw [if_pos (by omega), if_pos (by omega)]; simp
  unfold atI; rw [e]; exact h
/-! ### what may be subscripted -/
/-- what stands as an index of a plain subscript -/
def PlainIx (b : Expr) : Prop := ∀ o i, subscripted b false o i = operate [o, i] (getItem o i)
/-- a subscript by values -/
def IxR (X : Cx) (r : R2) : Prop :=
  ∀ (value slice : Expr) (pins : List (Addr × Obj)) (s : Shared) (σ : St) (H : Hp) (x y : V) (v u : Value) (Q : VK), Inv X pins σ H s → RelV x v → RelV y u → r x y H Q →
    subscripted slice false v u = operate [v, u] (getItem v u) → wpAny (model X.prog X.w) X.A (subscriptTail value slice v u) (EP X pins σ Q) X.xe s
/-- a call of a builtin's method by values: the receiver, the arguments -/
def MtR (X : Cx) (id : String) (r : V → List V → Hp → VK → Prop) : Prop :=
  ∀ (pins : List (Addr × Obj)) (s : Shared) (σ : St) (H : Hp) (x : V) (xs : List V) (v : Value) (us : List Value) (Q : VK), Inv X pins σ H s → RelV x v → Vals xs us → r x xs H Q →
    wpAny (model X.prog X.w) X.A (call (.builtin id) (v :: us)) (EP X pins σ Q) X.xe s
section
variable {X : Cx} {a b : Expr} {ta tb : TE} {pos : Pos}
/-- a[b] -/
theorem pe_ix {r : R2} (hr : IxR X r) (ha : PE X a ta) (hb : PE X b tb) (hs : PlainIx b) : PE X (.Subscript a b pos) (tOp r ta tb) := by
  intro pins s σ H Q I h
  exact Subscript_ (binT ha hb I h fun v u s2 x y H2 I2 rx ry q => hr a b pins s2 σ H2 x y v u Q I2 rx ry q (hs _ _))

def rIxL (K : PySem.W.Frag) : R2 := fun x y H Q => ∃ p xs i v, x = .ref p ∧ y = .int i ∧ SqL K H p xs ∧ atI xs i = some v ∧ Q v H
def rIxT (K : PySem.W.Frag) : R2 := fun x y H Q => ∃ p xs i v, x = .ref p ∧ y = .int i ∧ SqT K H p xs ∧ atI xs i = some v ∧ Q v H
def rIxS : R2 := fun x y H Q => ∃ z i c, x = .str z ∧ y = .int i ∧ z.length ≤ sizeLine ∧ atI z.cps.toList i = some c ∧ Q (.str ⟨#[c]⟩) H
theorem ix_list : IxR X (rIxL X.K) := by
  intro value slice pins s σ H x y v u Q I rx ry h hs
  obtain ⟨p, xs, i, z, rfl, rfl, hq, he, q⟩ := h
  cases rx
  obtain ⟨t, rfl⟩ := ry
  obtain ⟨its, r, pl, hz⟩ := I.list hq
  obtain ⟨j, h1, h2, h3, h4, h5⟩ := atI_get he
  obtain ⟨w, ew, rw'⟩ := r.get h2
  have hl := r.length
  have hn := line63
  have fin : EP X pins σ Q w s := ⟨z, H, I, rw', q⟩
  by_cases h0 : 0 ≤ i
  · have hj : i.toNat = j := by
      rw [seqIndex_of h0 h5] at h1
      exact Option.some.inj h1
    exact item_listR pl.isList h0 (by omega) (by rw [hj]; simpa using ew) fin hs
  · have hj : (i + (its.toArray.size : Int)).toNat = j := by
      rw [seqIndex_neg (by omega) h4] at h1
      rw [List.size_toArray, ← hl]
      exact Option.some.inj h1
    exact subscriptTail_builtinR (x := w) pl.isList.typeIs slot_list_getitem.lookup
      (wpAny_getItem_list_neg (Q := fun r s' => r = w ∧ EP X pins σ Q r s') pl.isList (by omega) (by rw [List.size_toArray] <;> omega) (by omega) (by rw [hj]; simpa using ew) ⟨rfl, fin⟩) hs
theorem ix_tup : IxR X (rIxT X.K) := by
  intro value slice pins s σ H x y v u Q I rx ry h hs
  obtain ⟨p, xs, i, z, rfl, rfl, hq, he, q⟩ := h
  cases rx
  obtain ⟨t, rfl⟩ := ry
  obtain ⟨its, r, pl, hz⟩ := I.tuple hq
  obtain ⟨j, h1, h2, h3, h4, h5⟩ := atI_get he
  obtain ⟨w, ew, rw'⟩ := r.get h2
  have hl := r.length
  have hn := line63
  have fin : EP X pins σ Q w s := ⟨z, H, I, rw', q⟩
  exact subscriptTail_builtinR (x := w) pl.typeIs slot_tuple_getitem.lookup
    (getItem_tuple (j := j) (Q := fun r s' => r = w ∧ EP X pins σ Q r s') pl (by omega) (by omega) (by rw [List.size_toArray, ← hl]; exact h1) (by simpa using ew) ⟨rfl, fin⟩) hs
theorem ix_str : IxR X rIxS := by
  intro value slice pins s σ H x y v u Q I rx ry h hs
  obtain ⟨z, i, c, rfl, rfl, hz, he, q⟩ := h
  obtain ⟨t, rfl⟩ := rx
  obtain ⟨t', rfl⟩ := ry
  obtain ⟨j, h1, h2, h3, h4, h5⟩ := atI_get he
  have hl : z.cps.toList.length = z.length := by simp [Str.length]
  rw [hl] at h1 h4 h5
  have hn := line63
  exact tail_any (typeIs_str s z t) slot_str_getitem.lookup (getItem_str (c := c) (by
    have e1 : decide (i < -(2 ^ 63 : Int)) = false := decide_eq_false (by omega)
    have e2 : decide (i ≥ 2 ^ 63) = false := decide_eq_false (by omega)
    rw [e1, e2, Bool.or_false]) (by rw [h1]; simpa using h2) ⟨.str ⟨#[c]⟩, H, I.tok _, ⟨_, rfl⟩, q⟩) hs
/-- list, tuple or str -/
def rIx (K : PySem.W.Frag) : R2 := fun x y H Q => rIxL K x y H Q ∨ rIxT K x y H Q ∨ rIxS x y H Q
/-! ### xs[i] = v, any sign -/
def rSetL : V → V → V → Hp → (Hp → Prop) → Prop := fun o i v H Q => ∃ p xs k j, o = .ref p ∧ i = .int k ∧ H p = some (.lst xs) ∧ ixN xs.length k = some j ∧ Q (upd H p (.lst (xs.set j v)))
/-! ### slices -/
theorem slice_bounds (lo hi : Option Int) (n : Nat) : (sliceBounds lo hi none n).1 = ((HT.sIx n 0 lo : Nat) : Int) ∧ (sliceBounds lo hi none n).2.1 = ((HT.sIx n n hi : Nat) : Int) ∧ (sliceBounds lo hi none n).2.2 = 1 := by
  refine ⟨?_, ?_, rfl⟩
  · cases lo with
    | none => simp [sliceBounds, HT.sIx]
    | some i =>
      simp only [sliceBounds, HT.sIx, Option.getD_none, show (1 : Int) > 0 by decide, if_true]
      by_cases h : i < 0
      · simp only [h, if_true] <;> omega
      · simp only [h, if_false] <;> omega
  · cases hi with
    | none => simp [sliceBounds, HT.sIx]
    | some i =>
      simp only [sliceBounds, HT.sIx, Option.getD_none, show (1 : Int) > 0 by decide, if_true]
      by_cases h : i < 0
      · simp only [h, if_true] <;> omega
      · simp only [h, if_false] <;> omega
theorem slicePick_cut (its : List Value) (lo hi : Option Int) : slicePick its.toArray lo hi none = ((its.drop (HT.sIx its.length 0 lo)).take (HT.sIx its.length its.length hi - HT.sIx its.length 0 lo)).toArray := by
  obtain ⟨h1, h2, h3⟩ := slice_bounds lo hi its.toArray.size
  unfold slicePick
  rw [h1, h2, h3]
  simp only [sliceRange_one, pick_run, List.size_toArray] <;> rfl
/-- xs[lo:hi] of a list: a new list -/
def rSlL (K : PySem.W.Frag) : V → Option Int → Option Int → Hp → VK → Prop := fun x lo hi H Q => ∃ a xs, x = .ref a ∧ SqL K H a xs ∧ ∀ p, H p = none → Q (.ref p) (upd H p (.lst (cutV xs lo hi)))
theorem sl_list : SlR X (rSlL X.K) := by
  intro pins s σ H x v vl vu lo hi sl Q I rx hs pl pu h
  obtain ⟨a, xs, rfl, hx, q⟩ := h
  cases rx
  obtain ⟨its, r, ht, hz⟩ := I.list hx
  have hlen := r.length
  refine ⟨"list", _, slot_list_getitem.lookup, ht.isList.typeIs, ?_⟩
  refine wpAny_getItem_list_slice ht.isList hs pl pu .none (by simp) ?_ (by rw [List.size_toArray] <;> omega)
  rw [slicePick_cut, ← hlen]
  refine ⟨.ref s.heap.objs.size, _, I.laid (t' := s.toks) (o := .lst (cutV xs lo hi)) (fun b ob q => Heap.get?_push_of_some _ q) (Nat.le_refl _) ?_, rfl, q _ (I.hok.fresh (Nat.le_refl _))⟩
  exact ⟨Nat.le_trans (cutV_length xs lo hi) hz, _, 0, (r.drop (HT.sIx xs.length 0 lo)).take (HT.sIx xs.length xs.length hi - HT.sIx xs.length 0 lo), Heap.get?_push_size _ rfl⟩

/-! ### in, not in: flat items -/
def flatV : V → Bool
  | .non => true
  | .bl _ => true
  | .int _ => true
  | .str _ => true
  | _ => false
/-- == of flat values -/
def eqV : V → V → Bool
  | .non, .non => true
  | .bl a, .bl b => a == b
  | .bl a, .int b => (if a then 1 else 0) == b
  | .int a, .bl b => a == (if b then 1 else 0)
  | .int a, .int b => a == b
  | .str a, .str b => a == b
  | _, _ => false
theorem eqAt_V {A : Around} {s : Shared} {y x : V} {u v : Value} (ry : RelV y u) (rx : RelV x v) (fy : flatV y = true) (fx : flatV x = true) : SeqAt.EqAt A s u v (eqV y x) := by
  cases y with
  | non =>
    cases ry
    cases x with
    | non => cases rx; exact SeqAt.EqAt.same _
    | bl b => cases rx; exact SeqAt.EqAt.none_bool b
    | int b => obtain ⟨t, rfl⟩ := rx; exact SeqAt.EqAt.none_int b t
    | str b => obtain ⟨t, rfl⟩ := rx; exact SeqAt.EqAt.none_str b t
    | _ => exact absurd (show false = true from fx) Bool.false_ne_true
  | bl a =>
    cases ry
    cases x with
    | non => cases rx; exact SeqAt.EqAt.bool_none a
    | bl b => cases rx; exact SeqAt.EqAt.bool_bool a b
    | int b => obtain ⟨t, rfl⟩ := rx; exact SeqAt.EqAt.bool_int a b t
    | str b => obtain ⟨t, rfl⟩ := rx; exact SeqAt.EqAt.bool_str a b t
    | _ => exact absurd (show false = true from fx) Bool.false_ne_true
  | int a =>
    obtain ⟨t', rfl⟩ := ry
    cases x with
    | non => cases rx; exact SeqAt.EqAt.int_none a t'
    | bl b => cases rx; exact SeqAt.EqAt.int_bool a t' b
    | int b => obtain ⟨t, rfl⟩ := rx; exact SeqAt.EqAt.int_int a t' b t
    | str b => obtain ⟨t, rfl⟩ := rx; exact SeqAt.EqAt.int_str a t' b t
    | _ => exact absurd (show false = true from fx) Bool.false_ne_true
  | str a =>
    obtain ⟨t', rfl⟩ := ry
    cases x with
    | non => cases rx; exact SeqAt.EqAt.str_none a t'
    | bl b => cases rx; exact SeqAt.EqAt.str_bool a t' b
    | int b => obtain ⟨t, rfl⟩ := rx; exact SeqAt.EqAt.str_int a t' b t
    | str b => obtain ⟨t, rfl⟩ := rx; exact SeqAt.EqAt.str_str a t' b t
    | _ => exact absurd (show false = true from fx) Bool.false_ne_true
  | _ => exact absurd (show false = true from fy) Bool.false_ne_true
/-- the items' answers, read off the values (a value's own answer does not lean on its token) -/
def eqU (x : V) (u : Value) : Bool := match u with
  | .none => eqV .non x
  | .bool b => eqV (.bl b) x
  | .int i _ => eqV (.int i) x
  | .str z _ => eqV (.str z) x
  | _ => false
theorem eqU_of {x y : V} {u : Value} (r : RelV y u) (f : flatV y = true) : eqU x u = eqV y x := by
  cases y with
  | non => cases r; rfl
  | bl b => cases r; rfl
  | int i => obtain ⟨t, rfl⟩ := r; rfl
  | str z => obtain ⟨t, rfl⟩ := r; rfl
  | _ => exact absurd (show false = true from f) Bool.false_ne_true
theorem any_eqU {x : V} : ∀ {xs : List V} {us : List Value}, Vals xs us → xs.all flatV = true → us.any (eqU x) = xs.any fun y => eqV y x
  | _, _, .nil, _ => rfl
  | y :: xs, u :: us, .cons r t, f => by
    rw [List.all_cons, Bool.and_eq_true] at f
    rw [List.any_cons, List.any_cons, eqU_of r f.1, any_eqU t f.2]
theorem mem_eqAt {A : Around} {s : Shared} {x : V} {v : Value} (rx : RelV x v) (fx : flatV x = true) : ∀ {xs : List V} {us : List Value}, Vals xs us → xs.all flatV = true → ∀ u ∈ us, SeqAt.EqAt A s u v (eqU x u)
  | _, _, .nil, _ => fun u hu => by cases hu
  | y :: xs, u :: us, .cons r t, f => fun u' hu => by
    rw [List.all_cons, Bool.and_eq_true] at f
    rcases List.mem_cons.mp hu with rfl | hu
    · rw [eqU_of r f.1]; exact eqAt_V r rx f.1 fx
    · exact mem_eqAt rx fx t f.2 u' hu
def inV (x : V) (xs : List V) : Bool := xs.any fun y => eqV y x
/-- x in a list or tuple of flat items -/
def rIn (K : PySem.W.Frag) (neg : Bool) : R2 := fun x y H Q => ∃ p xs, y = .ref p ∧ (SqL K H p xs ∨ SqT K H p xs) ∧ flatV x = true ∧ xs.all flatV = true ∧ Q (.bl (if neg then !inV x xs else inV x xs)) H
theorem op_in_seq : OpR X (compareOp .In) (rIn X.K false) := by
  intro pins s σ H x y v u Q I rx ry h
  obtain ⟨p, xs, rfl, hq, fx, fs, q⟩ := h
  cases ry
  rcases hq with hq | hq
  · obtain ⟨its, r, pl, hz⟩ := I.list hq
    refine SeqAt.in_listAt (eqU x) pl.isList (fun w hw => mem_eqAt rx fx r fs w (by simpa using hw)) ⟨.bl _, H, I, rfl, ?_⟩
    rw [show its.toArray.any (eqU x) = its.any (eqU x) by simp, any_eqU r fs]
    exact q
  · obtain ⟨its, r, pl, hz⟩ := I.tuple hq
    refine SeqAt.in_tupleAt (eqU x) pl (fun w hw => mem_eqAt rx fx r fs w (by simpa using hw)) ⟨.bl _, H, I, rfl, ?_⟩
    rw [show its.toArray.any (eqU x) = its.any (eqU x) by simp, any_eqU r fs]
    exact q
theorem op_notIn_seq : OpR X (compareOp .NotIn) (rIn X.K true) := by
  intro pins s σ H x y v u Q I rx ry h
  obtain ⟨p, xs, rfl, hq, fx, fs, q⟩ := h
  cases ry
  rcases hq with hq | hq
  · obtain ⟨its, r, pl, hz⟩ := I.list hq
    refine SeqAt.notIn_listAt (eqU x) pl.isList (fun w hw => mem_eqAt rx fx r fs w (by simpa using hw)) ⟨.bl _, H, I, rfl, ?_⟩
    rw [show its.toArray.any (eqU x) = its.any (eqU x) by simp, any_eqU r fs]
    exact q
  · obtain ⟨its, r, pl, hz⟩ := I.tuple hq
    refine SeqAt.notIn_tupleAt (eqU x) pl (fun w hw => mem_eqAt rx fx r fs w (by simpa using hw)) ⟨.bl _, H, I, rfl, ?_⟩
    rw [show its.toArray.any (eqU x) = its.any (eqU x) by simp, any_eqU r fs]
    exact q
/-! ### len, list(x), tuple(x) of any list or tuple that is read -/
theorem call_len_seq : CallR X (.builtin "len") (fun xs H Q => ∃ p ys, xs = [.ref p] ∧ (SqL X.K H p ys ∨ SqT X.K H p ys) ∧ Q (.int ys.length) H) := by
  intro pins s σ H xs us Q I r h
  obtain ⟨p, ys, rfl, hq, q⟩ := h
  obtain ⟨u, rfl, rx⟩ := vals1 r
  cases rx
  have hn := line63
  rcases hq with hq | hq
  · obtain ⟨its, r', pl, hz⟩ := I.list hq
    have hlen := r'.length
    exact Calls.call_len_list pl.isList (by simp only [List.size_toArray] <;> omega) ⟨.int ys.length, H, I.tok _, ⟨s.toks + 1, by rw [List.size_toArray, hlen]⟩, q⟩
  · obtain ⟨its, r', pl, hz⟩ := I.tuple hq
    have hlen := r'.length
    exact len_tuple pl (by simp only [List.size_toArray] <;> omega) ⟨.int ys.length, H, I.tok _, ⟨s.toks + 1, by rw [List.size_toArray, hlen]⟩, q⟩
theorem call_len_str : CallR X (.builtin "len") (fun xs H Q => ∃ z, xs = [.str z] ∧ z.length ≤ sizeLine ∧ Q (.int z.length) H) := by
  intro pins s σ H xs us Q I r h
  obtain ⟨z, rfl, hz, q⟩ := h
  obtain ⟨u, rfl, t, rfl⟩ := vals1 r
  have hn := line63
  exact len_str (by omega) ⟨.int z.length, H, I.tok _, ⟨_, rfl⟩, q⟩
theorem call_list_of : CallR X (.type "list") (fun xs H Q => ∃ p ys, xs = [.ref p] ∧ (SqL X.K H p ys ∨ SqT X.K H p ys) ∧ ∀ l, H l = none → Q (.ref l) (upd H l (.lst ys))) := by
  intro pins s σ H xs us Q I r h
  obtain ⟨p, ys, rfl, hq, q⟩ := h
  obtain ⟨u, rfl, rx⟩ := vals1 r
  cases rx
  have fin : ∀ (its : List Value), Vals ys its → ys.length ≤ sizeLine → ∀ (h' : Heap) (c' : Nat), (∀ b o', s.heap.get? b = some o' → h'.get? b = some o') →
      h'.get? s.heap.objs.size = some { cls := .type "list", dict := none, data := .seq its.toArray c', slots := #[] } → EP X pins σ Q (.ref s.heap.objs.size) { s with heap := h' } := fun its r' hz h' c' kp e =>
    ⟨.ref s.heap.objs.size, _, I.laid (t' := s.toks) kp (Nat.le_refl _) (show ObjOk X.prog X.w _ h' _ (.lst ys) from ⟨hz, its, c', r', e⟩), rfl, q _ (I.hok.fresh (Nat.le_refl _))⟩
  rcases hq with hq | hq
  · obtain ⟨its, r', pl, hz⟩ := I.list hq
    have hlen := r'.length
    obtain ⟨o, ho, hc, n, hd⟩ := pl.isList
    exact call_list_seq p (.inl rfl) ho hc hd (fun h' c' kp e => fin its r' hz h' c' kp e) (by simp only [List.size_toArray] <;> omega)
  · obtain ⟨its, r', pl, hz⟩ := I.tuple hq
    have hlen := r'.length
    obtain ⟨o, ho, hc, n, hd⟩ := pl
    exact call_list_seq p (.inr rfl) ho hc hd (fun h' c' kp e => fin its r' hz h' c' kp e) (by simp only [List.size_toArray] <;> omega)
theorem call_tuple_of : CallR X (.type "tuple") (fun xs H Q => ∃ p ys, xs = [.ref p] ∧ ((SqL X.K H p ys ∧ ∀ l, H l = none → Q (.ref l) (upd H l (.tup ys))) ∨ (SqT X.K H p ys ∧ Q (.ref p) H))) := by
  intro pins s σ H xs us Q I r h
  obtain ⟨p, ys, rfl, h⟩ := h
  obtain ⟨u, rfl, rx⟩ := vals1 r
  cases rx
  rcases h with ⟨hq, q⟩ | ⟨hq, q⟩
  · obtain ⟨its, r', pl, hz⟩ := I.list hq
    have hlen := r'.length
    refine call_tuple_list pl.isList (fun h' kp => ?_) (by simp only [List.size_toArray] <;> omega)
    have I1 : Inv X pins σ H { s with heap := h' } := I.kept (t' := s.toks) kp
    have I2 : Inv X pins σ (upd H h'.objs.size (.tup ys)) { s with heap := h'.push { cls := .type "tuple", data := .seq its.toArray } } :=
      I1.laid (t' := s.toks) (fun b o e => Heap.get?_push_of_some _ e) (Nat.le_refl _) (show ObjOk X.prog X.w _ _ _ (.tup ys) from ⟨hz, its, r', IsTup.new _ _⟩)
    exact ⟨.ref h'.objs.size, _, I2, rfl, q _ (I1.hok.fresh (Nat.le_refl _))⟩
  · obtain ⟨its, r', pl, hz⟩ := I.tuple hq
    exact call_tuple_same pl ⟨.ref p, H, I, rfl, q⟩

/-! ### the call of a builtin's method: o.m(..) -/
/-- the value is of that builtin type -/
def tyV (K : PySem.W.Frag) (T : String) (x : V) (H : Hp) : Prop := match x with
  | .str _ => T = "str"
  | .int _ => T = "int"
  | .ref p => (T = "list" ∧ ∃ xs, SqL K H p xs) ∨ (T = "tuple" ∧ ∃ o, K.lookup p = some o ∧ o.cls = .type "tuple" ∧ o.dict = none) ∨
      (T = "dict" ∧ ((∃ kvs, H p = some (.dK kvs)) ∨ ∃ kvs, H p = some (.dT kvs))) ∨ (T = "set" ∧ ∃ S n, H p = some (.set S n))
  | _ => False
theorem tyV_is {pins : List (Addr × Obj)} {σ : St} {H : Hp} {s : Shared} {T : String} {x : V} {v : Value} (I : Inv X pins σ H s) (r : RelV x v) (ty : tyV X.K T x H) :
    s.TypeIs v T ∧ ∀ a, v = .ref a → ∃ ob, s.heap.get? a = some ob ∧ ob.dict = none := by
  cases x with
  | str z =>
    obtain ⟨t, rfl⟩ := r
    cases (show T = "str" from ty)
    exact ⟨typeIs_str s z t, fun _ e => nomatch e⟩
  | int i =>
    obtain ⟨t, rfl⟩ := r
    cases (show T = "int" from ty)
    exact ⟨typeIs_int s i t, fun _ e => nomatch e⟩
  | ref p =>
    cases r
    rcases ty with ⟨rfl, xs, hq⟩ | ⟨rfl, o, hk, hc, hd⟩ | ⟨rfl, hk⟩ | ⟨rfl, S, n, hk⟩
    · obtain ⟨its, _, pl, _⟩ := I.list hq
      refine ⟨pl.isList.typeIs, fun a e => ?_⟩
      cases e
      obtain ⟨o, n, e, c, hd, _⟩ := pl
      exact ⟨o, e, hd⟩
    · refine ⟨⟨o, I.kIn p o hk, hc⟩, fun a e => ?_⟩
      cases e
      exact ⟨o, I.kIn _ o hk, hd⟩
    · have z : ∃ o, s.heap.get? p = some o ∧ o.ExactDict := by
        rcases hk with ⟨kvs, hk⟩ | ⟨kvs, hk⟩
        · obtain ⟨_, _, _, _, o, _, _, e, ex, _⟩ := I.hok p _ hk
          exact ⟨o, e, ex⟩
        · obtain ⟨_, _, _, _, o, _, _, e, ex, _⟩ := I.hok p _ hk
          exact ⟨o, e, ex⟩
      obtain ⟨o, e, ex⟩ := z
      refine ⟨⟨o, e, ex.1⟩, fun a e2 => ?_⟩
      cases e2
      exact ⟨o, e, ex.2.1⟩
    · obtain ⟨o, _, _, _, e, ex, _⟩ := I.hok p _ hk
      refine ⟨⟨o, e, ex.1⟩, fun a e2 => ?_⟩
      cases e2
      exact ⟨o, e, ex.2.1⟩
  | _ => exact False.elim ty
def tBM0 (K : PySem.W.Frag) (T : String) (r : V → List V → Hp → VK → Prop) (to : TE) : TE := fun σ H Q => to σ H fun x H1 => tyV K T x H1 ∧ r x [] H1 Q
def tBM (K : PySem.W.Frag) (T : String) (r : V → List V → Hp → VK → Prop) (to : TE) (t : TA) : TE := fun σ H Q => to σ H fun x H1 => tyV K T x H1 ∧ t σ H1 fun xs H2 => r x xs H2 Q
variable {o e : Expr} {es : List Expr} {to : TE} {t : TA} {name : Str} {apos cpos : Pos} {T id : String} {r : V → List V → Hp → VK → Prop}
theorem pe_bm (pa : PlainAttrs T) (slot : Slot T name id) (hty : typeOf (.builtin id) = pure (.type "method_descriptor")) (hm : MtR X id r) (ho : PE X o to) (ha : PA X (e :: es) t)
    (hbase : attributeBase o name X.env (eval o X.env) = eval o X.env := by rfl)
    (hfew : ((backTo cpos (starEach (e :: es) X.env)).all (fun x => !x.1) && (backToKw cpos (keywordEach [] X.env)).all (fun x => x.1.isSome)
      && decide ((e :: es).length + ([] : List Keyword).length + (if ([] : List Keyword).isEmpty then 0 else 1) < 30)) = true := by rfl)
    (hline : (apos.endLine == cpos.line) = true := by rfl) (hs : starEach (e :: es) X.env = (false, eval e X.env) :: starEach es X.env := by rfl) (hplain : (backTo cpos (starEach es X.env)).any (·.1) = false := by rfl) :
    PE X (.Call (.Attribute o name apos) (e :: es) [] cpos) (tBM X.K T r to t) := by
  intro pins s σ H Q I h
  refine wpAny_Call_method_late hbase hfew hline rfl (thn (ho pins s σ H _ I h) fun v s1 ⟨x, H1, I1, r1, ty, q1⟩ => ?_)
  obtain ⟨h1, h2⟩ := tyV_is I1 r1 ty
  refine ⟨T, id, pa, slot, hty, h1, h2, ?_⟩
  have hA := ha cpos pins s1 σ H1 _ I1 q1
  rw [hs] at hA ⊢
  refine Calls.callWith_builtin (by show (false || (backTo cpos (starEach es X.env)).any (·.1)) = false; rw [hplain] <;> rfl) (Calls.evalArgs_plain ?_)
  exact thn hA fun us s2 ⟨vs, H2, I2, r2, q2⟩ => hm pins s2 σ H2 x vs v us Q I2 r1 r2 q2
/- xs.append(e), list.index on a module's tuple .. are MtR facts of 06m -/
end
end L2

namespace L2
open PySem PySem.Spec PyProof.Rows

def MtM (X : Cx) (id : String) (r : V → List V → Hp → VK → Prop) : Prop :=
  ∀ (pins : List (Addr × Obj)) (s : Shared) (σ : St) (H : Hp) (x : V) (xs : List V) (v : Value) (us : List Value) (Q : VK), Inv X pins σ H s → RelV x v → Vals xs us → r x xs H Q →
    wpAny (model X.prog X.w) X.A (call (.builtin id) (v :: us)) (EP X pins σ Q) X.xe s

/-! ### lists of values -/
theorem Vals.one : ∀ {x : V} {us : List Value}, Vals [x] us → ∃ u, us = [u] ∧ RelV x u
  | _, _, .cons r .nil => ⟨_, rfl, r⟩
theorem Vals.rep {xs : List V} {us : List Value} (h : Vals xs us) : ∀ k : Nat, Vals (List.replicate k xs).flatten (List.replicate k us).flatten
  | 0 => .nil
  | k + 1 => by
    rw [List.replicate_succ, List.replicate_succ, List.flatten_cons, List.flatten_cons]
    exact Vals.append h (Vals.rep h k)
theorem foldl_rep (its : List Value) : ∀ (k : Nat) (acc : List Value),
    List.foldl (fun x1 x2 => x1 ++ x2) acc.toArray (List.replicate k its.toArray) = (acc ++ (List.replicate k its).flatten).toArray
  | 0, acc => by simp
  | k + 1, acc => by
    have e : acc.toArray ++ its.toArray = (acc ++ its).toArray := by simp
    have e2 : (acc ++ its) ++ (List.replicate k its).flatten = acc ++ (List.replicate (k + 1) its).flatten := by
      rw [List.replicate_succ, List.flatten_cons, List.append_assoc]
    rw [← e2, ← foldl_rep its k (acc ++ its), ← e, List.replicate_succ, List.foldl_cons]

section
variable {X : Cx} {pins : List (Addr × Obj)} {σ : St} {H : Hp} {s : Shared} {l b : Addr} {xs ys zs : List V}

/-! ### the two steps: a tracked list is rewritten, a new list is laid -/
theorem Inv.lset {its its' : List Value} {n : Nat} {f : Array Value → Array Value} {t' : Nat} (I : Inv X pins σ H s) (hH : H l = some (.lst xs))
    (e : s.heap.get? l = some { cls := .type "list", data := .seq its.toArray n }) (hf : f its.toArray = its'.toArray) (hv : Vals ys its') (hz : ys.length ≤ sizeLine) :
    Inv X pins σ (upd H l (.lst ys)) { s with heap := s.heap.update l (Obj.mapSeq f), toks := t' } := by
  have q := PySem.IsL.update e f
  rw [hf] at q
  refine I.write (x := l) (e := l) (by rw [hH]; exact trivial) (.inl rfl) (fun b' u hb hu => (Heap.get?_update_other s.heap (Obj.mapSeq f) (Ne.symm hb)).trans hu) ⟨_, q⟩ ?_
  exact ⟨hz, its', _, hv, q⟩
theorem Inv.lnew {its : List Value} {t' : Nat} (I : Inv X pins σ H s) (hv : Vals ys its) (hz : ys.length ≤ sizeLine) :
    Inv X pins σ (upd H s.heap.objs.size (.lst ys)) { s with heap := s.heap.push { cls := .type "list", data := .seq its.toArray }, toks := t' } :=
  I.laid (fun _ _ q => Heap.get?_push_of_some _ q) (Nat.le_refl _) ⟨hz, its, 0, hv, Heap.get?_push_size _ rfl⟩
theorem Inv.fresh (I : Inv X pins σ H s) : H s.heap.objs.size = none := I.hok.fresh (Nat.le_refl _)
theorem Inv.lstM (I : Inv X pins σ H s) (hH : H l = some (.lst xs)) : xs.length ≤ sizeLine ∧ ∃ (its : List Value) (n : Nat), Vals xs its ∧ xs.length = its.length ∧ s.heap.get? l = some { cls := .type "list", data := .seq its.toArray n } := by
  obtain ⟨z, its, n, r, e⟩ := I.hok l _ hH
  exact ⟨z, its, n, r, r.length, e⟩

theorem notLongL {n : Nat} (h : n ≤ sizeLine) : Builtin.List.listTooLong n = false := by
  unfold Builtin.List.listTooLong
  exact decide_eq_false (by omega)
end

section
variable {X : Cx}

/-! ### methods -/
def rAppend : V → List V → Hp → VK → Prop := fun x vs H Q => ∃ l xs y, x = .ref l ∧ vs = [y] ∧ H l = some (.lst xs) ∧ xs.length < sizeLine ∧ Q .non (upd H l (.lst (xs ++ [y])))
theorem mt_append : MtM X "list.append" rAppend := by
  intro pins s σ H x vs v us Q I rx rv h
  obtain ⟨l, xs, y, rfl, rfl, hH, hz, q⟩ := h
  cases rx
  obtain ⟨u, rfl, ru⟩ := rv.one
  obtain ⟨z, its, n, r, hl, e⟩ := I.lstM hH
  refine call_meets F.slot_list_append ⟨_, e, rfl⟩ F.entry_list_append (F.args_list_append_2 _ _) (PySem.list_append l its.toArray n u (by rw [List.size_toArray]; omega)) ⟨e, ?_⟩
  refine ⟨.non, _, I.lset (its' := its ++ [u]) hH e (by simp) (r.append (.cons ru .nil)) ?_, rfl, q⟩
  rw [List.length_append, List.length_singleton]
  omega

def rExtend : V → List V → Hp → VK → Prop := fun x vs H Q => ∃ l b xs zs, x = .ref l ∧ vs = [.ref b] ∧ H l = some (.lst xs) ∧ H b = some (.lst zs) ∧ xs.length + zs.length ≤ sizeLine ∧ Q .non (upd H l (.lst (xs ++ zs)))
theorem mt_extend : MtM X "list.extend" rExtend := by
  intro pins s σ H x vs v us Q I rx rv h
  obtain ⟨l, b, xs, zs, rfl, rfl, hH, hB, hz, q⟩ := h
  cases rx
  obtain ⟨u, rfl, ru⟩ := rv.one
  cases ru
  obtain ⟨z, its, n, r, hl, e⟩ := I.lstM hH
  obtain ⟨z2, its2, n2, r2, hl2, e2⟩ := I.lstM hB
  have hsz : its.toArray.size + its2.toArray.size ≤ sizeLine := by rw [List.size_toArray, List.size_toArray]; omega
  have hlong : ¬ (!its.toArray.isEmpty && Builtin.List.listTooLong (its.toArray.size + its2.toArray.size)) = true := by
    rw [notLongL hsz, Bool.and_false]
    exact Bool.false_ne_true
  refine call_meets F.slot_list_extend ⟨_, e, rfl⟩ F.entry_list_extend (F.args_list_extend_2 _ _)
    (AutoSeq1.list_extend_list_list_0 l its.toArray n b its2.toArray n2 hlong (by rw [List.size_toArray]; omega) (by omega)) ⟨e, e2, ?_⟩
  refine ⟨.non, _, I.lset (its' := its ++ its2) hH e (by simp) (r.append r2) ?_, rfl, q⟩
  rw [List.length_append]
  omega

def rPop : V → List V → Hp → VK → Prop := fun x vs H Q => ∃ l xs y, x = .ref l ∧ vs = [] ∧ H l = some (.lst xs) ∧ xs[xs.length - 1]? = some y ∧ Q y (upd H l (.lst xs.dropLast))
def rPopAt : V → List V → Hp → VK → Prop := fun x vs H Q => ∃ l xs i k y, x = .ref l ∧ vs = [.int i] ∧ H l = some (.lst xs) ∧ -(2 ^ 63) ≤ i ∧ i < 2 ^ 63 ∧ seqIndex? i xs.length = some k ∧ xs[k]? = some y ∧ Q y (upd H l (.lst (xs.eraseIdx k)))
def rReverse : V → List V → Hp → VK → Prop := fun x vs H Q => ∃ l xs, x = .ref l ∧ vs = [] ∧ H l = some (.lst xs) ∧ Q .non (upd H l (.lst xs.reverse))
def rClear : V → List V → Hp → VK → Prop := fun x vs H Q => ∃ l xs, x = .ref l ∧ vs = [] ∧ H l = some (.lst xs) ∧ Q .non (upd H l (.lst []))
/-! ### list + list, list += list, list * int -/
def rCat : R2 := fun x y H Q => ∃ l b xs zs, x = .ref l ∧ y = .ref b ∧ H l = some (.lst xs) ∧ H b = some (.lst zs) ∧ xs.length + zs.length ≤ sizeLine ∧ ∀ p, H p = none → Q (.ref p) (upd H p (.lst (xs ++ zs)))
theorem op_cat : OpR X (binaryOp .Add) rCat := by
  intro pins s σ H x y v u Q I rx ry h
  obtain ⟨l, b, xs, zs, rfl, rfl, hH, hB, hz, q⟩ := h
  cases rx
  cases ry
  obtain ⟨z, its, n, r, hl, e⟩ := I.lstM hH
  obtain ⟨z2, its2, n2, r2, hl2, e2⟩ := I.lstM hB
  refine PySem.P.add_list e e2 ?_ (by rw [List.size_toArray, List.size_toArray]; omega)
  have ea : its.toArray ++ its2.toArray = (its ++ its2).toArray := by simp
  rw [ea]
  exact ⟨.ref _, _, I.lnew (t' := s.toks) (r.append r2) (by rw [List.length_append]; omega), rfl, q _ I.fresh⟩
/-- a list times an int (a negative one is nothing) -/
def rRep : R2 := fun x y H Q => ∃ l k xs, x = .ref l ∧ y = .int k ∧ H l = some (.lst xs) ∧ -(2 ^ 63) ≤ k ∧ k < 2 ^ 63 ∧ xs.length * k.toNat ≤ sizeLine ∧
  ∀ p, H p = none → Q (.ref p) (upd H p (.lst (List.replicate k.toNat xs).flatten))
theorem len_rep {α : Type} (xs : List α) (k : Nat) : (List.replicate k xs).flatten.length = k * xs.length := by
  induction k with
  | zero => simp
  | succ k ih => rw [List.replicate_succ, List.flatten_cons, List.length_append, ih, Nat.succ_mul, Nat.add_comm]
theorem op_rep : OpR X (binaryOp .Mult) rRep := by
  intro pins s σ H x y v u Q I rx ry h
  obtain ⟨l, k, xs, rfl, rfl, hH, h1, h2, hz, q⟩ := h
  cases rx
  obtain ⟨t, rfl⟩ := ry
  obtain ⟨z, its, n, r, hl, e⟩ := I.lstM hH
  have hlen : its.toArray.size * k.toNat ≤ sizeLine := by rw [List.size_toArray, ← hl]; exact hz
  have hcap : ¬ its.toArray.size * k.toNat > (2 ^ 63 - 1) / 8 := by
    have : (sizeLine : Nat) ≤ (2 ^ 63 - 1) / 8 := by decide
    omega
  have hfit : ¬ (!Builtin.List.listFitsIndex k) = true := by
    rw [fitsIndex_both h1 h2]
    exact Bool.false_ne_true
  have hlong : ¬ Builtin.List.listTooLong (its.toArray.size * k.toNat) = true := by
    rw [notLongL hlen]
    exact Bool.false_ne_true
  have hnew : List.foldl (fun x1 x2 => x1 ++ x2) #[] (List.replicate (if its.toArray.isEmpty = true then 0 else k.toNat) its.toArray) = (List.replicate k.toNat its).flatten.toArray := by
    have f0 : ∀ m : Nat, List.foldl (fun x1 x2 => x1 ++ x2) #[] (List.replicate m its.toArray) = (List.replicate m its).flatten.toArray := fun m => by
      have := foldl_rep its m []
      rw [List.nil_append] at this
      exact this
    rw [f0]
    cases its with
    | nil => simp
    | cons a r' => rw [if_neg (by simp)]
  refine wpAny_binaryOp_repeat_ref (T := "list") (U := "int") (by decide) ⟨_, e, rfl⟩ (fun s' => typeIs_int s' k t) noFill_list_mul F.fills_int_mul F.slot_int_rmul repeat_list F.slot_int_index.lookup
    (call_meets F.slot_int_rmul (typeIs_int s k t) F.entry_int_rmul (F.args_int_rmul_2 _ _) (int___rmul___int_list k t l its.toArray n)
      ⟨e, rfl, ⟨_, e, rfl⟩, call_meets F.slot_list_mul ⟨_, e, rfl⟩ F.entry_list_mul (F.args_list_mul_2 _ _) (AutoListH.list___mul___list_int_3 l its.toArray n k t hfit hcap hlong) ⟨e, ?_⟩⟩)
  rw [hnew]
  exact ⟨.ref _, _, I.lnew (t' := s.toks) (r.rep k.toNat) (by rw [len_rep, Nat.mul_comm]; exact hz), rfl, q _ I.fresh⟩

/-! ### del xs[i] -/
end

/-! ### xs[a:b] = ys -/
section
variable {prog : Program} {w : World} {A : Around} {E : Value → Shared → Prop} {s : Shared}
end

section
variable {X : Cx}
end
end L2

namespace Att
open PySem PySem.W PySem.Calls PyProof.Rows

/-! ### the script -/
theorem ints_of_wellAll {P : Params} {h : Heap} : ∀ (ns : List Int) (vs : List Value), WellAll P h vs (ns.map WData.int) → IntsAre vs ns := by
  intro ns
  induction ns with
  | nil =>
    intro vs w
    rw [List.map_nil] at w
    cases w
    exact .nil
  | cons n ns ih =>
    intro vs w
    rw [List.map_cons] at w
    cases w with
    | cons a b =>
      cases a
      exact .cons _ _ (ih _ b)

theorem script_of {l : OpenLaw} {n : Nat} (hn : l.most = some n) {P : Params} {h : Heap} {args : List WData} {vals : List Value}
    (hpre : l.row.toRowW.claim.pre args = true) (hwl : WellAll P h vals args) :
    ∃ a vs ns, vals = [Value.ref a] ∧ args = [WData.list (ns.map WData.int)] ∧ h.get? a = some { cls := .type "list", data := .seq vs.toArray } ∧ IntsAre vs ns ∧ ns.length ≤ n := by
  have hsh : WShape.hasAll [] args [.list .int] = true := (pre_splitW hpre).1
  have hc : l.pre.holds [] { args := args } = true := (pre_splitW hpre).2
  obtain ⟨d, r, rfl, h1, h2⟩ := hasAllW_cons hsh
  obtain rfl := hasAllW_nil h2
  obtain ⟨xs, rfl, h3⟩ := hasW_list h1
  obtain ⟨ns, rfl⟩ := items_int h3
  have hlen : ns.length ≤ n := by
    unfold OpenLaw.pre at hc
    have h4 : (WTm.not (.lt (.lit (.int (n : Int))) (.len (.arg 0)))).holds [] { args := [.list (ns.map .int)] } = true := by
      have h4 := (holds_andW hc).1
      rw [hn] at h4
      exact h4
    have h5 := condW_of h4 (w_not (w_lt w_lit (w_len_list (w_arg rfl))))
    rw [List.length_map] at h5
    refine Nat.le_of_not_lt fun q => ?_
    have q' : (n : Int) < ((ns.length : Nat) : Int) := by omega
    first
      | (rw [decide_eq_true q'] at h5; exact absurd h5 (by decide))
      | (simp at h5; omega)
  cases hwl with
  | cons w1 w2 =>
    cases w2
    cases w1 with
    | list ho hall => exact ⟨_, _, ns, rfl, rfl, ho, ints_of_wellAll ns _ hall, hlen⟩

theorem post_true (l : OpenLaw) (args : List WData) : l.row.toRowW.claim.post args (.bool true) args = true :=
  postW_of (r := l.row.toRowW) (X := (true == true))
    (show WShape.has [] (.bool true) .bool = true by first | rfl | decide | simp [WShape.has, WShape.arms, WShape.armsAll])
    (show (WTm.eq .res (.lit (.bool true))).value [] { args := args, res := some (.bool true), after := args } = some (.bool (true == true)) from w_eq_bool (w_res rfl) w_lit) rfl

/-! ### the attachment: holds_open's last premise (the goal 'hc' behind k_head) from a wpAny of the law's body -/
/-- the same from a codeAny of the CALL (for a layer whose function contracts speak of calls) -/
theorem attach_call {l : OpenLaw} {n : Nat} {q : Program} {loose : List Str} {XP : (Str → Option Value) → Heap → Prop} {YP : World → Heap → Prop} {d : DefRec}
    (hn : l.most = some n) (hdf : d.params.defaults = [])
    (call : ∀ (w : World) (s₀ s₁ : Shared) (mg mb : Str → Option Value) (fa : Addr) (o : Obj) (pm cd doc : Value) (a : Addr) (vs : List Value) (ns : List Int),
      Ground q loose [] XP w s₀ mg mb s₁.heap → YP w s₁.heap →
      s₁.heap.get? fa = some o → o.data = .func (docDef d.name d.params d.body d.scope pm cd doc) → s₁.heap.CodeRec cd d.name → mg d.name = some (.ref fa) →
      s₁.heap.get? a = some { cls := .type "list", data := .seq vs.toArray } → IntsAre vs ns → ns.length ≤ n → s₁.gens = #[] →
      codeAny (model l.prog w) callerA (.call (.ref fa) ⟨[.ref a], []⟩) (fun r s' => r = .ok (.ret (.bool true)) ∧ OldK s₁.heap s'.heap ∧ s'.os = s₁.os ∧ AllBare s'.gens) s₁) :
    WalkO q loose XP YP l.row.toRowW d [] (fun f vs => PySem.call f vs) := by
  intro w s₀ s₁ mg mb G Y fa o pm cd doc dV kV ho hd hcd hD hmg hg args vals as hpre hlay hrd hwl hlo
  obtain rfl : dV = .none := Dflts.none hD hdf
  obtain rfl : kV = .none := Dflts.noKw hD
  obtain ⟨a, vs, ns, rfl, rfl, hobj, hints, hlen⟩ := script_of hn hpre hwl
  refine enter_call (codeAny_mono (call w s₀ s₁ mg mb fa o pm cd doc a vs ns G Y ho (fd_plain hd) hcd hmg hobj hints hlen hg) fun r s' hq => ?_)
  obtain ⟨rfl, h2, h3, h4⟩ := hq
  exact ⟨.inl ⟨.bool true, .bool true, [], rfl, fun _ => rfl, .bool true, post_true l _, fun _ => ⟨List.Pairwise.nil, fun _ hm => (nomatch hm)⟩⟩, h2, h3, h4⟩

/-! ### rules over ANY heap (no ledger) from facts about the written part K: the library's own take a ledger (News) for what they write -/
section
variable {prog : Program} {w : World} {A : Around} {E : Value → Shared → Prop} {s : Shared} {K : Frag}

/-! the whole heap as the ledger: makes every rule that writes through a ledger a rule over any heap -/
def noObjs (h : Heap) : Heap := { h with objs := #[] }
def ledger (h : Heap) (L d : Addr) : List (Addr × Obj) := (List.range h.objs.size).filterMap fun a => if a = L ∨ a = d then none else (h.get? a).map fun o => (a, o)
end
end Att

namespace L2
open PySem PySem.Spec PyProof.Rows

theorem vals_ints : ∀ {vs : List Value} {ns : List Int}, IntsAre vs ns → Vals (ns.map V.int) vs
  | _, _, .nil => .nil
  | _, _, .cons n t h => .cons ⟨t, rfl⟩ (vals_ints h)

/-- nothing is tracked but the script, known to the object (or it is an object of the module) -/
def Only (H : Hp) : Prop := ∀ b, H b = none ∨ ∃ o xs, H b = some (.frz o (.lst xs))

/-- THE HEAD: the law's promise, at the heap behind the top. F, the promise of the law's def, may use that base is part of the heap (so K.In base, base.Ns mainGlobals mg stand in Mod) -/
theorem law_call {P : Program} {w : World} {K : PySem.W.Frag} {mg mb : Str → Option Value} {CX : CXT} {k : Nat} {fa a : Addr} {fd : FuncData} {x : Str} {sp : Sp} {s₁ : Shared} {vs : List Value} {ns : List Int}
    (KX : K.In s₁.heap) (hns : s₁.heap.Ns mainGlobals mg) (hb : s₁.heap.Ns builtinsNs mb) (hbb : ∀ x : Str, x ≠ "__name__" → mb x = bootBuiltins x) (hlim : s₁.heap.NoLimit) (hg : s₁.gens = #[])
    (ha : s₁.heap.get? a = some { cls := .type "list", data := .seq vs.toArray }) (hi : IntsAre vs ns) (hl : ns.length ≤ sizeLine) (hr : Room k callerA)
    (F : ∀ base : Heap, K.In base → base.Ns mainGlobals mg → FnOk P w K mg base CX k fa fd [x] sp) (hbind : ∀ (s : Shared) (u : Value), BindsTo s fd ⟨[u], []⟩ [(x, u)])
    (hsp : ∀ H : Hp, Only H → SqL K H a (ns.map V.int) → sp [.ref a] H (fun v _ => v = .bl true) fun _ _ _ => False)
    (hCX : ∀ H e s', CX [] H s₁ (fun _ _ _ => False) e s' → False) :
    codeAny (model P w) callerA (.call (.ref fa) ⟨[.ref a], []⟩) (fun r s' => r = .ok (.ret (.bool true)) ∧ OldK s₁.heap s'.heap ∧ s'.os = s₁.os ∧ AllBare s'.gens) s₁ := by
  have rv := vals_ints hi
  have lenV := hi.length
  -- from an abstract heap in which nothing but the script may be tracked
  have core : ∀ H : Hp, Only H → SqL K H a (ns.map V.int) → HOk P w H s₁.heap → (∀ b, H b ≠ none → b = a) → (H a ≠ none → K.lookup a = none) →
      codeAny (model P w) callerA (.call (.ref fa) ⟨[.ref a], []⟩) (fun r s' => r = .ok (.ret (.bool true)) ∧ OldK s₁.heap s'.heap ∧ s'.os = s₁.os ∧ AllBare s'.gens) s₁ := by
    intro H hO hS hok hA hK
    have base_of : ∀ {b : Addr} {o : Obj}, s₁.heap.get? b = some o → H b = none → (hidT s₁.heap H).get? b = some o := fun e n => hidT_get e n
    have noA : ∀ {b : Addr} {o : Obj} {es : Array DictEntry} {ep : Nat}, s₁.heap.get? b = some o → o.data = .dict es ep → H b = none := fun {b o es ep} e d => by
      cases q : H b with
      | none => rfl
      | some u =>
        have e' : b = a := hA b (by rw [q]; simp)
        subst e'
        rw [ha] at e; cases e
        have d' : Data.seq vs.toArray _ = Data.dict es ep := d
        cases d'
    have nsK : ∀ {b : Addr} {m : Str → Option Value}, s₁.heap.Ns b m → (hidT s₁.heap H).Ns b m := fun {b m} ⟨o, es, ep, e, d, r⟩ => ⟨o, es, ep, base_of e (noA e d), d, r⟩
    have hKb : K.In (hidT s₁.heap H) := fun b o e => base_of (KX b o e) (by
      cases q : H b with
      | none => rfl
      | some u =>
        have e' : b = a := hA b (by rw [q]; simp)
        subst e'
        rw [hK (by rw [q]; simp)] at e; cases e)
    have hM : Mod K mg (hidT s₁.heap H) := ⟨hKb, nsK hns, ⟨mb, nsK hb, hbb⟩, let ⟨mc, h1, h2⟩ := hlim; ⟨mc, nsK h1, h2⟩⟩
    have e0 : Env0 P w K mg (hidT s₁.heap H) callerA [] s₁ H := ⟨rfl, hM, fun b o e => of_hidT e, Nat.le_of_eq (hidT_size _ _), trivial, fun b hb => absurd (show b ∈ ([] : List Addr) from hb) (by simp), hok, .of_eq hg⟩
    refine codeAny_mono ((F _ hKb (nsK hns)).run callerA [] s₁ H ⟨[.ref a], []⟩ [.ref a] [.ref a] _ _ hr e0 (hbind s₁ (.ref a)) (.cons rfl .nil) (hsp H hO hS)) fun r s' h => ?_
    cases r with
    | error e => exact (hCX H e s' h).elim
    | ok fl =>
      cases fl with
      | next => exact False.elim h
      | brk => exact False.elim h
      | cont => exact False.elim h
      | ret u =>
        obtain ⟨v, H', os, bare, un, hok', r', q⟩ := h
        have q' : v = .bl true := q
        subst q'
        obtain rfl : u = Value.bool true := r'
        refine ⟨rfl, OldK.of_keep fun b o e => ?_, os, bare⟩
        cases q : H b with
        | none => exact un.keep b o e q (by intro z; exact absurd (show b ∈ ([] : List Addr) from z) (by simp)) (by simp)
        | some u =>
          rcases hO b with z | ⟨ob, xs, z⟩
          · rw [q] at z; cases z
          · have z2 := un.frzs b ob _ z
            obtain ⟨e1, _⟩ := hok b _ z
            obtain ⟨e2, _⟩ := hok' b _ z2
            rw [e] at e1; cases e1
            exact e2
  cases hk : K.lookup a with
  | some o =>
    -- the script is one of the module's own objects
    have e := KX a o hk
    rw [ha] at e
    cases e
    refine core (fun _ => none) (fun _ => .inl rfl) (.inr ⟨_, vs.toArray, _, hk, rfl, rfl, rfl, by rw [List.size_toArray, lenV]; exact hl, by simpa using rv⟩) (fun b u z => by have z' : (none : Option HO) = some u := z; cases z') (fun b z => absurd rfl z) fun z => absurd rfl z
  | none =>
    refine core (fun b => if b = a then some (.frz { cls := .type "list", data := .seq vs.toArray } (.lst (ns.map V.int))) else none) (fun b => ?_) (.inl (.inr ⟨{ cls := .type "list", data := .seq vs.toArray }, if_pos rfl⟩)) (fun b u z => ?_) (fun b z => ?_) fun _ => hk
    · by_cases hb : b = a
      · exact .inr ⟨_, _, if_pos hb⟩
      · exact .inl (if_neg hb)
    · by_cases hb : b = a
      · have z' := (if_pos hb).symm.trans z
        cases z'
        subst hb
        exact ⟨ha, by rw [List.length_map]; exact hl, vs, _, rv, ha⟩
      · have z' := (if_neg hb).symm.trans z
        cases z'
    · by_cases hb : b = a
      · exact hb
      · exact absurd (if_neg hb) z
end L2

namespace L2
open PySem PySem.Spec PyProof.Rows

abbrev KOf {K : PySem.W.Frag} {h : Heap} (_ : K.In h) : PySem.W.Frag := K

/-- the goal that k_head leaves (case hc), from the law's promise. F gives the function object fd (K's own) once, then the promise over every base -/
theorem walk_of {l : PySem.W.OpenLaw} {n k : Nat} {q : Program} {loose : List Str} {XP : (Str → Option Value) → Heap → Prop} {YP : World → Heap → Prop} {d : DefRec} {K : Params → PySem.W.Frag} {CX : World → CXT} {sp : World → Sp} {x : Str}
    (hn : l.most = some n) (hn2 : n ≤ sizeLine) (hdf : d.params.defaults = []) (hr : Room k callerA)
    (hY : ∀ (w : World) (h : Heap), YP w h → (K w.params).In h)
    (F : ∀ (w : World) (mg : Str → Option Value) (fa : Addr) (h : Heap), (K w.params).In h → h.Ns mainGlobals mg → mg d.name = some (.ref fa) →
      ∃ fd : FuncData, (∀ (s : Shared) (u : Value), BindsTo s fd ⟨[u], []⟩ [(x, u)]) ∧
        ∀ base : Heap, (K w.params).In base → base.Ns mainGlobals mg → FnOk l.prog w (K w.params) mg base (CX w) k fa fd [x] (sp w))
    (hsp : ∀ (w : World) (H : Hp) (a : Addr) (ns : List Int), ns.length ≤ n → Only H → SqL (K w.params) H a (ns.map V.int) → sp w [.ref a] H (fun v _ => v = .bl true) fun _ _ _ => False)
    (hCX : ∀ (w : World) (H : Hp) (s : Shared) (e : Value) (s' : Shared), CX w [] H s (fun _ _ _ => False) e s' → False) :
    PySem.W.WalkO q loose XP YP l.row.toRowW d [] (fun f vs => PySem.call f vs) := by
  refine Att.attach_call hn hdf fun w s₀ s₁ mg mb fa o pm cd doc a vs ns G Y ho hd hcd hmg hobj hints hlen hg => ?_
  have KX := hY w _ Y
  obtain ⟨fd, hb, hF⟩ := F w mg fa _ KX G.T.g hmg
  exact law_call KX G.T.g G.T.b G.T.builtins G.T.nolimit hg hobj hints (Nat.le_trans hlen hn2) hr hF hb (fun H hO hS => hsp w H a ns hlen hO hS) fun H e s' => hCX w H s₁ e s'
/-- the same where the promise hangs on the written part alone: (sp := My.sp_law), no hole under a binder -/
theorem walk_ofK {l : PySem.W.OpenLaw} {n k : Nat} {q : Program} {loose : List Str} {XP : (Str → Option Value) → Heap → Prop} {YP : World → Heap → Prop} {d : DefRec} {K : Params → PySem.W.Frag} {CX : CXT} {sp : PySem.W.Frag → Sp} {x : Str}
    (hn : l.most = some n) (hn2 : n ≤ sizeLine) (hdf : d.params.defaults = []) (hr : Room k callerA)
    (hY : ∀ (w : World) (h : Heap), YP w h → (K w.params).In h)
    (F : ∀ (w : World) (mg : Str → Option Value) (fa : Addr) (h : Heap), (K w.params).In h → h.Ns mainGlobals mg → mg d.name = some (.ref fa) →
      ∃ fd : FuncData, (∀ (s : Shared) (u : Value), BindsTo s fd ⟨[u], []⟩ [(x, u)]) ∧
        ∀ base : Heap, (K w.params).In base → base.Ns mainGlobals mg → FnOk l.prog w (K w.params) mg base CX k fa fd [x] (sp (K w.params)))
    (hsp : ∀ (K : PySem.W.Frag) (H : Hp) (a : Addr) (ns : List Int), ns.length ≤ n → Only H → SqL K H a (ns.map V.int) → sp K [.ref a] H (fun v _ => v = .bl true) fun _ _ _ => False)
    (hCX : ∀ (H : Hp) (s : Shared) (e : Value) (s' : Shared), CX [] H s (fun _ _ _ => False) e s' → False) :
    PySem.W.WalkO q loose XP YP l.row.toRowW d [] (fun f vs => PySem.call f vs) :=
  walk_of (K := K) (CX := fun _ => CX) (sp := fun w => sp (K w.params)) hn hn2 hdf hr hY F (fun w H a ns h1 h2 h3 => hsp (K w.params) H a ns h1 h2 h3) fun _ H s e s' => hCX H s e s'
end L2

/- THE LAST THEOREM (shape; LID, My.* are yours):
   My.Adr: a structure of the addresses that your layer names (classes, functions); My.Txt K t: a structure (Prop) of the equations over K;
   My.txt_mk : {K} {implicit addresses ..} (e1 : nsIn K mainGlobals "law" = some (some (.ref f))) (e2 : K.lookup f = some ⟨oc, od, .func (fnOf "law" "law" params body scope dV kV doc pm an cdv ct), sl⟩) (e3 : codeIn K cdv "law" = true) .. : ∃ t, My.Txt K t

set_option maxRecDepth 100000 in
set_option maxHeartbeats 0 in
theorem PySem.Challenge.cw_LID_holds : PySem.Challenge.rw_LID.Holds := by
  w_on; o_law; k_head; (case hw => w_witness2)
  k_fill
  refine L2.walk_of (l := PySem.Challenge.rw_LID) (n := 63) (k := 40) (x := "script") (CX := fun w => ..) (sp := fun _ => My.sp_law) rfl (by decide) rfl ⟨rfl, by decide, by decide⟩ (fun w h Y => PySem.W.kIn_of Y) ?F ?S ?C
  case F =>
    intro w mg fa h KX G hmg
    have T : ∃ t, My.Txt (L2.KOf KX) t := by
      dsimp only [L2.KOf]                          -- K must stand as «<heap const> w.params» for k_is
      refine' My.txt_mk ?e1 ?e2 ?e3 ..
      (case e1 => PySem.W.k_is)                    -- in the order: a name -> its address -> its object -> its parts
      (case e2 => PySem.W.k_is)
      ..
    obtain ⟨t, T⟩ := T
    have e0 := hmg.symm.trans (PySem.W.mg_of KX G T.law)
    cases e0                                       -- fa is the law's own address
    exact ⟨_, fun s u => .of_eq rfl, fun base kb nb => My.law_fn T kb nb⟩     -- if «.of_eq rfl» comes too early: refine' ⟨_, ?b, fun base kb nb => My.law_fn T kb nb⟩; exact fun s u => .of_eq rfl
  case S => exact fun w H a ns hl hO hS => ..
  case C => exact ..
(the tactic k_is has no namespace: write k_is) -/

/-! SHORT WORDS over the layer: a def of the text, its body, what a loop and a test want. -/
namespace L2
open PySem PySem.Spec PyProof.Rows

/-! ### the text by places -/
/-- the j-th statement of a class's body -/
def inClass (s : Stmt) (j : Nat) : Stmt := match s with
  | .ClassDef _ _ _ body _ _ _ _ _ _ _ => body.getD j (.Pass ⟨0, 0, 0, 0⟩)
  | _ => .Pass ⟨0, 0, 0, 0⟩
def defArgs (s : Stmt) : Arguments := match s with
  | .FunctionDef _ a _ _ _ _ _ _ _ _ => a
  | _ => { posonlyargs := [], args := [], vararg := none, kwonlyargs := [], kw_defaults := [], kwarg := none, defaults := [] }
def defBody (s : Stmt) : List Stmt := match s with
  | .FunctionDef _ _ b _ _ _ _ _ _ _ => b
  | _ => []
def defScope (s : Stmt) : Scope := match s with
  | .FunctionDef _ _ _ _ _ _ sc _ _ _ => sc
  | _ => { kind := .function, names := [], isGenerator := false, isCoroutine := false }

/-! ### no exception leaves a def -/
abbrev CX0 : CXT := fun _ _ _ _ _ _ => False
abbrev E0 : XK := fun _ _ _ => False
theorem pass0 {X : Cx} : Passes CX0 X E0 := fun _ _ _ _ _ _ _ h => h.elim

/-! ### a def (or method) of the text as it stands behind the top -/
structure Fun (K : PySem.W.Frag) (x qual : Str) (st : Stmt) (f : Addr) (fd : FuncData) : Prop where
  ex : ∃ (oc : Value) (od : Option Addr) (kV doc pm : Value) (an : Option Addr) (cdv ct : Value) (osl : Array (Option Value)),
    fd = PySem.W.fnOf x qual (defArgs st) (defBody st) (defScope st) .none kV doc pm an cdv ct ∧ K.lookup f = some ⟨oc, od, .func fd, osl⟩ ∧ PySem.W.codeIn K cdv qual = true
  kp : PySem.W.keepIn K (.ref f) = true
section
variable {P : Program} {w : World} {K : PySem.W.Frag} {mg : Str → Option Value} {base : Heap}
/-- THE RULE for a def: its body as a term of rules, and the reading of that term -/
theorem Fun.ok {x qual : Str} {st : Stmt} {f : Addr} {fd : FuncData} {N ps : List Str} {k : Nat} {sp : Sp} (F : Fun K x qual st f fd) (S : FnScope N ps (defScope st)) (len : ∀ vs H Q E, sp vs H Q E → vs.length = ps.length)
    (hbody : ∀ (cdv : Value) (A : Around) (outer : List Env) (s : Shared) (H : Hp) (vs : List V) (Q : VK) (E : XK), Room k (A.deeper (envOfC qual (defScope st) s.heap.objs.size f cdv)) → sp vs H Q E →
      ∃ t, PSs (cxOf CX0 P w K mg base N qual (defScope st) f cdv A outer s H E).nox (defBody st) t ∧ t { nx := fun _ H' => Q .non H', rt := Q } (start N vs) H) : FnOk P w K mg base CX0 (k + 1) f fd ps sp := by
  obtain ⟨oc, od, kV, doc, pm, an, cdv, ct, osl, rfl, lk, hcd⟩ := F.ex
  refine fn_of lk hcd S len fun A outer s H vs Q E hr hsp => ?_
  obtain ⟨t, h, q⟩ := hbody cdv A outer s H vs Q E hr hsp
  exact ⟨t, h.nox, q⟩
/-- how its arguments bind (no defaults): h is «fun _ _ _ _ _ _ us hl => match us, hl with | [_, _], _ => rfl», one _ a parameter -/
theorem Fun.binds {x qual : Str} {st : Stmt} {f : Addr} {fd : FuncData} {ps : List Str} (F : Fun K x qual st f fd)
    (h : ∀ (kV doc pm : Value) (an : Option Addr) (cdv ct : Value) (us : List Value), us.length = ps.length → bindArgs (PySem.W.fnOf x qual (defArgs st) (defBody st) (defScope st) .none kV doc pm an cdv ct) ⟨us, []⟩ = pure (ps.zip us)) : Binds K fd ps [] := by
  obtain ⟨oc, od, kV, doc, pm, an, cdv, ct, osl, rfl, lk, hcd⟩ := F.ex
  exact .all (h kV doc pm an cdv ct)
theorem fun_mk {x qual : Str} {st : Stmt} {f : Addr} {oc : Value} {od an : Option Addr} {osl : Array (Option Value)} {kV doc pm cdv ct : Value} (l : K.lookup f = some ⟨oc, od, .func (PySem.W.fnOf x qual (defArgs st) (defBody st) (defScope st) .none kV doc pm an cdv ct), osl⟩)
    (c : PySem.W.codeIn K cdv qual = true) (k : PySem.W.keepIn K (.ref f) = true) : Fun K x qual st f (PySem.W.fnOf x qual (defArgs st) (defBody st) (defScope st) .none kV doc pm an cdv ct) := ⟨⟨oc, od, kV, doc, pm, an, cdv, ct, osl, rfl, l, c⟩, k⟩
end
/-! ### expressions in short: the name that stands in the i-th slot -/
section
variable {X : Cx}
theorem pv (i : Nat) {x : Str} {pos : Pos} (hN : X.N[i]? = some x := by rfl) (hv : Vis X.env.scope x := by first | exact Or.inl rfl | exact Or.inr (Or.inl rfl) | exact Or.inr (Or.inr rfl)) (hd : (x == ("__debug__" : Str)) = false := by decide)
    (hcd : (x == ("__classdict__" : Str)) = false := by decide) : PE X (.Name x pos) (tVar i) := pe_var hN hv hd hcd
end

/-! ### tests -/
theorem iteF {A B : Prop} (h : B) : if false = true then A else B := by
  rw [if_neg Bool.false_ne_true]
  exact h
theorem iteT {A B : Prop} (h : A) : if true = true then A else B := by
  rw [if_pos rfl]
  exact h
theorem ite2 {c A B : Prop} [Decidable c] (h1 : c → A) (h2 : ¬ c → B) : if c then A else B := by
  by_cases h : c
  · rw [if_pos h]
    exact h1 h
  · rw [if_neg h]
    exact h2 h
/-! ### heaps -/
/-- all that was tracked is as it was -/
def Same (H H' : Hp) : Prop := ∀ b o, H b = some o → H' b = some o
theorem Same.refl (H : Hp) : Same H H := fun _ _ h => h
theorem Same.trans {H H1 H2 : Hp} (a : Same H H1) (b : Same H1 H2) : Same H H2 := fun c o h => b c o (a c o h)
theorem Same.free {H H' : Hp} (e : Same H H') {l : Addr} (h : H' l = Option.none) : H l = Option.none := by
  cases q : H l with
  | none => rfl
  | some o =>
    rw [e l o q] at h
    cases h
theorem Same.seq {K : PySem.W.Frag} {H H' : Hp} {a : Addr} {xs : List V} (e : Same H H') (h : SqL K H a xs) : SqL K H' a xs := by
  rcases h with (h | ⟨o, h⟩) | h
  · exact .inl (.inl (e _ _ h))
  · exact .inl (.inr ⟨o, e _ _ h⟩)
  · exact .inr h

end L2
set_option maxHeartbeats 4000000
/-! MY OWN WORDS OVER THE HAND LAYER: large ints, isinstance, enumerate, a list taken apart, calls in short. -/
namespace L2
open PySem PySem.Spec PyProof.Rows

/-! ### large ints -/
def Big (i : Int) : Prop := i.natAbs < 2 ^ 4000
theorem log2_lt_of {n m : Nat} (h : n < 2 ^ m) (hm : 0 < m) : n.log2 < m := by
  rcases Nat.eq_zero_or_pos n with h0 | hp
  · rw [h0]
    exact Nat.lt_of_le_of_lt (by decide) hm
  · exact (Nat.log2_lt (Nat.ne_of_gt hp)).mpr h
def CMulB (i j : Int) : Prop := Big i ∧ Big j
def CDivB (_ j : Int) : Prop := 0 < j ∧ Big j
section
variable {X : Cx}
theorem op_fdivB : OpR X (binaryOp .FloorDiv) (rI CDivB fun i j => .int (i / j)) := opI fun i j _ _ _ _ _ hc q => by
  have h1 : (0 : Int) < j := hc.1
  have h2 : j.natAbs.log2 < 4000 := log2_lt_of hc.2 (by decide)
  exact floordiv_int (by omega) (by rw [Int.fdiv_eq_ediv_of_nonneg i (by omega)]; exact q) (.inl (PyProof.noPylong_of_log2 (by omega)))

/-! ### isinstance(x, C), C a built-in type or an own class -/
theorem call_isinst : CallR X (.builtin "isinstance") (fun xs H Q => ∃ (x c : V) (t : Value) (b : Bool), xs = [x, c] ∧ TyOf X.K H x t ∧ (∃ u, RelV c u ∧ (∀ u', RelV c u' → u' = u) ∧ PySem.W.kitOne X.K t u = some b) ∧ Q (.bl b) H) := by
  intro pins s σ H xs us Q I r h
  obtain ⟨x, c, t, b, rfl, ty, ⟨u, _, hu, e⟩, q⟩ := h
  obtain ⟨u1, u2, rfl, r1, r2⟩ := vals2 r
  have e2 := hu u2 r2
  subst e2
  exact isinst_ok I r1 ty e fun tk => ⟨.bl b, H, I.tok _, rfl, q⟩
/-- .. a built-in type -/
def rIsT (K : PySem.W.Frag) (n : String) : List V → Hp → VK → Prop := fun xs H Q => ∃ (x : V) (t : Value) (b : Bool), xs = [x, .ty n] ∧ TyOf K H x t ∧ PySem.W.kitOne K t (.type n) = some b ∧ Q (.bl b) H
theorem call_isT (n : String) : CallR X (.builtin "isinstance") (rIsT X.K n) := by
  intro pins s σ H xs us Q I r h
  obtain ⟨x, t, b, rfl, ty, e, q⟩ := h
  exact call_isinst pins s σ H _ us Q I r ⟨x, .ty n, t, b, rfl, ty, ⟨.type n, rfl, fun u' h' => h', e⟩, q⟩
/-- .. an own class at C -/
def rIsC (K : PySem.W.Frag) (C : Addr) : List V → Hp → VK → Prop := fun xs H Q => ∃ (x : V) (t : Value) (b : Bool), xs = [x, .ref C] ∧ TyOf K H x t ∧ PySem.W.kitOne K t (.ref C) = some b ∧ Q (.bl b) H
/-! ### several records of ours have turned, and a new object was laid -/
theorem Inv.turnedNew {pins : List (Addr × Obj)} {σ : St} {H : Hp} {s : Shared} {h' : Heap} {t' : Nat} {ch : List Addr} {a : Addr} {o : HO} (I : Inv X pins σ H s) (k : ∀ b u, b ∉ ch → s.heap.get? b = some u → h'.get? b = some u)
    (hf : ∀ b ∈ ch, FpOk X pins H b) (hp : s.heap.objs.size ≤ a) (new : ObjOk X.prog X.w (upd H a o) h' a o) : Inv X pins σ (upd H a o) { s with heap := h', toks := t' } := by
  have na : H a = none := I.hok.fresh hp
  have nch : ∀ b u, H b = some u → b ∉ ch := fun b u e z => by
    have := (hf b z).1
    rw [this] at e
    cases e
  refine I.step (g' := s.gens) (d' := s.drawn) (ch := ch) (fun b hb => ?_) (fun b u _ _ hc e _ => k b u hc e) (fun b u _ _ hc e _ => ⟨u.slots, k b u hc e⟩) (fun b u _ e n => ?_)
    (fun b u hc e => ⟨u, k b u hc e⟩) (fun b xs e => by rw [upd_ne (ne_of_none e na)]; exact e) (fun b u v e => by rw [upd_ne (ne_of_none e na)]; exact e) (fun b ps e => ⟨#[], by rw [upd_ne (ne_of_none e na), e]; simp⟩) (fun m hm => ?_) (fun b u e => ?_) I.bare
  · obtain ⟨_, f1, _, f3, f4, f5⟩ := hf b hb
    exact ⟨f3, f1, f4, f5⟩
  · have hne : b ≠ a := Nat.ne_of_lt (Nat.lt_of_lt_of_le (Heap.lt_size e) hp)
    rw [upd_ne hne]
    exact n
  · obtain ⟨ob, es, ep, ho, r⟩ := hm
    exact ⟨ob, es, ep, k _ ob (fun z => (hf _ z).2.1 rfl) ho, r⟩
  · by_cases hb : b = a
    · subst hb
      rw [upd_same] at e
      cases e
      exact new
    · rw [upd_ne hb] at e
      refine (I.hok b u e).stay (fun c v hc q => k c v ?_ q) (fun c q => by rw [upd_ne (ne_of_none q na)]; exact q) fun c xs q => by rw [upd_ne (ne_of_none q na)]; exact q
      rcases hc with z | z
      · rw [z]; exact nch b u e
      · exact nch c _ z
theorem Inv.turnedL {pins : List (Addr × Obj)} {σ : St} {H : Hp} {s : Shared} {h' : Heap} {t' : Nat} {ch : List Addr} (I : Inv X pins σ H s) (k : ∀ b u, b ∉ ch → s.heap.get? b = some u → h'.get? b = some u)
    (hf : ∀ b ∈ ch, FpOk X pins H b) : Inv X pins σ H { s with heap := h', toks := t' } := by
  have nch : ∀ b u, H b = some u → b ∉ ch := fun b u e z => by
    have := (hf b z).1
    rw [this] at e
    cases e
  refine I.step (g' := s.gens) (d' := s.drawn) (ch := ch) (fun b hb => ?_) (fun b u _ _ hc e _ => k b u hc e) (fun b u _ _ hc e _ => ⟨u.slots, k b u hc e⟩) (fun b u _ e n => n)
    (fun b u hc e => ⟨u, k b u hc e⟩) (fun b xs e => e) (fun b u v e => e) (fun b ps e => ⟨#[], by rw [e]; simp⟩) (fun m hm => ?_) (fun b u e => ?_) I.bare
  · obtain ⟨_, f1, _, f3, f4, f5⟩ := hf b hb
    exact ⟨f3, f1, f4, f5⟩
  · obtain ⟨ob, es, ep, ho, r⟩ := hm
    exact ⟨ob, es, ep, k _ ob (fun z => (hf _ z).2.1 rfl) ho, r⟩
  · refine (I.hok b u e).stay (fun c v hc q => k c v ?_ q) (fun c q => q) fun c xs q => q
    rcases hc with z | z
    · rw [z]; exact nch b u e
    · exact nch c _ z
end

/-! ### for a, b in enumerate(list) -/
def Ite (K : PySem.W.Frag) (a : Addr) : It :=
  ⟨fun i H => ∃ xs x, SqL K H a xs ∧ xs[i]? = some x, fun i H v H' => ∃ T x, H T = none ∧ H' = upd H T (.tup [.int (i : Int), x]) ∧ v = .ref T ∧ ∀ xs, SqL K H a xs → xs[i]? = some x, fun i H => ∃ xs, SqL K H a xs ∧ xs.length ≤ i⟩
theorem turn_enum {P : Program} {w : World} {K : PySem.W.Frag} {elts : List Expr} {x1 : Nat} {tp : Pos} (a e it : Addr) (hei : e ≠ it) :
    Turn P w K (.Tuple elts x1 tp) (Ite K a) [e, it] e (fun i h => (∃ old, IsEnum h e it i old) ∧ h.IsListIter it a i) where
  mem := by simp
  obj := fun i h st b hb => by
    obtain ⟨⟨old, he⟩, ⟨o, e1, c, d⟩⟩ := st
    rcases List.mem_cons.mp hb with z | z
    · subst z
      exact ⟨_, he, fun v q => nomatch q⟩
    · have z' : b = it := by simpa using z
      subst z'
      exact ⟨o, e1, fun v q => by rw [d] at q; cases q⟩
  keep := fun i h h' st k => ⟨st.1.elim fun old he => ⟨old, k e (by simp) _ he⟩, st.2.at fun o q => k it (by simp) o q⟩
  item := by
    intro X hP hw hK hc i pins s σ H E I hf st hg
    subst hP hw hK
    obtain ⟨xs, x, hq, hx⟩ := hg
    obtain ⟨its, rv, p, hz⟩ := I.list hq
    obtain ⟨u, hu, ru⟩ := rv.get hx
    obtain ⟨⟨old, he⟩, hit⟩ := st
    refine wpAny_pyNext_enum_item he hit p.isList (x := u) (by simpa using hu) hei fun h' ho hit' hT hsz hk => ?_
    have helt : e < s.heap.objs.size := Heap.lt_size he
    have hilt : it < s.heap.objs.size := by obtain ⟨_, q, _⟩ := hit; exact Heap.lt_size q
    refine ⟨_, rfl, ?_⟩
    refine wpAny_letOwnedTupleGo_enum ho fun h2 he2 hs2 => ?_
    have k2 : ∀ b o, b ∉ [e, it] → s.heap.get? b = some o → h2.get? b = some o := fun b o hb q => by
      have n1 : b ≠ e := fun z => hb (by simp [z])
      have n2 : b ≠ it := fun z => hb (by simp [z])
      exact (hs2.2 b n1).trans (hk b o n1 n2 q)
    have t2 : h2.get? s.heap.objs.size = some { cls := .type "tuple", data := .seq #[.int i s.toks, u] } := (hs2.2 _ (Nat.ne_of_gt helt)).trans hT
    have hn : H s.heap.objs.size = none := I.hok.fresh (Nat.le_refl _)
    have new : ObjOk X.prog X.w (upd H s.heap.objs.size (.tup [.int (i : Int), x])) h2 s.heap.objs.size (.tup [.int (i : Int), x]) :=
      ⟨by simp only [List.length_cons, List.length_nil]; rw [sizeLine_eq]; decide, [.int i s.toks, u], .cons ⟨_, rfl⟩ (.cons ru .nil), ⟨_, t2, rfl, _, rfl⟩⟩
    have I2 : Inv X pins σ (upd H s.heap.objs.size (.tup [.int (i : Int), x])) { s with heap := h2, toks := s.toks + 1 } := I.turnedNew k2 hf (Nat.le_refl _) new
    refine ⟨.ref s.heap.objs.size, _, I2, rfl, ⟨s.heap.objs.size, x, hn, rfl, rfl, fun ys hy => by rw [I.list_inj hy hq]; exact hx⟩, ⟨⟨u, ?_⟩, hit'.at fun o q => (hs2.2 it hei.symm).trans q⟩, fun b hb => ?_⟩
    · simpa using he2
    · have hb1 : b ≠ s.heap.objs.size := by
        rcases List.mem_cons.mp hb with z | z
        · rw [z]; exact Nat.ne_of_lt helt
        · have z' : b = it := by simpa using z
          rw [z']; exact Nat.ne_of_lt hilt
      rw [upd_ne hb1]
      exact (hf b hb).1
  done := by
    intro X hP hw hK hc i pins s σ H E I hf st hg
    subst hP hw hK
    obtain ⟨xs, hq, hx⟩ := hg
    obtain ⟨its, rv, p, hz⟩ := I.list hq
    obtain ⟨⟨old, he⟩, hit⟩ := st
    have hl := rv.length
    refine wpAny_pyNext_enum_end (I.ok.hd hc) he hit p.isList (by simp; omega) fun h' eb => ⟨rfl, ?_⟩
    exact I.turnedL (t' := s.toks) (fun b o hb q => eb b o (fun z => hb (by simp [z])) q) hf
  self := fun _ _ _ _ _ st h => by
    obtain ⟨⟨old, he⟩, _⟩ := st
    exact wpAny_pyIter_enum he h
section
variable {X : Cx}
def iEnum (K : PySem.W.Frag) (ta : TA) : TI := fun σ H R => ta σ H fun vs H1 => ∃ a, vs = [.ref a] ∧ (∃ xs, SqL K H1 a xs) ∧ R (Ite K a) H1
theorem pi_enum {a : Expr} {ta : TA} {p pos tp : Pos} {elts : List Expr} {x1 : Nat} (hg : Gl X "enumerate") (hm : X.mg "enumerate" = none) (ha : PA X [a] ta) (hs : starEach [a] X.env = [(false, eval a X.env)] := by rfl) :
    PI X (.Tuple elts x1 tp) (.Call (.Name "enumerate" p) [a] [] pos) (iEnum X.K ta) := by
  intro pins s σ H R I h
  refine Call_ (ld_blt I hg hm boot_enumerate (PyProof.Rows.callWith_type1 (thn (ha pos pins s σ H _ I h) fun us s1 ⟨vs, H1, I1, r1, q1⟩ => ?_) hs rfl))
  obtain ⟨l, e, ⟨xs, hx⟩, q⟩ := q1
  subst e
  obtain ⟨u, rfl, ru⟩ := vals1 r1
  cases ru
  obtain ⟨its, rv, pl, hz⟩ := I1.list hx
  refine call_enumerate_list pl.isList fun h' he hit hsz hk => ?_
  refine wpAny_pyIter_enum he ?_
  have hfp : ∀ b ∈ [s1.heap.objs.size + 1, s1.heap.objs.size], FpOk X pins H1 b := fun b hb => by
    have hge : s1.heap.objs.size ≤ b := by
      rcases List.mem_cons.mp hb with z | z
      · omega
      · have z' : b = s1.heap.objs.size := by simpa using z
        omega
    exact I1.fpOk hge (I1.hok.fresh hge)
  exact ⟨s1.heap.objs.size + 1, [s1.heap.objs.size + 1, s1.heap.objs.size], _, _, H1, rfl, I1.kept (t' := s1.toks) hk, turn_enum l _ _ (Nat.succ_ne_self _), ⟨⟨_, he⟩, hit⟩, hfp, q⟩
end
theorem for_enum {K : PySem.W.Frag} {a : Addr} {xs : List V} {g : TG} {tb : TS} {D : Ends} {σ : St} {H : Hp} (Pv : Nat → St → Hp → Prop) (h0 : Pv 0 σ H) (hl : ∀ i σ H, i ≤ xs.length → Pv i σ H → SqL K H a xs)
    (hs : ∀ i x σ H T, xs[i]? = some x → Pv i σ H → H T = none → g (.ref T) σ (upd H T (.tup [.int (i : Int), x])) fun σ2 H2 => tb { D with nx := Pv (i + 1), ct := Pv (i + 1), bk := D.nx } σ2 H2) (hd : ∀ σ H, Pv xs.length σ H → D.nx σ H) :
    ∃ W : Nat → Nat → St → Hp → Prop, (∃ m, W 0 m σ H) ∧ ∀ i m σ H, W i m σ H →
      ((Ite K a).stop i H ∧ D.nx σ H) ∨ ((Ite K a).go i H ∧ ∃ N : St → Hp → Prop, (∀ σ' H', N σ' H' → ∃ m', m' < m ∧ W (i + 1) m' σ' H') ∧ ∀ x H', (Ite K a).yld i H x H' → g x σ H' fun σ2 H2 => tb { D with nx := N, ct := N, bk := D.nx } σ2 H2) := by
  refine ⟨fun i m σ H => m = xs.length - i ∧ i ≤ xs.length ∧ Pv i σ H, ⟨xs.length, by simp, Nat.zero_le _, h0⟩, ?_⟩
  rintro i m σ H ⟨rfl, hi, p⟩
  have q := hl i σ H hi p
  by_cases hlt : i < xs.length
  · refine .inr ⟨⟨xs, xs[i], q, by simp [hlt]⟩, Pv (i + 1), fun σ' H' p' => ⟨xs.length - (i + 1), by omega, rfl, hlt, p'⟩, fun v H' y => ?_⟩
    obtain ⟨T, x, hT, e1, e2, y⟩ := y
    subst e1 e2
    exact hs i x σ H T (y xs q) p hT
  · have e : i = xs.length := by omega
    subst e
    exact .inl ⟨⟨xs, q, Nat.le_refl _⟩, hd σ H p⟩

/-! ### a, b, .. = a list -/
section
variable {prog : Program} {w : World} {A : Around} {E : Value → Shared → Prop} {s : Shared}
theorem draw_listA {it l : Addr} {items : Array Value} (hne : l ≠ it) : ∀ (n i : Nat) (s : Shared) (Q : List Value → Shared → Prop), s.heap.IsListIter it l i → s.heap.IsList l items → i + n ≤ items.size →
    (∀ h', h'.IsListIter it l (i + n) → Heap.SameBut it s.heap h' → Q ((items.toList.drop i).take n) { s with heap := h' }) → wpAny (model prog w) A (draw (.ref it) n) Q E s
  | 0, i, s, Q, hit, _, _, hQ => by
    show wpAny _ _ (pure []) Q E s
    exact wpAny_pure (by simpa using hQ s.heap hit (Heap.SameBut.refl ..))
  | n + 1, i, s, Q, hit, ht, hle, hQ => by
    have hlt : i < items.size := by omega
    show wpAny _ _ (pyNext (.ref it) >>= _) Q E s
    refine wpAny_bind (wpAny_pyNext_list_item hit ht (x := items[i]) (by simp [hlt]) fun h₁ hit₁ hs₁ => ?_)
    refine wpAny_bind (wpAny_holding (draw_listA hne n (i + 1) _ _ hit₁ (ht.extBut hs₁.extBut hne) (by omega) fun h₂ hit₂ hs₂ => wpAny_pure ?_))
    have hd : items.toList.drop i = items[i] :: items.toList.drop (i + 1) := by simp [List.drop_eq_getElem_cons, hlt]
    have := hQ h₂ (by rw [show i + (n + 1) = i + 1 + n by omega]; exact hit₂) (hs₁.trans hs₂)
    rw [hd, List.take_succ_cons] at this
    exact this
theorem unpackItems_listA {t : Addr} {items : Array Value} {Q : List Value → Shared → Prop} (hh : A.handled = none) (ht : s.heap.IsList t items)
    (hQ : ∀ h', Heap.ExtBut s.heap.objs.size s.heap h' → Q items.toList { s with heap := h' }) : wpAny (model prog w) A (unpackItems (.ref t) items.size none) Q E s := by
  have hlt : t ≠ s.heap.objs.size := by obtain ⟨o, ho, _⟩ := ht; exact Nat.ne_of_lt (Heap.lt_size ho)
  unfold unpackItems
  refine wpAny_bind ?_
  · unfold notIterableAtAll
    refine wpAny_bind (wpAny_specialOf ht.typeIs F.slot_list_iter.lookup ?_)
    refine wpAny_pure ?_
    simp only [Bool.false_eq_true, if_false]
    refine wpAny_bind (wpAny_holding (wpAny_pyIter_list ht ?_))
    have hpush : ∀ o, Heap.IsList (s.heap.push o) t items := fun o => ht.at fun o' e => Heap.get?_push_of_some _ e
    refine wpAny_bind (wpAny_holding (draw_listA hlt items.size 0 _ _ ⟨_, Heap.get?_push_size _ rfl, rfl, rfl⟩ (hpush _) (by omega) fun h₁ hit₁ hs₁ => ?_))
    have hall : List.take items.size (List.drop 0 items.toList) = items.toList := by
      rw [List.drop_zero]; exact List.take_of_length_le (by simp)
    rw [hall]
    rw [if_neg (by simp)]
    have ht₁ : h₁.IsList t items := (hpush _).extBut hs₁.extBut hlt
    refine wpAny_bind (wpAny_holding (wpAny_pyNext_list_end hh hit₁ ht₁ (by simp) fun h₂ he₂ => ?_))
    simp only [Option.isSome_none, Bool.false_eq_true, if_false]
    refine wpAny_pure (hQ h₂ fun b o hb e => he₂ b o hb (hs₁.extBut b o hb (Heap.get?_push_of_some _ e)))
theorem unpack_listA {t : Addr} {items : Array Value} {targets : List (Bool × (Value → Sem Unit))} {Q : Unit → Shared → Prop} (hh : A.handled = none) (ht : s.heap.IsList t items)
    (hn : targets.length = items.size) (hstar : targets.findIdx? (·.1) = none)
    (h : ∀ h', Heap.ExtBut s.heap.objs.size s.heap h' → wpAny (model prog w) A (assignInOrder (targets.map (·.2)) items.toList) Q E { s with heap := h' }) :
    wpAny (model prog w) A (unpack (.ref t) targets) Q E s := by
  unfold unpack
  rw [hn, hstar]
  exact wpAny_bind (wpAny_holding (unpackItems_listA hh ht h))
end
section
variable {X : Cx} {pos : Pos}
def gTupL (K : PySem.W.Frag) (n : Nat) (t : TGs) : TG := fun v σ H Q => ∃ a xs, v = .ref a ∧ SqL K H a xs ∧ xs.length = n ∧ t xs σ H Q
theorem pg_tupL {es : List Expr} {k : Nat} {t : TGs} {n : Nat} (hc : X.calm = true) (h : PGs X es t)
    (hn : (assignEach es X.env).length = n := by rfl) (hst : (assignEach es X.env).findIdx? (·.1) = none := by rfl) : PG X (.Tuple es k pos) (gTupL X.K n t) := by
  intro pins s σ H v u Q I r hw
  obtain ⟨a, xs, e1, hq, hl, hw⟩ := hw
  subst e1
  cases r
  obtain ⟨its, rv, ht, hz⟩ := I.list hq
  rw [assign_Tuple]
  refine wpAny_bind (wpAny_standAt (unpack_listA (I.ok.hd hc) ht.isList (by simp [hn, ← hl, rv.length]) hst fun h' hx => ?_))
  have I1 : Inv X pins σ H { s with heap := h' } := I.kept (t' := s.toks) fun b o e => hx b o (Nat.ne_of_lt (Heap.lt_size e)) e
  exact h pins _ σ H xs _ Q I1 (by simpa using rv) hw
end

/-! ### a def of the text, as its callers want it -/
structure Cal (P : Program) (w : World) (K : PySem.W.Frag) (mg : Str → Option Value) (base : Heap) (k : Nat) (x : Str) (ps : List Str) (sp : Sp) : Prop where
  ex : ∃ (f : Addr) (fd : FuncData), FnOk P w K mg base CX0 k f fd ps sp ∧ Binds K fd ps [] ∧ PySem.W.keepIn K (.ref f) = true ∧ mg x = some (.ref f)
section
variable {X : Cx} {k j : Nat} {x : Str} {ps : List Str} {sp : Sp} {p pos : Pos} {e : Expr} {es : List Expr} {t : TA}
/-- f(e, ..) -/
theorem pe_fn (C : Cal X.prog X.w X.K X.mg X.base k x ps sp) (hr : Room j X.A) (hj : k ≤ j) (hg : Gl X x) (ha : PA X (e :: es) t) (hdb : (x == ("__debug__" : Str)) = false := by decide) (he : starEach (e :: es) X.env = (false, eval e X.env) :: starEach es X.env := by rfl) (hpl : (backTo pos (starEach es X.env)).any (·.1) = false := by rfl) :
    PE X (.Call (.Name x p) (e :: es) [] pos) (tCall sp [] E0 t) := by
  obtain ⟨f, fd, G, b, kp, m⟩ := C.ex
  exact pe_call G (hr.mono hj) hg m kp b .nil pass0 ha hdb he hpl
end
theorem same_new {H : Hp} {p : Addr} (h : H p = none) (o : HO) : Same H (upd H p o) := fun b u q => by rw [upd_ne (ne_of_none q h)]; exact q
theorem Same.upd {H H1 : Hp} {p : Addr} (s : Same H H1) (h : H p = none) (o : HO) : Same H (upd H1 p o) := fun b u q => by rw [upd_ne (ne_of_none q h)]; exact s b u q
end L2
namespace L2
open PySem PySem.Spec PyProof.Rows
/-! ### a def as the top has written it, found by its name -/
structure FunAt (K : PySem.W.Frag) (x : Str) (st : Stmt) : Prop where
  ex : ∃ (f : Addr) (fd : FuncData), Fun K x x st f fd ∧ PySem.W.nsIn K mainGlobals x = some (some (.ref f))
theorem funAt_mk {K : PySem.W.Frag} {x : Str} {st : Stmt} {f : Addr} {oc : Value} {od an : Option Addr} {osl : Array (Option Value)} {kV doc pm cdv ct : Value} (a : PySem.W.nsIn K mainGlobals x = some (some (.ref f)))
    (l : K.lookup f = some ⟨oc, od, .func (PySem.W.fnOf x x (defArgs st) (defBody st) (defScope st) .none kV doc pm an cdv ct), osl⟩)
    (c : PySem.W.codeIn K cdv x = true) (k : PySem.W.keepIn K (.ref f) = true) : FunAt K x st := ⟨f, _, fun_mk (st := st) l c k, a⟩
theorem FunAt.cal {P : Program} {w : World} {K : PySem.W.Frag} {h base : Heap} {mg : Str → Option Value} {x : Str} {st : Stmt} {ps : List Str} {k : Nat} {sp : Sp} (F : FunAt K x st) (X : K.In h) (G : h.Ns mainGlobals mg)
    (hb : ∀ (kV doc pm : Value) (an : Option Addr) (cdv ct : Value) (us : List Value), us.length = ps.length → bindArgs (PySem.W.fnOf x x (defArgs st) (defBody st) (defScope st) .none kV doc pm an cdv ct) ⟨us, []⟩ = pure (ps.zip us))
    (ok : ∀ (f : Addr) (fd : FuncData), Fun K x x st f fd → FnOk P w K mg base CX0 k f fd ps sp) : Cal P w K mg base k x ps sp := by
  obtain ⟨f, fd, F1, a⟩ := F.ex
  exact ⟨f, fd, ok f fd F1, F1.binds hb, F1.kp, PySem.W.mg_of X G a⟩
theorem FunAt.law {P : Program} {w : World} {K : PySem.W.Frag} {h : Heap} {mg : Str → Option Value} {x p : Str} {st : Stmt} {fa : Addr} {k : Nat} {sp : Sp} (F : FunAt K x st) (X : K.In h) (G : h.Ns mainGlobals mg) (hfa : mg x = some (.ref fa))
    (hb : ∀ (kV doc pm : Value) (an : Option Addr) (cdv ct : Value) (u : Value), bindArgs (PySem.W.fnOf x x (defArgs st) (defBody st) (defScope st) .none kV doc pm an cdv ct) ⟨[u], []⟩ = pure [(p, u)])
    (ok : ∀ (base : Heap), K.In base → base.Ns mainGlobals mg → ∀ (f : Addr) (fd : FuncData), Fun K x x st f fd → FnOk P w K mg base CX0 k f fd [p] sp) :
    ∃ fd : FuncData, (∀ (s : Shared) (u : Value), BindsTo s fd ⟨[u], []⟩ [(p, u)]) ∧ ∀ base : Heap, K.In base → base.Ns mainGlobals mg → FnOk P w K mg base CX0 k fa fd [p] sp := by
  obtain ⟨f, fd, F1, a⟩ := F.ex
  have e := hfa.symm.trans (PySem.W.mg_of X G a)
  cases e
  refine ⟨fd, fun s u => ?_, fun base kb nb => ok base kb nb _ fd F1⟩
  obtain ⟨oc, od, kV, doc, pm, an, cdv, ct, osl, rfl, lk, hcd⟩ := F1.ex
  exact .of_eq (hb kV doc pm an cdv ct u)
end L2
namespace L2
open PySem PySem.Spec PyProof.Rows
/-- a method as the top has written it -/
theorem fun_ex {K : PySem.W.Frag} {x qual : Str} {st : Stmt} {f : Addr} {oc : Value} {od an : Option Addr} {osl : Array (Option Value)} {kV doc pm cdv ct : Value}
    (l : K.lookup f = some ⟨oc, od, .func (PySem.W.fnOf x qual (defArgs st) (defBody st) (defScope st) .none kV doc pm an cdv ct), osl⟩)
    (c : PySem.W.codeIn K cdv qual = true) (k : PySem.W.keepIn K (.ref f) = true) : ∃ fd, Fun K x qual st f fd := ⟨_, fun_mk (st := st) l c k⟩
end L2
namespace L2
open PySem PySem.Spec PyProof.Rows
/-! ### a comprehension: its closure, its cells, its loop -/
theorem cellsFrom_app : ∀ (names : List (Str × NameKind)) (n : Nat) (acc : List (Str × Addr)), cellsFrom n names acc = cellsFrom n names [] ++ acc
  | [], _, _ => rfl
  | (x, k) :: r, n, acc => by
    unfold cellsFrom
    split
    · rw [cellsFrom_app r (n + 1) ((x, n) :: acc), cellsFrom_app r (n + 1) [(x, n)], List.append_assoc]
      rfl
    · exact cellsFrom_app r n acc
theorem cellsFrom_none {y : Str} : ∀ (names : List (Str × NameKind)) (n : Nat), (∀ k, (y, k) ∈ names → k ≠ .cell) → (cellsFrom n names []).lookup y = none
  | [], _, _ => rfl
  | (x, k) :: r, n, h => by
    have hr : ∀ k, (y, k) ∈ r → k ≠ .cell := fun k' hk => h k' (List.mem_cons_of_mem _ hk)
    unfold cellsFrom
    split
    · rename_i hk
      rw [cellsFrom_app, List.lookup_append, cellsFrom_none r (n + 1) hr]
      have hne : (y == x) = false := by
        cases e : (y == x) with
        | false => rfl
        | true =>
          have e' : y = x := beq_iff_eq.mp e
          subst e'
          exact absurd (beq_iff_eq.mp hk) (h k List.mem_cons_self)
      show Option.or none (List.lookup y [(x, n)]) = none
      rw [List.lookup_cons, hne]
      rfl
    · exact cellsFrom_none r n hr
theorem closure_loop {env : Env} (f : Str × NameKind → List (Str × Addr) → Sem (ForInStep (List (Str × Addr))))
    (hf : ∀ name kind cs, f (name, kind) cs = if kind == .free then (do let a ← cellOf env name; pure (.yield ((name, a) :: cs))) else pure (.yield cs)) :
    ∀ (names : List (Str × NameKind)) (acc : List (Str × Addr)), (∀ y ∈ names, y.2 = .free → ∃ c, env.cells.lookup y.1 = some c) → (∀ y c, acc.lookup y = some c → env.cells.lookup y = some c) →
      ∃ cl, forIn names acc f = pure cl ∧ (∀ y c, cl.lookup y = some c → env.cells.lookup y = some c) ∧ (∀ y c, acc.lookup y = some c → ∃ c', cl.lookup y = some c') ∧ ∀ y ∈ names, y.2 = .free → ∃ c, cl.lookup y.1 = some c
  | [], acc, _, ha => ⟨acc, by rw [List.forIn_nil], ha, fun y c e => ⟨c, e⟩, fun y hy => nomatch hy⟩
  | (x, k) :: r, acc, hc, ha => by
    have hr : ∀ y ∈ r, y.2 = .free → ∃ c, env.cells.lookup y.1 = some c := fun y hy => hc y (List.mem_cons_of_mem _ hy)
    by_cases hk : k = .free
    · obtain ⟨c, ec⟩ := hc (x, k) List.mem_cons_self hk
      have ha' : ∀ y d, ((x, c) :: acc).lookup y = some d → env.cells.lookup y = some d := fun y d e => by
        rw [List.lookup_cons] at e
        cases q : (y == x) with
        | true =>
          rw [q] at e
          have e1 : c = d := Option.some.inj e
          rw [beq_iff_eq.mp q, ← e1]
          exact ec
        | false => rw [q] at e; exact ha y d e
      obtain ⟨cl, h1, h2, h3, h4⟩ := closure_loop f hf r ((x, c) :: acc) hr ha'
      refine ⟨cl, ?_, h2, fun y d e => ?_, fun y hy hf => ?_⟩
      · rw [List.forIn_cons, hf, if_pos (by rw [hk]; rfl)]
        have : cellOf env x = pure c := by unfold cellOf; rw [ec]
        rw [this]
        simp only [pure_bind]
        exact h1
      · cases q : (y == x) with
        | true => exact h3 y c (by rw [List.lookup_cons, q])
        | false => exact h3 y d (by rw [List.lookup_cons, q]; exact e)
      · rcases List.mem_cons.mp hy with z | z
        · subst z
          exact h3 x c (by rw [List.lookup_cons]; simp)
        · exact h4 y z hf
    · obtain ⟨cl, h1, h2, h3, h4⟩ := closure_loop f hf r acc hr ha
      refine ⟨cl, ?_, h2, h3, fun y hy hf => ?_⟩
      · rw [List.forIn_cons, hf, if_neg (by intro z; exact hk (beq_iff_eq.mp z))]
        simp only [pure_bind]
        exact h1
      · rcases List.mem_cons.mp hy with z | z
        · subst z
          exact absurd hf hk
        · exact h4 y z hf
theorem closure_ok {scope : Scope} {env : Env} (hc : ∀ y ∈ scope.names, y.2 = .free → ∃ c, env.cells.lookup y.1 = some c) :
    ∃ cl, closureFor scope env = pure cl ∧ (∀ y c, cl.lookup y = some c → env.cells.lookup y = some c) ∧ ∀ y ∈ scope.names, y.2 = .free → ∃ c, cl.lookup y.1 = some c := by
  unfold closureFor
  obtain ⟨cl, h1, h2, _, h4⟩ := closure_loop (env := env) (fun (x : Str × NameKind) (r : List (Str × Addr)) => if x.2 == .free then (do let a ← cellOf env x.1; pure (.yield ((x.1, a) :: r))) else pure (.yield r)) (fun _ _ _ => rfl) scope.names [] hc (fun y c e => by cases e)
  refine ⟨cl, ?_, h2, h4⟩
  have e : ∀ (f : Str × NameKind → List (Str × Addr) → Sem (ForInStep (List (Str × Addr)))), (∀ x r, f x r = if x.2 == .free then (do let a ← cellOf env x.1; pure (.yield ((x.1, a) :: r))) else pure (.yield r)) → (forIn scope.names ([] : List (Str × Addr)) f >>= fun cs => pure cs) = (pure cl : Sem _) := fun f hf => by
    have : f = fun (x : Str × NameKind) (r : List (Str × Addr)) => if x.2 == .free then (do let a ← cellOf env x.1; pure (.yield ((x.1, a) :: r))) else pure (.yield r) := by
      funext x r
      exact hf x r
    rw [this, h1]
    rfl
  refine e _ fun x r => ?_
  obtain ⟨n, k⟩ := x
  cases hk : k == NameKind.free <;> simp [hk]
section
variable {prog : Program} {w : World} {A : Around} {E : Value → Shared → Prop} {R : Result → Shared → Prop} {s : Shared}
theorem comp_loop {elt target iter : Expr} {ifs : List Expr} {scope : Scope} {pos : Pos} {it acc : Value} {env : Env} (I : Nat → Shared → Prop)
    (turn : ∀ n s, I n s → wpAny (model prog w) A (pyNext it) (fun r s₁ => match r with
      | none => R (.ok .next) s₁
      | some v => wpAny (model prog w) A (letOwnedTupleGo target it v) (fun _ s₁' => wpAny (model prog w) A (assign target env v) (fun _ s₂ =>
          wpAny (model prog w) A (forIn ifs true fun c r => if r = true then do let ok ← isTrue c env (eval c env); pure (ForInStep.yield ok) else pure (ForInStep.yield r)) (fun ok s₃ =>
            if ok = true then wpAny (model prog w) A (eval elt env) (fun x s₄ =>
              wpAny (model prog w) A (call (.builtin "list.append") [acc, x]) (fun _ s₅ => ∃ m, m < n ∧ I m s₅) (fun _ _ => False) s₄) (fun _ _ => False) s₃
            else ∃ m, m < n ∧ I m s₃) (fun _ _ => False) s₂) (fun _ _ => False) s₁') (fun _ _ => False) s₁) (fun _ _ => False) s)
    (n : Nat) (h : I n s) :
    codeAny (model prog w) A (.compLoop (.ListComp elt [⟨target, iter, ifs, 0⟩] scope pos) 0 it acc env) R s := by
  refine codeAny_loop rfl I (fun n s hI => ?_) n h
  show wpAny _ A ((compTurn (.ListComp elt [⟨target, iter, ifs, 0⟩] scope pos) 0 it acc env).onRaise (fun x => do noteFrame x env; theTreesLotGoes x)) _ _ s
  refine wpAny_noted ?_
  rw [compTurn_list]
  refine wpAny_mono (E := fun _ _ => False) ?_ (fun _ _ z => z) fun _ _ z => z.elim
  refine wpAny_bind (wpAny_standAt (wpAny_bind (wpAny_mono (turn n s hI) (fun r s₁ h₁ => ?_) fun _ _ h' => h')))
  cases r with
  | none => exact wpAny_pure h₁
  | some v =>
    refine wpAny_bind (wpAny_mono h₁ (fun _ s₁' h₁' => ?_) fun _ _ h' => h')
    refine wpAny_bind (wpAny_mono h₁' (fun _ s₂ h₂ => wpAny_bind (wpAny_mono h₂ (fun ok s₃ h₃ => ?_) fun _ _ h' => h')) fun _ _ h' => h')
    cases ok with
    | false => exact wpAny_pure ⟨rfl, h₃⟩
    | true =>
      exact wpAny_bind (wpAny_bind (wpAny_mono h₃ (fun x s₄ h₄ => wpAny_bind (wpAny_mono h₄ (fun _ s₅ h₅ => wpAny_pure (wpAny_pure ⟨rfl, h₅⟩)) fun _ _ h' => h')) fun _ _ h' => h'))
theorem comp_env {scope : Scope} {env : Env} {cl : List (Str × Addr)} {Q : Env → Shared → Prop}
    (hQ : Q { scope := scope, locals := s.heap.objs.size, globals := env.globals, cells := cellsFrom (s.heap.objs.size + 1) scope.names cl, qual := env.qual, func := none, code := env.code, frame := env.frame, builtins := env.builtins }
      { s with heap := pushCells (s.heap.push { cls := .type "dict", data := .dict #[] }) scope.names }) :
    wpAny (model prog w) A (newFunctionEnv scope env.globals cl [] env.qual none .none (some env)) Q E s := by
  simp only [newFunctionEnv, Option.isSome_some, if_true]
  refine wpAny_bind (wpAny_alloc ?_)
  refine wpAny_bind (wpAny_layCells _ (fun name kind cells => by cases hkc : kind == NameKind.cell <;> simp [hkc]) _ _ _ _ ?_)
  rw [show ({ s with heap := s.heap.push { cls := .type "dict", data := .dict #[] } } : Shared).heap.objs.size = s.heap.objs.size + 1 from Heap.size_push ..]
  rw [List.forIn_nil]
  exact wpAny_bind (wpAny_pure (wpAny_pure hQ))
end
end L2
namespace L2
open PySem PySem.Spec PyProof.Rows
/-! ### a comprehension's block -/
def compCx (X : Cx) (scope : Scope) (C : Addr) (cells : List (Str × Addr)) (N' : List Str) (fp : List Addr) (s : Shared) (H : Hp) : Cx where
  prog := X.prog
  w := X.w
  K := X.K
  mg := X.mg
  base := X.base
  A := X.A
  N := N'
  s₀ := s
  H₀ := H
  env := { scope := relabel scope X.env, locals := C, globals := X.env.globals, cells := cells, qual := X.env.qual, func := none, code := X.env.code, frame := X.env.frame, builtins := X.env.builtins }
  outer := X.stack
  stack := X.stack
  ex := fp
  fn := fun y => decide (scope.names.lookup y = some .cell)
  calm := X.calm
  pn := []
  xe := fun _ _ => False
def isCF : Option NameKind → Bool
  | some .cell => true
  | some .free => true
  | _ => false
theorem isCF_iff {o : Option NameKind} (h : isCF o = true) : o = some .cell ∨ o = some .free := by
  cases o with
  | none => cases h
  | some k => cases k <;> first | exact .inl rfl | exact .inr rfl | cases h
/-- a name that the block takes from without -/
def capOk (env : Env) (scope : Scope) (y : Str) : Bool := isCF (env.scope.names.lookup y) && isCF ((relabel scope env).names.lookup y) && scope.names.all (fun z => !(z.1 == y) || !(z.2 == .cell)) && scope.names.any fun z => z.1 == y && z.2 == .free
def PTs (X : Cx) (ifs : List Expr) (t : TT) : Prop :=
  ∀ (pins : List (Addr × Obj)) (s : Shared) (σ : St) (H : Hp) (Q : Bool → Hp → Prop), Inv X pins σ H s → t σ H Q →
    wpAny (model X.prog X.w) X.A (forIn ifs true fun c r => if r = true then do let ok ← isTrue c X.env (eval c X.env); pure (ForInStep.yield ok) else pure (ForInStep.yield r)) (TP X pins σ Q) X.xe s
def tTrue : TT := fun _ H Q => Q true H
theorem pts_nil {X : Cx} : PTs X [] tTrue := fun pins s σ H Q I h => by
  rw [List.forIn_nil]
  exact wpAny_pure ⟨H, I, h⟩
theorem pts_one {X : Cx} {c : Expr} {t : TT} (h : PT X c t) : PTs X [c] t := fun pins s σ H Q I hw => by
  rw [List.forIn_cons]
  simp only [if_true]
  refine wpAny_bind (wpAny_bind (thn (h pins s σ H Q I hw) fun b s1 q => wpAny_pure ?_))
  show wpAny _ _ (forIn [] b _) _ _ s1
  rw [List.forIn_nil]
  exact wpAny_pure q

/-- the values at the block's slots: its own names not yet bound, then those taken from without -/
def capσ (nv : Nat) (ix : List Nat) (σ : St) : St := List.replicate nv none ++ ix.map fun i => (σ[i]?).getD none
/-- the list at D grows; W: an invariant by the turn, a measure and the heap -/
def CompAt (J : It) (g : TG) (tt : TT) (te : TE) (nv : Nat) (ix : List Nat) (σ : St) (Q : VK) (H1 : Hp) (D : Addr) : Prop := ∃ W : Nat → Nat → Hp → Prop, (∃ m, W 0 m (upd H1 D (.lst []))) ∧ ∀ i m H2, W i m H2 →
  (J.stop i H2 ∧ Q (.ref D) H2) ∨ (J.go i H2 ∧ ∃ Nx : Hp → Prop, (∀ H', Nx H' → ∃ m', m' < m ∧ W (i + 1) m' H') ∧ ∀ x H', J.yld i H2 x H' → g x (capσ nv ix σ) H' fun σ2 H3 => σ2.drop nv = (capσ nv ix σ).drop nv ∧ tt σ2 H3 fun b H4 =>
    if b = true then te σ2 H4 fun v H5 => ∃ xs, H5 D = some (.lst xs) ∧ xs.length < sizeLine ∧ Nx (upd H5 D (.lst (xs ++ [v]))) else Nx H4)
/-- [elt for target in iter if ..] -/
def tComp (wi : TI) (g : TG) (tt : TT) (te : TE) (nv : Nat) (ix : List Nat) : TE := fun σ H Q => wi σ H fun J H1 => ∀ D, H1 D = none → CompAt J g tt te nv ix σ Q H1 D

section
variable {X : Cx} {elt target iter : Expr} {ifs : List Expr} {scope : Scope} {pos : Pos} {g : TG} {tt : TT} {te : TE}
theorem comp_block {pins : List (Addr × Obj)} {σ : St} {H : Hp} {s : Shared} {J : It} {fp : List Addr} {it : Addr} {tn : Nat → Heap → Prop} {Q : VK} {E : Value → Shared → Prop} {RR : Value → Addr → Result → Shared → Prop} {cl : List (Str × Addr)} (xs capN : List Str) (ix : List Nat) (hc : X.calm = true)
    (hg : ∀ C cells fp s H, PG (compCx X scope C cells (xs ++ capN) fp s H) target g) (ht : ∀ C cells fp s H, PTs (compCx X scope C cells (xs ++ capN) fp s H) ifs tt) (he : ∀ C cells fp s H, PE (compCx X scope C cells (xs ++ capN) fp s H) elt te)
    (hix : ix.map (fun i => X.N[i]?) = capN.map some) (hcap : capN.all (capOk X.env scope) = true) (hfree : scope.names.all (fun z => !(z.2 == .free) || isCF (X.env.scope.names.lookup z.1)) = true) (hkind : scope.kind = .function)
    (hclo : ∀ y c, cl.lookup y = some c → X.env.cells.lookup y = some c) (hclh : ∀ y ∈ scope.names, y.2 = .free → ∃ c, cl.lookup y.1 = some c)
    (I : Inv X pins σ H s) (T : Turn X.prog X.w X.K target J fp it tn) (st : tn 0 s.heap) (hf : ∀ b ∈ fp, FpOk X pins H b)
    (h : ∀ D, H D = none → CompAt J g tt te xs.length ix σ Q H D)
    (hRR : ∀ D C s' H' m, Inv X pins σ H' s' → FpOk X pins H' C → s'.heap.Ns C m → Q (.ref D) H' → RR (.ref D) C (.ok .next) s') :
    wpAny (model X.prog X.w) X.A (newList []) (fun acc s₃ => wpAny (model X.prog X.w) X.A (newFunctionEnv scope X.env.globals cl [] X.env.qual none .none (some X.env)) (fun cenv s₄ =>
      codeAny (model X.prog X.w) X.A (.compStart (.ListComp elt [⟨target, iter, ifs, 0⟩] scope pos) 0 (.ref it) acc { cenv with scope := relabel scope X.env }) (RR acc cenv.locals) s₄) E s₃) E s := by
  refine wpAny_newObj_type (comp_env ?_)
  -- D, C, the new cells
  generalize hD : s.heap.objs.size = D
  have nD : H D = none := I.hok.fresh (Nat.le_of_eq hD)
  generalize hH1 : s.heap.push { cls := .type "list", dict := none, data := .seq ([] : List Value).toArray } = h1
  have z1 : h1.objs.size = D + 1 := by rw [← hH1, Heap.size_push, hD]
  have k1 : ∀ b o, s.heap.get? b = some o → h1.get? b = some o := fun b o e => by rw [← hH1]; exact Heap.get?_push_of_some _ e
  have l1 : h1.get? D = some { cls := .type "list", dict := none, data := .seq ([] : List Value).toArray } := by rw [← hH1, ← hD]; exact Heap.get?_push_size _ rfl
  show codeAny _ _ _ (RR (.ref D) h1.objs.size) { s with heap := pushCells (h1.push { cls := .type "dict", data := .dict #[] }) scope.names }
  rw [z1]
  generalize hH2 : h1.push { cls := .type "dict", data := .dict #[] } = h2
  have z2 : h2.objs.size = D + 2 := by rw [← hH2, Heap.size_push, z1]
  have k2 : ∀ b o, h1.get? b = some o → h2.get? b = some o := fun b o e => by rw [← hH2]; exact Heap.get?_push_of_some _ e
  have n2 : h2.Ns (D + 1) (fun _ => none) := by rw [← hH2, ← z1]; exact Heap.Ns.new h1 (.type "dict")
  have ok := cellsFrom_ok scope.names h2 (D + 2) [] ⟨fun _ _ hm => (nomatch hm), List.Pairwise.nil⟩ (Nat.le_of_eq z2.symm)
  rw [z2] at ok
  have k3 := pushCells_keeps scope.names h2
  have n3 : (pushCells h2 scope.names).Ns (D + 1) (fun _ => none) := n2.keeps k3
  generalize hH3 : pushCells h2 scope.names = h3 at ok k3 n3
  have kk : ∀ b o, s.heap.get? b = some o → h3.get? b = some o := fun b o e => k3 b o (k2 b o (k1 b o e))
  have l3 : h3.get? D = some { cls := .type "list", dict := none, data := .seq ([] : List Value).toArray } := k3 _ _ (k2 _ _ l1)
  rw [cellsFrom_app]
  generalize hcs : cellsFrom (D + 2) scope.names [] = cs at ok
  have csn : ∀ y, (∀ k, (y, k) ∈ scope.names → k ≠ .cell) → cs.lookup y = none := fun y hy => by rw [← hcs]; exact cellsFrom_none _ _ hy
  have csh : ∀ y, scope.names.lookup y = some .cell → ∃ c, cs.lookup y = some c := fun y hy => by rw [← hcs]; exact cell_has hy
  have cells_or : ∀ y c, (cs ++ cl).lookup y = some c → (cs.lookup y = some c) ∨ (cs.lookup y = none ∧ cl.lookup y = some c) := fun y c e => by
    rw [List.lookup_append] at e
    cases q : cs.lookup y with
    | some d => rw [q] at e; exact .inl e
    | none => rw [q] at e; exact .inr ⟨rfl, e⟩
  have newc : ∀ y c, cs.lookup y = some c → D + 2 ≤ c ∧ h3.IsCell c none := fun y c e => ⟨(ok.empty y c (PySem.mem_of_lookup e)).2, (ok.empty y c (PySem.mem_of_lookup e)).1⟩
  have oldc : ∀ y c, cl.lookup y = some c → D > c ∧ (∃ v, h3.IsCell c v) ∧ H c = none := fun y c e => by
    obtain ⟨v, q⟩ := I.cell y c (hclo y c e)
    exact ⟨by rw [← hD]; exact q.lt, ⟨v, q.keeps kk⟩, I.freeC y c (hclo y c e)⟩
  have szD : s.heap.objs.size ≤ D := Nat.le_of_eq hD
  have szC : s.heap.objs.size ≤ D + 1 := by omega
  let X' : Cx := compCx X scope (D + 1) (cs ++ cl) (xs ++ capN) fp s H
  have fpD : ∀ b ∈ fp, D > b := fun b hb => by
    obtain ⟨o, e, _⟩ := T.obj 0 s.heap st b hb
    rw [← hD]
    exact Heap.lt_size e
  have okX : X'.Ok := by
    refine ⟨I.ok.mod, ?_, I.ok.glob, I.ok.blt, szC, fun x y c h1 h2 => ?_, fun x hx => ?_, fun x c hx hl => ?_, fun _ => I.ok.hd hc, I.ok.frames, .inl rfl, fun b hb => ⟨?_, fun x c hl z => ?_⟩, fun b o e => ⟨(I.bs b o e).1, (I.bs b o e).2⟩, Nat.le_trans I.ok.bsz I.sz, fun b o e hb => ?_, fun b hb hz => ?_, I.stack, I.stkFree⟩
    · show (relabel scope X.env).kind = .function
      exact hkind
    · rcases cells_or x c h1 with e1 | ⟨_, e1⟩ <;> rcases cells_or y c h2 with e2 | ⟨_, e2⟩
      · exact name_of_addr ok.apart (PySem.mem_of_lookup e1) (PySem.mem_of_lookup e2)
      · have a1 := (newc x c e1).1
        have a2 := (oldc y c e2).1
        omega
      · have a1 := (newc y c e2).1
        have a2 := (oldc x c e1).1
        omega
      · exact I.ok.inj x y c (hclo x c e1) (hclo y c e2)
    · -- a cell or free name of the block has its cell
      have hm : ∃ k, (x, k) ∈ scope.names ∧ (k = .free ∨ k = .cell) := by
        have hx' : (relabel scope X.env).names.lookup x = some .cell ∨ (relabel scope X.env).names.lookup x = some .free := hx
        have mem : ∀ k, (relabel scope X.env).names.lookup x = some k → (x, k) ∈ (relabel scope X.env).names := fun k e => PySem.mem_of_lookup e
        rcases hx' with e | e
        · obtain ⟨⟨n, k⟩, h1, h2⟩ := List.mem_map.mp (mem _ e)
          by_cases q : (k == NameKind.free && X.env.scope.kind == .function && X.env.kindOf n == some .cell) = true
          · simp only [q, if_true] at h2
            cases h2
            simp only [Bool.and_eq_true] at q
            exact ⟨k, h1, .inl (beq_iff_eq.mp q.1.1)⟩
          · simp only [q] at h2
            cases h2
            exact ⟨_, h1, .inr rfl⟩
        · obtain ⟨⟨n, k⟩, h1, h2⟩ := List.mem_map.mp (mem _ e)
          by_cases q : (k == NameKind.free && X.env.scope.kind == .function && X.env.kindOf n == some .cell) = true
          · simp only [q, if_true] at h2
            cases h2
          · simp only [q] at h2
            cases h2
            exact ⟨_, h1, .inl rfl⟩
      obtain ⟨k, hk, hk2⟩ := hm
      show ∃ c, (cs ++ cl).lookup x = some c
      rw [List.lookup_append]
      cases q : cs.lookup x with
      | some d => exact ⟨d, rfl⟩
      | none =>
        rcases hk2 with z | z
        · subst z
          obtain ⟨c, e⟩ := hclh _ hk rfl
          exact ⟨c, e⟩
        · subst z
          -- a cell name always has a new cell
          exfalso
          have : ∀ (names : List (Str × NameKind)) (n : Nat), (x, NameKind.cell) ∈ names → (cellsFrom n names []).lookup x ≠ none := by
            intro names
            induction names with
            | nil => intro n hm; cases hm
            | cons p r ih =>
              intro n hm
              obtain ⟨a, b⟩ := p
              unfold cellsFrom
              split
              · rw [cellsFrom_app, List.lookup_append]
                rcases List.mem_cons.mp hm with z | z
                · cases z
                  cases (cellsFrom (n + 1) r []).lookup x with
                  | some d => intro z; cases z
                  | none => simp
                · cases e : (cellsFrom (n + 1) r []).lookup x with
                  | some d => intro z; cases z
                  | none => exact absurd e (ih (n + 1) z)
              · rename_i hb
                rcases List.mem_cons.mp hm with z | z
                · cases z
                  exact absurd rfl hb
                · exact ih n z
          exact this scope.names (D + 2) hk (by rw [hcs]; exact q)
    · have hx' : scope.names.lookup x = some .cell := of_decide_eq_true hx
      rcases cells_or x c hl with e1 | ⟨e0, _⟩
      · have := (newc x c e1).1
        show s.heap.objs.size ≤ c
        omega
      · obtain ⟨d, e⟩ := csh x hx'
        rw [e0] at e
        cases e
    · exact Nat.ne_of_lt (Nat.lt_succ_of_lt (fpD b hb))
    · rcases cells_or x c hl with e1 | ⟨_, e1⟩
      · have a1 := (newc x c e1).1
        have a2 := fpD b hb
        subst z
        omega
      · exact (hf b hb).2.2.2.2.1 x c (hclo x c e1) z
    · obtain ⟨f0, f1, f2, f3, _⟩ := hf b hb
      rcases f3 with z | z
      · exact I.ok.noex b o e z
      · have a1 := (I.ok.bs b o e).1
        exact absurd (Nat.lt_of_lt_of_le (Heap.lt_size a1) z) (Nat.lt_irrefl _)
    · have z := I.stkSub b hz
      rcases List.mem_cons.mp z with q | q
      · exact (hf b hb).2.1 q
      · exact (hf b hb).2.2.1 q
  have hgens : AllBare s.gens := I.bare
  have capl : capN.length = ix.length := by
    have := congrArg List.length hix
    rw [List.length_map, List.length_map] at this
    exact this.symm
  have I0 : Inv X' [] (capσ xs.length ix σ) (upd H D (.lst [])) { s with heap := h3 } := by
    refine ⟨okX, rfl, hgens, Un.laid kk szD nD, ⟨_, n3, fun i y v e1 e2 e3 => ?_⟩, fun y c e => ?_, ?_, fun y c e => ?_, fun p hp => absurd hp (by show p ∉ ([] : List (Addr × Obj)) ++ []; simp), I.hok.laid kk szD ⟨by decide, [], 0, .nil, l3⟩, ?_⟩
    · -- the names taken from without
      have e1' : (xs ++ capN)[i]? = some y := e1
      have e2' : (List.replicate xs.length none ++ ix.map fun i => (σ[i]?).getD none)[i]? = some (some v) := e2
      by_cases hi : i < xs.length
      · rw [List.getElem?_append_left (by simpa using hi), List.getElem?_replicate] at e2'
        rw [if_pos hi] at e2'
        cases e2'
      · rw [List.getElem?_append_right (by omega)] at e1'
        rw [List.getElem?_append_right (by simpa using hi), List.length_replicate, List.getElem?_map] at e2'
        generalize i - xs.length = j at e1' e2'
        cases ej : ix[j]? with
        | none => rw [ej] at e2'; cases e2'
        | some k =>
          rw [ej] at e2'
          have e2'' : (σ[k]?).getD none = some v := Option.some.inj e2'
          have hs : σ[k]? = some (some v) := by
            cases q : σ[k]? with
            | none => rw [q] at e2''; cases e2''
            | some o => rw [q] at e2''; exact congrArg some e2''
          have hN : X.N[k]? = some y := by
            have q := congrArg (fun l => l[j]?) hix
            simp only [List.getElem?_map, ej, e1', Option.map_some] at q
            exact Option.some.inj q
          have hyc := List.all_eq_true.mp hcap y (List.mem_of_getElem? e1')
          unfold capOk at hyc
          simp only [Bool.and_eq_true] at hyc
          obtain ⟨⟨⟨c1, c2⟩, c3⟩, c4⟩ := hyc
          have vis : Vis X.env.scope y := (isCF_iff c1).elim (fun z => .inr (.inl z)) fun z => .inr (.inr z)
          obtain ⟨m0, _, hl0⟩ := I.loc
          obtain ⟨u, ru, lk⟩ := hl0 k y v hN hs vis
          refine ⟨u, ru, .inr ⟨isCF_iff c2, ?_⟩⟩
          rcases lk with ⟨q, _⟩ | ⟨_, c, ec, hcell⟩
          · have q' : X.env.scope.names.lookup y = some .local := q
            rw [q'] at c1
            cases c1
          · have no : cs.lookup y = none := csn y fun k hk z => by
              have := List.all_eq_true.mp c3 _ hk
              subst z
              simp at this
            obtain ⟨z, hz, hz2⟩ := List.any_eq_true.mp c4
            simp only [Bool.and_eq_true] at hz2
            have ez : z.1 = y := beq_iff_eq.mp hz2.1
            obtain ⟨d, ed⟩ := hclh z hz (beq_iff_eq.mp hz2.2)
            rw [ez] at ed
            have : d = c := Option.some.inj ((hclo y d ed).symm.trans ec)
            subst this
            refine ⟨d, ?_, hcell.keeps kk⟩
            show (cs ++ cl).lookup y = some d
            rw [List.lookup_append, no]
            exact ed
    · rcases cells_or y c e with e1 | ⟨_, e1⟩
      · exact ⟨none, (newc y c e1).2⟩
      · exact (oldc y c e1).2.1
    · show (upd H D (.lst [])) (D + 1) = none
      rw [upd_ne (Nat.succ_ne_self D)]
      exact I.hok.fresh szC
    · rcases cells_or y c e with e1 | ⟨_, e1⟩
      · have a1 := (newc y c e1).1
        rw [upd_ne (Nat.ne_of_gt (by omega : D < c))]
        exact I.hok.fresh (by omega)
      · have a1 := oldc y c e1
        rw [upd_ne (Nat.ne_of_lt a1.1)]
        exact a1.2.2
    · show (capσ xs.length ix σ).length = (xs ++ capN).length
      unfold capσ
      rw [List.length_append, List.length_replicate, List.length_map, List.length_append, capl]
  -- the loop
  have st3 : tn 0 h3 := T.keep 0 s.heap h3 st fun b _ o e => kk b o e
  obtain ⟨W, ⟨m0, w0⟩, turn⟩ := h D nD
  have fpX : ∀ {pins' : List (Addr × Obj)} {H' : Hp}, (∀ b ∈ fp, H' b = none) → (∀ p ∈ pins', ∀ b ∈ fp, p.1 ≠ b) → ∀ b ∈ fp, FpOk X' pins' H' b := fun {pins' H'} hn hp b hb => by
    refine ⟨hn b hb, (okX.exf b hb).1, okX.exfs b hb, .inl hb, (okX.exf b hb).2, fun p hp' => ?_⟩
    rcases List.mem_append.mp hp' with q | q
    · exact absurd (show p ∈ ([] : List (Addr × Obj)) from q) (by simp)
    · exact hp p q b hb
  have noHP : ∀ {H' : Hp}, (∀ b ∈ fp, H' b = none) → ∀ b ∈ fp, FpOk X' [] H' b := fun hn => fpX hn fun p hp => absurd hp (by simp)
  have loop : ∀ s₃ : Shared, s₃ = { s with heap := h3 } → codeAny (model X.prog X.w) X.A (.compLoop (.ListComp elt [⟨target, iter, ifs, 0⟩] scope pos) 0 (.ref it) (.ref D) X'.env) (RR (.ref D) (D + 1)) s₃ := by
    rintro s₃ rfl
    refine comp_loop (fun n s' => ∃ i H', Inv X' [] (capσ xs.length ix σ) H' s' ∧ tn i s'.heap ∧ (∀ b ∈ fp, H' b = none) ∧ W i n H') ?_ m0 ⟨0, _, I0, st3, fun b hb => ?_, w0⟩
    · rintro n s' ⟨i, H', I', st', fr', w'⟩
      rcases turn i n H' w' with ⟨stop, q⟩ | ⟨go, Nx, hN, step⟩
      · refine thn (T.done X' rfl rfl rfl hc i [] s' _ H' _ I' (noHP fr') st' stop) fun r s4 ⟨hr, I4⟩ => ?_
        subst hr
        -- back to the def's own frame
        obtain ⟨m, hn4, _⟩ := I4.loc
        have u4 : Un (frs X.stack) fp H H' s.heap s4.heap := I4.base
        have J4 : Inv X pins σ H' s4 := I.call' I4.os u4 I4.hok I4.bare fun b hb => by
          obtain ⟨f0, f1, f2, f3, f4, f5⟩ := hf b hb
          exact ⟨f3, f1, f4, f5⟩
        refine hRR D (D + 1) s4 H' m J4 ⟨I4.free, ?_, ?_, .inr (Nat.le_trans I.sz szC), fun x c e z => ?_, fun p hp z => ?_⟩ hn4 q
        · exact Nat.ne_of_gt (Nat.lt_of_lt_of_le I.lt szC)
        · exact I.nofs szC
        · obtain ⟨v, qq⟩ := I.cell x c e
          exact Nat.ne_of_lt (Nat.lt_of_lt_of_le qq.lt szC) z
        · exact Nat.ne_of_lt (Nat.lt_of_lt_of_le (Heap.lt_size (I.pin p hp).1) szC) z
      · refine thn (T.item X' rfl rfl rfl hc i [] s' _ H' _ I' (noHP fr') st' go) fun r s4 ⟨u, hr, h4⟩ => ?_
        subst hr
        refine thn h4 fun _ s5 ⟨x, H5, I5, r5, y5, st5, fr5⟩ => ?_
        have I5' := I5.pinned (noHP fr5) (T.obj _ _ st5)
        have back : ∀ {σ7 : St} {H7 : Hp} {s7 : Shared}, Inv X' ([] ++ pinsAt fp s5.heap) σ7 H7 s7 → (∀ (j : Nat) v, (capσ xs.length ix σ)[j]? = some (some v) → σ7[j]? = some (some v)) → Nx H7 → ∃ m, m < n ∧ ∃ i H', Inv X' [] (capσ xs.length ix σ) H' s7 ∧ tn i s7.heap ∧ (∀ b ∈ fp, H' b = none) ∧ W i m H' := fun {σ7 H7 s7} I7 hσ n7 => by
          obtain ⟨m', hm, w7⟩ := hN H7 n7
          have I8 : Inv X' [] (capσ xs.length ix σ) H7 s7 := (I7.weak (by rw [I7.len]; exact I0.len) hσ).pins_of fun p hp => absurd hp (by simp)
          refine ⟨m', hm, i + 1, H7, I8, T.keep _ _ _ st5 fun b hb o e => (I7.pin (b, o) (List.mem_append_right _ (List.mem_append_right _ (mem_pinsAt hb e)))).1, fun b hb => ?_, w7⟩
          obtain ⟨o, e, d⟩ := T.obj _ _ st5 b hb
          exact (I7.pin (b, o) (List.mem_append_right _ (List.mem_append_right _ (mem_pinsAt hb e)))).2.1
        have conv : ∀ σ7 : St, σ7.drop xs.length = (capσ xs.length ix σ).drop xs.length → ∀ (j : Nat) v, (capσ xs.length ix σ)[j]? = some (some v) → σ7[j]? = some (some v) := fun σ7 e j v q => by
          by_cases hj : j < xs.length
          · unfold capσ at q
            rw [List.getElem?_append_left (by simpa using hj), List.getElem?_replicate, if_pos hj] at q
            cases q
          · have e2 := congrArg (fun l => l[j - xs.length]?) e
            simp only [List.getElem?_drop] at e2
            rw [show xs.length + (j - xs.length) = j by omega] at e2
            rw [e2]
            exact q
        refine thn (hg _ _ _ _ _ _ s5 _ H5 x u _ I5' r5 (step x H5 y5)) fun _ s6 ⟨σ6, H6, I6, hσ, q6⟩ => ?_
        refine thn (ht _ _ _ _ _ _ s6 σ6 H6 _ I6 q6) fun b s7 ⟨H7, I7, q7⟩ => ?_
        cases b with
        | false =>
          rw [if_neg Bool.false_ne_true]
          rw [if_neg Bool.false_ne_true] at q7
          exact back I7 (conv σ6 hσ) q7
        | true =>
          rw [if_pos rfl]
          rw [if_pos rfl] at q7
          refine thn (he _ _ _ _ _ _ s7 σ6 H7 _ I7 q7) fun v s8 ⟨y, H8, I8, r8, ys, hy, hl, q8⟩ => ?_
          refine thn (mt_append _ s8 σ6 H8 (.ref D) [y] (.ref D) [v] (fun _ H9 => Nx H9) I8 rfl (.cons r8 .nil) ⟨D, ys, y, rfl, rfl, hy, hl, q8⟩) fun _ s9 ⟨_, H9, I9, _, q9⟩ => ?_
          exact back I9 (conv σ6 hσ) q9
    · rw [upd_ne (Nat.ne_of_lt (fpD b hb))]
      exact (hf b hb).1
  exact codeAny_compStart_list (loop _ rfl) (wpAny_mono (T.self X.A 0 _ _ (fun _ _ => False) st3 (loop _ rfl)) (fun _ _ z => z) fun _ _ z => z.elim)

theorem pe_comp {wi : TI} (xs capN : List Str) (ix : List Nat) (hc : X.calm = true) (hi : PI X target iter wi)
    (hg : ∀ C cells fp s H, PG (compCx X scope C cells (xs ++ capN) fp s H) target g) (ht : ∀ C cells fp s H, PTs (compCx X scope C cells (xs ++ capN) fp s H) ifs tt) (he : ∀ C cells fp s H, PE (compCx X scope C cells (xs ++ capN) fp s H) elt te)
    (hix : ix.map (fun i => X.N[i]?) = capN.map some := by rfl) (hcap : capN.all (capOk X.env scope) = true := by rfl) (hfree : scope.names.all (fun z => !(z.2 == .free) || isCF (X.env.scope.names.lookup z.1)) = true := by rfl) (hkind : scope.kind = .function := by rfl)
    (hnames : scope.names.all (fun z => !(z.2 == .local) || scope.names.lookup z.1 == some .local) = true := by decide +kernel) (hs : ∀ x, foldedSetIterable iter X.env x = pure x := by intro _; rfl) :
    PE X (.ListComp elt [⟨target, iter, ifs, 0⟩] scope pos) (tComp wi g tt te xs.length ix) := by
  intro pins s σ H Q I h
  have hcf : ∀ y ∈ scope.names, y.2 = .free → ∃ c, X.env.cells.lookup y.1 = some c := fun y hy hf => by
    have := List.all_eq_true.mp hfree y hy
    rw [hf] at this
    exact I.ok.has y.1 (isCF_iff (show isCF (X.env.scope.names.lookup y.1) = true by simpa using this))
  obtain ⟨cl, hcl, h2, h3⟩ := closure_ok hcf
  rw [eval_ListComp]
  refine wpAny_comprehension_free (use := none) rfl hs hcl hkind (fun x hx hl => ?_) (thn (hi pins s σ H _ I h) fun v s1 h1 => thn h1 fun itv s2 ⟨it, fp, tn, J, H2, e, I2, T, st, hf, q⟩ => ?_)
  · have := List.all_eq_true.mp hnames x hx
    rw [hl] at this
    simpa using this
  subst e
  refine comp_block (RR := fun acc C => compPost (model X.prog X.w) X.A X.xe none (EP X pins σ Q) acc C) xs capN ix hc hg ht he hix hcap hfree hkind h2 h3 I2 T st hf q ?_
  intro D C s' H' m I' fC hn q'
  refine ⟨m, hn, fun h' hs' => ⟨.ref D, H', ?_, rfl, q'⟩⟩
  obtain ⟨f0, f1, f2, f3, f4, f5⟩ := fC
  exact I'.turned (t' := s'.toks) (fun b o hb e => (hs'.2 b hb).trans e) f0 f1 f3 f4 f5
end
end L2
namespace L2
open PySem PySem.Spec PyProof.Rows
section
variable {X : Cx} {elt target iter : Expr} {ifs : List Expr} {scope : Scope} {pos spos px : Pos} {g : TG} {tt : TT} {te : TE}
/-- x = [..] -/
theorem ps_setComp {wi : TI} {i : Nat} {x : Str} (xs capN : List Str) (ix : List Nat) (hc : X.calm = true) (hN : X.N.Nodup) (hxi : X.N[i]? = some x) (hx : Loc X.env.scope x) (hi : PI X target iter wi)
    (hg : ∀ C cells fp s H, PG (compCx X scope C cells (xs ++ capN) fp s H) target g) (ht : ∀ C cells fp s H, PTs (compCx X scope C cells (xs ++ capN) fp s H) ifs tt) (he : ∀ C cells fp s H, PE (compCx X scope C cells (xs ++ capN) fp s H) elt te)
    (hix : ix.map (fun i => X.N[i]?) = capN.map some := by rfl) (hcap : capN.all (capOk X.env scope) = true := by rfl) (hfree : scope.names.all (fun z => !(z.2 == .free) || isCF (X.env.scope.names.lookup z.1)) = true := by rfl) (hkind : scope.kind = .function := by rfl)
    (hnames : scope.names.all (fun z => !(z.2 == .local) || scope.names.lookup z.1 == some .local) = true := by decide +kernel) (hs : ∀ x, foldedSetIterable iter X.env x = pure x := by intro _; rfl)
    (hsw : swapsWith (.ListComp elt [⟨target, iter, ifs, 0⟩] scope pos) (some (.Name x px)) spos.line X.env = pure true := by rfl)
    (hf : X.fn x = true ∨ X.env.scope.names.lookup x = some .local := by first | exact .inl rfl | exact .inr rfl | assumption) :
    PS X (.Assign [.Name x px] (.ListComp elt [⟨target, iter, ifs, 0⟩] scope pos) spos) (tAsg (tComp wi g tt te xs.length ix) (gName i)) := by
  intro pins s σ H D I h
  have hcf : ∀ y ∈ scope.names, y.2 = .free → ∃ c, X.env.cells.lookup y.1 = some c := fun y hy hf => by
    have := List.all_eq_true.mp hfree y hy
    rw [hf] at this
    exact I.ok.has y.1 (isCF_iff (show isCF (X.env.scope.names.lookup y.1) = true by simpa using this))
  obtain ⟨cl, hcl, h2, h3⟩ := closure_ok hcf
  rw [exec_Assign_Name_used _ _ _ _ hsw]
  refine wpAny_bind (wpAny_standAt (wpAny_bind ?_))
  show wpAny _ X.A (do let _ ← comprehension (.ListComp elt [⟨target, iter, ifs, 0⟩] scope pos) scope X.env _ (newList []) false (eval iter X.env) (some (assign (.Name x px) X.env))) _ _ s
  refine wpAny_bind (wpAny_mono (wpAny_comprehension_free (use := some (assign (.Name x px) X.env)) (Q := fun _ s' => SP X pins D .next s') rfl hs hcl hkind (fun x hx hl => ?_)
    (thn (hi pins s σ H _ I h) fun v s1 h1 => thn h1 fun itv s2 ⟨it, fp, tn, J, H2, e, I2, T, st, hf', q⟩ => ?_)) (fun _ s' hq => wpAny_pure (wpAny_pure hq)) fun _ _ e => e)
  · have := List.all_eq_true.mp hnames x hx
    rw [hl] at this
    simpa using this
  subst e
  refine comp_block (Q := fun v H1 => gName i v σ H1 D.nx) (RR := fun acc C => compPost (model X.prog X.w) X.A X.xe (some (assign (.Name x px) X.env)) (fun _ s' => SP X pins D .next s') acc C) xs capN ix hc hg ht he hix hcap hfree hkind h2 h3 I2 T st hf' q ?_
  intro E C s' H' m I' fC hn q'
  obtain ⟨f0, f1, f2, f3, f4, f5⟩ := fC
  obtain ⟨oC, es, ep, hoC, hdC, r⟩ := hn
  have I'' : Inv X (pins ++ [(C, oC)]) σ H' s' := I'.pins_of fun p hp => by
    rcases List.mem_append.mp hp with z | z
    · exact I'.pin p (List.mem_append_right _ z)
    · have e : p = (C, oC) := by simpa using z
      subst e
      exact ⟨hoC, f0, f1, f2, fun v z => by rw [hdC] at z; cases z⟩
  show wpAny _ X.A (assign (.Name x px) X.env (.ref E)) _ _ s'
  refine thn (pg_name hN hxi hx hf _ s' σ H' (.ref E) (.ref E) _ I'' rfl q') fun _ s4 ⟨σ2, H4, I4, q4⟩ => ?_
  have hp4 := I4.pin (C, oC) (List.mem_append_right _ (List.mem_append_right _ (by simp)))
  refine ⟨m, ⟨oC, es, ep, hp4.1, hdC, r⟩, fun h' hs' => ⟨σ2, H4, ?_, q4⟩⟩
  have I5 : Inv X pins σ2 H4 s4 := I4.unpinned
  exact I5.turned (t' := s4.toks) (fun b o hb e => (hs'.2 b hb).trans e) hp4.2.1 f1 f3 f4 f5
end
/-- over a list: Pv speaks of the turn, of what the new list holds so far, and of the heap -/
theorem comp_list {K : PySem.W.Frag} {a : Addr} {xs : List V} {g : TG} {tt : TT} {te : TE} {nv : Nat} {ix : List Nat} {σ : St} {D : Addr} {H : Hp} {Q : VK} (Pv : Nat → List V → Hp → Prop) (h0 : Pv 0 [] (upd H D (.lst []))) (hl : ∀ i ys H, i ≤ xs.length → Pv i ys H → SqL K H a xs)
    (hs : ∀ i x ys H, xs[i]? = some x → Pv i ys H → H D = some (.lst ys) → g x (capσ nv ix σ) H fun σ2 H3 => σ2.drop nv = (capσ nv ix σ).drop nv ∧ tt σ2 H3 fun b H4 =>
      if b = true then te σ2 H4 fun v H5 => ∃ zs, H5 D = some (.lst zs) ∧ zs.length < sizeLine ∧ (∃ ys', Pv (i + 1) ys' (upd H5 D (.lst (zs ++ [v]))) ∧ (upd H5 D (.lst (zs ++ [v]))) D = some (.lst ys')) else ∃ ys', Pv (i + 1) ys' H4 ∧ H4 D = some (.lst ys'))
    (hd : ∀ ys H, Pv xs.length ys H → H D = some (.lst ys) → Q (.ref D) H) :
    CompAt (Itl K a) g tt te nv ix σ Q H D := by
  refine ⟨fun i m H2 => m = xs.length - i ∧ i ≤ xs.length ∧ ∃ ys, Pv i ys H2 ∧ H2 D = some (.lst ys), ⟨xs.length, by simp, Nat.zero_le _, [], h0, upd_same⟩, ?_⟩
  rintro i m H2 ⟨rfl, hi, ys, p, hD⟩
  have q := hl i ys H2 hi p
  by_cases hlt : i < xs.length
  · refine .inr ⟨⟨xs, xs[i], q, by simp [hlt]⟩, fun H' => ∃ ys, Pv (i + 1) ys H' ∧ H' D = some (.lst ys), fun H' p' => ⟨xs.length - (i + 1), by omega, rfl, hlt, p'⟩, fun x H' y => ?_⟩
    obtain ⟨e, y⟩ := y
    subst e
    exact hs i x ys _ (y xs q) p hD
  · have e : i = xs.length := by omega
    subst e
    exact .inl ⟨⟨xs, q, Nat.le_refl _⟩, hd ys H2 p hD⟩
/-- over a range -/
theorem comp_range {lo : Int} {n : Nat} {g : TG} {tt : TT} {te : TE} {nv : Nat} {ix : List Nat} {σ : St} {D : Addr} {H : Hp} {Q : VK} (Pv : Nat → List V → Hp → Prop) (h0 : Pv 0 [] (upd H D (.lst [])))
    (hs : ∀ i ys H, i < n → Pv i ys H → H D = some (.lst ys) → g (.int (lo + i)) (capσ nv ix σ) H fun σ2 H3 => σ2.drop nv = (capσ nv ix σ).drop nv ∧ tt σ2 H3 fun b H4 =>
      if b = true then te σ2 H4 fun v H5 => ∃ zs, H5 D = some (.lst zs) ∧ zs.length < sizeLine ∧ (∃ ys', Pv (i + 1) ys' (upd H5 D (.lst (zs ++ [v]))) ∧ (upd H5 D (.lst (zs ++ [v]))) D = some (.lst ys')) else ∃ ys', Pv (i + 1) ys' H4 ∧ H4 D = some (.lst ys'))
    (hd : ∀ ys H, Pv n ys H → H D = some (.lst ys) → Q (.ref D) H) :
    CompAt (Itr lo n) g tt te nv ix σ Q H D := by
  refine ⟨fun i m H2 => m = n - i ∧ i ≤ n ∧ ∃ ys, Pv i ys H2 ∧ H2 D = some (.lst ys), ⟨n, by simp, Nat.zero_le _, [], h0, upd_same⟩, ?_⟩
  rintro i m H2 ⟨rfl, hi, ys, p, hD⟩
  by_cases hlt : i < n
  · refine .inr ⟨hlt, fun H' => ∃ ys, Pv (i + 1) ys H' ∧ H' D = some (.lst ys), fun H' p' => ⟨n - (i + 1), by omega, rfl, hlt, p'⟩, fun x H' y => ?_⟩
    obtain ⟨e, y⟩ := y
    subst e y
    exact hs i ys _ hlt p hD
  · have e : i = n := by omega
    subst e
    exact .inl ⟨Nat.le_refl _, hd ys H2 p hD⟩
end L2
namespace L2
open PySem PySem.Spec PyProof.Rows
/-! ### lists compared -/
def eqL : List V → List V → Bool
  | [], [] => true
  | x :: xs, y :: ys => eqV x y && eqL xs ys
  | _, _ => false
def eqJ (xs ys : List V) (j : Nat) : Bool := match xs[j]?, ys[j]? with
  | some a, some b => eqV a b
  | _, _ => false
theorem all_eqJ : ∀ (xs ys : List V), xs.length = ys.length → (List.range xs.length).all (eqJ xs ys) = eqL xs ys
  | [], [], _ => rfl
  | x :: xs, y :: ys, h => by
    have ih := all_eqJ xs ys (Nat.succ.inj h)
    rw [List.length_cons, List.range_succ_eq_map, List.all_cons, List.all_map]
    show (eqV x y && (List.range xs.length).all (eqJ xs ys)) = (eqV x y && eqL xs ys)
    rw [ih]
theorem eqL_len : ∀ {xs ys : List V}, ¬ xs.length = ys.length → eqL xs ys = false
  | [], [], h => absurd rfl h
  | [], _ :: _, _ => rfl
  | _ :: _, [], _ => rfl
  | x :: xs, y :: ys, h => by
    unfold eqL
    rw [eqL_len (fun e => h (congrArg (· + 1) e)), Bool.and_false]
section
variable {X : Cx}
def rEqL (K : PySem.W.Frag) (neg : Bool) : R2 := fun x y H Q => ∃ a b xs ys, x = .ref a ∧ y = .ref b ∧ SqL K H a xs ∧ SqL K H b ys ∧ xs.all flatV = true ∧ ys.all flatV = true ∧ Q (.bl (if neg then !eqL xs ys else eqL xs ys)) H
theorem eqL_at {A : Around} {s : Shared} {xs ys : List V} {us ws : List Value} (r : Vals xs us) (r' : Vals ys ws) (f : xs.all flatV = true) (f' : ys.all flatV = true) :
    ∀ j (h1 : j < us.toArray.size) (h2 : j < ws.toArray.size), SeqAt.EqAt A s us.toArray[j] ws.toArray[j] (eqJ xs ys j) := fun j h1 h2 => by
  have l1 := r.length
  have l2 := r'.length
  simp only [List.size_toArray] at h1 h2
  have e1 : xs[j]? = some xs[j] := List.getElem?_eq_getElem (by omega)
  have e2 : ys[j]? = some ys[j] := List.getElem?_eq_getElem (by omega)
  obtain ⟨u, hu, ru⟩ := r.get e1
  obtain ⟨v, hv, rv⟩ := r'.get e2
  have fu := List.all_eq_true.mp f _ (List.mem_of_getElem? e1)
  have fv := List.all_eq_true.mp f' _ (List.mem_of_getElem? e2)
  have eu : us.toArray[j] = u := by
    have : us[j]? = some us[j] := List.getElem?_eq_getElem h1
    rw [this] at hu
    exact Option.some.inj hu
  have ev : ws.toArray[j] = v := by
    have : ws[j]? = some ws[j] := List.getElem?_eq_getElem h2
    rw [this] at hv
    exact Option.some.inj hv
  rw [eu, ev]
  unfold eqJ
  rw [e1, e2]
  exact eqAt_V ru rv fu fv
theorem op_eqL (hu : X.A.units < cLine) : OpR X (compareOp .Eq) (rEqL X.K false) := by
  intro pins s σ H x y v u Q I rx ry h
  obtain ⟨a, b, xs, ys, rfl, rfl, ha, hb, fa, fb, q⟩ := h
  cases rx
  cases ry
  obtain ⟨us, r1, p1, _⟩ := I.list ha
  obtain ⟨ws, r2, p2, _⟩ := I.list hb
  have l1 := r1.length
  have l2 := r2.length
  by_cases hl : xs.length = ys.length
  · refine SeqAt.eq_listAt p1.isList p2.isList (by simp only [List.size_toArray]; omega) hu (eqL_at r1 r2 fa fb) ⟨.bl (eqL xs ys), H, I, ?_, q⟩
    show Value.bool _ = Value.bool _
    rw [List.size_toArray, ← l1, all_eqJ _ _ hl]
  · refine SeqAt.eq_list_lengthsAt p1.isList p2.isList (by simp only [List.size_toArray, bne_iff_ne]; omega) hu ⟨.bl (eqL xs ys), H, I, ?_, q⟩
    show Value.bool _ = Value.bool _
    rw [eqL_len hl]
theorem op_neL (hu : X.A.units < cLine) : OpR X (compareOp .NotEq) (rEqL X.K true) := by
  intro pins s σ H x y v u Q I rx ry h
  obtain ⟨a, b, xs, ys, rfl, rfl, ha, hb, fa, fb, q⟩ := h
  cases rx
  cases ry
  obtain ⟨us, r1, p1, _⟩ := I.list ha
  obtain ⟨ws, r2, p2, _⟩ := I.list hb
  have l1 := r1.length
  have l2 := r2.length
  by_cases hl : xs.length = ys.length
  · refine SeqAt.RcNeAt.lists p1.isList p2.isList (by simp only [List.size_toArray]; omega) hu (eqL_at r1 r2 fa fb) _ _ _ _ ⟨.bl (!eqL xs ys), H, I, ?_, q⟩
    show Value.bool _ = Value.bool _
    rw [List.size_toArray, ← l1, all_eqJ _ _ hl]
  · refine SeqAt.RcNeAt.lists_lengths p1.isList p2.isList (by simp only [List.size_toArray, bne_iff_ne]; omega) hu _ _ _ _ ⟨.bl (!eqL xs ys), H, I, ?_, q⟩
    show Value.bool _ = Value.bool _
    rw [eqL_len hl]
    rfl

/-! ### sorted, min, all of a list -/
theorem vals_bools : ∀ {bs : List Bool} {us : List Value}, Vals (bs.map V.bl) us → ∀ (i : Nat) v, us[i]? = some v → ∃ b, bs[i]? = some b ∧ v = .bool b
  | [], _, r, i, v, e => by cases r; simp at e
  | b :: bs, _, .cons r t, 0, v, e => by
    simp at e
    subst e
    exact ⟨b, rfl, r⟩
  | b :: bs, _, .cons r t, i + 1, v, e => by
    obtain ⟨c, h1, h2⟩ := vals_bools t i v (by simpa using e)
    exact ⟨c, by simpa using h1, h2⟩
theorem call_all (hc : X.calm = true) : CallR X (.builtin "all") (fun xs H Q => ∃ (p : Addr) (bs : List Bool), xs = [.ref p] ∧ SqL X.K H p (bs.map V.bl) ∧ Q (.bl (bs.all id)) H) := by
  intro pins s σ H xs us Q I r h
  obtain ⟨p, bs, rfl, hp, q⟩ := h
  obtain ⟨u, rfl, ru⟩ := vals1 r
  cases ru
  obtain ⟨its, rv, pl, hz⟩ := I.list hp
  have hl := pl.isList
  have hlt : p < s.heap.objs.size := by obtain ⟨_, e, _⟩ := hl; exact Heap.lt_size e
  have hlen := rv.length
  rw [List.length_map] at hlen
  refine call_all_walk (wpAny_pyIter_list hl ?_)
  refine ⟨s.heap.objs.size, [s.heap.objs.size, p], [s.heap.objs.size], its.toArray.size, _, _, fun i => (bs[i]?).getD true, rfl, Walks.list (A := X.A.in1) (I.ok.hd hc) _ p (Nat.ne_of_lt hlt) its.toArray,
    ⟨⟨_, Heap.get?_push_size _ rfl, rfl, rfl⟩, hl.push _⟩, fun i v s' Q' E' hP hQ => ?_, fun h' tk hk => ?_⟩
  · obtain ⟨b, e, rfl⟩ := vals_bools rv i v (by simpa using hP)
    simp only [e, Option.getD_some] at hQ
    exact wpAny_truthy_bool hQ
  · have e : ((List.range its.toArray.size).all fun i => (bs[i]?).getD true) = bs.all id := by
      rw [List.size_toArray, ← hlen, Bool.eq_iff_iff, List.all_eq_true, List.all_eq_true]
      constructor
      · intro z b hb
        obtain ⟨i, hi, rfl⟩ := List.getElem_of_mem hb
        have := z i (List.mem_range.mpr hi)
        show bs[i] = true
        simpa only [List.getElem?_eq_getElem hi, Option.getD_some] using this
      · intro z i hi
        have hi' := List.mem_range.mp hi
        have z2 : bs[i] = true := z _ (List.getElem_mem hi')
        simpa only [List.getElem?_eq_getElem hi', Option.getD_some] using z2
    refine ⟨.bl (bs.all id), H, I.kept fun b o x => hk b o (fun hm => ?_) (Heap.get?_push_of_some _ x), by rw [e]; rfl, q⟩
    rw [List.mem_singleton.mp hm] at x
    exact Nat.lt_irrefl _ (Heap.lt_size x)

/-! ### xs[::-1] -/
/-- a[::-1] of a list -/
def rRevL (K : PySem.W.Frag) : V → Hp → VK → Prop := fun x H Q => ∃ a xs, x = .ref a ∧ SqL K H a xs ∧ ∀ p, H p = none → Q (.ref p) (upd H p (.lst xs.reverse))
def tRev (K : PySem.W.Frag) (te : TE) : TE := fun σ H Q => te σ H fun x H1 => rRevL K x H1 Q
end

/-! ### C.f(e, ..): a def of a class, by the class -/
structure ClsFn (K : PySem.W.Frag) (C : Addr) (m : Str) (g : Addr) : Prop where
  rd : PySem.W.readsIn K C (.type "type") = true
  at_ : PySem.W.findCls K (.ref C) (.type "type") m = some (.val (.ref g))
  sp : PySem.W.specialIn K (.ref C) "__getattribute__" = some (some (.builtin "type.__getattribute__"))
  kp : PySem.W.keepIn K (.ref g) = true
section
variable {X : Cx} {CX : CXT} {k : Nat} {f C : Addr} {fd : FuncData} {ps : List Str} {sp : Sp} {dvs : List V} {ds : List Value} {E : XK} {x m : Str} {p pos apos : Pos} {e : Expr} {es : List Expr} {t : TA}
theorem pe_clsfn {pl : Sem Bool} (hg : Gl X x) (hm : X.mg x = some (.ref C)) (c : ClsFn X.K C m f) (F : FnOk X.prog X.w X.K X.mg X.base CX k f fd ps sp) (hr : Room k X.A) (hb : Binds X.K fd ps ds) (hd : Vals dvs ds) (hx : Passes CX X E) (ha : PA X (e :: es) t)
    (hdb : (x == ("__debug__" : Str)) = false := by decide) (hst : starEach (e :: es) X.env = (false, eval e X.env) :: starEach es X.env := by rfl) (hpl : (backTo pos (starEach es X.env)).any (·.1) = false := by rfl)
    (ht : eval (.Call (.Attribute (.Name x p) m apos) (e :: es) [] pos) X.env = (do
      let ov ← eval (.Name x p) X.env
      standAt apos.atName
      let (f, first) ← holding [ov] (getMethod ov m pl)
      callWith pos f first (backTo pos (starEach (e :: es) X.env)) (backToKw pos (keywordEach [] X.env))) := by rfl) :
    PE X (.Call (.Attribute (.Name x p) m apos) (e :: es) [] pos) (tCall sp dvs E t) := by
  intro pins s σ H Q I h
  refine PySem.W.methodCall_KW (pl := pl) (ld_glob I hg hm ?_ hdb) ht
  refine PySem.W.method_cls I.kIn c.sp (PySem.W.cls_value I.kIn c.rd c.at_ rfl ?_)
  have I1 : Inv X pins σ H { s with toks := s.toks + 1 } := I.tok _
  refine PySem.W.callWith_K (first := []) (h₀ := X.base) I.ok.mod.kin c.kp (thn (ha pos pins _ σ H _ I1 h) fun us s2 ⟨vs, H2, I2, r, q2⟩ => ⟨I2.kIn, ?_⟩) hst hpl
  exact run_fn (us := us) (vs := vs) F hr hb hd hx I2 r q2
end
end L2
namespace L2
open PySem PySem.Spec PyProof.Rows
/-! ### an exception in flight: its object with its dict, its entry of the traceback; B is a heap that stays -/
def XAt (B h : Heap) (x : Addr) (C : Value) (d : Option Addr) (vs : Array Value) : Prop := B.get? x = none ∧ ∃ sl, h.get? x = some ⟨C, d, .fields vs, sl⟩
def TAt (B h : Heap) (x : Addr) (vs : Array Value) (fl : Value) : Prop := ∃ (T : Addr) (oT : Obj) (ts : Array Value), vs[1]? = some (.ref T) ∧ T ≠ x ∧ B.get? T = none ∧ h.get? T = some oT ∧ oT.data = .fields ts ∧ ts[3]? = some fl
/-- what a step of the flight keeps: B, and the frames up to their slots -/
structure Moved (l : List Env) (B h h' : Heap) : Prop where
  stay : B.StaysIn h'
  funs : h'.FunFrames B l
  slot : ∀ b ∈ frs l, ∀ o, h.get? b = some o → ∃ sl, h'.get? b = some { o with slots := sl }
theorem Moved.trans {l : List Env} {B h h1 h2 : Heap} (a : Moved l B h h1) (b : Moved l B h1 h2) : Moved l B h h2 :=
  ⟨b.stay, b.funs, fun c hc o e => by
    obtain ⟨sl, e1⟩ := a.slot c hc o e
    obtain ⟨sl2, e2⟩ := b.slot c hc _ e1
    exact ⟨sl2, e2⟩⟩
section
variable {M : Model} {A : Around} {E : Value → Shared → Prop} {s : Shared} {B : Heap} {l : List Env} {x : Addr} {C : Value} {d : Option Addr} {vs : Array Value}
/-- a record is no frame -/
theorem rec_noFrame {h : Heap} (hl : h.FunFrames B l) {b : Addr} {o : Obj} {ws : Array Value} (e : h.get? b = some o) (hd : o.data = .fields ws) : b ∉ frs l := fun hb => by
  obtain ⟨_, o', e', n⟩ := hl.mem hb
  rw [e] at e'
  cases e'
  exact n ws hd
/-- one record outside of B is changed -/
theorem moved_update {h : Heap} (hs : B.StaysIn h) (hl : h.FunFrames B l) {b : Addr} {o : Obj} {ws : Array Value} (e : h.get? b = some o) (hd : o.data = .fields ws) (hb : B.get? b = none) (f : Obj → Obj) : Moved l B h (h.update b f) := by
  have nf := rec_noFrame hl e hd
  refine ⟨fun c u q => ?_, hl.of_keeps fun c u q n => ⟨u, ?_, rfl⟩, fun c hc u q => ⟨u.slots, ?_⟩⟩
  · have hne : b ≠ c := fun z => by rw [z, q] at hb; cases hb
    rw [Heap.get?_update_other _ _ hne]
    exact hs c u q
  · have hne : b ≠ c := fun z => by
      subst z
      rw [e] at q
      cases q
      exact n ws hd
    rw [Heap.get?_update_other _ _ hne]
    exact q
  · have hne : b ≠ c := fun z => nf (by rw [z]; exact hc)
    rw [Heap.get?_update_other _ _ hne]
    exact q
/-- the flight's mark goes -/
theorem flight_none {fl : Value} {Q : Unit → Shared → Prop} (hs : B.StaysIn s.heap) (hl : s.heap.FunFrames B l) (hx : XAt B s.heap x C d vs) (ht : TAt B s.heap x vs fl)
    (h : ∀ h', XAt B h' x C d vs → TAt B h' x vs .none → Moved l B s.heap h' → Q () { s with heap := h' }) : wpAny M A (setFlight (.ref x) none) Q E s := by
  obtain ⟨bx, sl, ex⟩ := hx
  obtain ⟨T, oT, ts, v1, hne, bT, eT, dT, t3⟩ := ht
  have h3 : 3 < ts.size := (Array.getElem?_eq_some_iff.mp t3).1
  unfold setFlight
  refine wpAny_bind (wpAny_field ex rfl v1 ?_)
  rw [if_pos (show (Value.ref T != Value.none) = true by simp)]
  refine wpAny_setField eT dT h3 (h _ ⟨bx, sl, ?_⟩ ?_ (moved_update hs hl eT dT bT _))
  · rw [Heap.get?_update_other _ _ hne]
    exact ex
  · have dN := Obj.data_mapFields dT (·.setIfInBounds 3 Value.none)
    exact ⟨T, _, _, v1, hne, bT, Heap.get?_update_self _ eT (Obj.isFreed_of_fields dN), dN, by simp [h3]⟩
/-- a new entry is laid and hung on -/
theorem entry_new {env : Env} {outer : List Env} {L : Addr} {head : Value} {hadNext : Bool} {Q : Unit → Shared → Prop} (hfr : A.frames = some (env :: outer)) (hf : env.frame = some L) (hs : B.StaysIn s.heap) (hl : s.heap.FunFrames B (env :: outer))
    (hx : XAt B s.heap x C d vs) (h1 : 1 < vs.size)
    (h : ∀ h' ws, ws[0]? = vs[0]? → XAt B h' x C d ws → TAt B h' x ws (rawInt L) → Moved (env :: outer) B s.heap h' → Q () { s with heap := h' }) :
    wpAny M A (do let a ← frameOf env; let pl ← entryPlaceOf L hadNext; let b ← EntryCells.newEntry head a .none (rawInt L) .none pl; setField (.ref x) 1 b) Q E s := by
  obtain ⟨bx, sl, ex⟩ := hx
  have nx := rec_noFrame hl ex rfl
  refine wpAny_bind (wpAny_frameOf_fun hfr hl hf fun g1 k1 => ?_)
  have ex1 : g1.get? x = some ⟨C, d, .fields vs, sl⟩ := (k1.2.1 x nx).trans ex
  have hs1 : B.StaysIn g1 := fun b o q => (k1.2.1 b fun hb => by have z := (hl.mem hb).1; rw [q] at z; cases z).trans (hs b o q)
  have m1 : Moved (env :: outer) B s.heap g1 := ⟨hs1, hl.of_keeps fun b o q _ => let ⟨sl', z⟩ := k1.2.2 b o q; ⟨_, z, rfl⟩, fun b _ o q => k1.2.2 b o q⟩
  refine wpAny_bind (wpAny_entryPlaceOf fun pl hpl => ?_)
  unfold EntryCells.newEntry newFields
  refine wpAny_bind (wpAny_newObj_type ?_ (hpl.sizeOk5 _ _ _ _ _))
  generalize hts : ([head, Value.ref L, Value.none, rawInt L, Value.none] ++ (if pl.isEmpty then List.replicate 6 Value.none else pl)).toArray = ts
  have t3 : ts[3]? = some (rawInt L) := by
    rw [← hts]
    simp
  have hTx : g1.objs.size ≠ x := Nat.ne_of_gt (Heap.lt_size ex1)
  have m2 : Moved (env :: outer) B g1 (g1.push ⟨.type "traceback", none, .fields ts, #[]⟩) :=
    ⟨fun b o q => Heap.get?_push_of_some _ (hs1 b o q), m1.funs.of_keeps fun b o q _ => ⟨o, Heap.get?_push_of_some _ q, rfl⟩, fun b _ o q => ⟨o.slots, Heap.get?_push_of_some _ q⟩⟩
  have ex2 := Heap.get?_push_of_some (h := g1) ⟨.type "traceback", none, .fields ts, #[]⟩ ex1
  refine wpAny_setField ex2 rfl h1 (h _ (vs.setIfInBounds 1 (.ref g1.objs.size)) ?_ ⟨bx, sl, ?_⟩ ?_ ((m1.trans m2).trans (moved_update m2.stay m2.funs ex2 rfl bx _)))
  · rw [Array.getElem?_setIfInBounds_ne (by decide)]
  · exact Heap.get?_update_self (Obj.mapFields (·.setIfInBounds 1 (Value.ref g1.objs.size))) ex2 rfl
  · refine ⟨g1.objs.size, ⟨.type "traceback", none, .fields ts, #[]⟩, ts, by simp [h1], hTx, hs1.fresh, ?_, rfl, t3⟩
    rw [Heap.get?_update_other _ _ (Ne.symm hTx)]
    exact Heap.get?_push_size _ rfl
/-- the frame is noted: of an exception without an entry, or with one of another frame's -/
theorem note_frame {env : Env} {outer : List Env} {L : Addr} {Q : Unit → Shared → Prop} (hfr : A.frames = some (env :: outer)) (hf : env.frame = some L) (hs : B.StaysIn s.heap) (hl : s.heap.FunFrames B (env :: outer))
    (hx : XAt B s.heap x C d vs) (ht : vs[1]? = some .none ∨ TAt B s.heap x vs .none)
    (h : ∀ h' ws, ws[0]? = vs[0]? → XAt B h' x C d ws → TAt B h' x ws (rawInt L) → Moved (env :: outer) B s.heap h' → Q () { s with heap := h' }) :
    wpAny M A (noteFrame (.ref x) env) Q E s := by
  obtain ⟨bx, sl, ex⟩ := id hx
  unfold noteFrame
  simp only [hf]
  rcases ht with v1 | ⟨T, oT, ts, v1, hne, bT, eT, dT, t3⟩
  · refine wpAny_bind (wpAny_field ex rfl v1 ?_)
    rw [if_neg (by decide)]
    exact entry_new hfr hf hs hl hx (Array.getElem?_eq_some_iff.mp v1).1 h
  · refine wpAny_bind (wpAny_field ex rfl v1 ?_)
    rw [if_pos (show (Value.ref T != Value.none) = true by simp)]
    refine wpAny_bind (wpAny_field eT dT t3 ?_)
    rw [if_neg (show ¬ ((Value.none == rawInt L) = true) by simp [rawInt])]
    refine wpAny_bind (wpAny_setField eT dT (Array.getElem?_eq_some_iff.mp t3).1 ?_)
    have mv := moved_update hs hl eT dT bT (Obj.mapFields (·.setIfInBounds 3 Value.none))
    refine entry_new (s := { s with heap := s.heap.update T (Obj.mapFields (·.setIfInBounds 3 Value.none)) }) hfr hf mv.stay mv.funs ⟨bx, sl, ?_⟩ (Array.getElem?_eq_some_iff.mp v1).1 fun h' ws a b c e => h h' ws a b c (mv.trans e)
    show (s.heap.update T _).get? x = _
    rw [Heap.get?_update_other _ _ hne]
    exact ex
/-- the exception leaves a frame -/
theorem leave_frame {env : Env} {outer : List Env} {L : Addr} {Q : Unit → Shared → Prop} (hfr : A.frames = some (env :: outer)) (hf : env.frame = some L) (hs : B.StaysIn s.heap) (hl : s.heap.FunFrames B (env :: outer))
    (hx : XAt B s.heap x C d vs) (ht : vs[1]? = some .none ∨ TAt B s.heap x vs .none)
    (h : ∀ h' ws, ws[0]? = vs[0]? → XAt B h' x C d ws → TAt B h' x ws .none → Moved (env :: outer) B s.heap h' → Q () { s with heap := h' }) :
    wpAny M A (leaving env (.ref x)) Q E s := by
  unfold leaving
  refine wpAny_bind (note_frame hfr hf hs hl hx ht fun g1 ws a b c e => ?_)
  exact flight_none (s := { s with heap := g1 }) e.stay e.funs b c fun g2 b2 c2 e2 => h g2 ws a b2 c2 (e.trans e2)
end
end L2
namespace L2
open PySem PySem.Spec PyProof.Rows
/-- tracked objects stay: so does what is said of them -/
theorem HOk.tracked {P : Program} {w : World} {H : Hp} {h h' : Heap} (ok : HOk P w H h) (k : ∀ b u o, H b = some u → h.get? b = some o → h'.get? b = some o) : HOk P w H h' := fun b u e => by
  refine (ok b u e).stay (fun c v hc q => ?_) (fun _ q => q) fun _ _ q => q
  rcases hc with z | z
  · subst z
    exact k _ u v e q
  · exact k c _ v z q
/-- a tracked object is there -/
theorem ObjOk.there {P : Program} {w : World} {H : Hp} {h : Heap} {a : Addr} {o : HO} (x : ObjOk P w H h a o) : ∃ u, h.get? a = some u := by
  cases o with
  | lst xs => obtain ⟨_, _, _, _, e⟩ := x; exact ⟨_, e⟩
  | tup xs => obtain ⟨_, _, _, p⟩ := x; obtain ⟨u, e, _⟩ := p; exact ⟨u, e⟩
  | dK kvs => obtain ⟨_, _, _, _, u, _, _, e, _⟩ := x; exact ⟨u, e⟩
  | dT kvs => obtain ⟨_, _, _, _, u, _, _, e, _⟩ := x; exact ⟨u, e⟩
  | set S n => obtain ⟨u, _, _, _, e, _⟩ := x; exact ⟨u, e⟩
  | ins C dx fs => exact ⟨_, x.2.2.2.1⟩
  | own y => exact x
  | xd fs => obtain ⟨_, ⟨u, _, _, e, _⟩, _⟩ := x; exact ⟨u, e⟩
  | met f y => exact ⟨_, x⟩
  | rng lo hi => obtain ⟨_, _, _, e⟩ := x; exact ⟨_, e⟩
  | frz u v => exact ⟨u, x.1⟩
  | tbl ps => exact ⟨_, x⟩
  | ext φ => exact x.2.1
theorem frames_base {h B B' : Heap} : ∀ {l : List Env}, (∀ b ∈ frs l, B'.get? b = none) → h.FunFrames B l → h.FunFrames B' l
  | [], _, _ => trivial
  | env :: r, hn, ⟨hk, ⟨L, o, hf, _, ho, hd⟩, hr⟩ => by
    have e : frs (env :: r) = L :: frs r := by
      unfold frs
      rw [List.filterMap_cons, hf]
    exact ⟨hk, ⟨L, o, hf, hn L (by rw [e]; exact List.mem_cons_self), ho, hd⟩, frames_base (fun b hb => hn b (by rw [e]; exact List.mem_cons_of_mem _ hb)) hr⟩

/-- an exception has left the callee: what is kept, where it lies -/
structure Fly (P : Program) (w : World) (outer : List Env) (H H' : Hp) (g B : Heap) (x C : Addr) (d : Option Addr) (h' : Heap) : Prop where
  un : Un (frs outer) [] H H' g h'
  hok : HOk P w H' h'
  stay : B.StaysIn h'
  funs : h'.FunFrames B outer
  cov : ∀ b o, g.get? b = some o → b ∉ frs outer → ∃ o', B.get? b = some o'
  covT : ∀ b o, H' b = some o → ∃ o', B.get? b = some o'
  exc : ∃ vs, XAt B h' x (.ref C) d vs ∧ TAt B h' x vs .none
/-- how an exception lies behind a call -/
def CXE (P : Program) (w : World) : CXT := fun outer H s E e s' => ∃ (x C : Addr) (d : Option Addr) (H' : Hp) (B : Heap), e = .ref x ∧ s'.os = s.os ∧ AllBare s'.gens ∧ Fly P w outer H H' s.heap B x C d s'.heap ∧ E (.ref C) d H'

section
variable {P : Program} {w : World} {outer : List Env} {H H' : Hp} {g B h h' : Heap} {x C : Addr} {d : Option Addr}
theorem Fly.noX (F : Fly P w outer H H' g B x C d h) : H' x = none := by
  obtain ⟨_, ⟨bx, _⟩, _⟩ := F.exc
  cases q : H' x with
  | none => rfl
  | some o =>
    obtain ⟨o', z⟩ := F.covT x o q
    rw [z] at bx
    cases bx
/-- the heap moves on under the flight -/
theorem un_moved (un : Un (frs outer) [] H H' g h) (hs : B.StaysIn h) (hl : h.FunFrames B outer) (cov : ∀ b o, g.get? b = some o → b ∉ frs outer → ∃ o', B.get? b = some o') (m : Moved outer B h h') : Un (frs outer) [] H H' g h' where
  keep := fun b o e n hb hx => by
    have e1 := un.keep b o e n hb hx
    obtain ⟨o', e2⟩ := cov b o e hb
    have e3 := hs b o' e2
    rw [e1] at e3
    cases e3
    exact m.stay b _ e2
  slot := fun b o e n hb hx => by
    obtain ⟨sl, e1⟩ := un.slot b o e n hb hx
    obtain ⟨sl2, e2⟩ := m.slot b hb _ e1
    exact ⟨sl2, e2⟩
  free := un.free
  there := fun b o e hx => by
    by_cases hb : b ∈ frs outer
    · obtain ⟨o1, e1⟩ := un.there b o e hx
      obtain ⟨sl, e2⟩ := m.slot b hb o1 e1
      exact ⟨_, e2⟩
    · obtain ⟨o', e2⟩ := cov b o e hb
      exact ⟨o', m.stay b o' e2⟩
  tups := un.tups
  frzs := un.frzs
  tbls := un.tbls
theorem hok_moved (ok : HOk P w H' h) (hs : B.StaysIn h) (covT : ∀ b o, H' b = some o → ∃ o', B.get? b = some o') (m : B.StaysIn h') : HOk P w H' h' :=
  ok.tracked fun b u o e q => by
    obtain ⟨o', e2⟩ := covT b u e
    have e3 := hs b o' e2
    rw [q] at e3
    cases e3
    exact m b _ e2
theorem Fly.moved (F : Fly P w outer H H' g B x C d h) {vs : Array Value} (m : Moved outer B h h') (hx : XAt B h' x (.ref C) d vs) (ht : TAt B h' x vs .none) : Fly P w outer H H' g B x C d h' :=
  ⟨un_moved F.un F.stay F.funs F.cov m, hok_moved F.hok F.stay F.covT m.stay, m.stay, m.funs, F.cov, F.covT, vs, hx, ht⟩
end

/-- an exception begins here, without an entry yet; H': the abstract heap behind its making -/
def Starts (X : Cx) (E : XK) : Prop := ∀ (pins : List (Addr × Obj)) (σ : St) (H : Hp) (s : Shared) (h' : Heap) (x C : Addr) (sl : Array (Option Value)) (vs : Array Value), Inv X pins σ H s → (∀ b o, s.heap.get? b = some o → h'.get? b = some o) →
  s.heap.get? x = none → h'.get? x = some ⟨.ref C, none, .fields vs, sl⟩ → vs[1]? = some .none → E (.ref C) none H → X.xe (.ref x) { s with heap := h' }

section
variable {P : Program} {w : World} {K : PySem.W.Frag} {mg : Str → Option Value} {base : Heap} {N : List Str} {qual : Str} {scope : Scope} {f : Addr} {cd : Value} {A : Around} {outer : List Env} {s₀ : Shared} {H₀ : Hp} {E : XK}
theorem stack_frs {X : Cx} {env : Env} {outer : List Env} {L : Addr} (e : X.stack = env :: outer) (hf : env.frame = some L) : frs X.stack = L :: frs outer := by
  rw [e]
  unfold frs
  rw [List.filterMap_cons, hf]
/-- from the state at a call (or a raise) to the entry of the def -/
theorem leave_un {H1 H2 : Hp} {g0 g1 h' B : Heap} {L : Addr} (hL : g0.objs.size ≤ L) (a : Un (frs outer) [] H₀ H1 g0 g1) (b : Un (L :: frs outer) [] H1 H2 g1 h') : Un (frs outer) [] H₀ H2 g0 h' := by
  have nL : ∀ c o, g0.get? c = some o → c ≠ L := fun c o e => Nat.ne_of_lt (Nat.lt_of_lt_of_le (Heap.lt_size e) hL)
  have n0 : ∀ c : Addr, c ∉ ([] : List Addr) := fun c => by simp
  refine ⟨fun c o e n hc hx => ?_, fun c o e n hc hx => ?_, fun c o e n hx => ?_, fun c o e hx => ?_, fun c xs e => b.tups c xs (a.tups c xs e), fun c o u e => b.frzs c o u (a.frzs c o u e), fun c ps e => ?_⟩
  · exact b.keep c o (a.keep c o e n hc hx) (a.free c o e n hx) (fun z => (List.mem_cons.mp z).elim (nL c o e) hc) (n0 c)
  · obtain ⟨sl, e1⟩ := a.slot c o e n hc hx
    obtain ⟨sl2, e2⟩ := b.slot c _ e1 (a.free c o e n hx) (List.mem_cons_of_mem _ hc) (n0 c)
    exact ⟨sl2, e2⟩
  · obtain ⟨o1, e1⟩ := a.there c o e hx
    exact b.free c o1 e1 (a.free c o e n hx) (n0 c)
  · obtain ⟨o1, e1⟩ := a.there c o e hx
    exact b.there c o1 e1 (n0 c)
  · obtain ⟨m1, e1⟩ := a.tbls c ps e
    obtain ⟨m2, e2⟩ := b.tbls c _ e1
    exact ⟨m1 ++ m2, by rw [e2, Array.append_assoc]⟩

/-- in a def's body: an exception of a callee leaves the def too -/
theorem passes_cx : Passes (CXE P w) (cxOf (CXE P w) P w K mg base N qual scope f cd A outer s₀ H₀ E) E := by
  intro pins σ H s e s' I hx
  obtain ⟨x, C, d, H', B, rfl, os, bare, F, q⟩ := hx
  obtain ⟨vs, xa, ta⟩ := F.exc
  show wpAny _ _ (leaving _ _) _ _ s'
  have hfr := I.ok.frames
  have hsf : frs (cxOf (CXE P w) P w K mg base N qual scope f cd A outer s₀ H₀ E).stack = s₀.heap.objs.size :: frs outer := stack_frs rfl rfl
  refine leave_frame (L := s₀.heap.objs.size) hfr rfl F.stay F.funs xa (.inr ta) fun h' ws _ xa' ta' m => ?_
  refine ⟨x, C, d, H', B, rfl, os.trans I.os, bare, ⟨?_, hok_moved F.hok F.stay F.covT m.stay, m.stay, m.funs.2.2, fun b o e hb => ?_, F.covT, ws, xa', ta'⟩, q⟩
  · have u2 := un_moved F.un F.stay F.funs F.cov m
    exact leave_un (L := s₀.heap.objs.size) (B := B) (Nat.le_refl _) I.base (hsf ▸ u2)
  · obtain ⟨o1, e1⟩ := I.base.there b o e (fun z => by simp [cxOf] at z)
    refine F.cov b o1 e1 fun z => ?_
    rw [hsf] at z
    exact (List.mem_cons.mp z).elim (Nat.ne_of_lt (Heap.lt_size e)) hb
/-- in a def's body: an exception that begins here leaves the def -/
theorem starts_cx : Starts (cxOf (CXE P w) P w K mg base N qual scope f cd A outer s₀ H₀ E) E := by
  intro pins σ H s h' x C sl vs I kp nx hx v1 q
  show wpAny _ _ (leaving _ _) _ _ _
  have hfr := I.ok.frames
  have hsf : frs (cxOf (CXE P w) P w K mg base N qual scope f cd A outer s₀ H₀ E).stack = s₀.heap.objs.size :: frs outer := stack_frs rfl rfl
  let B := PySem.W.hideAll s.heap (frs (cxOf (CXE P w) P w K mg base N qual scope f cd A outer s₀ H₀ E).stack)
  have hB : B.StaysIn s.heap := fun b o e => PySem.W.of_hideAll _ e
  have hB' : B.StaysIn h' := fun b o e => kp b o (hB b o e)
  have bget : ∀ b o, s.heap.get? b = some o → b ∉ frs (cxOf (CXE P w) P w K mg base N qual scope f cd A outer s₀ H₀ E).stack → B.get? b = some o := fun b o e n => PySem.W.hideAll_get _ e n
  have bx : B.get? x = none := by
    cases z : B.get? x with
    | none => rfl
    | some o =>
      have := hB x o z
      rw [nx] at this
      cases this
  have fn : h'.FunFrames B (cxOf (CXE P w) P w K mg base N qual scope f cd A outer s₀ H₀ E).stack := (frames_base (fun b hb => PySem.W.hideAll_none _ hb) I.stack).of_keeps fun b o e _ => ⟨o, kp b o e, rfl⟩
  have covT : ∀ b o, H b = some o → ∃ o', B.get? b = some o' := fun b o e => by
    have hlt := (I.hok b o e).lt
    obtain ⟨u, hu⟩ : ∃ u, s.heap.get? b = some u := (I.hok b o e).there
    refine ⟨u, bget b u hu fun hb => ?_⟩
    rw [I.stkFree b hb] at e
    cases e
  have un0 : Un (frs (cxOf (CXE P w) P w K mg base N qual scope f cd A outer s₀ H₀ E).stack) [] H H s.heap h' := Un.kept kp
  have cov1 : ∀ b o, s.heap.get? b = some o → b ∉ frs (cxOf (CXE P w) P w K mg base N qual scope f cd A outer s₀ H₀ E).stack → ∃ o', B.get? b = some o' := fun b o e n => ⟨o, bget b o e n⟩
  refine leave_frame (s := { s with heap := h' }) (B := B) (L := s₀.heap.objs.size) hfr rfl hB' fn ⟨bx, sl, hx⟩ (.inl v1) fun h2 ws _ xa' ta' m => ?_
  refine ⟨x, C, none, H, B, rfl, I.os, I.bare, ⟨?_, hok_moved (I.hok.kept kp) hB' covT m.stay, m.stay, m.funs.2.2, fun b o e hb => ?_, covT, ws, xa', ta'⟩, q⟩
  · have u2 := un_moved un0 hB' fn cov1 m
    exact leave_un (L := s₀.heap.objs.size) (B := B) (Nat.le_refl _) I.base (hsf ▸ u2)
  · obtain ⟨o1, e1⟩ := I.base.there b o e (fun z => by simp [cxOf] at z)
    refine cov1 b o1 e1 fun z => ?_
    rw [hsf] at z
    exact (List.mem_cons.mp z).elim (Nat.ne_of_lt (Heap.lt_size e)) hb
end
end L2
namespace L2
open PySem PySem.Spec PyProof.Rows
/-! ### promises with and without exceptions -/
section
variable {P : Program} {w : World} {K : PySem.W.Frag} {mg : Str → Option Value} {base : Heap} {k : Nat} {f : Addr} {fd : FuncData} {ps : List Str} {sp : Sp}
theorem Fun.okX {x qual : Str} {st : Stmt} {N : List Str} (F : Fun K x qual st f fd) (S : FnScope N ps (defScope st)) (len : ∀ vs H Q E, sp vs H Q E → vs.length = ps.length)
    (hbody : ∀ (cdv : Value) (A : Around) (outer : List Env) (s : Shared) (H : Hp) (vs : List V) (Q : VK) (E : XK), Room k (A.deeper (envOfC qual (defScope st) s.heap.objs.size f cdv)) → sp vs H Q E →
      ∃ t, PSs (cxOf (CXE P w) P w K mg base N qual (defScope st) f cdv A outer s H E) (defBody st) t ∧ t { nx := fun _ H' => Q .non H', rt := Q } (start N vs) H) : FnOk P w K mg base (CXE P w) (k + 1) f fd ps sp := by
  obtain ⟨oc, od, kV, doc, pm, an, cdv, ct, osl, rfl, lk, hcd⟩ := F.ex
  exact fn_of lk hcd S len fun A outer s H vs Q E hr hsp => hbody cdv A outer s H vs Q E hr hsp
end
/-- a call by name that may raise -/
structure CalX (P : Program) (w : World) (K : PySem.W.Frag) (mg : Str → Option Value) (base : Heap) (k : Nat) (x : Str) (ps : List Str) (sp : Sp) : Prop where
  ex : ∃ f fd, FnOk P w K mg base (CXE P w) k f fd ps sp ∧ Binds K fd ps [] ∧ PySem.W.keepIn K (.ref f) = true ∧ mg x = some (.ref f)
/-- an expression that may raise: the names as they were, the flight told -/
abbrev TX := St → Hp → VK → XK → Prop
def FX (X : Cx) (pins : List (Addr × Obj)) (σ : St) (E : XK) (v : Value) (s' : Shared) : Prop := ∃ H1 s1, Inv X pins σ H1 s1 ∧ CXE X.prog X.w X.stack H1 s1 E v s'
def PX (X : Cx) (e : Expr) (t : TX) : Prop :=
  ∀ (pins : List (Addr × Obj)) (s : Shared) (σ : St) (H : Hp) (Q : VK) (E : XK), Inv X pins σ H s → t σ H Q E → wpAny (model X.prog X.w) X.A (eval e X.env) (EP X pins σ Q) (FX X pins σ E) s
section
variable {X : Cx} {k j : Nat} {f : Addr} {fd : FuncData} {ps : List Str} {sp : Sp} {E : XK} {x : Str} {p pos : Pos} {e : Expr} {es : List Expr} {t : TA}
/-- .. in a body: it leaves the body -/
theorem pe_fnX (C : CalX X.prog X.w X.K X.mg X.base k x ps sp) (hx : Passes (CXE X.prog X.w) X E) (hr : Room j X.A) (hj : k ≤ j) (hg : Gl X x) (ha : PA X (e :: es) t) (hdb : (x == ("__debug__" : Str)) = false := by decide) (he : starEach (e :: es) X.env = (false, eval e X.env) :: starEach es X.env := by rfl) (hpl : (backTo pos (starEach es X.env)).any (·.1) = false := by rfl) :
    PE X (.Call (.Name x p) (e :: es) [] pos) (tCall sp [] E t) := by
  obtain ⟨f, fd, F, b, kp, m⟩ := C.ex
  exact pe_call F (hr.mono hj) hg m kp b .nil hx ha hdb he hpl
/-- .. in a try -/
theorem px_fn (C : CalX X.prog X.w X.K X.mg X.base k x ps sp) (hr : Room j X.A) (hj : k ≤ j) (hg : Gl X x) (ha : PA X.nox (e :: es) t) (hdb : (x == ("__debug__" : Str)) = false := by decide) (he : starEach (e :: es) X.env = (false, eval e X.env) :: starEach es X.env := by rfl) (hpl : (backTo pos (starEach es X.env)).any (·.1) = false := by rfl) :
    PX X (.Call (.Name x p) (e :: es) [] pos) (fun σ H Q E => t σ H fun vs H1 => sp vs H1 Q E) := by
  obtain ⟨f, fd, F, b, kp, m⟩ := C.ex
  intro pins s σ H Q E I h
  refine wpAny_Call_Name_kw (ld_glob I hg m ?_ hdb)
  have h1 := ha pos pins s σ H _ (I.wish _) h
  refine PySem.W.callWith_K (h₀ := X.base) I.ok.mod.kin kp (wpAny_mono h1 (fun us s1 ⟨vs, H1, I1, r, q⟩ => ⟨I1.kIn, ?_⟩) fun _ _ z => z.elim) he hpl
  have I2 := I1.unwish
  have hl : (us ++ []).length = ps.length := by rw [List.append_nil, ← r.length]; exact F.len _ _ _ _ q
  have hb2 := b s1 us I2.kIn hl
  rw [List.append_nil] at hb2
  refine wpAny_call (codeAny_mono (F.run X.A X.stack s1 H1 ⟨us, []⟩ us vs Q E (hr.mono hj) I2.env0 hb2 r q) fun r s' hq => ?_)
  cases r with
  | error e => exact ⟨H1, s1, I2, hq⟩
  | ok fl =>
    cases fl with
    | ret u => exact I2.after hq
    | next => exact False.elim hq
    | brk => exact False.elim hq
    | cont => exact False.elim hq
end

/-! ### raise C(), C an own class under ValueError without an __init__ of its own -/
def VE : List Value := [.type "ValueError", .type "Exception", .type "BaseException", .type "object"]
def ExcC (K : PySem.W.Frag) (C : Addr) : Prop := PySem.W.excIn K C VE "ValueError.__new__" = true
theorem exc_obj {K : PySem.W.Frag} {h : Heap} {C : Addr} (q : ExcC K C) (X : K.In h) : ∃ bm N nm q bs hdct sn sub ab col dd k0 k1 k2 k3 k5 mN, h.get? C = some (excClassObj nm q C N bs bm hdct sn sub ab col dd k0 k1 k2 k3 k5 "ValueError.__new__") ∧ h.Ns N mN ∧ mN "__init__" = none ∧ OwnTail h VE bm := by
  unfold ExcC PySem.W.excIn at q
  split at q
  · rename_i dd cd sl ho
    split at q
    · rename_i C' bm k0 k1 k2 k3 n k5 hm hs
      simp only [Bool.and_eq_true, beq_iff_eq, Bool.not_eq_true'] at q
      obtain ⟨⟨⟨⟨⟨rfl, rfl⟩, hdel⟩, ht⟩, hok⟩, hni⟩ := q
      obtain ⟨nm, bs, mro, ns, qn, hd, sn, sub, ab, col, del⟩ := cd
      dsimp only at hm hdel hok hni
      subst hm hdel
      have hsl : sl = #[k0, k1, k2, k3, some (.builtin "ValueError.__new__"), k5] := by
        obtain ⟨l⟩ := sl
        simp only at hs
        rw [hs]
      subst hsl
      exact ⟨bm, ns, nm, qn, bs, hd, sn, sub, ab, col, dd, k0, k1, k2, k3, k5, _, X _ _ ho, .of_isNs (PySem.W.isNs_of_in X hok), PySem.W.nsMap_none_of_in X hok hni, PySem.W.tail_of_in X ht⟩
    · cases q
  · cases q
def tRaise0 (E : XK) (C : Addr) : TS := fun _ _ H => E (.ref C) none H
theorem ps_raise0 {X : Cx} {E : XK} {x : Str} {C : Addr} {np cpos pos : Pos} (hs : Starts X E) (hc : X.calm = true) (hg : Gl X x) (hm : X.mg x = some (.ref C)) (q : ExcC X.K C) (hd : (x == ("__debug__" : Str)) = false := by decide) :
    PS X (.Raise (some (.Call (.Name x np) [] [] cpos)) none pos) (tRaise0 E C) := by
  intro pins s σ H D I h
  obtain ⟨tl, N, nm, q, bs, hdct, sn, sub, ab, col, dd, k0, k1, k2, k3, k5, mN, hC, hN, hni, T⟩ := exc_obj q I.kIn
  refine wpAny_Raise_call_subT (C := C) (nm := nm) (q := q) (N := N) (bs := bs) (bm := tl) (hdct := hdct) (sn := sn) (sub := sub) (ab := ab) (col := col) (dd := dd) (k0 := k0) (k1 := k1) (k2 := k2) (k3 := k3) (k5 := k5)
    PySem.F.excBase_ValueError (mN := mN) (T.hasType PySem.F.excBase_ValueError.hasBase) (I.ok.hd hc) rfl hni (ld_glob I hg hm ⟨rfl, ?_⟩ hd)
  refine evalArgs_empty ⟨rfl, Nat.zero_le _, hC, hN, T, fun h' e made => ?_⟩
  obtain ⟨t, ht, _, _⟩ := made.there
  exact hs pins σ H s h' e C #[] _ I made.keeps made.new ht rfl h
end L2
namespace L2
open PySem PySem.Spec PyProof.Rows
/-! ### try: one statement; except C (as n): a suite in which nothing is raised -/
/-- a statement that may raise -/
abbrev TSX := Ends → XK → St → Hp → Prop
def PSX (X : Cx) (st : Stmt) (t : TSX) : Prop :=
  ∀ (pins : List (Addr × Obj)) (s : Shared) (σ : St) (H : Hp) (D : Ends) (E : XK), Inv X pins σ H s → t D E σ H → wpAny (model X.prog X.w) X.A (exec st X.env) (SP X pins D) (FX X pins σ E) s
section
variable {X : Cx} {e : Expr} {tx : TX} {pos : Pos}
def sxDrop (tx : TX) : TSX := fun D E σ H => tx σ H (fun _ H1 => D.nx σ H1) E
theorem psx_expr (he : PX X e tx) (hs : swapsWith e none pos.line X.env = pure false := by rfl) : PSX X (.Expr e pos) (sxDrop tx) := by
  intro pins s σ H D E I h
  exact wpAny_Expr_any (thn (he pins s σ H _ E I h) fun v s1 ⟨x, H1, I1, r1, q1⟩ => ⟨σ, H1, I1, q1⟩) I.quiet hs
def sxRet (tx : TX) : TSX := fun D E σ H => tx σ H D.rt E
def sxSet (i : Nat) (tx : TX) : TSX := fun D E σ H => tx σ H (fun v H1 => D.nx (σ.set i (some v)) H1) E
theorem psx_set {i : Nat} {x : Str} {pos' : Pos} (hN : X.N.Nodup) (hi : X.N[i]? = some x) (hx : Loc X.env.scope x) (he : PX X e tx) (hs : swapsWith e (some (.Name x pos')) pos.line X.env = pure false := by rfl) (hf : X.fn x = true ∨ X.env.scope.names.lookup x = some .local := by first | exact .inl rfl | exact .inr rfl | assumption) :
    PSX X (.Assign [.Name x pos'] e pos) (sxSet i tx) := by
  intro pins s σ H D E I h
  refine wpAny_Assign_Name (thn (he pins s σ H _ E I h) fun v s1 ⟨y, H1, I1, r1, q1⟩ => ?_) hs
  exact store_ok I1 hN hi hx r1 (fun s2 I2 => ⟨_, H1, I2, q1⟩) hf
end

/-- a caught exception -/
def ExO (a C : Addr) (d : Option Addr) : HO := .ext fun h => ∃ vs sl, h.get? a = some ⟨.ref C, d, .fields vs, sl⟩
theorem exO_ok {P : Program} {w : World} {H : Hp} {h : Heap} {a C : Addr} {d : Option Addr} {vs : Array Value} {sl : Array (Option Value)} (e : h.get? a = some ⟨.ref C, d, .fields vs, sl⟩) : ObjOk P w H h a (ExO a C d) :=
  ⟨⟨vs, sl, e⟩, ⟨_, e⟩, fun _ _ ⟨vs, sl, q⟩ k => ⟨vs, sl, k _ q⟩⟩
section
variable {P : Program} {w : World} {outer : List Env} {H H' : Hp} {g B h : Heap} {x C : Addr} {d : Option Addr}
theorem Fly.fresh (F : Fly P w outer H H' g B x C d h) : g.get? x = none := by
  obtain ⟨vs, ⟨bx, sl, ex⟩, _⟩ := F.exc
  cases q : g.get? x with
  | none => rfl
  | some o =>
    obtain ⟨o', z⟩ := F.cov x o q (rec_noFrame F.funs ex rfl)
    rw [z] at bx
    cases bx
/-- it is tracked from now on -/
theorem Fly.track (F : Fly P w outer H H' g B x C d h) : Un (frs outer) [] H (upd H' x (ExO x C d)) g h ∧ HOk P w (upd H' x (ExO x C d)) h := by
  have nx := F.noX
  have gx := F.fresh
  obtain ⟨vs, ⟨_, sl, ex⟩, _⟩ := F.exc
  have ne : ∀ b o, H' b = some o → b ≠ x := fun b o e => ne_of_none e nx
  refine ⟨⟨F.un.keep, F.un.slot, fun b o e n hx => ?_, F.un.there, fun b xs e => ?_, fun b o u e => ?_, fun b ps e => ?_⟩, fun b o e => ?_⟩
  · have hb : b ≠ x := fun z => by rw [z, gx] at e; cases e
    rw [upd_ne hb]
    exact F.un.free b o e n hx
  · have q := F.un.tups b xs e
    rw [upd_ne (ne b _ q)]
    exact q
  · have q := F.un.frzs b o u e
    rw [upd_ne (ne b _ q)]
    exact q
  · obtain ⟨m, q⟩ := F.un.tbls b ps e
    exact ⟨m, by rw [upd_ne (ne b _ q)]; exact q⟩
  · by_cases hb : b = x
    · subst hb
      rw [upd_same] at e
      cases e
      exact exO_ok ex
    · rw [upd_ne hb] at e
      exact (F.hok b o e).stay (fun _ _ _ q => q) (fun c q => by rw [upd_ne (ne c _ q)]; exact q) fun c xs q => by rw [upd_ne (ne c _ q)]; exact q
end

/-- the context of an except suite: nothing is raised there -/
abbrev Cx.held (X : Cx) (x : Addr) : Cx := { X with A := X.A.mark (some (.ref x)), calm := false, xe := fun _ _ => False }
section
variable {X : Cx} {pins : List (Addr × Obj)} {σ : St} {H : Hp} {s : Shared} {x : Addr}
theorem Inv.held (I : Inv X pins σ H s) (x : Addr) : Inv (X.held x) pins σ H s :=
  ⟨⟨I.ok.mod, I.ok.kind, I.ok.glob, I.ok.blt, I.ok.above, I.ok.inj, I.ok.has, I.ok.cab, (fun z => nomatch z), I.ok.frames, I.ok.stk, I.ok.exf, I.ok.bs, I.ok.bsz, I.ok.noex, I.ok.exfs, I.ok.funs, I.ok.frf⟩,
    I.os, I.bare, I.base, I.loc, I.cell, I.free, I.freeC, I.pin, I.hok, I.len⟩
theorem Inv.unheld (ok : X.Ok) (I : Inv (X.held x) pins σ H s) : Inv X pins σ H s := ⟨ok, I.os, I.bare, I.base, I.loc, I.cell, I.free, I.freeC, I.pin, I.hok, I.len⟩
theorem SP.unheld (ok : X.Ok) {D : Ends} {f : Flow} {s' : Shared} (h : SP (X.held x) pins D f s') : SP X pins D f s' := by
  cases f with
  | next => obtain ⟨σ', H', I, q⟩ := h; exact ⟨σ', H', I.unheld ok, q⟩
  | brk => obtain ⟨σ', H', I, q⟩ := h; exact ⟨σ', H', I.unheld ok, q⟩
  | cont => obtain ⟨σ', H', I, q⟩ := h; exact ⟨σ', H', I.unheld ok, q⟩
  | ret u => obtain ⟨v, σ', H', I, r, q⟩ := h; exact ⟨v, σ', H', I.unheld ok, r, q⟩

/-- the flight ends in this frame: noted, its mark taken; the names stand as at the call -/
theorem fx_lands {E : XK} {e : Value} {s' : Shared} {R : Value → Shared → Prop} {Ee : Value → Shared → Prop} (hst : X.stack = X.env :: X.outer) (hf : X.env.frame = some X.env.locals) (h : FX X pins σ E e s')
    (k : ∀ (x C : Addr) (d : Option Addr) (H1 H' : Hp) (s1 s'' : Shared) (B : Heap), e = .ref x → Inv X pins σ H1 s1 → s''.os = s1.os → AllBare s''.gens → Fly X.prog X.w X.stack H1 H' s1.heap B x C d s''.heap → E (.ref C) d H' → R e s'') :
    wpAny (model X.prog X.w) X.A (noteFrame e X.env) (fun _ s2 => wpAny (model X.prog X.w) X.A (setFlight e none) (fun _ s3 => R e s3) Ee s2) Ee s' := by
  obtain ⟨H1, s1, I1, x, C, d, H', B, rfl, os, bare, F, q⟩ := h
  have hfr : X.A.frames = some (X.env :: X.outer) := by rw [I1.ok.frames, hst]
  obtain ⟨vs, xa, ta⟩ := F.exc
  have fu := F.funs
  rw [hst] at fu
  refine note_frame hfr hf F.stay fu xa (.inr ta) fun g1 ws _ xa1 ta1 m1 => ?_
  refine flight_none (s := { s' with heap := g1 }) m1.stay m1.funs xa1 ta1 fun g2 xa2 ta2 m2 => ?_
  have m := m1.trans m2
  rw [← hst] at m
  exact k x C d H1 H' s1 _ B rfl I1 os bare (F.moved m xa2 ta2) q
/-- the handler's mark goes once more -/
theorem fly_again {C : Addr} {d : Option Addr} {H1 H' : Hp} {s1 s' : Shared} {B : Heap} {R : Shared → Prop} {A : Around} {Ee : Value → Shared → Prop} (F : Fly X.prog X.w X.stack H1 H' s1.heap B x C d s'.heap)
    (k : ∀ h', Fly X.prog X.w X.stack H1 H' s1.heap B x C d h' → R { s' with heap := h' }) : wpAny (model X.prog X.w) A (setFlight (.ref x) none) (fun _ s3 => R s3) Ee s' := by
  obtain ⟨vs, xa, ta⟩ := F.exc
  exact flight_none F.stay F.funs xa ta fun h' xa' ta' m => k h' (F.moved m xa' ta')
end
theorem fly_ty {M : Model} {P : Program} {w : World} {outer : List Env} {H H' : Hp} {g B h : Heap} {x C : Addr} {d : Option Addr} (F : Fly P w outer H H' g B x C d h) : PySem.W.Looks M h (typeOf (.ref x)) (.ref C) := by
  obtain ⟨vs, ⟨_, sl, ex⟩, _⟩ := F.exc
  exact (PySem.W.Looks.ld ex).andThen .now

section
variable {X : Cx} {st b0 : Stmt} {suite : List Stmt} {c n : Str} {C0 : Addr} {np hpos pos : Pos} {tb : TSX} {ts : TS}
/-- try: st except C0: suite. every exception that is told is C0's or under it -/
def tTry (K : PySem.W.Frag) (C0 : Addr) (tb : TSX) (ts : TS) : TS := fun D σ H => tb D (fun c d H' => PySem.W.exmOne K c (.ref C0) = some true ∧ ∀ a C, c = .ref C → H' a = none → ts D σ (upd H' a (ExO a C d))) σ H
theorem ps_try (hst : X.stack = X.env :: X.outer) (hf : X.env.frame = some X.env.locals) (hg : Gl X c) (hm : X.mg c = some (.ref C0)) (hb : PSX X st tb) (hs : ∀ x, PSs (X.held x) (b0 :: suite) ts) (hd : (c == ("__debug__" : Str)) = false := by decide) :
    PS X (.Try [st] [.ExceptHandler (some (.Name c np)) none (b0 :: suite) hpos] [] [] pos) (tTry X.K C0 tb ts) := by
  intro pins s σ H D I h
  refine wpAny_Try_except (wpAny_execs_cons (wpAny_mono (hb pins s σ H D _ I h) (fun fl s1 q => ?_) fun e s1 q => ?_))
  · cases fl with
    | next => exact wpAny_execs_nil (wpAny_execs_nil q)
    | ret v => exact q
    | brk => exact q
    | cont => exact q
  refine fx_lands (R := fun e s3 => wpAny (model X.prog X.w) X.A (handleBy e X.env [.ExceptHandler (some (.Name c np)) none (b0 :: suite) hpos]) (SP X pins D) X.xe s3) hst hf q fun x C d H1 H' s1 s'' B ee I1 os bare F ⟨hx, q2⟩ => ?_
  subst ee
  obtain ⟨un, hok⟩ := F.track
  have I2 : Inv X pins σ (upd H' x (ExO x C d)) s'' := I1.call' os un hok bare (fun b hb => nomatch hb)
  refine wpAny_handleBy_cons (codeAny_handlers_test (ld_glob (X := X.held x) (I2.held x) hg hm ?_ hd)) (by intro q; cases q)
  refine PySem.W.Looks.here (PySem.W.exm_one I2.kIn (fly_ty F) hx) ?_
  refine codeAny_handlers_suite (fly_again (X := X) F fun h' F' => ?_)
  obtain ⟨un', hok'⟩ := F'.track
  have I3 : Inv X pins σ (upd H' x (ExO x C d)) { s'' with heap := h' } := I1.call' os un' hok' bare (fun b hb => nomatch hb)
  refine wpAny_mono (hs x pins _ σ _ D (I3.held x) (q2 x C rfl F.noX)) (fun fl s3 q3 => ?_) fun _ _ z => z.elim
  exact q3.unheld I.ok
end
end L2
namespace L2
open PySem PySem.Spec PyProof.Rows
section
variable {X : Cx} {pins : List (Addr × Obj)} {σ : St} {H : Hp} {s : Shared}
/-- behind an except suite the name is gone -/
theorem name_gone {M : Model} {A : Around} {E : Value → Shared → Prop} {i : Nat} {n : Str} {pos : Pos} {Q : Unit → Shared → Prop} (I : Inv X pins σ H s) (hN : X.N.Nodup) (hi : X.N[i]? = some n) (hk : X.env.scope.names.lookup n = some .local)
    (h : ∀ s', Inv X pins (σ.set i none) H s' → Q () s') : wpAny M A (do bindName X.env n .none; unbindBehindTheSuite X.env n pos) Q E s := by
  obtain ⟨m, hn, hl⟩ := id I.loc
  have hcls : (X.env.scope.kind == .class || (X.env.scope.kind == .module && X.env.locals != X.env.globals)) = false := by rw [I.ok.kind]; rfl
  have hiσ : i < σ.length := by rw [I.len]; exact (List.getElem?_eq_some_iff.mp hi).1
  have cne := I.cne
  have tracked : ∀ {a : Addr} {h' : Heap}, (∃ o, s.heap.get? a = some o ∧ H a = none) → Heap.SameBut a s.heap h' → HOk X.prog X.w H h' := fun {a h'} ha hs b ob e => by
    obtain ⟨_, _, hfree⟩ := ha
    refine (I.hok b ob e).stay (fun c w' hc q => (hs.2 c ?_).trans q) (fun _ q => q) fun _ _ q => q
    rintro rfl
    rcases hc with rfl | hc
    · rw [hfree] at e; cases e
    · rw [hfree] at hc; cases hc
  refine wpAny_nameGoes_keeps hk hn hcls fun h' v hn' hs => ?_
  obtain ⟨oL, _, _, hoL, _⟩ := id hn
  refine h _ ⟨I.ok, I.os, I.bare, ⟨fun b o e n hb hx => ?_, fun b o e n hb hx => ?_, I.base.free, fun b o e hx => ?_, I.base.tups, I.base.frzs, I.base.tbls⟩, ⟨_, hn', fun j y v' e1 e2 e3 => ?_⟩, fun y c e => ?_, I.free, I.freeC, fun p hp => ?_, tracked ⟨oL, hoL, I.free⟩ hs, by simpa using I.len⟩
  · exact (hs.2 b (Nat.ne_of_lt (Nat.lt_of_lt_of_le (Heap.lt_size e) I.ok.above))).trans (I.base.keep b o e n hb hx)
  · obtain ⟨sl, e1⟩ := I.base.slot b o e n hb hx
    exact ⟨sl, (hs.2 b (Nat.ne_of_lt (Nat.lt_of_lt_of_le (Heap.lt_size e) I.ok.above))).trans e1⟩
  · obtain ⟨o', e1⟩ := I.base.there b o e hx
    exact ⟨o', (hs.2 b (Nat.ne_of_lt (Nat.lt_of_lt_of_le (Heap.lt_size e) I.ok.above))).trans e1⟩
  · by_cases hj : j = i
    · subst hj
      rw [List.getElem?_set_self hiσ] at e2
      cases e2
    · rw [List.getElem?_set_ne (Ne.symm hj)] at e2
      obtain ⟨u', r', q⟩ := hl j y v' e1 e2 e3
      refine ⟨u', r', ?_⟩
      rcases q with ⟨k, e⟩ | ⟨k, c, e, z⟩
      · refine .inl ⟨k, ?_⟩
        have : y ≠ n := fun e => hj (nodup_ix hN e1 (e ▸ hi))
        simp [this, e]
      · exact .inr ⟨k, c, e, z.sameBut hs (cne y c e)⟩
  · obtain ⟨w', z⟩ := I.cell y c e
    exact ⟨w', z.sameBut hs (cne y c e)⟩
  · obtain ⟨e, n, ne, nf, d⟩ := I.pin p hp
    exact ⟨(hs.2 p.1 ne).trans e, n, ne, nf, d⟩
end
section
variable {X : Cx} {st b0 : Stmt} {suite : List Stmt} {c n : Str} {C0 : Addr} {np hpos pos : Pos} {tb : TSX} {ts : TS} {i : Nat}
/-- the name in slot i is forgotten behind the suite -/
def Ends.forget (D : Ends) (i : Nat) : Ends := { nx := fun σ H => D.nx (σ.set i none) H, rt := D.rt, bk := fun σ H => D.bk (σ.set i none) H, ct := fun σ H => D.ct (σ.set i none) H }
/-- try: st except C0 as n: suite -/
def tTryAs (K : PySem.W.Frag) (C0 : Addr) (i : Nat) (tb : TSX) (ts : TS) : TS := fun D σ H => tb D (fun c d H' => PySem.W.exmOne K c (.ref C0) = some true ∧ ∀ a C, c = .ref C → H' a = none → ts (D.forget i) (σ.set i (some (.ref a))) (upd H' a (ExO a C d))) σ H
theorem ps_tryAs (hst : X.stack = X.env :: X.outer) (hf : X.env.frame = some X.env.locals) (hN : X.N.Nodup) (hi : X.N[i]? = some n) (hk : X.env.scope.names.lookup n = some .local) (hg : Gl X c) (hm : X.mg c = some (.ref C0)) (hb : PSX X st tb) (hs : ∀ x, PSs (X.held x) (b0 :: suite) ts) (hd : (c == ("__debug__" : Str)) = false := by decide) :
    PS X (.Try [st] [.ExceptHandler (some (.Name c np)) (some n) (b0 :: suite) hpos] [] [] pos) (tTryAs X.K C0 i tb ts) := by
  intro pins s σ H D I h
  refine wpAny_Try_except (wpAny_execs_cons (wpAny_mono (hb pins s σ H D _ I h) (fun fl s1 q => ?_) fun e s1 q => ?_))
  · cases fl with
    | next => exact wpAny_execs_nil (wpAny_execs_nil q)
    | ret v => exact q
    | brk => exact q
    | cont => exact q
  refine fx_lands (R := fun e s3 => wpAny (model X.prog X.w) X.A (handleBy e X.env [.ExceptHandler (some (.Name c np)) (some n) (b0 :: suite) hpos]) (SP X pins D) X.xe s3) hst hf q fun x C d H1 H' s1 s'' B ee I1 os bare F ⟨hx, q2⟩ => ?_
  subst ee
  obtain ⟨un, hok⟩ := F.track
  have I2 : Inv X pins σ (upd H' x (ExO x C d)) s'' := I1.call' os un hok bare (fun b hb => nomatch hb)
  refine wpAny_handleBy_cons (codeAny_handlers_test (ld_glob (X := X.held x) (I2.held x) hg hm ?_ hd)) (by intro q; cases q)
  refine PySem.W.Looks.here (PySem.W.exm_one I2.kIn (fly_ty F) hx) ?_
  refine codeAny_handlers_suite_as (fly_again (X := X) F fun h' F' => ?_)
  obtain ⟨un', hok'⟩ := F'.track
  have I3 : Inv X pins σ (upd H' x (ExO x C d)) { s'' with heap := h' } := I1.call' os un' hok' bare (fun b hb => nomatch hb)
  refine store_ok (X := X.held x) (v := .ref x) (I3.held x) hN hi (Or.inl hk) rfl (fun s4 I4 => ?_) (.inr hk)
  refine wpAny_mono (hs x pins _ _ _ (D.forget i) I4 (q2 x C rfl F.noX)) (fun fl s5 q5 => ?_) fun _ _ z => z.elim
  have q6 := SP.unheld I.ok q5
  cases fl with
  | next =>
    obtain ⟨σ', H2, I6, q7⟩ := q6
    exact name_gone I6 hN hi hk fun s' I' => ⟨_, _, I', q7⟩
  | brk =>
    obtain ⟨σ', H2, I6, q7⟩ := q6
    exact name_gone I6 hN hi hk fun s' I' => ⟨_, _, I', q7⟩
  | cont =>
    obtain ⟨σ', H2, I6, q7⟩ := q6
    exact name_gone I6 hN hi hk fun s' I' => ⟨_, _, I', q7⟩
  | ret u =>
    obtain ⟨v, σ', H2, I6, r6, q7⟩ := q6
    exact name_gone I6 hN hi hk fun s' I' => ⟨v, _, _, I', r6, q7⟩
end
end L2
namespace L2
open PySem PySem.Spec PyProof.Rows PySem.W
/-! ### attributes of an exception of an own class: by BaseException.__getattribute__ -/
/-- what the written part must say of the class -/
structure XCls (K : PySem.W.Frag) (C : Addr) : Prop where
  ga : findIn K (.ref C) "__getattribute__" = some (some (.builtin "BaseException.__getattribute__"))
  gh : findIn K (.ref C) "__getattr__" = some none
  bx : subIn K (.ref C) (.type "BaseException") = some true
  hd : hasDictIn K C = true
  ca : findIn K (.ref C) "__class__" = some (some (.builtin "object.__class__"))
  cg : specialIn K (.builtin "object.__class__") "__get__" = some (some (.builtin "getset_descriptor.__get__"))
  ct : takesIn K (.builtin "object.__class__") = some true
  ob : mroIn K C (.type "object") = some true
section
variable {prog : Program} {w : World} {A : Around} {E : Value → Shared → Prop} {s : Shared} {K : PySem.W.Frag} {x C : Addr} {ox : Obj} {od : Option Obj} {name : Str} {tk : Tok}
theorem xc_check {M : Model} {nameV : Value} {Q : Unit → Shared → Prop} (c : XCls K C) (X : K.In s.heap) (I : InstAt s.heap x ox C od) (hq : Q () s) : wpAny M A (checkBuiltinCall "BaseException.__getattribute__" ⟨[.ref x, nameV], []⟩) Q E s := by
  obtain ⟨h, g, d, t, os⟩ := s
  have hk : builtinKind "BaseException.__getattribute__" = some .slot := by decide +kernel
  have hsplit : splitId "BaseException.__getattribute__" = some ("BaseException", "__getattribute__") := by decide +kernel
  have ha := F.args_bexc_ga (.ref x) nameV
  have L0 := I.type (M := M)
  have L1 := looks_subIn (M := M) X c.bx
  simp only [checkBuiltinCall, hk, hsplit]
  refine wpAny_bind ?_
  unfold isInstance
  refine wpAny_bind (L0.at (L1.at ?_))
  repeat (first | wp_step)
  exact hq
theorem xc_by {fill expr : Bool} {Q : Value → Shared → Prop} (c : XCls K C) (X : K.In s.heap) (I : InstAt s.heap x ox C od)
    (h : codeAny (model prog w) A (.call (.builtin "BaseException.__getattribute__") ⟨[.ref x, .str name tk], []⟩) (fun r s' => match r with | .ok (.ret v) => wpAny (model prog w) A (handedOut v) Q E s' | _ => False) s) :
    wpAny (model prog w) A (getAttrBy (.ref x) (.str name tk) fill expr) Q E s := by
  obtain ⟨hh, g, d, t, os⟩ := s
  have L0 := I.type (M := model prog w)
  have L1 := looks_findIn (M := model prog w) X c.ga
  have L2 := looks_findIn (M := model prog w) X c.gh
  have f3 := PySem.F.attrBase_ValueError.ga.bind (.ref x)
  have hx0 : (expr && onTheHeap (Value.builtin "BaseException.__getattribute__")) = false := by cases expr <;> rfl
  have hx2 : (Value.builtin "BaseException.__getattribute__" == Value.builtin "object.__getattribute__") = false := by decide +kernel
  have hx1 : (onTheHeap (Value.ref C) && Value.builtin "BaseException.__getattribute__" == Value.builtin "object.__getattribute__") = false := by rw [hx2]; rfl
  unfold getAttrBy
  refine wpAny_holding (wpAny_bind (L0.at (wpAny_bind (L1.at ?_))))
  simp only [hx1]
  rw [if_neg (by decide)]
  unfold getAttrByItsOwn hookBefore
  rw [if_pos (show onTheHeap (Value.ref C) = true from rfl)]
  refine wpAny_bind (L2.at ?_)
  refine wpAny_bind (wpAny_attempt (wpAny_holding ?_))
  unfold callGetattribute
  rw [hx0, if_neg (by decide)]
  unfold boundAndCalled
  rw [f3]
  refine wpAny_bind (wpAny_pure ?_)
  refine wpAny_call (codeAny_mono h fun r s' z => ?_)
  cases r with
  | error e => exact z.elim
  | ok fl =>
    cases fl with
    | ret v => exact z
    | next => exact z.elim
    | brk => exact z.elim
    | cont => exact z.elim
theorem xc_call {R : Result → Shared → Prop} (c : XCls K C) (X : K.In s.heap) (I : InstAt s.heap x ox C od)
    (h : wpAny (model prog w) A.in1 (Builtin.«object.__getattribute__» ⟨[.ref x, .str name tk], []⟩) (fun fin s' => match fin with | .done (.ret v) => R (.ok (.ret v)) s' | _ => False) (fun _ _ => False) s) :
    codeAny (model prog w) A (.call (.builtin "BaseException.__getattribute__") ⟨[.ref x, .str name tk], []⟩) R s := by
  refine codeAny_call_builtin PySem.F.attrBase_ValueError.ga.plain F.entry_bexc_ga (xc_check c X I (wpAny_mono h (fun fin s' z => ?_) fun _ _ z => z.elim))
  rcases fin with (_ | _ | _ | _) | _ <;> first | exact z | exact z.elim
theorem xc_bind {g a : Value} {P : Value → Shared → Prop} (X : K.In s.heap) (I : InstAt s.heap x ox C od) (hf : findObj K C od name = some (.bind g a)) (h : wpAny (model prog w) A (call g [a, .ref x, .ref C]) P E s) :
    wpAny (model prog w) A (Builtin.«object.__getattribute__» ⟨[.ref x, .str name tk], []⟩) (fun fin s' => match fin with | .done (.ret v) => P v s' | _ => False) E s := by
  obtain ⟨hh, gg, d, t, os⟩ := s
  have L0 := I.type (M := model prog w)
  have L1 := looks_find (M := model prog w) X I hf
  refine wpAny_bind (wpAny_pure (wpAny_bind (wpAny_pure (wpAny_bind (L0.at (wpAny_bind (L1.at ?_)))))))
  show wpAny _ _ (holding [a] (call g [a, .ref x, .ref C]) >>= ret) _ _ _
  exact wpAny_bind (wpAny_holding (wpAny_mono h (fun v s' z => wpAny_pure z) fun _ _ z => z))
theorem xc_value {v : Value} {P : Value → Shared → Prop} (X : K.In s.heap) (I : InstAt s.heap x ox C od) (hf : findObj K C od name = some (.value v)) (h : P v s) :
    wpAny (model prog w) A (Builtin.«object.__getattribute__» ⟨[.ref x, .str name tk], []⟩) (fun fin s' => match fin with | .done (.ret v) => P v s' | _ => False) E s := by
  obtain ⟨hh, gg, d, t, os⟩ := s
  have L0 := I.type (M := model prog w)
  have L1 := looks_find (M := model prog w) X I hf
  refine wpAny_bind (wpAny_pure (wpAny_bind (wpAny_pure (wpAny_bind (L0.at (wpAny_bind (L1.at ?_)))))))
  exact wpAny_pure h
/-- e.__class__, as isinstance asks it -/
theorem xc_class {Q : Option Value → Shared → Prop} (c : XCls K C) (X : K.In s.heap) (I : InstAt s.heap x ox C od) (h : Q (some (.ref C)) { s with toks := s.toks + 1 }) : wpAny (model prog w) A (getAttr? (.ref x) "__class__") Q E s := by
  have hf : findObj K C od "__class__" = some (.bind (.builtin "getset_descriptor.__get__") (.builtin "object.__class__")) := by
    obtain ⟨cd, hc, _⟩ := any_some c.hd
    unfold findObj
    rw [hc, c.ca]
    simp only [Option.bind_some, c.cg, c.ct]
  unfold getAttr? getAttrBy?
  refine wpAny_bind (wpAny_mkText (wpAny_bind (wpAny_attempt ?_)))
  refine xc_by (s := { s with toks := s.toks + 1 }) c X I (xc_call (s := { s with toks := s.toks + 1 }) c X I (xc_bind (s := { s with toks := s.toks + 1 }) X I hf (P := fun v s' => wpAny (model prog w) A (handedOut v) _ _ s') ?_))
  exact wpAny_call (class_get (s := { s with toks := s.toks + 1 }) (ox := ox) (od := od) X I c.ob (handed_on rfl (wpAny_pure h)))
/-- e.f, a field of its own dict -/
theorem xc_field {expr : Bool} {v : Value} {Q : Value → Shared → Prop} (c : XCls K C) (X : K.In s.heap) (I : InstAt s.heap x ox C od) (hf : findObj K C od name = some (.value v)) (hv : handedIn v = true) (h : Q v { s with toks := s.toks + 1 }) :
    wpAny (model prog w) A (getAttr (.ref x) name expr) Q E s := by
  unfold getAttr
  refine wpAny_bind (wpAny_mkText ?_)
  refine xc_by (s := { s with toks := s.toks + 1 }) c X I (xc_call (s := { s with toks := s.toks + 1 }) c X I (xc_value (s := { s with toks := s.toks + 1 }) X I hf (P := fun v s' => wpAny (model prog w) A (handedOut v) _ _ s') ?_))
  exact handed_on hv h
theorem kitx_exc (c : XCls K C) : KitX K (.ref x) (.ref C) (fun h => ∃ ox od, InstAt h x ox C od) where
  ty := fun _ _ _ ⟨_, _, I⟩ => I.type
  it := fun _ _ X _ => by
    obtain ⟨cdD, hcD, _⟩ := any_some c.hd
    unfold clsIn at hcD
    split at hcD
    · rename_i c' d' cd' sl' ho
      intro A' Q' E' s' k q
      unfold isType loadHead
      exact wpAny_bind (wpAny_loadPart (k _ _ (X _ _ ho)) (wpAny_pure q))
    · cases hcD
  ne := fun h tp dd its n sl X htp => by
    obtain ⟨cdD, hcD, _⟩ := any_some c.hd
    refine Bool.eq_false_iff.mpr fun q => ?_
    have e : C = tp := Value.ref.inj (beq_iff_eq.mp q)
    subst e
    unfold clsIn at hcD
    split at hcD
    · rename_i c' d' cd' sl' ho
      have z := (X _ _ ho).symm.trans htp
      cases z
    · cases hcD
  ca := fun X ⟨_, _, I⟩ k => xc_class c X I k
end
end L2
namespace L2
open PySem PySem.Spec PyProof.Rows
/-! ### isinstance of a caught exception -/
def XDict (H : Hp) (d : Option Addr) : Prop := d = none ∨ ∃ dx fs, d = some dx ∧ H dx = some (.xd fs)
section
variable {X : Cx} {pins : List (Addr × Obj)} {σ : St} {H : Hp} {s : Shared}
theorem exc_inst {a C : Addr} {d : Option Addr} (I : Inv X pins σ H s) (h : H a = some (ExO a C d)) (hd : XDict H d) : ∃ ox od, PySem.W.InstAt s.heap a ox C od := by
  obtain ⟨⟨vs, sl, e⟩, _, _⟩ := (show ObjOk X.prog X.w H s.heap a (ExO a C d) from I.hok a _ h)
  rcases hd with rfl | ⟨dx, fs, rfl, hx⟩
  · exact ⟨_, none, e, rfl, rfl, trivial⟩
  · obtain ⟨o, q⟩ := (I.hok dx _ hx).there
    exact ⟨_, some o, e, rfl, rfl, q⟩
def rIsX (K : PySem.W.Frag) : List V → Hp → VK → Prop := fun xs H Q => ∃ (a C : Addr) (d : Option Addr) (c : V) (u : Value) (b : Bool), xs = [.ref a, c] ∧ H a = some (ExO a C d) ∧ XDict H d ∧ XCls K C ∧ (∀ u', RelV c u' → u' = u) ∧ PySem.W.kitOne K (.ref C) u = some b ∧ Q (.bl b) H
theorem call_isX : CallR X (.builtin "isinstance") (rIsX X.K) := by
  intro pins s σ H xs us Q I r h
  obtain ⟨a, C, d, c, u, b, rfl, ha, hd, xc, hu, e, q⟩ := h
  obtain ⟨u1, u2, rfl, r1, r2⟩ := vals2 r
  have e2 := hu u2 r2
  subst e2
  cases (show u1 = Value.ref a from r1)
  exact PySem.W.kia_one (kitx_exc (x := a) xc) I.kIn (exc_inst I ha hd) e (fun z => nomatch z) fun tk => ⟨.bl b, H, I.tok _, rfl, q⟩
end
/-! ### small words -/
theorem tTrue_ite {σ : St} {H : Hp} {A B : Hp → Prop} (h : A H) : tTrue σ H (fun b H4 => if b = true then A H4 else B H4) := iteT (A := A H) (B := B H) h
theorem ix_listC {X : Cx} {K : PySem.W.Frag} (hK : X.K = K) : IxR X (rIxL K) := hK ▸ ix_list
theorem ix_tupC {X : Cx} {K : PySem.W.Frag} (hK : X.K = K) : IxR X (rIxT K) := hK ▸ ix_tup
end L2
namespace L2
open PySem PySem.Spec PyProof.Rows
/-! ### argument lists without a star, quickly -/
def notStar : Expr → Bool
  | .Starred .. => false
  | _ => true
section
variable {X : Cx} {e : Expr} {es : List Expr} {te : TE} {t : TA} {x : Str} {p pos : Pos} {id T : String} {r : List V → Hp → VK → Prop} {k j : Nat} {ps : List Str} {sp : Sp}
end
end L2
namespace L2
open PySem PySem.Spec PyProof.Rows
theorem FunAt.calX {P : Program} {w : World} {K : PySem.W.Frag} {h base : Heap} {mg : Str → Option Value} {x : Str} {st : Stmt} {ps : List Str} {k : Nat} {sp : Sp} (F : FunAt K x st) (X : K.In h) (G : h.Ns mainGlobals mg)
    (hb : ∀ (kV doc pm : Value) (an : Option Addr) (cdv ct : Value) (us : List Value), us.length = ps.length → bindArgs (PySem.W.fnOf x x (defArgs st) (defBody st) (defScope st) .none kV doc pm an cdv ct) ⟨us, []⟩ = pure (ps.zip us))
    (ok : ∀ (f : Addr) (fd : FuncData), Fun K x x st f fd → FnOk P w K mg base (CXE P w) k f fd ps sp) : CalX P w K mg base k x ps sp := by
  obtain ⟨f, fd, F1, a⟩ := F.ex
  exact ⟨f, fd, ok f fd F1, F1.binds hb, F1.kp, PySem.W.mg_of X G a⟩
end L2
namespace L2
open PySem PySem.Spec PyProof.Rows
/-! ### == in depth -/
inductive EqH (K : PySem.W.Frag) (H : Hp) : Nat → V → V → Bool → Prop
  | flat {n : Nat} {x y : V} (fx : flatV x = true) (fy : flatV y = true) : EqH K H n x y (eqV x y)
  | same {n : Nat} {a : Addr} : EqH K H n (.ref a) (.ref a) true
  | lst {n : Nat} {a b : Addr} {xs ys : List V} (e : Nat → Bool) (hne : a ≠ b) (ha : SqL K H a xs) (hb : SqL K H b ys) (hl : xs.length = ys.length) (he : ∀ (i : Nat) x y, xs[i]? = some x → ys[i]? = some y → EqH K H n x y (e i)) : EqH K H (n + 1) (.ref a) (.ref b) ((List.range xs.length).all e)
  | len {n : Nat} {a b : Addr} {xs ys : List V} (hne : a ≠ b) (ha : SqL K H a xs) (hb : SqL K H b ys) (hl : ¬ xs.length = ys.length) : EqH K H (n + 1) (.ref a) (.ref b) false
  | tup {n : Nat} {a b : Addr} {xs ys : List V} (e : Nat → Bool) (hne : a ≠ b) (ha : SqT K H a xs) (hb : SqT K H b ys) (he : ∀ (i : Nat) x y, xs[i]? = some x → ys[i]? = some y → EqH K H n x y (e i)) : EqH K H (n + 1) (.ref a) (.ref b) ((List.range (min xs.length ys.length)).all e && xs.length == ys.length)
theorem IsTup.tup {h : Heap} {a : Addr} {its : Array Value} (t : IsTup h a its) : h.IsTuple a its := by
  obtain ⟨o, h1, h2, h3⟩ := t
  exact ⟨o, h1, h2, h3⟩
section
variable {X : Cx} {pins : List (Addr × Obj)} {σ : St} {H : Hp} {s : Shared}
/-- two lists or tuples -/
def rEqH (K : PySem.W.Frag) (neg : Bool) : R2 := fun x y H Q => ∃ (n : Nat) (b : Bool) (p q : Addr), x = .ref p ∧ y = .ref q ∧ p ≠ q ∧ n ≤ 32 ∧ EqH K H n x y b ∧ Q (.bl (if neg then !b else b)) H
end
end L2
namespace L2
open PySem PySem.Spec PyProof.Rows
/-! ### texts as lists of codes -/
def cutN {α : Type} (l : List α) (lo hi : Option Int) : List α := (l.drop (HT.sIx l.length 0 lo)).take (HT.sIx l.length l.length hi - HT.sIx l.length 0 lo)
theorem clip_str (v : Option Int) (n d : Nat) : (match v with | none => ((d : Nat) : Int) | some i => max 0 (min (if i < 0 then i + (n : Int) else i) (n : Int))) = ((HT.sIx n d v : Nat) : Int) := by
  cases v with
  | none => rfl
  | some i =>
    show max 0 (min (if i < 0 then i + (n : Int) else i) (n : Int)) = (((if i < 0 then (i + (n : Int)).toNat else min i.toNat n) : Nat) : Int)
    by_cases h : i < 0
    · simp only [if_pos h]; omega
    · simp only [if_neg h]; omega
theorem strIdx (lo hi : Option Int) (n : Nat) : Builtin.Str.strSliceIndices lo hi 1 n = sliceRange ((HT.sIx n 0 lo : Nat) : Int) ((HT.sIx n n hi : Nat) : Int) 1 := by
  unfold Builtin.Str.strSliceIndices
  simp only [show (1 : Int) > 0 by decide, if_true]
  rw [← clip_str lo n 0, ← clip_str hi n n]
  rfl
theorem slice_txt (x : Str) (lo hi : Option Int) : (Txt.slice x lo hi).cps.toList = cutN x.cps.toList lo hi := by
  have hn : x.cps.toList.length = x.length := by simp [Str.length]
  unfold Txt.slice cutN
  rw [strIdx, sliceRange_one, hn]
  generalize ha : HT.sIx x.length 0 lo = a
  generalize hb : HT.sIx x.length x.length hi = b
  have hb' : b ≤ x.length := by rw [← hb]; exact HT.sIx_le _ _ (Nat.le_refl _) _
  split
  · rename_i h
    simp only [List.length_map, List.length_range, Bool.and_eq_true, beq_iff_eq] at h
    by_cases hz : x.length = 0
    · have e : x.cps.toList = [] := List.length_eq_zero_iff.mp (by omega)
      rw [e]
      simp
    · have e1 : a = 0 := by omega
      have e2 : b = x.length := by omega
      subst e1 e2
      rw [List.drop_zero, Nat.sub_zero, List.take_of_length_le (by omega)]
  · rw [pick_run]
theorem tx_len (x : Str) : x.cps.toList.length = x.length := by simp [Str.length]
theorem slice_len (x : Str) (k : Nat) : (Txt.slice x none (some (k : Int))).length ≤ k := by
  rw [← tx_len, slice_txt]
  unfold cutN
  rw [HT.sIx_nat]
  simp only [HT.sIx_none, List.drop_zero, List.length_take]
  omega
section
variable {X : Cx}
/-- a text's slice -/
def rSlS : V → Option Int → Option Int → Hp → VK → Prop := fun x lo hi H Q => ∃ z, x = .str z ∧ z.length ≤ sizeLine ∧ Q (.str (Txt.slice z lo hi)) H
theorem part_of {v : Value} {o : Option Int} (p : IsPart v o) : ∃ l : Option (Int × Tok), v = partValue l ∧ l.map (·.1) = o := by
  cases p with
  | none => exact ⟨none, rfl, rfl⟩
  | int i t => exact ⟨some (i, t), rfl, rfl⟩
theorem sl_str : SlR X rSlS := by
  intro pins s σ H x v vl vu lo hi sl Q I rx hs pl pu h
  obtain ⟨z, rfl, hz, q⟩ := h
  obtain ⟨t, rfl⟩ := rx
  obtain ⟨l, e1, e2⟩ := part_of pl
  obtain ⟨u, e3, e4⟩ := part_of pu
  refine ⟨"str", _, PySem.F.slot_str_getitem.lookup, typeIs_str _ _ _, ?_⟩
  obtain ⟨o, h1, h2, h3⟩ := hs
  subst e1 e3 e2 e4
  refine wpAny_getItem_str_slice (l := l) (u := u) (st := none) ⟨o, h1, h2, h3⟩ rfl ?_
  refine post_val_or_str ⟨Nat.le_trans (Txt.slice_le z _ _) hz, fun t' k => ?_⟩
  exact ⟨.str _, H, I.tok _, ⟨_, rfl⟩, q⟩
end
end L2
namespace L2
open PySem PySem.Spec PyProof.Rows
/-! ### the next item of a tuple's iterator; enumerate(tuple) -/
section
variable {prog : Program} {w : World} {A : Around} {E : Value → Shared → Prop} {s : Shared}
theorem nxT_item {it t : Addr} {i : Nat} {its : Array Value} {x : Value} {Q : Value → Shared → Prop} (a : s.heap.IsTupleIter it t i) (b : s.heap.IsTuple t its) (c : its[i]? = some x) (d : ∀ h', h'.IsTupleIter it t (i + 1) → Heap.SameBut it s.heap h' → Q x { s with heap := h' }) : wpAny (model prog w) A (Builtin.SmallTypes.nextOf (.ref it)) Q E s := by
  obtain ⟨u, e1, e2, e3⟩ := id a
  obtain ⟨v, f1, _, m, f3⟩ := b
  unfold Builtin.SmallTypes.nextOf
  refine wpAny_bind (wpAny_callSpecial?_slot (name := Str.ofString "__next__") a.typeIs F.slot_tuple_iterator_next (wpAny_call_entry F.slot_tuple_iterator_next a.typeIs F.entry_tuple_iterator_next ?_ (F.args_tuple_iterator_next_1 _)))
  show wpAny _ _ (field (.ref it) 0 >>= _) _ _ s; refine wpAny_bind (wpAny_field e1 e3 (x := .ref t) rfl ?_)
  show wpAny _ _ (if (Value.ref t == Value.none) = true then _ else _) _ _ s; rw [if_neg (show ¬ ((Value.ref t == Value.none) = true) from Bool.false_ne_true)]
  show wpAny _ _ (field (.ref it) 1 >>= _) _ _ s; refine wpAny_bind (wpAny_field e1 e3 (x := .int i 0) rfl ?_)
  show wpAny _ _ (seqItems? (.ref t) >>= _) _ _ s; refine wpAny_bind (wpAny_seqItems f1 f3 ?_)
  simp only [Int.toNat_natCast, c]
  refine wpAny_bind (wpAny_setField e1 e3 (by simp) (wpAny_pure ⟨x, rfl, wpAny_pure (d _ ⟨_, Heap.get?_update_self _ e1 (Obj.isFreed_of_fields (Obj.data_mapFields e3 _)), (Obj.cls_mapFields ..).trans e2, ?_⟩ (Heap.SameBut.update ..))⟩))
  rw [Obj.data_mapFields e3]; simp [rawInt]
theorem nxT_end {it t : Addr} {i : Nat} {its : Array Value} {Q : Value → Shared → Prop} (hh : A.handled = none) (a : s.heap.IsTupleIter it t i) (b : s.heap.IsTuple t its) (c : its[i]? = none)
    (d : ∀ h' e, Heap.ExtBut it s.heap h' → (∃ o, h'.get? e = some o ∧ o.cls = .type "StopIteration") → E (.ref e) { s with heap := h' }) : wpAny (model prog w) A (Builtin.SmallTypes.nextOf (.ref it)) Q E s := by
  obtain ⟨u, e1, e2, e3⟩ := id a
  obtain ⟨v, f1, _, m, f3⟩ := b
  unfold Builtin.SmallTypes.nextOf
  refine wpAny_bind (wpAny_callSpecial?_slot (name := Str.ofString "__next__") a.typeIs F.slot_tuple_iterator_next (wpAny_call_entry F.slot_tuple_iterator_next a.typeIs F.entry_tuple_iterator_next ?_ (F.args_tuple_iterator_next_1 _)))
  show wpAny _ _ (field (.ref it) 0 >>= _) _ _ s; refine wpAny_bind (wpAny_field e1 e3 (x := .ref t) rfl ?_)
  show wpAny _ _ (if (Value.ref t == Value.none) = true then _ else _) _ _ s; rw [if_neg (show ¬ ((Value.ref t == Value.none) = true) from Bool.false_ne_true)]
  show wpAny _ _ (field (.ref it) 1 >>= _) _ _ s; refine wpAny_bind (wpAny_field e1 e3 (x := .int i 0) rfl ?_)
  show wpAny _ _ (seqItems? (.ref t) >>= _) _ _ s; refine wpAny_bind (wpAny_seqItems f1 f3 ?_)
  simp only [Int.toNat_natCast, c]
  refine wpAny_bind (wpAny_rule (wpAny_bind (wpAny_setField e1 e3 (by simp) ?_)))
  show wpAny _ _ (newExc (.type "StopIteration") [] >>= _) _ _ _; refine wpAny_bind ?_
  simp only [newExc, newTuple]; refine wpAny_bind (wpAny_newObj_type ?_ (by size_fits))
  refine wpAny_bind (m := firstArgMember _ _) (wpAny_of_eq (a := Value.none) (by first | rfl | (simp only [firstArgMember]; rfl)) (wpAny_newObj_type ?_ (by size_fits)))
  simp only [raiseNew]; refine wpAny_bind (wpAny_handled ?_)
  rw [show A.in1.handled = none from hh]
  exact wpAny_bind (wpAny_pure (wpAny_throw (d _ _ (((Heap.SameBut.update ..).extBut.push _).push _) ⟨_, Heap.get?_push_size _ rfl, rfl⟩)))
end
def IteT (K : PySem.W.Frag) (a : Addr) : It :=
  ⟨fun i H => ∃ xs x, SqT K H a xs ∧ xs[i]? = some x, fun i H v H' => ∃ T x, H T = none ∧ H' = upd H T (.tup [.int (i : Int), x]) ∧ v = .ref T ∧ ∀ xs, SqT K H a xs → xs[i]? = some x, fun i H => ∃ xs, SqT K H a xs ∧ xs.length = i⟩
section
variable {X : Cx}
def iEnumT (K : PySem.W.Frag) (ta : TA) : TI := fun σ H R => ta σ H fun vs H1 => ∃ a, vs = [.ref a] ∧ (∃ xs, SqT K H1 a xs) ∧ R (IteT K a) H1
end
end L2
namespace L2
open PySem PySem.Spec PyProof.Rows
/-! ### the signs of a text, one after another -/
def sgn (c : Nat) : V := .str ⟨#[c]⟩
def ItS (z : Str) : It := ⟨fun i _ => i < z.cps.size, fun i H x H' => H' = H ∧ ∃ c, z.cps[i]? = some c ∧ x = sgn c, fun i _ => i = z.cps.size⟩
theorem nxS_item {prog : Program} {w : World} {A : Around} {E : Value → Shared → Prop} {s : Shared} {it : Addr} {z : Str} {t : Tok} {i c : Nat} {Q : Option Value → Shared → Prop} (a : s.heap.IsStrIter it (strIterType z) z t i) (b : z.cps[i]? = some c)
    (k : ∀ h', h'.IsStrIter it (strIterType z) z t (i + 1) → Heap.SameBut it s.heap h' → Q (some (.str ⟨#[c]⟩ s.toks)) { s with heap := h', toks := s.toks + 1 }) : wpAny (model prog w) A (pyNext (.ref it)) Q E s := by
  unfold strIterType at a k
  split at a
  · rename_i e
    rw [if_pos e] at k
    exact wpAny_pyNext_ascii_item a b k
  · rename_i e
    rw [if_neg e] at k
    exact wpAny_pyNext_wide_item a b k
theorem nxS_end {prog : Program} {w : World} {A : Around} {E : Value → Shared → Prop} {s : Shared} {it : Addr} {z : Str} {t : Tok} {i : Nat} {Q : Option Value → Shared → Prop} (hh : A.handled = none) (a : s.heap.IsStrIter it (strIterType z) z t i) (b : z.cps[i]? = none)
    (k : ∀ h', Heap.ExtBut it s.heap h' → Q none { s with heap := h' }) : wpAny (model prog w) A (pyNext (.ref it)) Q E s := by
  unfold strIterType at a
  split at a
  · exact wpAny_pyNext_ascii_end hh a b k
  · exact wpAny_pyNext_wide_end hh a b k
theorem ty_no (z : Str) : ["enumerate", "zip", "dict_itemiterator", "dict_reverseitemiterator", "odict_iterator", "itertools.zip_longest", "itertools.pairwise"].contains (strIterType z) = false := by
  unfold strIterType
  split <;> decide
theorem turn_str {P : Program} {w : World} {K : PySem.W.Frag} {tg : Expr} (z : Str) (t : Tok) (it : Addr) : Turn P w K tg (ItS z) [it] it (fun i h => h.IsStrIter it (strIterType z) z t i) where
  mem := by simp
  obj := fun i h st b hb => by
    have e : b = it := by simpa using hb
    subst e
    obtain ⟨o, e, c, d⟩ := st
    exact ⟨o, e, fun v q => by rw [d] at q; cases q⟩
  keep := fun i h h' st k => st.elim fun o r => ⟨o, k it (by simp) o r.1, r.2⟩
  item := by
    intro X hP hw hK hc i pins s σ H E I hf st hg
    subst hP hw hK
    have hg' : i < z.cps.size := hg
    have hx : z.cps[i]? = some z.cps[i] := Array.getElem?_eq_getElem hg'
    obtain ⟨f0, f1, f2, f3, f4, f5⟩ := hf it (by simp)
    refine nxS_item st hx fun h' st' sb => ?_
    have I1 : Inv X pins σ H { s with heap := h', toks := s.toks + 1 } := I.turned (t' := s.toks + 1) (fun b o hb e => (sb.2 b hb).trans e) f0 f1 f3 f4 f5
    obtain ⟨o, e, c, d⟩ := id st'
    exact ⟨_, rfl, go_of (s := { s with heap := h', toks := s.toks + 1 }) e c d (ty_no z) ⟨sgn z.cps[i], H, I1, ⟨_, rfl⟩, ⟨rfl, _, hx, rfl⟩, st', fun b hb => (hf b hb).1⟩⟩
  done := by
    intro X hP hw hK hc i pins s σ H E I hf st hg
    subst hP hw hK
    obtain ⟨f0, f1, f2, f3, f4, f5⟩ := hf it (by simp)
    have hx : z.cps[i]? = none := by simp [show i = z.cps.size from hg]
    exact nxS_end (I.ok.hd hc) st hx fun h' eb => ⟨rfl, I.turned (t' := s.toks) (fun b o hb e => eb b o hb e) f0 f1 f3 f4 f5⟩
  self := fun _ _ _ _ _ st h => by
    unfold strIterType at st
    split at st
    · exact wpAny_pyIter_striter_ascii st h
    · exact wpAny_pyIter_striter_wide st h
section
variable {X : Cx} {tg : Expr}
def iStr (tl : TE) : TI := fun σ H R => tl σ H fun x H1 => ∃ z, x = .str z ∧ R (ItS z) H1
theorem pi_str {l : Expr} {tl : TE} (hl : PE X l tl) : PI X tg l (iStr tl) := by
  intro pins s σ H R I h
  refine thn (hl pins s σ H _ I h) fun v s1 ⟨x, H1, I1, r1, q1⟩ => ?_
  obtain ⟨z, rfl, q⟩ := q1
  obtain ⟨t, rfl⟩ := r1
  refine wpAny_pyIter_strU ?_
  refine ⟨s1.heap.objs.size, [s1.heap.objs.size], _, _, H1, rfl, I1.kept (t' := s1.toks) fun b o e => Heap.get?_push_of_some _ e, turn_str z t _, ⟨_, Heap.get?_push_size _ rfl, rfl, rfl⟩, fun b hb => ?_, q⟩
  have e : b = s1.heap.objs.size := by simpa using hb
  subst e
  exact I1.fpOk (Nat.le_refl _) (I1.hok.fresh (Nat.le_refl _))
end
/-- a comprehension over a text -/
theorem comp_str {z : Str} {g : TG} {tt : TT} {te : TE} {nv : Nat} {ix : List Nat} {σ : St} {D : Addr} {H : Hp} {Q : VK} (Pv : Nat → List V → Hp → Prop) (h0 : Pv 0 [] (upd H D (.lst [])))
    (hs : ∀ i c ys H, z.cps[i]? = some c → Pv i ys H → H D = some (.lst ys) → g (sgn c) (capσ nv ix σ) H fun σ2 H3 => σ2.drop nv = (capσ nv ix σ).drop nv ∧ tt σ2 H3 fun b H4 =>
      if b = true then te σ2 H4 fun v H5 => ∃ zs, H5 D = some (.lst zs) ∧ zs.length < sizeLine ∧ (∃ ys', Pv (i + 1) ys' (upd H5 D (.lst (zs ++ [v]))) ∧ (upd H5 D (.lst (zs ++ [v]))) D = some (.lst ys')) else ∃ ys', Pv (i + 1) ys' H4 ∧ H4 D = some (.lst ys'))
    (hd : ∀ ys H, Pv z.cps.size ys H → H D = some (.lst ys) → Q (.ref D) H) :
    CompAt (ItS z) g tt te nv ix σ Q H D := by
  refine ⟨fun i m H2 => m = z.cps.size - i ∧ i ≤ z.cps.size ∧ ∃ ys, Pv i ys H2 ∧ H2 D = some (.lst ys), ⟨z.cps.size, by simp, Nat.zero_le _, [], h0, upd_same⟩, ?_⟩
  rintro i m H2 ⟨rfl, hi, ys, p, hD⟩
  by_cases hlt : i < z.cps.size
  · refine .inr ⟨hlt, fun H' => ∃ ys, Pv (i + 1) ys H' ∧ H' D = some (.lst ys), fun H' p' => ⟨z.cps.size - (i + 1), by omega, rfl, hlt, p'⟩, fun x H' y => ?_⟩
    obtain ⟨e, c, hc, e2⟩ := y
    subst e e2
    exact hs i c ys _ hc p hD
  · have e : i = z.cps.size := by omega
    subst e
    exact .inl ⟨rfl, hd ys H2 p hD⟩
/-- a comprehension over a tuple -/
theorem comp_tup {K : PySem.W.Frag} {a : Addr} {xs : List V} {g : TG} {tt : TT} {te : TE} {nv : Nat} {ix : List Nat} {σ : St} {D : Addr} {H : Hp} {Q : VK} (Pv : Nat → List V → Hp → Prop) (h0 : Pv 0 [] (upd H D (.lst []))) (hl : ∀ i ys H, i ≤ xs.length → Pv i ys H → SqT K H a xs)
    (hs : ∀ i x ys H, xs[i]? = some x → Pv i ys H → H D = some (.lst ys) → g x (capσ nv ix σ) H fun σ2 H3 => σ2.drop nv = (capσ nv ix σ).drop nv ∧ tt σ2 H3 fun b H4 =>
      if b = true then te σ2 H4 fun v H5 => ∃ zs, H5 D = some (.lst zs) ∧ zs.length < sizeLine ∧ (∃ ys', Pv (i + 1) ys' (upd H5 D (.lst (zs ++ [v]))) ∧ (upd H5 D (.lst (zs ++ [v]))) D = some (.lst ys')) else ∃ ys', Pv (i + 1) ys' H4 ∧ H4 D = some (.lst ys'))
    (hd : ∀ ys H, Pv xs.length ys H → H D = some (.lst ys) → Q (.ref D) H) :
    CompAt (Itt K a) g tt te nv ix σ Q H D := by
  refine ⟨fun i m H2 => m = xs.length - i ∧ i ≤ xs.length ∧ ∃ ys, Pv i ys H2 ∧ H2 D = some (.lst ys), ⟨xs.length, by simp, Nat.zero_le _, [], h0, upd_same⟩, ?_⟩
  rintro i m H2 ⟨rfl, hi, ys, p, hD⟩
  have q := hl i ys H2 hi p
  by_cases hlt : i < xs.length
  · refine .inr ⟨⟨xs, xs[i], q, by simp [hlt]⟩, fun H' => ∃ ys, Pv (i + 1) ys H' ∧ H' D = some (.lst ys), fun H' p' => ⟨xs.length - (i + 1), by omega, rfl, hlt, p'⟩, fun x H' y => ?_⟩
    obtain ⟨e, y⟩ := y
    subst e
    exact hs i x ys _ (y xs q) p hD
  · have e : i = xs.length := by omega
    subst e
    exact .inl ⟨⟨xs, q, Nat.le_refl _⟩, hd ys H2 p hD⟩
theorem op_notIn_seqC {X : Cx} {K : PySem.W.Frag} (hK : X.K = K) : OpR X (compareOp .NotIn) (rIn K true) := hK ▸ op_notIn_seq
theorem str_size1 (c : Nat) : (⟨#[c]⟩ : Str).length = 1 := rfl
theorem str_app_len (a b : Str) : (a ++ b).length = a.length + b.length := by
  show (a.cps ++ b.cps).size = a.cps.size + b.cps.size
  simp
theorem nodup_sub {α : Type} [DecidableEq α] : ∀ {l m : List α}, l.Nodup → (∀ x ∈ l, x ∈ m) → l.length ≤ m.length
  | [], _, _, _ => Nat.zero_le _
  | x :: r, m, hn, hs => by
    have hx := hs x List.mem_cons_self
    rw [List.nodup_cons] at hn
    have h2 := nodup_sub (l := r) (m := m.erase x) hn.2 fun y hy => (List.mem_erase_of_ne (fun (e : y = x) => hn.1 (e ▸ hy))).mpr (hs y (List.mem_cons_of_mem _ hy))
    rw [List.length_erase_of_mem hx] at h2
    have := List.length_pos_of_mem hx
    rw [List.length_cons]
    omega
theorem inV_str (z : Str) (l : List Str) : inV (.str z) (l.map V.str) = decide (z ∈ l) := by
  unfold inV
  induction l with
  | nil => rfl
  | cons x r ih =>
    rw [List.map_cons, List.any_cons, ih]
    show ((x == z) || _) = _
    by_cases h : x = z
    · subst h
      simp
    · have h' : ¬ z = x := fun e => h e.symm
      simp [h, h']
theorem strs_flat (l : List Str) : (l.map V.str).all flatV = true := by
  rw [List.all_eq_true]
  intro x hx
  obtain ⟨o, _, rfl⟩ := List.mem_map.mp hx
  rfl
end L2
namespace L2
open PySem PySem.Spec PyProof.Rows
section
variable {X : Cx} {CX : CXT} {k : Nat} {f : Addr} {fd : FuncData} {ps : List Str} {sp : Sp} {dvs : List V} {ds : List Value} {E : XK} {m : Str} {pos apos : Pos} {e o : Expr} {es : List Expr} {ta : TE} {t : TA}
/-- o.m(..) of an instance of whatever class that has m from f -/
def tMethD (K : PySem.W.Frag) (f : Addr) (m : Str) (sp : Sp) (dvs : List V) (E : XK) (ta : TE) (t : TA) : TE := fun σ H Q => ta σ H fun x H1 => ∃ C a dx fs, x = .ref a ∧ H1 a = some (.ins C dx fs) ∧ Cls K C ∧ Meth K C m f ∧ fs.lookup m = none ∧ t σ H1 fun vs H2 => sp (x :: (vs ++ dvs)) H2 Q E
end
end L2
namespace L2
open PySem PySem.Spec PyProof.Rows
/-! ### zip of two sequences, each a list or a tuple -/
def ItAt (tp : Bool) (h : Heap) (i l : Addr) (k : Nat) (xs : Array Value) : Prop := match tp with
  | false => h.IsListIter i l k ∧ h.IsList l xs
  | true => h.IsTupleIter i l k ∧ h.IsTuple l xs
theorem ItAt.at {tp : Bool} {h h' : Heap} {i l : Addr} {k : Nat} {xs : Array Value} (a : ItAt tp h i l k xs) (k1 : ∀ o, h.get? i = some o → h'.get? i = some o) (k2 : ∀ o, h.get? l = some o → h'.get? l = some o) : ItAt tp h' i l k xs := by
  cases tp with
  | false => exact ⟨a.1.at k1, a.2.at k2⟩
  | true => obtain ⟨⟨o, e, r⟩, ⟨o2, e2, r2⟩⟩ := a; exact ⟨⟨o, k1 o e, r⟩, ⟨o2, k2 o2 e2, r2⟩⟩
theorem ItAt.ext {tp : Bool} {h h' : Heap} {i l b : Addr} {k : Nat} {xs : Array Value} (a : ItAt tp h i l k xs) (x : Heap.ExtBut b h h') (n1 : i ≠ b) (n2 : l ≠ b) : ItAt tp h' i l k xs := a.at (fun o e => x i o n1 e) (fun o e => x l o n2 e)
section
variable {prog : Program} {w : World} {A : Around} {E : Value → Shared → Prop} {s : Shared}
theorem ItAt.nx {tp : Bool} {i l : Addr} {k : Nat} {xs : Array Value} {x : Value} {Q : Value → Shared → Prop} (a : ItAt tp s.heap i l k xs) (hne : l ≠ i) (c : xs[k]? = some x) (d : ∀ h', ItAt tp h' i l (k + 1) xs → Heap.SameBut i s.heap h' → Q x { s with heap := h' }) : wpAny (model prog w) A (Builtin.SmallTypes.nextOf (.ref i)) Q E s := by
  cases tp with
  | false => exact wpAny_nextOf_list_item a.1 a.2 c fun h' b sb => d h' ⟨b, a.2.extBut sb.extBut hne⟩ sb
  | true => exact nxT_item a.1 a.2 c fun h' b sb => d h' ⟨b, a.2.extBut sb.extBut hne⟩ sb
theorem ItAt.nxE {tp : Bool} {i l : Addr} {k : Nat} {xs : Array Value} {Q : Value → Shared → Prop} (hh : A.handled = none) (a : ItAt tp s.heap i l k xs) (c : xs[k]? = none) (d : ∀ h' e, Heap.ExtBut i s.heap h' → (∃ o, h'.get? e = some o ∧ o.cls = .type "StopIteration") → E (.ref e) { s with heap := h' }) : wpAny (model prog w) A (Builtin.SmallTypes.nextOf (.ref i)) Q E s := by
  cases tp with
  | false => exact wpAny_nextOf_list_end hh a.1 a.2 c d
  | true => exact nxT_end hh a.1 a.2 c d
theorem zipX_item {t1 t2 : Bool} {z TI TO i1 i2 l1 l2 : Addr} {k1 k2 : Nat} {xs ys : Array Value} {x y a b : Value} {Q : Value → Shared → Prop} (D : ZipApart z TI TO i1 i2 l1 l2) (gz : IsZip s.heap z TI TO .none) (gI : IsPair s.heap TI (.ref i1) (.ref i2)) (gO : IsPair s.heap TO a b)
    (g1 : ItAt t1 s.heap i1 l1 k1 xs) (g2 : ItAt t2 s.heap i2 l2 k2 ys) (hx : xs[k1]? = some x) (hy : ys[k2]? = some y) (d : ∀ h', IsZip h' z TI TO (rawInt s.heap.objs.size) → IsPair h' TO x y → ItAt t1 h' i1 l1 (k1 + 1) xs → ItAt t2 h' i2 l2 (k2 + 1) ys → IsPair h' s.heap.objs.size x y → h'.objs.size = s.heap.objs.size + 1 →
      (∀ c o, c ≠ z → c ≠ TO → c ≠ i1 → c ≠ i2 → s.heap.get? c = some o → h'.get? c = some o) → Q (.ref s.heap.objs.size) { s with heap := h' }) : wpAny (model prog w) A (Builtin.«zip.__next__» ⟨[.ref z], []⟩) (fun fin s' => ∃ v, fin = .done (.ret v) ∧ Q v s') E s := by
  show wpAny _ _ (field (.ref z) 2 >>= _) _ _ _; refine wpAny_bind (wpAny_field gz rfl (x := .bool false) rfl ?_)
  show wpAny _ _ (field (.ref z) 3 >>= _) _ _ _; refine wpAny_bind (wpAny_field gz rfl (x := .ref TI) rfl ?_)
  refine wpAny_bind (wpAny_seqItems gI rfl ?_)
  show wpAny _ _ (Builtin.SmallTypes.ownedTupleIsFree (.ref z) >>= _) _ _ _; refine wpAny_bind ?_; unfold Builtin.SmallTypes.ownedTupleIsFree
  refine wpAny_bind (wpAny_field gz rfl (x := .none) rfl (wpAny_pure ?_)); simp only [if_true]
  refine wpAny_bind (wpAny_rule ?_); refine wpAny_bind (wpAny_field gz rfl (x := .ref TO) rfl ?_)
  refine wpAny_bind (wpAny_setField_rec gz (by simp) fun u1 gz1 s1 => ?_); replace gz1 : IsZip u1 z TI TO .ellipsis := gz1
  refine wpAny_bind ?_; simp only [List.zipIdx_cons, List.zipIdx_nil, List.forIn_cons, List.forIn_nil]
  refine wpAny_bind (wpAny_bind (wpAny_onRaise ?_)); show wpAny _ _ (Builtin.SmallTypes.nextOf (.ref i1) >>= _) _ _ _
  refine wpAny_bind ((g1.ext s1.extBut D.i1z D.l1z).nx D.l1i1 hx fun u2 g12 s2 => wpAny_pure ?_)
  have gO2 : IsPair u2 TO a b := s2.extBut _ _ D.TOi1 (s1.extBut _ _ D.TOz gO)
  refine wpAny_bind (wpAny_seqItems gO2 rfl ?_); refine wpAny_bind (wpAny_updateSeq_pair gO2 fun u3 gO3 s3 => ?_); replace gO3 : IsPair u3 TO x b := gO3
  refine wpAny_bind (wpAny_letGo (wpAny_pure ?_))
  refine wpAny_bind (wpAny_bind (wpAny_onRaise ?_)); show wpAny _ _ (Builtin.SmallTypes.nextOf (.ref i2) >>= _) _ _ _
  refine wpAny_bind ((((g2.ext s1.extBut D.i2z D.l2z).ext s2.extBut D.i12.symm D.l2i1).ext s3.extBut D.TOi2.symm D.l2TO).nx D.l2i2 hy fun u4 g24 s4 => wpAny_pure ?_)
  have gO4 : IsPair u4 TO x b := s4.extBut _ _ D.TOi2 gO3
  refine wpAny_bind (wpAny_seqItems gO4 rfl ?_); refine wpAny_bind (wpAny_updateSeq_pair gO4 fun u5 gO5 s5 => ?_); replace gO5 : IsPair u5 TO x y := gO5
  refine wpAny_bind (wpAny_letGo (wpAny_pure (wpAny_pure ?_))); refine wpAny_bind (wpAny_seqItems gO5 rfl ?_); refine wpAny_bind (wpAny_newTuple ?_)
  have hsz : u5.objs.size = s.heap.objs.size := by rw [s5.1, s4.1, s3.1, s2.1, s1.1]
  have gz5 : IsZip u5 z TI TO .ellipsis := s5.extBut _ _ D.TOz.symm (s4.extBut _ _ D.i2z.symm (s3.extBut _ _ D.TOz.symm (s2.extBut _ _ D.i1z.symm gz1)))
  have k5 : ∀ c o, c ≠ z → c ≠ TO → c ≠ i1 → c ≠ i2 → s.heap.get? c = some o → u5.get? c = some o := fun c o c1 c2 c3 c4 e => s5.extBut _ _ c2 (s4.extBut _ _ c4 (s3.extBut _ _ c2 (s2.extBut _ _ c3 (s1.extBut _ _ c1 e))))
  have g15 : ItAt t1 u5 i1 l1 (k1 + 1) xs := ((g12.ext s3.extBut D.TOi1.symm D.l1TO).ext s4.extBut D.i12 D.l1i2).ext s5.extBut D.TOi1.symm D.l1TO
  have g25 : ItAt t2 u5 i2 l2 (k2 + 1) ys := g24.ext s5.extBut D.TOi2.symm D.l2TO
  have zlt : z < u5.objs.size := Heap.lt_size gz5
  show wpAny _ _ (Builtin.SmallTypes.ownedTupleHandOut (.ref z) (.ref u5.objs.size) >>= _) _ _ _; refine wpAny_bind ?_; unfold Builtin.SmallTypes.ownedTupleHandOut
  have gz6 : IsZip (u5.push { cls := .type "tuple", data := .seq #[x, y] }) z TI TO .ellipsis := Heap.get?_push_of_some _ gz5
  refine wpAny_bind (wpAny_setField_rec gz6 (by simp) fun u7 gz7 s7 => ?_); replace gz7 : IsZip u7 z TI TO (rawInt u5.objs.size) := gz7
  refine wpAny_setField_rec gz7 (by simp) fun u8 gz8 s8 => ?_; replace gz8 : IsZip u8 z TI TO (rawInt u5.objs.size) := gz8
  have up : ∀ c o, c ≠ z → u5.get? c = some o → u8.get? c = some o := fun c o c1 e => s8.extBut _ _ c1 (s7.extBut _ _ c1 (Heap.get?_push_of_some _ e))
  have gT : IsPair u8 u5.objs.size x y := s8.extBut _ _ (Nat.ne_of_gt zlt) (s7.extBut _ _ (Nat.ne_of_gt zlt) (Heap.get?_push_size _ rfl))
  have z8 : u8.objs.size = u5.objs.size + 1 := by rw [s8.1, s7.1, Heap.size_push]
  rw [hsz] at gz8 gT z8
  refine wpAny_pure ⟨_, rfl, ?_⟩; show Q (.ref u5.objs.size) _; rw [hsz]
  exact d u8 gz8 (up _ _ D.TOz gO5) (g15.at (fun o e => up _ o D.i1z e) fun o e => up _ o D.l1z e) (g25.at (fun o e => up _ o D.i2z e) fun o e => up _ o D.l2z e) gT z8 fun c o c1 c2 c3 c4 e => up c o c1 (k5 c o c1 c2 c3 c4 e)
theorem zipX_end {t1 t2 : Bool} {z TI TO i1 i2 l1 l2 : Addr} {k1 k2 : Nat} {xs ys : Array Value} {a b : Value} {Q : Fin → Shared → Prop} (hh : A.handled = none) (D : ZipApart z TI TO i1 i2 l1 l2) (gz : IsZip s.heap z TI TO .none) (gI : IsPair s.heap TI (.ref i1) (.ref i2)) (gO : IsPair s.heap TO a b)
    (g1 : ItAt t1 s.heap i1 l1 k1 xs) (g2 : ItAt t2 s.heap i2 l2 k2 ys) (hend : xs[k1]? = none ∨ ys[k2]? = none)
    (d : ∀ h' e, (∀ c o, c ≠ z → c ≠ TO → c ≠ i1 → c ≠ i2 → s.heap.get? c = some o → h'.get? c = some o) → (∃ o, h'.get? e = some o ∧ o.cls = .type "StopIteration") → E (.ref e) { s with heap := h' }) : wpAny (model prog w) A (Builtin.«zip.__next__» ⟨[.ref z], []⟩) Q E s := by
  show wpAny _ _ (field (.ref z) 2 >>= _) _ _ _; refine wpAny_bind (wpAny_field gz rfl (x := .bool false) rfl ?_)
  show wpAny _ _ (field (.ref z) 3 >>= _) _ _ _; refine wpAny_bind (wpAny_field gz rfl (x := .ref TI) rfl ?_)
  refine wpAny_bind (wpAny_seqItems gI rfl ?_)
  show wpAny _ _ (Builtin.SmallTypes.ownedTupleIsFree (.ref z) >>= _) _ _ _; refine wpAny_bind ?_; unfold Builtin.SmallTypes.ownedTupleIsFree
  refine wpAny_bind (wpAny_field gz rfl (x := .none) rfl (wpAny_pure ?_)); simp only [if_true]
  refine wpAny_bind (wpAny_rule ?_); refine wpAny_bind (wpAny_field gz rfl (x := .ref TO) rfl ?_)
  refine wpAny_bind (wpAny_setField_rec gz (by simp) fun u1 gz1 s1 => ?_); replace gz1 : IsZip u1 z TI TO .ellipsis := gz1
  refine wpAny_bind ?_; simp only [List.zipIdx_cons, List.zipIdx_nil, List.forIn_cons, List.forIn_nil]
  refine wpAny_bind (wpAny_bind (wpAny_onRaise ?_)); show wpAny _ _ (Builtin.SmallTypes.nextOf (.ref i1) >>= _) _ _ _
  cases hx : xs[k1]? with
  | none =>
    refine wpAny_bind ((g1.ext s1.extBut D.i1z D.l1z).nxE hh hx fun u2 e s2 he => ?_)
    obtain ⟨oe, hoe, hce⟩ := he
    have gz2 : IsZip u2 z TI TO .ellipsis := s2 _ _ D.i1z.symm gz1
    have hez : e ≠ z := fun x => by subst x; rw [gz2] at hoe; cases hoe; simp at hce
    refine wpAny_setField_rec gz2 (by simp) fun u3 _ s3 => d u3 e (fun c o c1 _ c3 _ x => s3.extBut _ _ c1 (s2 _ _ c3 (s1.extBut _ _ c1 x))) ⟨oe, s3.extBut _ _ hez hoe, hce⟩
  | some x =>
    have hy : ys[k2]? = none := by rcases hend with h | h; rw [hx] at h; cases h; exact h
    refine wpAny_bind ((g1.ext s1.extBut D.i1z D.l1z).nx D.l1i1 hx fun u2 g12 s2 => wpAny_pure ?_)
    have gO2 : IsPair u2 TO a b := s2.extBut _ _ D.TOi1 (s1.extBut _ _ D.TOz gO)
    refine wpAny_bind (wpAny_seqItems gO2 rfl ?_); refine wpAny_bind (wpAny_updateSeq_pair gO2 fun u3 gO3 s3 => ?_)
    refine wpAny_bind (wpAny_letGo (wpAny_pure ?_)); refine wpAny_bind (wpAny_bind (wpAny_onRaise ?_)); show wpAny _ _ (Builtin.SmallTypes.nextOf (.ref i2) >>= _) _ _ _
    refine wpAny_bind ((((g2.ext s1.extBut D.i2z D.l2z).ext s2.extBut D.i12.symm D.l2i1).ext s3.extBut D.TOi2.symm D.l2TO).nxE hh hy fun u4 e s4 he => ?_)
    obtain ⟨oe, hoe, hce⟩ := he
    have gz4 : IsZip u4 z TI TO .ellipsis := s4 _ _ D.i2z.symm (s3.extBut _ _ D.TOz.symm (s2.extBut _ _ D.i1z.symm gz1))
    have hez : e ≠ z := fun x => by subst x; rw [gz4] at hoe; cases hoe; simp at hce
    refine wpAny_setField_rec gz4 (by simp) fun u5 _ s5 => d u5 e (fun c o c1 c2 c3 c4 x => s5.extBut _ _ c1 (s4 _ _ c4 (s3.extBut _ _ c2 (s2.extBut _ _ c3 (s1.extBut _ _ c1 x))))) ⟨oe, s5.extBut _ _ hez hoe, hce⟩
theorem nextZ_item {t1 t2 : Bool} {z TI TO i1 i2 l1 l2 : Addr} {k1 k2 : Nat} {xs ys : Array Value} {x y a b : Value} {Q : Option Value → Shared → Prop} (D : ZipApart z TI TO i1 i2 l1 l2) (gz : IsZip s.heap z TI TO .none) (gI : IsPair s.heap TI (.ref i1) (.ref i2)) (gO : IsPair s.heap TO a b)
    (g1 : ItAt t1 s.heap i1 l1 k1 xs) (g2 : ItAt t2 s.heap i2 l2 k2 ys) (hx : xs[k1]? = some x) (hy : ys[k2]? = some y) (d : ∀ h', IsZip h' z TI TO (rawInt s.heap.objs.size) → IsPair h' TO x y → ItAt t1 h' i1 l1 (k1 + 1) xs → ItAt t2 h' i2 l2 (k2 + 1) ys → IsPair h' s.heap.objs.size x y → h'.objs.size = s.heap.objs.size + 1 →
      (∀ c o, c ≠ z → c ≠ TO → c ≠ i1 → c ≠ i2 → s.heap.get? c = some o → h'.get? c = some o) → Q (some (.ref s.heap.objs.size)) { s with heap := h' }) : wpAny (model prog w) A (pyNext (.ref z)) Q E s := by
  have hT : s.TypeIs (.ref z) "zip" := ⟨_, gz, rfl⟩; unfold pyNext
  exact wpAny_bind (wpAny_attempt (wpAny_callSpecial?_slot (name := Str.ofString "__next__") hT F.slot_zip_next (wpAny_call_entry F.slot_zip_next hT F.entry_zip_next (zipX_item D gz gI gO g1 g2 hx hy fun h' a1 a2 a3 a4 a5 a6 a7 => wpAny_pure (d h' a1 a2 a3 a4 a5 a6 a7)) (F.args_zip_next_1 _))))
theorem nextZ_end {t1 t2 : Bool} {z TI TO i1 i2 l1 l2 : Addr} {k1 k2 : Nat} {xs ys : Array Value} {a b : Value} {Q : Option Value → Shared → Prop} (hh : A.handled = none) (D : ZipApart z TI TO i1 i2 l1 l2) (gz : IsZip s.heap z TI TO .none) (gI : IsPair s.heap TI (.ref i1) (.ref i2)) (gO : IsPair s.heap TO a b)
    (g1 : ItAt t1 s.heap i1 l1 k1 xs) (g2 : ItAt t2 s.heap i2 l2 k2 ys) (hend : xs[k1]? = none ∨ ys[k2]? = none) (d : ∀ h', (∀ c o, c ≠ z → c ≠ TO → c ≠ i1 → c ≠ i2 → s.heap.get? c = some o → h'.get? c = some o) → Q none { s with heap := h' }) : wpAny (model prog w) A (pyNext (.ref z)) Q E s := by
  have hT : s.TypeIs (.ref z) "zip" := ⟨_, gz, rfl⟩; unfold pyNext
  refine wpAny_bind (wpAny_attempt (wpAny_callSpecial?_slot (name := Str.ofString "__next__") hT F.slot_zip_next (wpAny_call_entry F.slot_zip_next hT F.entry_zip_next (zipX_end hh D gz gI gO g1 g2 hend fun h' e hk he => ?_) (F.args_zip_next_1 _))))
  obtain ⟨o, ho, hc⟩ := he; refine wpAny_bind (wpAny_isInstance (T := "StopIteration") (b := true) ⟨o, ho, hc⟩ isSubtype_stop ?_); exact wpAny_pure (d _ hk)
/-- the source of one of the two -/
abbrev itCls (tp : Bool) : String := if tp then "tuple_iterator" else "list_iterator"
def SeqOf (tp : Bool) (h : Heap) (l : Addr) (xs : Array Value) : Prop := match tp with
  | false => h.IsList l xs
  | true => h.IsTuple l xs
abbrev zP (h : Heap) (tp : Bool) (l : Addr) : Heap := h.push { cls := .type (itCls tp), data := .fields #[.ref l, .int 0 0] }
abbrev zQ (h : Heap) (t1 t2 : Bool) (l1 l2 : Addr) : Heap := (zP (zP h t1 l1) t2 l2).push { cls := .type "tuple", data := .seq #[.ref h.objs.size, .ref (zP h t1 l1).objs.size] }
abbrev zR (h : Heap) (t1 t2 : Bool) (l1 l2 : Addr) : Heap := (zQ h t1 t2 l1 l2).push { cls := .type "tuple", data := .seq #[.none, .none] }
abbrev zS (h : Heap) (t1 t2 : Bool) (l1 l2 : Addr) : Heap := (zR h t1 t2 l1 l2).push { cls := .type "zip", data := .fields #[.none, .bool false, .bool false, .ref (zP (zP h t1 l1) t2 l2).objs.size, .ref (zQ h t1 t2 l1 l2).objs.size] }
end
end L2
namespace L2
open PySem PySem.Spec PyProof.Rows
def SqX (tp : Bool) (K : PySem.W.Frag) (H : Hp) (a : Addr) (xs : List V) : Prop := match tp with
  | false => SqL K H a xs
  | true => SqT K H a xs
theorem Inv.seqX {X : Cx} {pins : List (Addr × Obj)} {σ : St} {H : Hp} {s : Shared} {tp : Bool} {a : Addr} {xs : List V} (I : Inv X pins σ H s) (h : SqX tp X.K H a xs) : ∃ its : List Value, Vals xs its ∧ SeqOf tp s.heap a its.toArray := by
  cases tp with
  | false => obtain ⟨its, r, p, _⟩ := I.list h; exact ⟨its, r, p.isList⟩
  | true => obtain ⟨its, r, p, _⟩ := I.tuple h; exact ⟨its, r, IsTup.tup p⟩
def IteZ (K : PySem.W.Frag) (t1 t2 : Bool) (a b : Addr) : It :=
  ⟨fun i H => ∃ xs ys x y, SqX t1 K H a xs ∧ SqX t2 K H b ys ∧ xs[i]? = some x ∧ ys[i]? = some y,
   fun i H v H' => ∃ T x y, H T = none ∧ H' = upd H T (.tup [x, y]) ∧ v = .ref T ∧ ∀ xs ys, SqX t1 K H a xs → SqX t2 K H b ys → xs[i]? = some x ∧ ys[i]? = some y,
   fun i H => ∃ xs ys, SqX t1 K H a xs ∧ SqX t2 K H b ys ∧ (xs[i]? = none ∨ ys[i]? = none)⟩
def IterAt (tp : Bool) (h : Heap) (i l : Addr) (k : Nat) : Prop := match tp with
  | false => h.IsListIter i l k
  | true => h.IsTupleIter i l k
theorem IterAt.it {tp : Bool} {h : Heap} {i l : Addr} {k : Nat} {xs : Array Value} (a : IterAt tp h i l k) (b : SeqOf tp h l xs) : ItAt tp h i l k xs := by
  cases tp with
  | false => exact ⟨a, b⟩
  | true => exact ⟨a, b⟩
theorem ItAt.iter {tp : Bool} {h : Heap} {i l : Addr} {k : Nat} {xs : Array Value} (a : ItAt tp h i l k xs) : IterAt tp h i l k := by
  cases tp with
  | false => exact a.1
  | true => exact a.1
theorem IterAt.at {tp : Bool} {h h' : Heap} {i l : Addr} {k : Nat} (a : IterAt tp h i l k) (k1 : ∀ o, h.get? i = some o → h'.get? i = some o) : IterAt tp h' i l k := by
  cases tp with
  | false => obtain ⟨o, e, r⟩ := a; exact ⟨o, k1 o e, r⟩
  | true => obtain ⟨o, e, r⟩ := a; exact ⟨o, k1 o e, r⟩
theorem IterAt.obj {tp : Bool} {h : Heap} {i l : Addr} {k : Nat} (a : IterAt tp h i l k) : ∃ o, h.get? i = some o ∧ ∀ v, o.data ≠ .cell v := by
  cases tp with
  | false => obtain ⟨o, e, _, d⟩ := a; exact ⟨o, e, fun v q => by rw [d] at q; cases q⟩
  | true => obtain ⟨o, e, _, d⟩ := a; exact ⟨o, e, fun v q => by rw [d] at q; cases q⟩
theorem sqX_inj {X : Cx} {pins : List (Addr × Obj)} {σ : St} {H : Hp} {s : Shared} {tp : Bool} {a : Addr} {xs ys : List V} (I : Inv X pins σ H s) (h1 : SqX tp X.K H a xs) (h2 : SqX tp X.K H a ys) : xs = ys := by
  cases tp with
  | false => exact I.list_inj h1 h2
  | true => exact I.tuple_inj h1 h2
theorem turn_zip {P : Program} {w : World} {K : PySem.W.Frag} {elts : List Expr} {x1 : Nat} {tp : Pos} {t1 t2 : Bool} {a b z TI TO i1 i2 : Addr} (D : ZipApart z TI TO i1 i2 a b) :
    Turn P w K (.Tuple elts x1 tp) (IteZ K t1 t2 a b) [z, TI, TO, i1, i2] z (fun i h => IsZip h z TI TO .none ∧ IsPair h TI (.ref i1) (.ref i2) ∧ (∃ u v, IsPair h TO u v) ∧ IterAt t1 h i1 a i ∧ IterAt t2 h i2 b i) where
  mem := by simp
  obj := fun i h st c hc => by
    obtain ⟨h1, h2, ⟨u, v, h3⟩, h4, h5⟩ := st
    simp only [List.mem_cons, List.not_mem_nil, or_false] at hc
    rcases hc with rfl | rfl | rfl | rfl | rfl
    · exact ⟨_, h1, fun v q => nomatch q⟩
    · exact ⟨_, h2, fun v q => nomatch q⟩
    · exact ⟨_, h3, fun v q => nomatch q⟩
    · exact h4.obj
    · exact h5.obj
  keep := fun i h h' st k => by
    obtain ⟨h1, h2, ⟨u, v, h3⟩, h4, h5⟩ := st
    exact ⟨k z (by simp) _ h1, k TI (by simp) _ h2, ⟨u, v, k TO (by simp) _ h3⟩, h4.at fun o e => k i1 (by simp) o e, h5.at fun o e => k i2 (by simp) o e⟩
  item := by
    intro X hP hw hK hc i pins s σ H E I hf st hg
    subst hP hw hK
    obtain ⟨xs, ys, x, y, hxs, hys, hx, hy⟩ := hg
    obtain ⟨us, r1, q1⟩ := I.seqX hxs
    obtain ⟨ws, r2, q2⟩ := I.seqX hys
    obtain ⟨u, hu, ru⟩ := r1.get hx
    obtain ⟨v, hv, rv⟩ := r2.get hy
    obtain ⟨h1, h2, ⟨o1, o2, h3⟩, h4, h5⟩ := st
    refine nextZ_item D h1 h2 h3 (h4.it q1) (h5.it q2) (x := u) (y := v) (by simpa using hu) (by simpa using hv) fun h' b1 b2 b3 b4 b5 b6 b7 => ?_
    refine ⟨_, rfl, ?_⟩
    refine wpAny_letOwnedTupleGo_zip b1 fun h6 c1 c2 => ?_
    have lt : ∀ {c o}, s.heap.get? c = some o → c ≠ s.heap.objs.size := fun e => Nat.ne_of_lt (Heap.lt_size e)
    have zlt : s.heap.objs.size ≠ z := Ne.symm (lt h1)
    have k2 : ∀ c o, c ∉ [z, TI, TO, i1, i2] → s.heap.get? c = some o → h6.get? c = some o := fun c o hc' q => by
      have n1 : c ≠ z := fun e => hc' (by simp [e])
      exact (c2.2 c n1).trans (b7 c o n1 (fun e => hc' (by simp [e])) (fun e => hc' (by simp [e])) (fun e => hc' (by simp [e])) q)
    have t2 : h6.get? s.heap.objs.size = some { cls := .type "tuple", data := .seq #[u, v] } := (c2.2 _ zlt).trans b5
    have hn : H s.heap.objs.size = none := I.hok.fresh (Nat.le_refl _)
    have new : ObjOk X.prog X.w (upd H s.heap.objs.size (.tup [x, y])) h6 s.heap.objs.size (.tup [x, y]) := ⟨by simp only [List.length_cons, List.length_nil]; rw [sizeLine_eq]; decide, [u, v], .cons ru (.cons rv .nil), ⟨_, t2, rfl, _, rfl⟩⟩
    have I2 : Inv X pins σ (upd H s.heap.objs.size (.tup [x, y])) { s with heap := h6, toks := s.toks } := I.turnedNew k2 hf (Nat.le_refl _) new
    refine ⟨.ref s.heap.objs.size, _, I2, rfl, ⟨s.heap.objs.size, x, y, hn, rfl, rfl, fun xs' ys' hx' hy' => ⟨by rw [sqX_inj I hx' hxs]; exact hx, by rw [sqX_inj I hy' hys]; exact hy⟩⟩, ⟨c1, (c2.2 _ D.TIz).trans (b7 _ _ D.TIz D.TITO D.TIi1 D.TIi2 h2), ⟨_, _, (c2.2 _ D.TOz).trans b2⟩, b3.iter.at fun o e => (c2.2 _ D.i1z).trans e, b4.iter.at fun o e => (c2.2 _ D.i2z).trans e⟩, fun c hc' => ?_⟩
    have hne : c ≠ s.heap.objs.size := by
      simp only [List.mem_cons, List.not_mem_nil, or_false] at hc'
      rcases hc' with rfl | rfl | rfl | rfl | rfl
      · exact lt h1
      · exact lt h2
      · exact lt h3
      · obtain ⟨o, e, _⟩ := h4.obj; exact lt e
      · obtain ⟨o, e, _⟩ := h5.obj; exact lt e
    rw [upd_ne hne]
    exact (hf c hc').1
  done := by
    intro X hP hw hK hc i pins s σ H E I hf st hg
    subst hP hw hK
    obtain ⟨xs, ys, hxs, hys, hend⟩ := hg
    obtain ⟨us, r1, q1⟩ := I.seqX hxs
    obtain ⟨ws, r2, q2⟩ := I.seqX hys
    obtain ⟨h1, h2, ⟨o1, o2, h3⟩, h4, h5⟩ := st
    have e1 := r1.length
    have e2 := r2.length
    refine nextZ_end (show X.A.handled = none from I.ok.hd hc) D h1 h2 h3 (h4.it q1) (h5.it q2) ?_ fun h' k => ⟨rfl, ?_⟩
    · rcases hend with h | h
      · refine .inl ?_
        have := List.getElem?_eq_none_iff.mp h
        simp
        omega
      · refine .inr ?_
        have := List.getElem?_eq_none_iff.mp h
        simp
        omega
    · exact I.turnedL (t' := s.toks) (fun c o hc' q => k c o (fun e => hc' (by simp [e])) (fun e => hc' (by simp [e])) (fun e => hc' (by simp [e])) (fun e => hc' (by simp [e])) q) hf
  self := fun _ _ _ _ _ st h => wpAny_pyIter_zip st.1 h
section
variable {X : Cx}
def iZip (K : PySem.W.Frag) (t1 t2 : Bool) (ta : TA) : TI := fun σ H R => ta σ H fun vs H1 => ∃ a b, vs = [.ref a, .ref b] ∧ (∃ xs, SqX t1 K H1 a xs) ∧ (∃ ys, SqX t2 K H1 b ys) ∧ R (IteZ K t1 t2 a b) H1
end
end L2
namespace L2
open PySem PySem.Spec PyProof.Rows
/-- a statement, what holds behind it, and the rest -/
def tJoin (t u : TS) : TS := fun D σ H => ∃ Pv : St → Hp → Prop, t { D with nx := Pv } σ H ∧ ∀ σ' H', Pv σ' H' → u D σ' H'
theorem pss_join {X : Cx} {st : Stmt} {rest : List Stmt} {t u : TS} (h1 : PS X st t) (h2 : PSs X rest u) : PSs X (st :: rest) (tJoin t u) := by
  intro pins s σ H D I ⟨Pv, h, k⟩
  refine wpAny_execs_cons (thn (h1 pins s σ H { D with nx := Pv } I h) fun f s1 q => ?_)
  cases f with
  | next => obtain ⟨σ', H', I', q⟩ := q; exact h2 pins s1 σ' H' D I' (k σ' H' q)
  | ret v => exact q
  | brk => exact q
  | cont => exact q
section
variable {X : Cx}
end
end L2
namespace HT
open PySem PySem.Spec PyProof PyProof.Rows
section
variable {prog : Program} {w : World} {A : Around} {E : Value → Shared → Prop} {s : Shared}
end
end HT
namespace L2
open PySem PySem.Spec PyProof.Rows
section
variable {X : Cx}
/-- t[lo:hi], the whole of it or a part -/
def rSlTS : V → Option Int → Option Int → Hp → VK → Prop := fun x lo hi H Q => ∃ a xs, x = .ref a ∧ H a = some (.tup xs) ∧ ∀ p H', Same H H' → H' p = some (.tup (cutV xs lo hi)) → Q (.ref p) H'
/-- t + u, t not empty -/
def rCatS : R2 := fun x y H Q => ∃ a b xs ys, x = .ref a ∧ y = .ref b ∧ H a = some (.tup xs) ∧ H b = some (.tup ys) ∧ xs ≠ [] ∧ xs.length + ys.length ≤ sizeLine ∧ ∀ p H', Same H H' → H' p = some (.tup (xs ++ ys)) → Q (.ref p) H'
/-- a test, what holds behind it, and the rest -/
def tJoinT (t : TT) : TT := fun σ H Q => ∃ R : Bool → Hp → Prop, t σ H R ∧ ∀ b H', R b H' → Q b H'
theorem len1 {α : Type} {l : List α} (h : l.length = 1) : ∃ a, l = [a] := by
  match l, h with
  | [a], _ => exact ⟨a, rfl⟩
theorem len2 {α : Type} {l : List α} (h : l.length = 2) : ∃ a b, l = [a, b] := by
  match l, h with
  | [a, b], _ => exact ⟨a, b, rfl⟩
theorem len3 {α : Type} {l : List α} (h : l.length = 3) : ∃ a b c, l = [a, b, c] := by
  match l, h with
  | [a, b, c], _ => exact ⟨a, b, c, rfl⟩
theorem len4 {α : Type} {l : List α} (h : l.length = 4) : ∃ a b c d, l = [a, b, c, d] := by
  match l, h with
  | [a, b, c, d], _ => exact ⟨a, b, c, d, rfl⟩
end
end L2
namespace L2
open PySem PySem.Spec PyProof.Rows PySem.W Builtin Builtin.ObjectAttr
/-! ### object.__setattr__ over a class under ValueError -/
def underVE : List Value → Bool
  | .ref _ :: r => underVE r
  | l => l == [.type "ValueError", .type "Exception", .type "BaseException", .type "object"]
def overX (K : Frag) (C : Addr) : Bool := (clsIn K C).any fun cd => underVE cd.mro
theorem under_ex : ∀ (l : List Value), underVE l = true → ∃ cs : List Addr, l = cs.map Value.ref ++ [.type "ValueError", .type "Exception", .type "BaseException", .type "object"]
  | [], e => absurd e (by decide)
  | v :: r, e => by
    cases v with
    | ref c =>
      obtain ⟨cs, h⟩ := under_ex r e
      exact ⟨c :: cs, by rw [h]; rfl⟩
    | _ => exact ⟨[], eq_of_beq e⟩
theorem refuse_VE (self : Value) : refuseLoop self "__setattr__" [.type "ValueError", .type "Exception", .type "BaseException", .type "object"] = pure () := by kernel_rfl
theorem refuse_under (self : Value) : ∀ cs : List Addr, refuseLoop self "__setattr__" (cs.map Value.ref ++ [.type "ValueError", .type "Exception", .type "BaseException", .type "object"]) = pure ()
  | [] => refuse_VE self
  | c :: cs => by
    rw [List.map_cons, List.cons_append, refuseLoop_ref]
    exact refuse_under self cs
section
variable {prog : Program} {w : World} {A : Around} {s : Shared} {K : Frag} {x C : Addr} {R : Result → Shared → Prop}
/-- x.name = v by object.__setattr__, up to the store -/
theorem osa_under {ox : Obj} {od : Option Obj} {name : Str} {tk : Tok} {v : Value} (X : K.In s.heap) (J : InstAt s.heap x ox C od) (hp : overX K C = true) (ht : takerIn K C name = some none)
    (h : ∀ b, wpAny (model prog w) A.in1 (Builtin.ObjectAttr.storeInOwnDict (.ref x) (.ref C) (.str name tk) name v b) (fun fin s' => match fin with | .done f => R (.ok f) s' | .again c' => c'.quiet = true ∧ codeAny (model prog w) A c' R s') (fun e s' => R (.error e) s') s) :
    codeAny (model prog w) A (.call (.builtin "object.__setattr__") ⟨[.ref x, .str name tk, v], []⟩) R s := by
  have SO := PySem.F.store_object
  obtain ⟨cd, hc, ho⟩ := any_some hp
  obtain ⟨cs, hmro⟩ := under_ex _ ho
  have full : cd.mro.isEmpty = false := by rw [hmro]; cases cs <;> rfl
  have has : cd.mro.contains (.type "object") = true := by rw [hmro]; simp
  have isO : Looks (model prog w) s.heap (isInstance (.ref x) (.type "object")) true := J.type.andThen (looks_mroIn X (by unfold mroIn; rw [hc, Option.bind_some, if_neg (by rw [full]; decide), has]))
  refine codeAny_call_builtin SO.slot.plain SO.entry (@check_slot (model prog w) _ _ s "object.__setattr__" "object" "__setattr__" (.ref x) [.str name tk, v] [] _ SO.kind SO.split isO (SO.args (.ref x) (.str name tk) v) ?_)
  obtain ⟨found, ha, hr⟩ := Option.bind_eq_some_iff.mp ht
  have along : Looks (model prog w) s.heap (mroOf (.ref C)) cd.mro := (looks_clsIn X hc).andThen .now
  have taker : Looks (model prog w) s.heap (storeTaker? found) none := by
    cases found with
    | none => exact .now
    | some y =>
      obtain ⟨b, hb, hz⟩ := Option.map_eq_some_iff.mp hr
      cases b with
      | true => cases hz
      | false => exact (looks_takesIn X hb).andThen .now
  rw [osa_eq, refuse_eq]
  refine wpAny_bind (wpAny_bind (J.type.here (wpAny_bind (along.here ?_))))
  rw [hmro, refuse_under]
  refine wpAny_pure (wpAny_bind (J.type.here (wpAny_bind ((looks_findIn X ha).here (wpAny_bind (taker.here ?_))))))
  exact h _
end
end L2
namespace L2
open PySem PySem.Spec PyProof.Rows
/-! ### x.name = v, x an exception without a dict -/
section
variable {prog : Program} {w : World} {A : Around} {E : Value → Shared → Prop} {s : Shared} {K : PySem.W.Frag} {x C : Addr} {name : Str} {v : Value}
theorem xset_new {vs : Array Value} {sl : Array (Option Value)} {Q : Unit → Shared → Prop} (X : K.In s.heap) (hx : s.heap.get? x = some ⟨.ref C, none, .fields vs, sl⟩)
    (hs : PySem.W.findIn K (.ref C) "__setattr__" = some (some (.builtin "object.__setattr__"))) (hp : overX K C = true) (ht : PySem.W.takerIn K C name = some none) (hh : PySem.W.hasDictIn K C = true)
    (h : ∀ h', h'.get? x = some ⟨.ref C, some s.heap.objs.size, .fields vs, sl⟩ → h'.Ns1 s.heap.objs.size (fun y => if y = name then some v else none) → (∀ b o, b ≠ x → s.heap.get? b = some o → h'.get? b = some o) → Q () { s with heap := h', toks := s.toks + 2 }) :
    wpAny (model prog w) A (setAttr (.ref x) name v) Q E s := by
  have J : PySem.W.InstAt s.heap x ⟨.ref C, none, .fields vs, sl⟩ C none := ⟨hx, rfl, rfl, trivial⟩
  refine PySem.W.set_plain X J hs (osa_under (s := { s with toks := s.toks + 1 }) X J hp ht fun b => ?_)
  obtain ⟨cd, hc, hd'⟩ := PySem.W.any_some hh
  refine wpAny_bind (wpAny_pure (wpAny_bind (wpAny_bind (wpAny_loadPart hx (wpAny_bind (PySem.W.Looks.here (s := { s with toks := s.toks + 1 }) (PySem.W.looks_clsIn X hc) ?_))))))
  rw [hd']
  rw [if_neg (by decide)]
  show wpAny (model prog w) A.in1 (do
    let d ← alloc { cls := Value.type "dict", data := Data.dict #[] }
    update x fun o => { o with dict := some d }
    dictMade (.ref C) x d) _ _ _
  refine wpAny_bind (wpAny_alloc ?_)
  have hx1 := Heap.get?_push_of_some (h := s.heap) (o := { cls := Value.type "dict", data := Data.dict #[] }) hx
  have e1 : (s.heap.push { cls := Value.type "dict", data := Data.dict #[] }).get? s.heap.objs.size = some { cls := Value.type "dict", data := Data.dict #[] } := Heap.get?_push_size s.heap rfl
  have nx : x ≠ s.heap.objs.size := Nat.ne_of_lt (Heap.lt_size hx)
  refine wpAny_bind (wpAny_update hx1 ?_)
  refine wpAny_pure (a := some s.heap.objs.size) (wpAny_bind (wpAny_pure (wpAny_bind ?_)))
  have e2 : ((s.heap.push { cls := Value.type "dict", data := Data.dict #[] }).update x fun o => { o with dict := some s.heap.objs.size }).get? s.heap.objs.size = some { cls := Value.type "dict", data := Data.dict #[] } := by
    rw [Heap.get?_update_other _ _ nx]
    exact e1
  have n0 := Heap.Ns1.of_empty (h := (s.heap.push { cls := Value.type "dict", data := Data.dict #[] }).update x fun o => { o with dict := some s.heap.objs.size }) (a := s.heap.objs.size) ⟨_, #[], _, e2, rfl, (fun e he => absurd he (by simp)), fun _ => rfl⟩
  refine wpAny_nsSet1 n0 fun h' hn2 hs2 => ?_
  obtain ⟨oD, esD, epD, hoD, hdD, hcD⟩ := hn2.count (ns := [name]) (PySem.Within.cons (ns := []) name v (fun y hy => absurd rfl hy))
  refine wpAny_bind (wpAny_lookBehind hoD (by rw [hdD]; exact pastItsLine_dict (Nat.le_trans hcD (by show 1 ≤ sizeLine + 1; omega))) ?_)
  have ex : h'.get? x = some ⟨.ref C, some s.heap.objs.size, .fields vs, sl⟩ := by
    rw [hs2.2 _ nx]
    exact Heap.get?_update_self _ hx1 rfl
  refine wpAny_pure (h h' ex hn2 fun b o hb e => ?_)
  have hbs : b ≠ s.heap.objs.size := Nat.ne_of_lt (Heap.lt_size e)
  rw [hs2.2 _ hbs, Heap.get?_update_other _ _ (Ne.symm hb)]
  exact Heap.get?_push_of_some _ e
end
end L2
namespace L2
open PySem PySem.Spec PyProof.Rows
/-! ### C(..), C an own class under ValueError with an __init__ of its own -/
/-- .. whose __init__ is the def at f -/
def excInF (K : PySem.W.Frag) (C f : Addr) : Bool :=
  match K.lookup C with
  | some ⟨.type "type", _, .cls cd, sl⟩ =>
    match cd.mro, sl.toList with
    | .ref C' :: bm, [_, _, _, _, some (.builtin n), _] => ((C' == C && n == "ValueError.__new__") && (!cd.hasDel && PySem.W.tailIn K VE bm)) && (PySem.W.nsOkIn K cd.ns && PySem.W.nsIn K cd.ns "__init__" == some (some (.ref f)))
    | _, _ => false
  | _ => false
/-- what a namespace of the written part holds -/
theorem ns_holds {K : PySem.W.Frag} {h : Heap} {N : Addr} {m : Str → Option Value} {y : Str} {u : Value} (X : K.In h) (G : h.Ns N m) (e : PySem.W.nsIn K N y = some (some u)) : m y = some u := by
  obtain ⟨ob, rows, ep, at_, data, _, look⟩ := G
  unfold PySem.W.nsIn at e
  split at e
  · rename_i c d rows' n' sl found
    have both := X _ _ found
    rw [at_] at both
    cases both
    cases data
    split at e
    · rename_i row has
      cases e
      rw [← look]
      unfold nsFind findBy
      rw [← Array.find?_toList, has]
      rfl
    · split at e <;> cases e
  · cases e
theorem excF_obj {K : PySem.W.Frag} {h : Heap} {C f : Addr} (q : excInF K C f = true) (X : K.In h) : ∃ bm N nm q bs hdct sn sub ab col dd k0 k1 k2 k3 k5 mN, h.get? C = some (excClassObj nm q C N bs bm hdct sn sub ab col dd k0 k1 k2 k3 k5 "ValueError.__new__") ∧ h.Ns N mN ∧ mN "__init__" = some (.ref f) ∧ OwnTail h VE bm := by
  unfold excInF at q
  split at q
  · rename_i dd cd sl ho
    split at q
    · rename_i C' bm k0 k1 k2 k3 n k5 hm hs
      simp only [Bool.and_eq_true, beq_iff_eq, Bool.not_eq_true'] at q
      obtain ⟨⟨⟨rfl, rfl⟩, ⟨hdel, ht⟩⟩, ⟨hok, hni⟩⟩ := q
      obtain ⟨nm, bs, mro, ns, qn, hd, sn, sub, ab, col, del⟩ := cd
      dsimp only at hm hdel hok hni
      subst hm hdel
      have hsl : sl = #[k0, k1, k2, k3, some (.builtin "ValueError.__new__"), k5] := by
        obtain ⟨l⟩ := sl
        simp only at hs
        rw [hs]
      subst hsl
      have hN := Heap.Ns.of_isNs (PySem.W.isNs_of_in X hok)
      exact ⟨bm, ns, nm, qn, bs, hd, sn, sub, ab, col, dd, k0, k1, k2, k3, k5, _, X _ _ ho, hN, ns_holds X hN hni, PySem.W.tail_of_in X ht⟩
    · cases q
  · cases q
section
variable {prog : Program} {w : World} {A : Around} {h : Heap} {g : Array GenState} {d : Drawn} {t : Nat} {os : OsState} {R : Result → Shared → Prop}
variable {nm q : Str} {C N : Addr} {bs bm : List Value} {hdct : Bool} {sn : List Str} {sub : List Value} {ab : Bool} {col : Option Bool} {dd : Option Addr} {k0 k1 k2 k3 k5 : Option Value}
theorem xmake_core {rest : List Value} {mN : Str → Option Value} {f : Addr} (T : OwnTail h VE bm) (hC : h.get? C = some (excClassObj nm q C N bs bm hdct sn sub ab col dd k0 k1 k2 k3 k5 "ValueError.__new__")) (hn : h.Ns N mN) (hi : mN "__init__" = some (.ref f))
    (hb : ∀ (h' : Heap) (self : Value), (∀ b o, h.get? b = some o → h'.get? b = some o) → PySem.W.Looks (model prog w) h' (bindSpecial (.ref f) self) (.ref f, [self])) (hrest : rest.length ≤ sizeLine)
    (hq : codeAny (model prog w) (A.under (.builtin "type.__call__" ⟨.ref C :: rest, []⟩)) (.call (.ref f) ⟨.ref (h.objs.size + 1) :: rest, []⟩) (PySem.W.InitBack (h.objs.size + 1) R) ⟨(h.push { cls := .type "tuple", data := .seq rest.toArray }).push { cls := .ref C, data := .fields #[.ref h.objs.size, .none, .none, .none, .bool false, .none] }, g, d, t, os⟩) :
    codeAny (model prog w) A (.call (.ref C) ⟨rest, []⟩) R ⟨h, g, d, t, os⟩ := by
  have F := PySem.F.excBase_ValueError
  have f1 := tc_lookup
  have f2 := tc_bind (.ref C)
  have hT : (⟨h, g, d, t, os⟩ : Shared).TypeIs (.ref C) "type" := ⟨_, hC, rfl⟩
  refine codeAny_of_tree ?_
  show wpAny _ _ (callAny (.ref C) _) _ _ _
  repeat (any_goals (first | assumption | with_reducible refine wpAny_loadPart_at hC ?_ | wp_step))
  refine ⟨rfl, ?_⟩
  refine codeAny_call_builtin_at (Code.quiet_builtin _ (by decide +kernel)) entry_typeCall (wpAny_check_type_call_sub hC ?_)
  repeat (first | with_reducible refine wpAny_loadPart_at hC ?_ | with_reducible refine wpAny_madeBy_exc hC ?_ | wp_step)
  refine codeAny_call_builtin_code (Code.quiet_builtin _ F.quiet) (wpAny_check_new_subT F T hC ?_)
  refine codeAny_exc_new_subT F T hC ?_ hrest
  show wpAny _ _ _ _ _ _
  have kp : ∀ b o, h.get? b = some o → ((h.push { cls := .type "tuple", data := .seq rest.toArray }).push { cls := .ref C, data := .fields #[.ref h.objs.size, .none, .none, .none, .bool false, .none] }).get? b = some o := fun b o e => Heap.get?_push_of_some _ (Heap.get?_push_of_some _ e)
  have c1 := kp _ _ hC
  have n1 := hn.keeps kp
  have t1 := T.keeps kp
  have b1 := hb _ (.ref (h.objs.size + 1)) kp
  have he : ((h.push { cls := .type "tuple", data := .seq rest.toArray }).push { cls := .ref C, data := .fields #[.ref h.objs.size, .none, .none, .none, .bool false, .none] }).get? (h.objs.size + 1) = some { cls := .ref C, data := .fields #[.ref h.objs.size, .none, .none, .none, .bool false, .none] } := by heap_get
  have hcC : (Value.ref C :: bm).contains (.ref C) = true := by simp
  unfold isInstance
  show wpAny (model prog w) _ _ _ _ ⟨(h.push { cls := .type "tuple", data := .seq rest.toArray }).push { cls := .ref C, data := .fields #[.ref h.objs.size, .none, .none, .none, .bool false, .none] }, g, d, t, os⟩
  repeat (first | with_reducible refine wpAny_loadPart_at he ?_ | (refine wpAny_isSubtype_exc c1 ?_; rw [hcC]) | wp_step)
  show wpAny _ _ (typeLookup (.ref C) _) _ _ _
  refine wpAny_typeLookup_tail c1 n1 t1 F.mroIs F.init.lookup ?_
  rw [hi]
  refine wpAny_holding (wpAny_bind (b1.at ?_))
  refine wpAny_bind (wpAny_call ?_)
  refine codeAny_mono hq fun r s' z => ?_
  rcases r with e | (v | _ | _ | _) <;> first | exact z | exact z.elim | skip
  obtain ⟨rfl, z⟩ := z
  exact wpAny_pure (wpAny_pure z)
end
end L2
namespace L2
open PySem PySem.Spec PyProof.Rows
/-! ### an exception that was made and not raised yet -/
def ExN (a C : Addr) (d : Option Addr) : HO := .ext fun h => ∃ vs sl, h.get? a = some ⟨.ref C, d, .fields vs, sl⟩ ∧ vs[1]? = some .none
theorem exN_ok {P : Program} {w : World} {H : Hp} {h : Heap} {a C : Addr} {d : Option Addr} {vs : Array Value} {sl : Array (Option Value)} (e : h.get? a = some ⟨.ref C, d, .fields vs, sl⟩) (v1 : vs[1]? = some .none) : ObjOk P w H h a (ExN a C d) :=
  ⟨⟨vs, sl, e, v1⟩, ⟨_, e⟩, fun _ _ ⟨vs, sl, q, z⟩ k => ⟨vs, sl, k _ q, z⟩⟩
/-- what a class must say for an attribute of its exceptions to be set -/
structure XSet (K : PySem.W.Frag) (C : Addr) (f : Str) : Prop where
  sa : PySem.W.findIn K (.ref C) "__setattr__" = some (some (.builtin "object.__setattr__"))
  po : overX K C = true
  tk : PySem.W.takerIn K C f = some none
  hd : PySem.W.hasDictIn K C = true
/-- what a class must say to be made, its __init__ at f -/
structure MkX (K : PySem.W.Frag) (C f : Addr) : Prop where
  ex : excInF K C f = true
  fn : PySem.W.isFn K (.ref f) = true
  kp : PySem.W.keepIn K (.ref C) = true
section
variable {X : Cx} {pins : List (Addr × Obj)} {σ : St} {H : Hp} {s : Shared} {A : Around} {E : Value → Shared → Prop}
theorem xset_ok {a C : Addr} {f : Str} {y : V} {u : Value} {Q : Unit → Shared → Prop} (I : Inv X pins σ H s) (ea : H a = some (ExN a C none)) (c : XSet X.K C f) (ry : RelV y u)
    (h : ∀ dx s', H dx = none → dx ≠ a → Inv X pins σ (upd (upd H dx (.xd [(f, y)])) a (ExN a C (some dx))) s' → Q () s') : wpAny (model X.prog X.w) A (setAttr (.ref a) f u) Q E s := by
  obtain ⟨⟨vs, sl, e, v1⟩, _, _⟩ := (show ObjOk X.prog X.w H s.heap a (ExN a C none) from I.hok a _ ea)
  have ne : s.heap.objs.size ≠ a := fun z => Nat.lt_irrefl _ (z ▸ Heap.lt_size e)
  have nd : H s.heap.objs.size = none := I.hok.fresh (Nat.le_refl _)
  refine xset_new I.kIn e c.sa c.po c.tk c.hd fun h' ex hn kp => h s.heap.objs.size _ nd ne ?_
  obtain ⟨od, es, ep, e2, rest⟩ := id hn
  have e3 : (s.heap.push od).get? s.heap.objs.size = some od := Heap.get?_push_size s.heap (by obtain ⟨d, _⟩ := rest; exact Obj.isFreed_of_dict d)
  have hm : (s.heap.push od).Ns1 s.heap.objs.size (fun y => if y = f then some u else none) := ⟨od, es, ep, e3, rest⟩
  have I1 : Inv X pins σ (upd H s.heap.objs.size (.xd [(f, y)])) { s with heap := s.heap.push od, toks := s.toks + 2 } := by
    refine I.laid (fun b o q => Heap.get?_push_of_some _ q) (Nat.le_refl _) ⟨_, hm, fun g => ?_⟩
    show RelO (List.lookup g [(f, y)]) (if g = f then some u else none)
    by_cases q : g = f
    · rw [if_pos q, q, List.lookup_cons_self]; exact ry
    · rw [if_neg q]
      have : (g == f) = false := by simpa using q
      rw [List.lookup_cons, this]
      exact True.intro
  refine Inv.write (s := { s with heap := s.heap.push od, toks := s.toks + 2 }) (x := a) (e := a) (t' := s.toks + 2) I1 (by rw [upd_ne (Ne.symm ne), ea]; exact True.intro) (.inl rfl) (fun b o hb q => ?_) ⟨_, ex⟩ (exN_ok ex v1)
  by_cases hbs : b = s.heap.objs.size
  · subst hbs
    have q' : (s.heap.push od).get? s.heap.objs.size = some o := q
    rw [e3] at q'
    cases q'
    exact e2
  · have q' : (s.heap.push od).get? b = some o := q
    rw [Heap.get?_push_ne _ _ _ hbs] at q'
    exact kp b o hb q'
/-- o.f = value, o an exception that was made and has no dict yet -/
def sXFld (K : PySem.W.Frag) (ta tv : TE) (f : Str) : TS := fun D σ H => tv σ H fun y H1 => ta σ H1 fun x H2 => ∃ a C, x = .ref a ∧ H2 a = some (ExN a C none) ∧ XSet K C f ∧ ∀ dx, H2 dx = none → dx ≠ a → D.nx σ (upd (upd H2 dx (.xd [(f, y)])) a (ExN a C (some dx)))
theorem ps_xfld {o value : Expr} {f : Str} {pos pos' : Pos} {ta tv : TE} (ha : PE X o ta) (hv : PE X value tv) (hs : swapsWith value (some (.Attribute o f pos')) pos.line X.env = pure false) : PS X (.Assign [.Attribute o f pos'] value pos) (sXFld X.K ta tv f) := by
  intro pins s σ H D I h
  refine plainObj_wpAny_Assign_Attribute (thn (hv pins s σ H _ I h) fun u s1 ⟨y, H1, I1, ry, q⟩ => thn (ha pins s1 σ H1 _ I1 q) fun ov s2 ⟨x, H2, I2, rx, a, C, ex, ea, c, q2⟩ => ?_) hs
  subst ex
  obtain rfl : ov = Value.ref a := rx
  exact xset_ok I2 ea c ry fun dx s3 n1 n2 I3 => ⟨σ, _, I3, q2 dx n1 n2⟩
/-- C(..): a new exception, then __init__ -/
def tXMake (C : Addr) (sp : Sp) (E : XK) (t : TA) : TE := fun σ H Q => t σ H fun vs H1 => vs.length ≤ sizeLine ∧ ∀ x, H1 x = none → sp (.ref x :: vs) (upd H1 x (ExN x C none)) (fun v H2 => v = .non ∧ Q (.ref x) H2) E
section
variable {CX : CXT} {k : Nat} {f C : Addr} {fd : FuncData} {ps : List Str} {sp : Sp} {E : XK} {x : Str} {p pos : Pos} {e : Expr} {es : List Expr} {t : TA}
theorem run_xmake {Q : VK} {us : List Value} {vs : List V} (M : MkX X.K C f) (F : FnOk X.prog X.w X.K X.mg X.base CX k f fd ps sp) (hr : Room (k + 1) X.A) (hb : Binds X.K fd ps []) (hx : Passes CX X E) (I : Inv X pins σ H s) (r : Vals vs us)
    (hl : vs.length ≤ sizeLine) (h : ∀ x, H x = none → sp (.ref x :: vs) (upd H x (ExN x C none)) (fun v H2 => v = .non ∧ Q (.ref x) H2) E) : wpAny (model X.prog X.w) X.A (call (.ref C) us) (EP X pins σ Q) X.xe s := by
  obtain ⟨bm, N, nm, q, bs, hdct, sn, sub, ab, col, dd, k0, k1, k2, k3, k5, mN, hC, hN, hi, T⟩ := excF_obj M.ex I.kIn
  have kp : ∀ b o, s.heap.get? b = some o → ((s.heap.push { cls := .type "tuple", data := .seq us.toArray }).push { cls := .ref C, data := .fields #[.ref s.heap.objs.size, .none, .none, .none, .bool false, .none] }).get? b = some o := fun b o e => Heap.get?_push_of_some _ (Heap.get?_push_of_some _ e)
  have ex : ((s.heap.push { cls := .type "tuple", data := .seq us.toArray }).push { cls := .ref C, data := .fields #[.ref s.heap.objs.size, .none, .none, .none, .bool false, .none] }).get? (s.heap.objs.size + 1) = some ⟨.ref C, none, .fields #[.ref s.heap.objs.size, .none, .none, .none, .bool false, .none], #[]⟩ := by heap_get
  have I2 : Inv X pins σ (upd H (s.heap.objs.size + 1) (ExN (s.heap.objs.size + 1) C none)) { s with heap := (s.heap.push { cls := .type "tuple", data := .seq us.toArray }).push { cls := .ref C, data := .fields #[.ref s.heap.objs.size, .none, .none, .none, .bool false, .none] } } :=
    I.laid (t' := s.toks) kp (Nat.le_succ _) (exN_ok ex rfl)
  have hq := h (s.heap.objs.size + 1) (I.hok.fresh (Nat.le_succ _))
  have r2 : Vals (V.ref (s.heap.objs.size + 1) :: vs) (Value.ref (s.heap.objs.size + 1) :: us) := .cons rfl r
  have hl2 : (Value.ref (s.heap.objs.size + 1) :: us ++ []).length = ps.length := by
    rw [List.append_nil, ← r2.length]
    exact F.len _ _ _ _ hq
  have hb2 := hb _ (Value.ref (s.heap.objs.size + 1) :: us) I2.kIn hl2
  rw [List.append_nil] at hb2
  obtain ⟨hp, gs, dr, tk, os⟩ := s
  refine wpAny_call (xmake_core (f := f) T hC hN hi (fun h' self k => PySem.W.bind_fn (fun b o e => k b o (I.kIn b o e)) self (beq_iff_eq.mp M.fn)) (by rw [← r.length]; exact hl) ?_)
  refine codeAny_mono (F.run _ X.stack _ _ ⟨Value.ref (hp.objs.size + 1) :: us, []⟩ (Value.ref (hp.objs.size + 1) :: us) _ _ E (hr.make C us []) (I2.env0.make C us []) hb2 r2 hq) fun r s' hq' => ?_
  cases r with
  | error e => exact hx pins σ _ _ e s' I2 hq'
  | ok fl =>
    cases fl with
    | ret u =>
      obtain ⟨v, H', I3, rv, ev, q3⟩ := I2.after hq'
      subst ev
      exact ⟨rv, ⟨V.ref (hp.objs.size + 1), H', I3, rfl, q3⟩⟩
    | next => exact False.elim hq'
    | brk => exact False.elim hq'
    | cont => exact False.elim hq'
theorem pe_xmake (M : MkX X.K C f) (F : FnOk X.prog X.w X.K X.mg X.base CX k f fd ps sp) (hr : Room (k + 1) X.A) (hg : Gl X x) (hm : X.mg x = some (.ref C)) (hb : Binds X.K fd ps []) (hx : Passes CX X E)
    (ha : PA X (e :: es) t) (hdb : (x == ("__debug__" : Str)) = false := by decide) (he : starEach (e :: es) X.env = (false, eval e X.env) :: starEach es X.env := by rfl) (hpl : (backTo pos (starEach es X.env)).any (·.1) = false := by rfl) :
    PE X (.Call (.Name x p) (e :: es) [] pos) (tXMake C sp E t) := by
  intro pins s σ H Q I h
  refine wpAny_Call_Name_kw (ld_glob I hg hm ?_ hdb)
  refine PySem.W.callWith_K (h₀ := X.base) I.ok.mod.kin M.kp (thn (ha pos pins s σ H _ I h) fun us s1 ⟨vs, H1, I1, r, hl, q⟩ => ⟨I1.kIn, ?_⟩) he hpl
  exact run_xmake M F hr hb hx I1 r hl q
end
end
end L2
namespace L2
open PySem PySem.Spec PyProof.Rows
/-! ### raise e, e made by C(..) -/
/-- all but x -/
def drop (H : Hp) (x : Addr) : Hp := fun b => if b = x then none else H b
theorem drop_ne {H : Hp} {x b : Addr} (h : b ≠ x) : drop H x b = H b := by unfold drop; rw [if_neg h]
theorem drop_same {H : Hp} {x : Addr} : drop H x x = none := by unfold drop; rw [if_pos rfl]
section
variable {M : Model} {A : Around} {E : Value → Shared → Prop} {env : Env} {nm q : Str} {C N : Addr} {bs bm : List Value} {hdct : Bool} {sn : List Str} {sub : List Value} {ab : Bool} {col : Option Bool} {dd : Option Addr} {k0 k1 k2 k3 k5 : Option Value} {newId : String}
theorem raise_made {s : Shared} {x : Sem Value} {Q : Flow → Shared → Prop} (hbase : bm.contains (.type "BaseException") = true) (hh : A.handled = none)
    (h : wpAny M A x (fun v s₁ => ∃ e d vs sl, v = .ref e ∧ s₁.heap.get? C = some (excClassObj nm q C N bs bm hdct sn sub ab col dd k0 k1 k2 k3 k5 newId) ∧ s₁.heap.get? e = some ⟨.ref C, d, .fields vs, sl⟩ ∧ vs[1]? = some .none ∧ E (.ref e) s₁) E s) :
    wpAny M A (raiseStmt env (some x) none) Q E s := by
  have has : (Value.ref C :: bm).contains (.type "BaseException") = true := by rw [List.contains_cons, hbase, Bool.or_true]
  unfold raiseStmt
  refine wpAny_bind (wpAny_mono h (fun v s₁ h₁ => ?_) fun _ _ x => x)
  obtain ⟨e, d, vs, sl, rfl, hC, he, v1, hE⟩ := h₁
  obtain ⟨hp, g, dr, tk, os⟩ := s₁
  repeat (first | with_reducible refine wpAny_loadPart_at he ?_ | with_reducible refine wpAny_loadPart_at hC ?_ | (with_reducible refine wpAny_isSubtype_exc hC ?_; rw [has]) | wp_step)
  rw [v1]
  refine wpAny_pure ?_
  rw [if_neg (by decide)]
  exact wpAny_pure (wpAny_raiseNew_none hh hE)
end
/-- an exception that was made in this body begins to fly -/
def StartsD (X : Cx) (E : XK) : Prop := ∀ (pins : List (Addr × Obj)) (σ : St) (H : Hp) (s : Shared) (x C : Addr) (d : Option Addr), Inv X pins σ H s → H x = some (ExN x C d) → X.H₀ x = none → E (.ref C) d (drop H x) → X.xe (.ref x) s
def tRaiseV (X : Cx) (E : XK) (C : Addr) (te : TE) : TS := fun _ σ H => te σ H fun v H1 => ∃ a d, v = .ref a ∧ H1 a = some (ExN a C d) ∧ X.H₀ a = none ∧ E (.ref C) d (drop H1 a)
theorem excF_cls {K : PySem.W.Frag} {C f : Addr} (q : excInF K C f = true) : ∃ bm N nm q bs hdct sn sub ab col dd k0 k1 k2 k3 k5, ∀ h : Heap, K.In h → h.get? C = some (excClassObj nm q C N bs bm hdct sn sub ab col dd k0 k1 k2 k3 k5 "ValueError.__new__") ∧ OwnTail h VE bm := by
  unfold excInF at q
  split at q
  · rename_i dd cd sl ho
    split at q
    · rename_i C' bm k0 k1 k2 k3 n k5 hm hs
      simp only [Bool.and_eq_true, beq_iff_eq, Bool.not_eq_true'] at q
      obtain ⟨⟨⟨rfl, rfl⟩, ⟨hdel, ht⟩⟩, _⟩ := q
      obtain ⟨nm, bs, mro, ns, qn, hd, sn, sub, ab, col, del⟩ := cd
      dsimp only at hm hdel
      subst hm hdel
      have hsl : sl = #[k0, k1, k2, k3, some (.builtin "ValueError.__new__"), k5] := by
        obtain ⟨l⟩ := sl
        simp only at hs
        rw [hs]
      subst hsl
      exact ⟨bm, ns, nm, qn, bs, hd, sn, sub, ab, col, dd, k0, k1, k2, k3, k5, fun h X => ⟨X _ _ ho, PySem.W.tail_of_in X ht⟩⟩
    · cases q
  · cases q
theorem ps_raiseV {X : Cx} {E : XK} {C f : Addr} {e : Expr} {te : TE} {pos : Pos} (hs : StartsD X E) (hc : X.calm = true) (K : MkX X.K C f) (he : PE X e te) : PS X (.Raise (some e) none pos) (tRaiseV X E C te) := by
  intro pins s σ H D I h
  obtain ⟨bm, N, nm, q, bs, hdct, sn, sub, ab, col, dd, k0, k1, k2, k3, k5, cls⟩ := excF_cls K.ex
  have run : wpAny (model X.prog X.w) X.A (eval e X.env) (fun v s₁ => ∃ x d vs sl, v = .ref x ∧ s₁.heap.get? C = some (excClassObj nm q C N bs bm hdct sn sub ab col dd k0 k1 k2 k3 k5 "ValueError.__new__") ∧ s₁.heap.get? x = some ⟨.ref C, d, .fields vs, sl⟩ ∧ vs[1]? = some .none ∧ X.xe (.ref x) s₁) X.xe s := by
    refine thn (he pins s σ H _ I h) fun v s1 ⟨x, H1, I1, rx, a, d, ex, ea, n0, q1⟩ => ?_
    subst ex
    obtain rfl : v = Value.ref a := rx
    obtain ⟨⟨vs, sl, at_, v1⟩, _, _⟩ := (show ObjOk X.prog X.w H1 s1.heap a (ExN a C d) from I1.hok a _ ea)
    exact ⟨a, d, vs, sl, rfl, (cls _ I1.kIn).1, at_, v1, hs pins σ H1 s1 a C d I1 ea n0 q1⟩
  rw [arm_exec_Raise]
  have hb := (cls _ I.kIn).2.hasType PySem.F.excBase_ValueError.hasBase
  first
    | exact wpAny_bind (wpAny_standAt (raise_made hb (I.ok.hd hc) (wpAny_bind (wpAny_mono run (fun v s₃ h₃ => wpAny_bind (wpAny_standAt (wpAny_pure h₃))) fun _ _ x => x))))
    | (simp only [evalOpt, Option.map]; exact wpAny_bind (wpAny_standAt (raise_made hb (I.ok.hd hc) (wpAny_bind (wpAny_mono run (fun v s₃ h₃ => wpAny_bind (wpAny_standAt (wpAny_pure h₃))) fun _ _ x => x)))))
section
variable {P : Program} {w : World} {K : PySem.W.Frag} {mg : Str → Option Value} {base : Heap} {N : List Str} {qual : Str} {scope : Scope} {f : Addr} {cd : Value} {A : Around} {outer : List Env} {s₀ : Shared} {H₀ : Hp} {E : XK}
theorem startsD_cx : StartsD (cxOf (CXE P w) P w K mg base N qual scope f cd A outer s₀ H₀ E) E := by
  intro pins σ H s x C d I ex n0 q
  show wpAny _ _ (leaving _ _) _ _ s
  have hfr := I.ok.frames
  have hsf : frs (cxOf (CXE P w) P w K mg base N qual scope f cd A outer s₀ H₀ E).stack = s₀.heap.objs.size :: frs outer := stack_frs rfl rfl
  obtain ⟨⟨vs, sl, at_, v1⟩, _, _⟩ := (show ObjOk P w H s.heap x (ExN x C d) from I.hok x _ ex)
  have noex : ∀ b : Addr, b ∉ (cxOf (CXE P w) P w K mg base N qual scope f cd A outer s₀ H₀ E).ex := fun b z => by simp [cxOf] at z
  have nx : s₀.heap.get? x = none := by
    cases z : s₀.heap.get? x with
    | none => rfl
    | some o =>
      have := I.base.free x o z n0 (noex x)
      rw [ex] at this
      cases this
  generalize hst : frs (cxOf (CXE P w) P w K mg base N qual scope f cd A outer s₀ H₀ E).stack = st at hsf
  let B := PySem.W.hideAll s.heap (x :: st)
  have hB : B.StaysIn s.heap := fun b o e => PySem.W.of_hideAll _ e
  have bget : ∀ b o, s.heap.get? b = some o → b ≠ x → b ∉ st → B.get? b = some o := fun b o e n1 n2 => PySem.W.hideAll_get _ e fun z => (List.mem_cons.mp z).elim n1 n2
  have bx : B.get? x = none := PySem.W.hideAll_none _ List.mem_cons_self
  have fn : s.heap.FunFrames B (cxOf (CXE P w) P w K mg base N qual scope f cd A outer s₀ H₀ E).stack := frames_base (fun b hb => PySem.W.hideAll_none _ (List.mem_cons_of_mem _ (hst ▸ hb))) I.stack
  have ofD : ∀ b o, drop H x b = some o → b ≠ x ∧ H b = some o := fun b o e => by
    have hb : b ≠ x := fun z => by rw [z, drop_same] at e; cases e
    exact ⟨hb, by rw [drop_ne hb] at e; exact e⟩
  have toD : ∀ b u, H b = some u → u ≠ ExN x C d → drop H x b = some u := fun b u e n => by
    have hb : b ≠ x := ne_of e ex n
    rw [drop_ne hb]
    exact e
  have covT : ∀ b o, drop H x b = some o → ∃ o', B.get? b = some o' := fun b o e => by
    obtain ⟨hb, e'⟩ := ofD b o e
    obtain ⟨u, hu⟩ : ∃ u, s.heap.get? b = some u := (I.hok b o e').there
    refine ⟨u, bget b u hu hb fun z => ?_⟩
    rw [I.stkFree b (hst ▸ z)] at e'
    cases e'
  have hk : HOk P w (drop H x) s.heap := fun b o e => by
    obtain ⟨hb, e'⟩ := ofD b o e
    exact (I.hok b o e').stay (fun _ _ _ z => z) (fun c z => toD c _ z (by intro y; cases y)) fun c xs z => toD c _ z (by intro y; cases y)
  refine leave_frame (s := s) (B := B) (L := s₀.heap.objs.size) hfr rfl hB fn ⟨bx, sl, at_⟩ (.inl v1) fun h2 ws _ xa' ta' m => ?_
  have u2 : Un st [] H (drop H x) s.heap h2 := by
    refine ⟨fun b o e n hb _ => ?_, fun b o e n hb _ => ?_, fun b o e n _ => ?_, fun b o e _ => ?_, fun b xs e => toD b _ e (by intro y; cases y), fun b o u e => toD b _ e (by intro y; cases y), fun b ps e => ⟨#[], by rw [toD b _ e (by intro y; cases y)]; simp⟩⟩
    · exact m.stay b o (bget b o e (fun z => by rw [z, ex] at n; cases n) hb)
    · exact m.slot b (hst ▸ hb) o e
    · by_cases hb : b = x
      · rw [hb]; exact drop_same
      · rw [drop_ne hb]; exact n
    · by_cases hb : b = x
      · obtain ⟨_, sl', e'⟩ := xa'
        exact ⟨_, by rw [hb]; exact e'⟩
      · by_cases hs : b ∈ st
        · obtain ⟨sl', e'⟩ := m.slot b (hst ▸ hs) o e
          exact ⟨_, e'⟩
        · exact ⟨o, m.stay b o (bget b o e hb hs)⟩
  refine ⟨x, C, d, drop H x, B, rfl, I.os, I.bare, ⟨?_, hok_moved hk hB covT m.stay, m.stay, m.funs.2.2, fun b o e hb => ?_, covT, ws, xa', ta'⟩, q⟩
  · exact leave_un (L := s₀.heap.objs.size) (B := B) (Nat.le_refl _) I.base (hsf ▸ u2)
  · obtain ⟨o1, e1⟩ := I.base.there b o e (noex b)
    refine ⟨o1, bget b o1 e1 (fun z => by rw [z, nx] at e; cases e) fun z => ?_⟩
    rw [hsf] at z
    exact (List.mem_cons.mp z).elim (Nat.ne_of_lt (Heap.lt_size e)) hb
end
end L2
namespace L2
open PySem PySem.Spec PyProof.Rows
/-! ### e.f, e a caught exception with a dict -/
def tXGet (K : PySem.W.Frag) (ta : TE) (f : Str) : TE := fun σ H Q => ta σ H fun x H1 => ∃ a C dx fs l, x = .ref a ∧ H1 a = some (ExO a C (some dx)) ∧ H1 dx = some (.xd fs) ∧ XCls K C ∧ PySem.W.findIn K (.ref C) f = some none ∧ fs.lookup f = some (.ref l) ∧ Q (.ref l) H1
end L2
namespace L2
open PySem PySem.Spec PyProof.Rows
/-! ### sep.join(list of texts) -/
theorem vals_strs : ∀ {ss : List Str} {us : List Value}, Vals (ss.map V.str) us → ∃ l : List (Str × Tok), us = strValues l ∧ l.map (·.1) = ss
  | [], _, .nil => ⟨[], rfl, rfl⟩
  | x :: ss, _, .cons r q => by
    obtain ⟨l, rfl, e⟩ := vals_strs q
    obtain ⟨t, rfl⟩ := r
    exact ⟨(x, t) :: l, rfl, by rw [List.map_cons, e]⟩
def rJoin : V → List V → Hp → VK → Prop := fun x vs H Q => ∃ sep l ss, x = .str sep ∧ vs = [.ref l] ∧ H l = some (.lst (ss.map V.str)) ∧ JoinOk sep ss = true ∧ Q (.str (Txt.join sep ss)) H
section
variable {X : Cx}
theorem mt_join : MtM X "str.join" rJoin := by
  intro pins s σ H x vs v us Q I rx rv h
  obtain ⟨sep, l, ss, rfl, rfl, hH, hok, q⟩ := h
  obtain ⟨t, rfl⟩ := rx
  obtain ⟨u, rfl, ru⟩ := rv.one
  cases ru
  obtain ⟨z, its, n, r, hl, e⟩ := I.lstM hH
  obtain ⟨L, rfl, hL⟩ := vals_strs r
  refine SC.join (l := L) ⟨_, e, rfl, n, rfl⟩ hL hok fun t' k => ?_
  exact ⟨.str _, _, I.tok k, ⟨t', rfl⟩, q⟩
end
/-! ### e.f, whatever stands there -/
def tXGetV (K : PySem.W.Frag) (ta : TE) (f : Str) : TE := fun σ H Q => ta σ H fun x H1 => ∃ a C dx fs v, x = .ref a ∧ H1 a = some (ExO a C (some dx)) ∧ H1 dx = some (.xd fs) ∧ XCls K C ∧ PySem.W.findIn K (.ref C) f = some none ∧ fs.lookup f = some v ∧ Q v H1
theorem pe_xgetV {X : Cx} {e : Expr} {f : Str} {pos : Pos} {ta : TE} (he : PE X e ta) (hb : attributeBase e f X.env (eval e X.env) = eval e X.env) : PE X (.Attribute e f pos) (tXGetV X.K ta f) := by
  intro pins s σ H Q I h
  refine attr_of hb (thn (he pins s σ H _ I h) fun u s1 ⟨x, H1, I1, rx, a, C, dx, fs, v, ex, ea, ed, xc, na, lk, q⟩ => ?_)
  subst ex
  obtain rfl : u = Value.ref a := rx
  obtain ⟨⟨vs, sl, at_⟩, _, _⟩ := (show ObjOk X.prog X.w H1 s1.heap a (ExO a C (some dx)) from I1.hok a _ ea)
  obtain ⟨mA, ns1, rel⟩ := (show ObjOk X.prog X.w H1 s1.heap dx (.xd fs) from I1.hok dx _ ed)
  obtain ⟨od, ho, hl⟩ := lookIn_ns ns1
  have J : PySem.W.InstAt s1.heap a ⟨.ref C, some dx, .fields vs, sl⟩ C (some od) := ⟨at_, rfl, rfl, ho⟩
  have hm : ∃ y, mA f = some y ∧ RelV v y := by
    have r := rel f
    rw [lk] at r
    cases e : mA f with
    | none => rw [e] at r; exact absurd r id
    | some y => rw [e] at r; exact ⟨y, rfl, r⟩
  obtain ⟨y, hy, ry⟩ := hm
  refine xc_field xc I1.kIn J (PySem.W.findObj_own xc.hd na rfl (by rw [hl, hy])) (handed_of ry) ⟨v, H1, I1.tok _, ry, q⟩
end L2
namespace L2
open PySem PySem.Spec PyProof.Rows
section
variable {X : Cx}
/-- t + u -/
def rCatA : R2 := fun x y H Q => ∃ a b xs ys, x = .ref a ∧ y = .ref b ∧ H a = some (.tup xs) ∧ H b = some (.tup ys) ∧ xs.length + ys.length ≤ sizeLine ∧ ∀ p H', Same H H' → H' p = some (.tup (xs ++ ys)) → Q (.ref p) H'
end
end L2
namespace L2
open PySem PySem.Spec PyProof.Rows
/-! ### t * n, t not empty, n from 2 on -/
section
variable {X : Cx}
def rRepT : R2 := fun x y H Q => ∃ (a : Addr) (xs : List V) (k : Nat), x = .ref a ∧ y = .int k ∧ H a = some (.tup xs) ∧ xs ≠ [] ∧ 2 ≤ k ∧ xs.length * k ≤ 1000 ∧ ∀ p, H p = none → Q (.ref p) (upd H p (.tup (List.replicate k xs).flatten))
end
end L2
namespace L2
open PySem PySem.Spec PyProof.Rows
/-! ### xs.index(text) -/
def rIndexS : V → List V → Hp → VK → Prop := fun x vs H Q => ∃ (l : Addr) (z : Str) (zs : List Str) (j : Nat), x = .ref l ∧ vs = [.str z] ∧ H l = some (.lst (zs.map V.str)) ∧ zs.length ≤ 1000 ∧ zs[j]? = some z ∧ (∀ i, i < j → zs[i]? ≠ some z) ∧ Q (.int j) H
def isStrV (z : Str) : Value → Bool
  | .str x _ => x.cps.toList == z.cps.toList
  | _ => false
theorem cps_eq {x z : Str} (h : (x.cps.toList == z.cps.toList) = true) : x = z := by
  have e := eq_of_beq h
  cases x
  cases z
  simp only [Str.mk.injEq]
  exact Array.toList_inj.mp e
theorem vals_strAt : ∀ {zs : List Str} {us : List Value}, Vals (zs.map V.str) us → ∀ (i : Nat) v, us[i]? = some v → ∃ x t, zs[i]? = some x ∧ v = .str x t
  | [], _, r, i, v, e => by cases r; simp at e
  | b :: bs, _, .cons r t, 0, v, e => by
    simp at e
    subst e
    obtain ⟨t', rfl⟩ := r
    exact ⟨b, t', rfl, rfl⟩
  | b :: bs, _, .cons r t, i + 1, v, e => by
    obtain ⟨c, t', h1, h2⟩ := vals_strAt t i v (by simpa using e)
    exact ⟨c, t', by simpa using h1, h2⟩
section
variable {X : Cx}
theorem mt_index : MtM X "list.index" rIndexS := by
  intro pins s σ H x vs v us Q I rx rv h
  obtain ⟨l, z, zs, j, rfl, rfl, hH, hz, hj, hno, q⟩ := h
  cases rx
  obtain ⟨u, rfl, ru⟩ := rv.one
  obtain ⟨t, rfl⟩ := ru
  obtain ⟨z', its, n, r, hl, e⟩ := I.lstM hH
  have hlen : zs.length = its.length := by rw [← hl, List.length_map]
  have hjl : j < its.length := by
    have := (List.getElem?_eq_some_iff.mp hj).1
    omega
  refine call_meets F.slot_list_index ⟨_, e, rfl⟩ F.entry_list_index (F.args_list_index_2 _ _) (PySem.MeetsSeq.list_index l its.toArray n (.str z t) (isStrV z) (fun y hy => ?_) j (by rw [List.size_toArray]; exact hjl) (by omega) ?_ ?_) ⟨e, ?_⟩
  · obtain ⟨i, hi⟩ := List.getElem?_of_mem (show y ∈ its by simpa using hy)
    obtain ⟨x, t', _, rfl⟩ := vals_strAt r i y hi
    exact PySem.SeqRoads2.EqGives.str x z t' t
  · obtain ⟨x, t', hx, ev⟩ := vals_strAt r j its[j] (List.getElem?_eq_getElem hjl)
    show isStrV z its[j] = true
    rw [ev]
    rw [hj] at hx
    cases hx
    exact beq_self_eq_true _
  · intro m hm hmj
    have hml : m < its.length := by simpa using hm
    obtain ⟨x, t', hx, ev⟩ := vals_strAt r m its[m] (List.getElem?_eq_getElem hml)
    show isStrV z its[m] = false
    rw [ev, Bool.eq_false_iff]
    intro h
    have ex := cps_eq h
    subst ex
    exact hno m hmj hx
  exact ⟨.int j, H, I.tok _, ⟨_, rfl⟩, q⟩
end
end L2
namespace L2
open PySem PySem.Spec PyProof.Rows
section
variable {X : Cx} {K : PySem.W.Frag} {o e : Expr} {es : List Expr} {to : TE} {t : TA} {name : Str} {apos cpos : Pos} {T id : String} {r : V → List V → Hp → VK → Prop}
/-- .. in a comprehension -/
theorem pe_bmC (hK : X.K = K) (pa : PlainAttrs T) (slot : Slot T name id) (hty : typeOf (.builtin id) = pure (.type "method_descriptor")) (hm : MtR X id r) (ho : PE X o to) (ha : PA X (e :: es) t)
    (hbase : attributeBase o name X.env (eval o X.env) = eval o X.env := by rfl)
    (hfew : ((backTo cpos (starEach (e :: es) X.env)).all (fun x => !x.1) && (backToKw cpos (keywordEach [] X.env)).all (fun x => x.1.isSome)
      && decide ((e :: es).length + ([] : List Keyword).length + (if ([] : List Keyword).isEmpty then 0 else 1) < 30)) = true := by rfl)
    (hline : (apos.endLine == cpos.line) = true := by rfl) (hs : starEach (e :: es) X.env = (false, eval e X.env) :: starEach es X.env := by rfl) (hplain : (backTo cpos (starEach es X.env)).any (·.1) = false := by rfl) :
    PE X (.Call (.Attribute o name apos) (e :: es) [] cpos) (tBM K T r to t) := hK ▸ pe_bm pa slot hty hm ho ha hbase hfew hline hs hplain
end
end L2
namespace L2
open PySem PySem.Spec PyProof.Rows
/-! ### texts: split, partition, endswith, int(text), f"..", and the mathematics of them -/
theorem vals_of_strs : ∀ (l : List (Str × Tok)), Vals ((l.map (·.1)).map V.str) (strValues l)
  | [] => .nil
  | p :: r => .cons ⟨p.2, rfl⟩ (vals_of_strs r)
def rSplit : V → List V → Hp → VK → Prop := fun x vs H Q => ∃ z y, x = .str z ∧ vs = [.str y] ∧ (y.length == 0) = false ∧ z.length ≤ 4000 ∧ ∀ p, H p = none → Q (.ref p) (upd H p (.lst ((Txt.split z y).map V.str)))
def rPart : V → List V → Hp → VK → Prop := fun x vs H Q => ∃ z y, x = .str z ∧ vs = [.str y] ∧ (y.length == 0) = false ∧ z.length ≤ 4000 ∧ ∀ p, H p = none → Q (.ref p) (upd H p (.tup [.str (Txt.partition z y).1, .str (Txt.partition z y).2.1, .str (Txt.partition z y).2.2]))
def rEnds : V → List V → Hp → VK → Prop := fun x vs H Q => ∃ z y, x = .str z ∧ vs = [.str y] ∧ Q (.bl (Txt.endswith z y)) H
section
variable {X : Cx}
theorem mt_split : MtM X "str.split" rSplit := by
  intro pins s σ H x vs v us Q I rx rv h
  obtain ⟨z, y, rfl, rfl, hy, hz, q⟩ := h
  obtain ⟨t, rfl⟩ := rx
  obtain ⟨u', rfl, u, rfl⟩ := rv.one
  have hsz : z.length + 2 ≤ sizeLine := by rw [sizeLine_eq]; omega
  have key : ∀ (l : List (Str × Tok)) (k : Nat), l.map (·.1) = Txt.split z y → EP X pins σ Q (.ref s.heap.objs.size) { s with heap := s.heap.push { cls := .type "list", data := .seq (strValues l).toArray }, toks := k } := fun l k e => by
    have hv := vals_of_strs l
    rw [e] at hv
    have hle := split_le z y
    exact ⟨.ref _, _, I.lnew (t' := k) hv (by rw [List.length_map]; omega), rfl, q _ I.fresh⟩
  have hn : (Builtin.Str.partsBetween z (Builtin.Str.occurrences z y 0 z.length (z.length + 1)) y.length).length ≤ sizeLine := by
    have e1 := StrLaws.occ_length_le z y 0 z.length (z.length + 1)
    rw [length_partsBetween]; omega
  cases h1 : (decide (z.length < y.length) || decide (Builtin.Str.strKind z < Builtin.Str.strKind y))
  · cases hf : (Builtin.Str.occurrences z y 0 z.length (z.length + 1)).isEmpty
    · refine call_meets F.slot_str_split (typeIs_str _ _ _) F.entry_str_split (F.args_str_split_2 _ _) (meets_str_split_sep z y t u h1 hy hf (by omega) hn) ?_
      rw [strsFrom_eq]
      exact key (numbered s.toks _) _ ((numbered_texts _ _).trans ((if_neg (ne_true_of_eq_false h1)).trans (if_neg (ne_true_of_eq_false hf))).symm)
    · exact call_meets F.slot_str_split (typeIs_str _ _ _) F.entry_str_split (F.args_str_split_2 _ _) (meets_str_split_not_found z y t u h1 hy hf) (key [(z, t)] s.toks ((if_neg (ne_true_of_eq_false h1)).trans (if_pos hf)).symm)
  · exact call_meets F.slot_str_split (typeIs_str _ _ _) F.entry_str_split (F.args_str_split_2 _ _) (meets_str_split_cannot_occur z y t u h1) (key [(z, t)] s.toks (if_pos h1).symm)
theorem mt_partition : MtM X "str.partition" rPart := by
  intro pins s σ H x vs v us Q I rx rv h
  obtain ⟨z, y, rfl, rfl, hy, hz, q⟩ := h
  obtain ⟨t, rfl⟩ := rx
  obtain ⟨u', rfl, u, rfl⟩ := rv.one
  have key : ∀ (a b c : Str) (ta tb tc : Tok) (k : Nat), (Txt.partition z y) = (a, b, c) → EP X pins σ Q (.ref s.heap.objs.size) { s with heap := s.heap.push { cls := .type "tuple", data := .seq [Value.str a ta, .str b tb, .str c tc].toArray }, toks := k } := fun a b c ta tb tc k e => by
    rw [e] at q
    refine ⟨.ref _, _, I.laid (t' := k) (fun b o e => Heap.get?_push_of_some _ e) (Nat.le_refl _) (show ObjOk X.prog X.w _ _ _ (.tup [.str a, .str b, .str c]) from ⟨by show 3 ≤ sizeLine; decide, _, .cons ⟨ta, rfl⟩ (.cons ⟨tb, rfl⟩ (.cons ⟨tc, rfl⟩ .nil)), IsTup.new _ _⟩), rfl, q _ I.fresh⟩
  refine call_meets F.slot_str_partition (typeIs_str _ _ _) F.entry_str_partition (F.args_str_partition_2 _ _) (meets_str_partition z y t u hy (by rw [sizeLine_eq]; omega)) ?_
  have e : ∀ r, r = Txt.partition z y → Txt.partition z y = r := fun _ h => h.symm
  unfold Txt.partition at e
  revert e
  cases eo : Builtin.Str.occurrences z y 0 z.length 1 with
  | nil => intro e; exact key _ _ _ _ _ _ _ (by unfold Txt.partition; rw [eo])
  | cons i r => intro e; exact key _ _ _ _ _ _ _ (by unfold Txt.partition; rw [eo])
theorem mt_endswith : MtM X "str.endswith" rEnds := by
  intro pins s σ H x vs v us Q I rx rv h
  obtain ⟨z, y, rfl, rfl, q⟩ := h
  obtain ⟨t, rfl⟩ := rx
  obtain ⟨u', rfl, u, rfl⟩ := rv.one
  exact SC.endswith ⟨.bl _, H, I, rfl, q⟩
theorem call_int_text : CallR X (.type "int") (fun xs H Q => ∃ z n, xs = [.str z] ∧ z.length ≤ 640 ∧ PySem.intText? z = some n ∧ Q (.int n) H) := by
  intro pins s σ H xs us Q I r h
  obtain ⟨z, n, rfl, hl, hn, q⟩ := h
  obtain ⟨u, rfl, t, rfl⟩ := vals1 r
  exact W.KIN.call_text hn hl ⟨.int n, H, I.tok _, ⟨_, rfl⟩, q⟩
/-! ### f"..": the parts, then all of them -/
def tFmt (ta : TE) : TE := fun σ H Q => ta σ H fun x H1 => (∃ y, x = .str y ∧ y.length ≤ 1000 ∧ Q (.str y) H1) ∨ ∃ i : Int, x = .int i ∧ i.natAbs.log2 < 1920 ∧ Q (.str (toString i)) H1
def PJ (X : Cx) (es : List Expr) (tj : Str → TE) : Prop := ∀ (out : Str) (pins : List (Addr × Obj)) (s : Shared) (σ : St) (H : Hp) (Q : VK), Inv X pins σ H s → tj out σ H Q → wpAny (model X.prog X.w) X.A (joinParts out (evalEach es X.env)) (EP X pins σ Q) X.xe s
def tjNil : Str → TE := fun out _ H Q => out.length ≤ 1000 ∧ Q (.str out) H
def tjCons (te : TE) (tj : Str → TE) : Str → TE := fun out σ H Q => te σ H fun x H1 => ∃ y, x = .str y ∧ (out ++ y).length ≤ 1000 ∧ tj (out ++ y) σ H1 Q
end
end L2
namespace L2
open PySem PySem.Spec PyProof.Rows
section
variable {X : Cx} {CX : CXT} {k : Nat} {f : Addr} {fd : FuncData} {ps : List Str} {sp : Sp} {dvs : List V} {ds : List Value} {E : XK} {m : Str} {pos apos : Pos} {o : Expr} {ta : TE}
end
end L2
namespace L2
open PySem PySem.Spec PyProof.Rows
/-! ### the mathematics of texts cut and joined -/
def jn (c : Nat) : List (List Nat) → List Nat
  | [] => []
  | [x] => x
  | x :: y :: r => x ++ c :: jn c (y :: r)
theorem jn_snoc (c : Nat) (y : List Nat) : ∀ (xs : List (List Nat)), xs ≠ [] → jn c (xs ++ [y]) = jn c xs ++ c :: y
  | [], h => absurd rfl h
  | [x], _ => rfl
  | x :: z :: r, _ => by
    show x ++ c :: jn c (z :: r ++ [y]) = (x ++ c :: jn c (z :: r)) ++ c :: y
    rw [jn_snoc c y (z :: r) (by simp), List.append_assoc]
    rfl
theorem str_ext {a b : Str} (h : a.cps.toList = b.cps.toList) : a = b := Str.ext' (Array.toList_inj.mp h)
theorem app_cps (a b : Str) : (a ++ b).cps.toList = a.cps.toList ++ b.cps.toList := by
  show (a.cps ++ b.cps).toList = _
  rw [Array.toList_append]
theorem join_cps' (c : Nat) : ∀ xs : List Str, (Str.join ⟨#[c]⟩ xs).cps.toList = jn c (xs.map fun x => x.cps.toList)
  | [] => rfl
  | [x] => rfl
  | x :: y :: r => by
    have ih := join_cps' c (y :: r)
    show (x ++ (⟨#[c]⟩ : Str) ++ Str.join ⟨#[c]⟩ (y :: r)).cps.toList = _
    rw [app_cps, app_cps, ih]
    show x.cps.toList ++ [c] ++ _ = x.cps.toList ++ c :: _
    rw [List.append_assoc]
    rfl
theorem tjoin_cps (c : Nat) (xs : List Str) : (Txt.join ⟨#[c]⟩ xs).cps.toList = jn c (xs.map fun x => x.cps.toList) := by
  show (Builtin.Str.glued ⟨#[c]⟩ xs).cps.toList = _
  rw [StrLaws.glued_eq_join, join_cps']
theorem partition_app {c : Nat} {a b z : Str} (hz : z.cps.toList = a.cps.toList ++ c :: b.cps.toList) (ha : c ∉ a.cps.toList) : Txt.partition z ⟨#[c]⟩ = (a, ⟨#[c]⟩, b) := by
  have la := tx_len a
  have lb := tx_len b
  have lz := tx_len z
  rw [hz, List.length_append, List.length_cons] at lz
  have hat : z.cps.toList[a.length]? = some c := by
    rw [hz, ← la, List.getElem?_append_right (Nat.le_refl _), Nat.sub_self]
    rfl
  unfold Txt.partition
  rcases StrLaws.occ_head z ⟨#[c]⟩ 1 (Nat.le_refl _) with ⟨_, h2⟩ | ⟨i, r, h1, h2, h3⟩
  · exact absurd ((StrLaws.subAt_one z c a.length).mpr hat) (h2 a.length)
  · have hi := (StrLaws.subAt_one z c i).mp h2
    have e : i = a.length := by
      refine Classical.byContradiction fun ne => ?_
      by_cases hl : i < a.length
      · rw [hz, List.getElem?_append_left (by omega)] at hi
        exact ha (List.mem_of_getElem? hi)
      · exact h3 a.length (by omega) ((StrLaws.subAt_one z c a.length).mpr hat)
    subst e
    rw [h1]
    show (Builtin.Str.strSub z 0 a.length, (⟨#[c]⟩ : Str), Builtin.Str.strSub z (a.length + 1) z.length) = _
    have e1 : Builtin.Str.strSub z 0 a.length = a := str_ext (by rw [StrLaws.strSub_toList, hz, List.drop_zero, Nat.sub_zero, ← la, List.take_left'] ; rfl)
    have e2 : Builtin.Str.strSub z (a.length + 1) z.length = b := str_ext (by
      rw [StrLaws.strSub_toList, hz]
      have : List.drop (a.length + 1) (a.cps.toList ++ c :: b.cps.toList) = b.cps.toList := by
        rw [← la, List.drop_append]
        simp
      rw [this]
      exact List.take_of_length_le (by omega))
    rw [e1, e2]
theorem ends_with {c : Nat} {a z : Str} (hz : z.cps.toList = a.cps.toList ++ [c]) : Txt.endswith z ⟨#[c]⟩ = true := by
  have la := tx_len a
  have lz := tx_len z
  rw [hz, List.length_append] at lz
  have lz' : a.cps.toList.length + 1 = z.length := lz
  have h := (StrLaws.subAt_one z c a.length).mpr (by rw [hz, ← la, List.getElem?_append_right (Nat.le_refl _), Nat.sub_self]; rfl)
  unfold Txt.endswith
  rw [Bool.and_eq_true]
  refine ⟨decide_eq_true (by show 0 + 1 ≤ z.length; omega), ?_⟩
  have e : z.length - (⟨#[c]⟩ : Str).length = a.length := by show z.length - 1 = _; omega
  rw [e]
  exact h.2
theorem ends_not {c : Nat} {z : Str} (h : c ∉ z.cps.toList) : Txt.endswith z ⟨#[c]⟩ = false := by
  rw [Bool.eq_false_iff]
  intro q
  unfold Txt.endswith at q
  rw [Bool.and_eq_true] at q
  have q1 : 0 + 1 ≤ z.length := of_decide_eq_true q.1
  have := (StrLaws.subAt_one z c (z.length - 1)).mp ⟨by show z.length - 1 + 1 ≤ z.length; omega, q.2⟩
  exact h (List.mem_of_getElem? this)
theorem slice_last {c : Nat} {a z : Str} (hz : z.cps.toList = a.cps.toList ++ [c]) : Txt.slice z none (some (-1)) = a := by
  refine str_ext ?_
  rw [slice_txt, hz]
  unfold cutN
  rw [HT.sIx_none, List.drop_zero]
  have e : HT.sIx (a.cps.toList ++ [c]).length (a.cps.toList ++ [c]).length (some (-1)) = a.cps.toList.length := by
    show ((-1 : Int) + (((a.cps.toList ++ [c]).length : Nat) : Int)).toNat = _
    rw [List.length_append]
    show ((-1 : Int) + ((a.cps.toList.length + 1 : Nat) : Int)).toNat = _
    omega
  rw [e, Nat.sub_zero]
  exact List.take_left'  rfl
/-! ### numbers written -/
def numS (n : Int) : Str := toString n
def dg (n : Nat) : List Nat := (Nat.toDigits 10 n).map Char.toNat
theorem dg_ok : ∀ n, n < 1001 → ((dg n).all fun c => decide (48 ≤ c) && decide (c ≤ 57)) = true ∧ 1 ≤ (dg n).length ∧ (dg n).length ≤ 4 ∧ (dg n = [48] ∨ (dg n)[0]? ≠ some 48) := by decide +kernel
theorem numS_cps (n : Nat) : (numS (n : Int)).cps.toList = dg n := W.KIN.signs_num n
theorem numS_fig {n : Nat} (h : n < 1001) : ∀ c ∈ (numS (n : Int)).cps.toList, 48 ≤ c ∧ c ≤ 57 := fun c hc => by
  rw [numS_cps] at hc
  have := List.all_eq_true.mp (dg_ok n h).1 c hc
  rw [Bool.and_eq_true] at this
  exact ⟨of_decide_eq_true this.1, of_decide_eq_true this.2⟩
theorem numS_len {n : Nat} (h : n < 1001) : 1 ≤ (numS (n : Int)).length ∧ (numS (n : Int)).length ≤ 4 := by
  rw [← tx_len, numS_cps]
  exact ⟨(dg_ok n h).2.1, (dg_ok n h).2.2.1⟩
theorem numS_reads {n : Nat} (h : n < 1001) : PySem.intText? (numS (n : Int)) = some (n : Int) := W.KIN.num_reads (by omega) (by
  have : (n : Int) < 1001 := by omega
  exact Int.lt_of_lt_of_le this (by decide))
end L2
namespace L2
open PySem PySem.Spec PyProof.Rows
/-! ### z.rpartition(y) -/
def lstep (p : Nat → Bool) (i : Nat) (r : Option Nat) : Id (ForInStep (Option Nat)) := if p i then pure (ForInStep.yield (some i)) else pure (ForInStep.yield r)
theorem last_go (p : Nat → Bool) : ∀ (l : List Nat) (o : Option Nat), (forIn l o (lstep p)).run = (l.filter p).getLast?.or o
  | [], o => rfl
  | a :: l, o => by
    rw [List.forIn_cons]
    unfold lstep
    by_cases h : p a = true
    · rw [if_pos h, List.filter_cons_of_pos h]
      show Id.run (forIn l (some a) (lstep p)) = _
      rw [last_go p l (some a)]
      cases hf : l.filter p with
      | nil => rfl
      | cons b r =>
        obtain ⟨x, hx⟩ : ∃ x, (b :: r).getLast? = some x := ⟨_, List.getLast?_eq_some_getLast (List.cons_ne_nil b r)⟩
        rw [List.getLast?_cons_cons, hx]
        rfl
    · rw [if_neg h, List.filter_cons_of_neg h]
      exact last_go p l o
theorem lastOcc_eq (x y : Str) (hi : Nat) : Builtin.Str.lastOccurrence x y 0 hi = ((List.range' 0 (hi + 1)).filter fun i => decide (i + y.length ≤ hi) && Builtin.Str.subAt x y i).getLast? := by
  have h := last_go (fun i => decide (i + y.length ≤ hi) && Builtin.Str.subAt x y i) (List.range' 0 (hi + 1)) none
  rw [Option.or_none] at h
  rw [← h]
  unfold Builtin.Str.lastOccurrence
  simp only [bind_pure_comp, map_pure]
  rw [Std.Legacy.Range.forIn_eq_forIn_range']
  simp [Std.Legacy.Range.size]
  have e : (fun (i : Nat) (r : Option Nat) => (if i + y.length ≤ hi ∧ Builtin.Str.subAt x y i = true then pure (ForInStep.yield (some i)) else pure (ForInStep.yield r) : Id (ForInStep (Option Nat)))) = lstep (fun i => decide (i + y.length ≤ hi) && Builtin.Str.subAt x y i) := by
    funext i r
    unfold lstep
    by_cases h1 : i + y.length ≤ hi <;> by_cases h2 : Builtin.Str.subAt x y i = true <;> simp [h1, h2]
  rw [e]
theorem last_filter {p : Nat → Bool} {n j : Nat} (hj : j < n) (hp : p j = true) (hn : ∀ i, j < i → i < n → p i = false) : ((List.range' 0 n).filter p).getLast? = some j := by
  have e : List.range' 0 n = List.range' 0 j ++ (j :: List.range' (j + 1) (n - j - 1)) := by
    rw [show n = j + (n - j) by omega, ← List.range'_append_1, show n - j = (n - j - 1) + 1 by omega]
    simp [List.range'_succ]
  rw [e, List.filter_append, List.filter_cons_of_pos hp]
  have e2 : (List.range' (j + 1) (n - j - 1)).filter p = [] := by
    rw [List.filter_eq_nil_iff]
    intro i hi
    rw [List.mem_range'_1] at hi
    rw [hn i (by omega) (by omega)]
    decide
  rw [e2, List.getLast?_append]
  rfl
theorem rpart_none {c : Nat} {z : Str} (h : c ∉ z.cps.toList) : Txt.rpartition z ⟨#[c]⟩ = (Str.empty, Str.empty, z) := by
  unfold Txt.rpartition
  have e : Builtin.Str.lastOccurrence z ⟨#[c]⟩ 0 z.length = none := by
    rw [lastOcc_eq, List.getLast?_eq_none_iff, List.filter_eq_nil_iff]
    intro i _ hq
    rw [Bool.and_eq_true] at hq
    exact h (List.mem_of_getElem? ((StrLaws.subAt_one z c i).mp ⟨of_decide_eq_true hq.1, hq.2⟩))
  rw [e]
theorem rpart_last {c : Nat} {a b z : Str} (hz : z.cps.toList = a.cps.toList ++ c :: b.cps.toList) (hb : c ∉ b.cps.toList) : Txt.rpartition z ⟨#[c]⟩ = (a, ⟨#[c]⟩, b) := by
  have la := tx_len a
  have lb := tx_len b
  have lz := tx_len z
  rw [hz, List.length_append, List.length_cons] at lz
  have hat : z.cps.toList[a.length]? = some c := by
    rw [hz, ← la, List.getElem?_append_right (Nat.le_refl _), Nat.sub_self]
    rfl
  unfold Txt.rpartition
  have e : Builtin.Str.lastOccurrence z ⟨#[c]⟩ 0 z.length = some a.length := by
    rw [lastOcc_eq]
    obtain ⟨q1, q2⟩ := (StrLaws.subAt_one z c a.length).mpr hat
    refine last_filter (by omega) (by rw [Bool.and_eq_true]; exact ⟨decide_eq_true q1, q2⟩) fun i hi hin => ?_
    rw [Bool.eq_false_iff]
    intro hq
    rw [Bool.and_eq_true] at hq
    have hm := (StrLaws.subAt_one z c i).mp ⟨of_decide_eq_true hq.1, hq.2⟩
    rw [hz, List.getElem?_append_right (by omega), la] at hm
    obtain ⟨k, hk⟩ : ∃ k, i - a.length = k + 1 := ⟨i - a.length - 1, by omega⟩
    rw [hk, List.getElem?_cons_succ] at hm
    exact hb (List.mem_of_getElem? hm)
  rw [e]
  show (Builtin.Str.strSub z 0 a.length, (⟨#[c]⟩ : Str), Builtin.Str.strSub z (a.length + 1) z.length) = _
  have e1 : Builtin.Str.strSub z 0 a.length = a := str_ext (by rw [StrLaws.strSub_toList, hz, List.drop_zero, Nat.sub_zero, ← la, List.take_left'] ; rfl)
  have e2 : Builtin.Str.strSub z (a.length + 1) z.length = b := str_ext (by
    rw [StrLaws.strSub_toList, hz]
    have : List.drop (a.length + 1) (a.cps.toList ++ c :: b.cps.toList) = b.cps.toList := by
      rw [← la, List.drop_append]
      simp
    rw [this]
    exact List.take_of_length_le (by omega))
  rw [e1, e2]
section
variable {X : Cx}
def rRPart : V → List V → Hp → VK → Prop := fun x vs H Q => ∃ z y, x = .str z ∧ vs = [.str y] ∧ (y.length == 0) = false ∧ z.length ≤ 4000 ∧ ∀ p, H p = none → Q (.ref p) (upd H p (.tup [.str (Txt.rpartition z y).1, .str (Txt.rpartition z y).2.1, .str (Txt.rpartition z y).2.2]))
theorem mt_rpartition : MtM X "str.rpartition" rRPart := by
  intro pins s σ H x vs v us Q I rx rv h
  obtain ⟨z, y, rfl, rfl, hy, hz, q⟩ := h
  obtain ⟨t, rfl⟩ := rx
  obtain ⟨u', rfl, u, rfl⟩ := rv.one
  have key : ∀ (a b c : Str) (ta tb tc : Tok) (k : Nat), (Txt.rpartition z y) = (a, b, c) → EP X pins σ Q (.ref s.heap.objs.size) { s with heap := s.heap.push { cls := .type "tuple", data := .seq [Value.str a ta, .str b tb, .str c tc].toArray }, toks := k } := fun a b c ta tb tc k e => by
    rw [e] at q
    refine ⟨.ref _, _, I.laid (t' := k) (fun b o e => Heap.get?_push_of_some _ e) (Nat.le_refl _) (show ObjOk X.prog X.w _ _ _ (.tup [.str a, .str b, .str c]) from ⟨by show 3 ≤ sizeLine; decide, _, .cons ⟨ta, rfl⟩ (.cons ⟨tb, rfl⟩ (.cons ⟨tc, rfl⟩ .nil)), IsTup.new _ _⟩), rfl, q _ I.fresh⟩
  refine call_meets F.slot_str_rpartition (typeIs_str _ _ _) F.entry_str_rpartition (F.args_str_rpartition_2 _ _) (meets_str_rpartition z y t u hy (by rw [sizeLine_eq]; omega)) ?_
  have e : ∀ r, r = Txt.rpartition z y → Txt.rpartition z y = r := fun _ h => h.symm
  unfold Txt.rpartition at e
  revert e
  cases eo : Builtin.Str.lastOccurrence z y 0 z.length with
  | none => intro e; exact key _ _ _ _ _ _ _ (by unfold Txt.rpartition; rw [eo])
  | some i => intro e; exact key _ _ _ _ _ _ _ (by unfold Txt.rpartition; rw [eo])
end
end L2
namespace L2
open PySem PySem.Spec PyProof.Rows
/-! ### None in xs, xs.index(None): of items that are None or tuples -/
def NonT (K : PySem.W.Frag) (H : Hp) (u : V) : Prop := u = .non ∨ ∃ p ys, u = .ref p ∧ SqT K H p ys
def isN : V → Bool
  | .non => true
  | _ => false
def rInN (K : PySem.W.Frag) : R2 := fun x y H Q => x = .non ∧ ∃ p xs, y = .ref p ∧ (SqL K H p xs ∨ SqT K H p xs) ∧ (∀ u ∈ xs, NonT K H u) ∧ Q (.bl (xs.any isN)) H
section
variable {X : Cx}
theorem any_eqN {K : PySem.W.Frag} {H : Hp} : ∀ {xs : List V} {us : List Value}, Vals xs us → (∀ u ∈ xs, NonT K H u) → us.any (eqU .non) = xs.any isN
  | _, _, .nil, _ => rfl
  | y :: xs, u :: us, .cons r t, f => by
    rw [List.any_cons, List.any_cons, any_eqN t fun u hu => f u (List.mem_cons_of_mem _ hu)]
    have e : eqU .non u = isN y := by
      rcases f y List.mem_cons_self with rfl | ⟨p, ys, rfl, _⟩
      · cases r; rfl
      · cases r; rfl
    rw [e]
theorem mem_eqN {pins : List (Addr × Obj)} {σ : St} {H : Hp} {s : Shared} (I : Inv X pins σ H s) {A : Around} (hu : A.units < cLine) : ∀ {xs : List V} {us : List Value}, Vals xs us → (∀ u ∈ xs, NonT X.K H u) → ∀ u ∈ us, SeqAt.EqAt A s u .none (eqU .non u)
  | _, _, .nil, _ => fun u hu => by cases hu
  | y :: xs, u :: us, .cons r t, f => fun u' hu' => by
    rcases List.mem_cons.mp hu' with rfl | hu'
    · rcases f y List.mem_cons_self with rfl | ⟨p, ys, rfl, hp⟩
      · cases r
        exact SeqAt.EqAt.same _
      · cases r
        obtain ⟨its, _, pl, _⟩ := I.tuple hp
        exact SeqAt.EqAt.tuple_none (IsTup.tup pl) hu
    · exact mem_eqN I hu t (fun u hu => f u (List.mem_cons_of_mem _ hu)) u' hu'
theorem op_inN (hu : X.A.units + 64 < cLine) : OpR X (compareOp .In) (rInN X.K) := by
  intro pins s σ H x y v u Q I rx ry h
  obtain ⟨rfl, p, xs, rfl, hq, f, q⟩ := h
  cases rx
  cases ry
  have hu1 : X.A.in1.units < cLine := by show X.A.units + 1 < cLine; omega
  rcases hq with hq | hq
  · obtain ⟨its, r, pl, hz⟩ := I.list hq
    refine SeqAt.in_listAt (eqU .non) pl.isList (fun w hw => mem_eqN I hu1 r f w (by simpa using hw)) ⟨.bl _, H, I, rfl, ?_⟩
    rw [show its.toArray.any (eqU .non) = its.any (eqU .non) by simp, any_eqN r f]
    exact q
  · obtain ⟨its, r, pl, hz⟩ := I.tuple hq
    refine SeqAt.in_tupleAt (eqU .non) pl (fun w hw => mem_eqN I hu1 r f w (by simpa using hw)) ⟨.bl _, H, I, rfl, ?_⟩
    rw [show its.toArray.any (eqU .non) = its.any (eqU .non) by simp, any_eqN r f]
    exact q
def rIndexN (K : PySem.W.Frag) : V → List V → Hp → VK → Prop := fun x vs H Q => ∃ (l : Addr) (xs : List V) (j : Nat), x = .ref l ∧ vs = [.non] ∧ H l = some (.lst xs) ∧ xs.length ≤ 1000 ∧ (∀ u ∈ xs, NonT K H u) ∧ xs[j]? = some .non ∧ (∀ i, i < j → xs[i]? ≠ some .non) ∧ Q (.int j) H
theorem eqN_at {K : PySem.W.Frag} {H : Hp} : ∀ {xs : List V} {us : List Value}, Vals xs us → (∀ u ∈ xs, NonT K H u) → ∀ (i : Nat) u, us[i]? = some u → ∃ x, xs[i]? = some x ∧ eqU .non u = isN x
  | [], _, r, _, i, v, e => by cases r; simp at e
  | y :: xs, _, .cons r t, f, 0, v, e => by
    simp at e
    subst e
    refine ⟨y, rfl, ?_⟩
    rcases f y List.mem_cons_self with rfl | ⟨p, ys, rfl, _⟩
    · cases r; rfl
    · cases r; rfl
  | y :: xs, _, .cons r t, f, i + 1, v, e => by
    obtain ⟨x, h1, h2⟩ := eqN_at t (fun u hu => f u (List.mem_cons_of_mem _ hu)) i v (by simpa using e)
    exact ⟨x, by simpa using h1, h2⟩
theorem mt_indexN (hu : X.A.units + 64 < cLine) : MtM X "list.index" (rIndexN X.K) := by
  intro pins s σ H x vs v us Q I rx rv h
  obtain ⟨l, xs, j, rfl, rfl, hH, hz, f, hj, hno, q⟩ := h
  cases rx
  obtain ⟨u, rfl, ru⟩ := rv.one
  cases ru
  obtain ⟨z', its, n, r, hl, e⟩ := I.lstM hH
  have hjl : j < its.length := by
    have := (List.getElem?_eq_some_iff.mp hj).1
    omega
  refine call_meets F.slot_list_index ⟨_, e, rfl⟩ F.entry_list_index (F.args_list_index_2 _ _) (SeqAt.list_indexAt l its.toArray n _ _ .none (eqU .non) j (by rw [List.size_toArray]; exact hjl) (by omega) ?_ ?_) ⟨e, ?_, ?_⟩
  · obtain ⟨x, hx, ev⟩ := eqN_at r f j its[j] (List.getElem?_eq_getElem hjl)
    show eqU .non its[j] = true
    rw [ev]
    rw [hj] at hx
    cases hx
    rfl
  · intro m hm hmj
    have hml : m < its.length := by simpa using hm
    obtain ⟨x, hx, ev⟩ := eqN_at r f m its[m] (List.getElem?_eq_getElem hml)
    show eqU .non its[m] = false
    rw [ev]
    have hne := hno m hmj
    rw [hx] at hne
    cases x with
    | non => exact absurd rfl hne
    | _ => rfl
  · exact fun y hy => mem_eqN I (by show X.A.units + 1 < cLine; omega) r f y (by simpa using hy)
  · exact ⟨.int j, H, I.tok _, ⟨_, rfl⟩, q⟩
end
end L2
namespace L2
open PySem PySem.Spec PyProof.Rows

/-! ### lists of pairs as tables -/
section
variable {κ : Type} [DecidableEq κ]
def valV (kvs : List (κ × V)) (k : κ) : Option V := (kvs.find? fun kv => decide (kv.1 = k)).map (·.2)
/-- in its place, or at the end -/
def putK (kvs : List (κ × V)) (k : κ) (v : V) : List (κ × V) :=
  if (kvs.any fun kv => decide (kv.1 = k)) = true then kvs.map (fun kv => if kv.1 = k then (kv.1, v) else kv) else kvs ++ [(k, v)]
def dropK (kvs : List (κ × V)) (k : κ) : List (κ × V) := kvs.filter fun kv => decide (kv.1 ≠ k)

end


/-! ### a tracked dict, its keys ints and texts or tuples of these -/
/-- raw entries of a dict with tuple keys -/
abbrev KT (H : Hp) : List (List Key × V) → List (List Key × Addr × Value) → Prop := Paired fun p q => p.1 = q.1 ∧ H q.2.1 = some (.tup (p.1.map kV)) ∧ RelV p.2 q.2.2
section
variable {P : Program} {w : World} {H : Hp} {h : Heap} {a : Addr}
end

/-- what the dict at a holds at the key y -/
def DGet (H : Hp) (a : Addr) (y : V) (r : Option V) : Prop :=
  (∃ kvs k, Rd H a (.dK kvs) ∧ y = kV k ∧ r = valV kvs k) ∨ ∃ kvs k b, Rd H a (.dT kvs) ∧ y = .ref b ∧ H b = some (.tup (k.map kV)) ∧ r = valV kvs k
/-- the heap behind a[y] = v -/
def DPut (H : Hp) (a : Addr) (y v : V) (H' : Hp) : Prop :=
  (∃ kvs k, H a = some (.dK kvs) ∧ y = kV k ∧ kvs.length < sizeLine ∧ H' = upd H a (.dK (putK kvs k v))) ∨
  ∃ kvs k b, H a = some (.dT kvs) ∧ y = .ref b ∧ H b = some (.tup (k.map kV)) ∧ kvs.length < sizeLine ∧ H' = upd H a (.dT (putK kvs k v))
section
variable {X : Cx} {pins : List (Addr × Obj)} {σ : St} {H : Hp} {s : Shared} {a : Addr} {y v : V} {u r : Value} {o : Option V} {A : Around} {E : Value → Shared → Prop}

theorem Inv.big (I : Inv X pins σ H s) : sysModules < s.heap.objs.size := by
  have h : mainGlobals < s.heap.objs.size := (I.mod.glob.keeps I.bk).lt
  exact Nat.lt_trans (by decide) h

end

section
variable {X : Cx} {pins : List (Addr × Obj)} {σ : St} {H : Hp} {s : Shared} {a : Addr} {kvs : List (Key × V)} {k : Key} {u : Value} {A : Around} {E : Value → Shared → Prop}
end


/-! ### readings and rules -/
/-- the element of a subscription, not a slice -/
def NoSl (i : Expr) : Prop := ∀ ov iv, subscripted i false ov iv = operate [ov, iv] (getItem ov iv)
/-- d[y] -/
def tDGet (td ty : TE) : TE := fun σ H Q => td σ H fun x H1 => ty σ H1 fun y H2 => ∃ a v, x = .ref a ∧ DGet H2 a y (some v) ∧ Q v H2
/-- y in d, y not in d -/
def tDIn (ty td : TE) : TE := fun σ H Q => ty σ H fun y H1 => td σ H1 fun x H2 => ∃ a o, x = .ref a ∧ DGet H2 a y o ∧ Q (.bl o.isSome) H2
def tDNotIn (ty td : TE) : TE := fun σ H Q => ty σ H fun y H1 => td σ H1 fun x H2 => ∃ a o, x = .ref a ∧ DGet H2 a y o ∧ Q (.bl (!o.isSome)) H2
/-- d[y] = v -/
def sDPut (td ty tv : TE) : TS := fun D σ H => tv σ H fun v H1 => td σ H1 fun x H2 => ty σ H2 fun y H3 => ∃ a H4, x = .ref a ∧ DPut H3 a y v H4 ∧ D.nx σ H4
/-- d[y] op= v -/
def sDAug (td ty tv : TE) (rd : V → V → Hp → VK → Prop) : TS := fun D σ H => td σ H fun x H1 => ty σ H1 fun y H2 => ∃ a v, x = .ref a ∧ DGet H2 a y (some v) ∧
  tv σ H2 fun y2 H3 => rd v y2 H3 fun z H4 => ∃ H5, DPut H4 a y z H5 ∧ D.nx σ H5
/-- del d[y] -/
def sDDel (td ty : TE) : TS := fun D σ H => td σ H fun x H1 => ty σ H1 fun y H2 => ∃ a kvs k, x = .ref a ∧ H2 a = some (.dK kvs) ∧ y = kV k ∧ (valV kvs k).isSome = true ∧ D.nx σ (upd H2 a (.dK (dropK kvs k)))

section
variable {X : Cx} {o i e value : Expr} {pos pos' tpos : Pos} {td ty tv : TE}
end


/-! ### displays -/
theorem dk_empty {P : Program} {w : World} {H : Hp} (h : Heap) (hb : sysModules < h.objs.size) : ObjOk P w H (h.push { cls := .type "dict", data := .dict #[] }) h.objs.size (.dK []) :=
  ⟨Nat.zero_le _, beq_eq_false_iff_ne.mpr (Ne.symm (Nat.ne_of_lt hb)), [], .nil, Heap.DictOf.new h⟩
/-- {}, to be a dict of the kind that is wanted -/
def tDNewK : TE := fun _ H Q => ∀ p, H p = none → Q (.ref p) (upd H p (.dK []))
def tDNewT : TE := fun _ H Q => ∀ p, H p = none → Q (.ref p) (upd H p (.dT []))
section
variable {X : Cx} {pos : Pos}
theorem pe_dnewK : PE X (.Dict [] [] pos) tDNewK := fun pins s σ H Q I h =>
  wpAny_Dict_empty ⟨.ref s.heap.objs.size, _, I.laid (a := s.heap.objs.size) (o := .dK []) (t' := s.toks) (fun _ _ q => Heap.get?_push_of_some _ q) (Nat.le_refl _) (dk_empty s.heap I.big), rfl, h _ (I.hok.fresh (Nat.le_refl _))⟩
end

/-- the pairs of a display, from the left -/
def tPairs : List (TE × TE) → St → Hp → (List (V × V) → Hp → Prop) → Prop
  | [], _, H, Q => Q [] H
  | (tk, tv) :: r, σ, H, Q => tk σ H fun x H1 => tv σ H1 fun y H2 => tPairs r σ H2 fun ps H3 => Q ((x, y) :: ps) H3
abbrev VV : List (V × V) → List (Value × Value) → Prop := Paired fun p q => RelV p.1 q.1 ∧ RelV p.2 q.2
def PPs (X : Cx) (pos : Pos) (keys : List (Option Expr)) (values : List Expr) (trs : List (TE × TE)) : Prop :=
  ∀ (pins : List (Addr × Obj)) (s : Shared) (σ : St) (H : Hp) (Q : List (V × V) → Hp → Prop), Inv X pins σ H s → tPairs trs σ H Q →
    wpAny (model X.prog X.w) X.A (evalPairs (pairTrees keys values X.env pos)) (fun vs s' => ∃ ps H', Inv X pins σ H' s' ∧ VV ps vs ∧ Q ps H') X.xe s
def mergeK (kvs more : List (Key × V)) : List (Key × V) := more.foldl (fun acc kv => putK acc kv.1 kv.2) kvs
/-- {k: v, ..} with keys ints and texts; the new dict stands empty while the pairs are made -/
def tDisp (trs : List (TE × TE)) : TE := fun σ H Q => ∀ p, H p = none → tPairs trs σ (upd H p (.dK [])) fun ps H2 => H2 p = some (.dK []) ∧ ∃ kvs : List (Key × V), ps = kvs.map (fun kv => (kV kv.1, kv.2)) ∧ kvs.length ≤ 15 ∧ Q (.ref p) (upd H2 p (.dK (mergeK [] kvs)))
/-! ### methods -/
/-- a method call o.m(e) of a built-in, with one argument: what must be seen of the text -/
structure M1 (X : Cx) (o : Expr) (m : Str) (apos : Pos) (e : Expr) (cpos : Pos) : Prop where
  base : attributeBase o m X.env (eval o X.env) = eval o X.env
  few : ((backTo cpos (starEach [e] X.env)).all (fun x => !x.1) && (backToKw cpos (keywordEach [] X.env)).all (fun x => x.1.isSome)
    && decide (([e] : List Expr).length + ([] : List Keyword).length + (if ([] : List Keyword).isEmpty then 0 else 1) < 30)) = true
  line : (apos.endLine == cpos.line) = true
  trees : backTo cpos (starEach [e] X.env) = [(false, eval e X.env)]
structure M2 (X : Cx) (o : Expr) (m : Str) (apos : Pos) (e f : Expr) (cpos : Pos) : Prop where
  base : attributeBase o m X.env (eval o X.env) = eval o X.env
  few : ((backTo cpos (starEach [e, f] X.env)).all (fun x => !x.1) && (backToKw cpos (keywordEach [] X.env)).all (fun x => x.1.isSome)
    && decide (([e, f] : List Expr).length + ([] : List Keyword).length + (if ([] : List Keyword).isEmpty then 0 else 1) < 30)) = true
  line : (apos.endLine == cpos.line) = true
  trees : backTo cpos (starEach [e, f] X.env) = [(false, eval e X.env), (false, eval f X.env)]

/-- a is a dict, whatever its keys -/
def IsD (H : Hp) (a : Addr) : Prop := (∃ kvs, Rd H a (.dK kvs)) ∨ ∃ kvs, Rd H a (.dT kvs)
section
variable {X : Cx} {pins : List (Addr × Obj)} {σ : St} {H : Hp} {s : Shared} {a : Addr} {y d : V} {u r : Value} {o : Option V} {A : Around} {E : Value → Shared → Prop}
end

def tDGet1 (td ty : TE) : TE := fun σ H Q => td σ H fun x H1 => ∃ a, x = .ref a ∧ IsD H1 a ∧ ty σ H1 fun y H2 => ∃ o, DGet H2 a y o ∧ Q (o.getD .non) H2
def tDGet2 (td ty tx : TE) : TE := fun σ H Q => td σ H fun x H1 => ∃ a, x = .ref a ∧ IsD H1 a ∧ ty σ H1 fun y H2 => tx σ H2 fun z H3 => ∃ o, DGet H3 a y o ∧ Q (o.getD z) H3
/-- d.pop(k): there; d.pop(k, x): there or not -/
def tDPop1 (td ty : TE) : TE := fun σ H Q => td σ H fun x H1 => ∃ a, x = .ref a ∧ IsD H1 a ∧ ty σ H1 fun y H2 => ∃ kvs k v, H2 a = some (.dK kvs) ∧ y = kV k ∧ valV kvs k = some v ∧ Q v (upd H2 a (.dK (dropK kvs k)))
def tDPop2 (td ty tx : TE) : TE := fun σ H Q => td σ H fun x H1 => ∃ a, x = .ref a ∧ IsD H1 a ∧ ty σ H1 fun y H2 => tx σ H2 fun z H3 => ∃ kvs k, H3 a = some (.dK kvs) ∧ y = kV k ∧
  (∀ v, valV kvs k = some v → Q v (upd H3 a (.dK (dropK kvs k)))) ∧ (valV kvs k = none → Q z H3)
section
variable {X : Cx} {o e f : Expr} {apos cpos : Pos} {td ty tx : TE}
end

/-! ### dict(d): a copy -/
section
variable {X : Cx} {pins : List (Addr × Obj)} {σ : St} {H : Hp} {s : Shared} {a : Addr} {kvs : List (Key × V)} {A : Around} {E : Value → Shared → Prop}
end


section
variable {X : Cx} {pins : List (Addr × Obj)} {σ : St} {H : Hp} {s : Shared} {a : Addr} {y : V} {u : Value} {A : Around} {E : Value → Shared → Prop}
end
end L2
namespace K15
open PySem L2
def top (i : Nat) : Stmt := PySem.Challenge.pw_earbells_k15_rows_refused.main.body.getD i (.Pass ⟨0, 0, 0, 0⟩)
abbrev s_tinit : Stmt := inClass (top 5) 0
abbrev s_Rinit : Stmt := inClass (top 19) 0
abbrev s_Ainit : Stmt := inClass (top 20) 0
abbrev s_Yinit : Stmt := inClass (top 21) 0
abbrev s_Sinit : Stmt := inClass (top 22) 0
abbrev s_is_whole : Stmt := top 15
abbrev s_is_whole_within : Stmt := top 16
abbrev s_is_written_whole : Stmt := top 17
abbrev s_rule_of : Stmt := top 23
abbrev s_text : Stmt := top 24
abbrev s_is_word : Stmt := top 33
abbrev s_is_name : Stmt := top 34
abbrev s_is_rule : Stmt := top 35
abbrev s_is_listening : Stmt := top 36
abbrev s_are_listenings : Stmt := top 37
abbrev s_is_bell : Stmt := top 38
abbrev s_read_number : Stmt := top 41
abbrev s_read_rule : Stmt := top 42
abbrev s_read_listening : Stmt := top 43
abbrev s_read_bell : Stmt := top 44
abbrev s_are_rows : Stmt := top 45
abbrev s_read_choir : Stmt := top 46
abbrev s_cell : Stmt := top 48
abbrev s_blended : Stmt := top 49
abbrev s_figures : Stmt := top 50
abbrev s_part : Stmt := top 51
abbrev s_names : Stmt := top 52
abbrev s_bell : Stmt := top 53
abbrev s_choir : Stmt := top 54
abbrev s_same : Stmt := top 55
abbrev s_only : Stmt := top 56
abbrev s_written : Stmt := top 57
abbrev s_number_in : Stmt := top 58
abbrev s_listening_in : Stmt := top 59
abbrev s_lis_name : Stmt := top 60
abbrev s_bell_in : Stmt := top 61
abbrev s_read : Stmt := top 62
abbrev s_changed_row : Stmt := top 63
abbrev s_changed : Stmt := top 64
abbrev s_told : Stmt := top 65
abbrev s_right : Stmt := top 66
abbrev s_law : Stmt := top 67
theorem small9000 {n : Nat} (h : n ≤ 9000) : n < sizeLine := by rw [sizeLine_eq]; omega
/-- each number lies from 0 on below its range -/
inductive InR : List Int → List Int → Prop where
  | nil : InR [] []
  | cons {n m : Int} {ns ms : List Int} (h0 : 0 ≤ n) (h1 : n < m) (t : InR ns ms) : InR (n :: ns) (m :: ms)
theorem InR.snoc {n m : Int} (h0 : 0 ≤ n) (h1 : n < m) : ∀ {ns ms : List Int}, InR ns ms → InR (ns ++ [n]) (ms ++ [m])
  | _, _, .nil => .cons h0 h1 .nil
  | _, _, .cons a b t => .cons a b (InR.snoc h0 h1 t)
theorem InR.length : ∀ {ns ms : List Int}, InR ns ms → ns.length = ms.length
  | _, _, .nil => rfl
  | _, _, .cons _ _ t => congrArg (· + 1) (InR.length t)
theorem InR.at : ∀ {ns ms : List Int} {i : Nat} {m : Int}, InR ns ms → ms[i]? = some m → ∃ n, ns[i]? = some n ∧ 0 ≤ n ∧ n < m
  | _, _, 0, _, .cons a b _, e => by simp at e; subst e; exact ⟨_, rfl, a, b⟩
  | _, _, i + 1, _, .cons _ _ t, e => by
    obtain ⟨n, h1, h2⟩ := InR.at (i := i) t (by simpa using e)
    exact ⟨n, by simpa using h1, h2⟩
  | _, _, _, _, .nil, e => by simp at e
theorem take_snoc {α : Type} {l : List α} {i : Nat} {x : α} (h : l[i]? = some x) : l.take (i + 1) = l.take i ++ [x] := by
  rw [List.take_succ, h]
  rfl
theorem map_at {ns : List Int} {i : Nat} {y : V} (h : (ns.map V.int)[i]? = some y) : ∃ z, y = V.int z ∧ ns[i]? = some z := by
  rw [List.getElem?_map] at h
  cases e : ns[i]? with
  | none => rw [e] at h; cases h
  | some z => rw [e] at h; exact ⟨z, (Option.some.inj h).symm, rfl⟩
theorem at_map {ns : List Int} {i : Nat} {z : Int} (h : ns[i]? = some z) : atI (ns.map V.int) (i : Int) = some (V.int z) := atI_nat (by rw [List.getElem?_map, h]; rfl)


structure Blt (mg : Str → Option Value) : Prop where
  all_ : mg "all" = none
  any_ : mg "any" = none
  bool_ : mg "bool" = none
  divmod_ : mg "divmod" = none
  enumerate_ : mg "enumerate" = none
  int_ : mg "int" = none
  isinstance_ : mg "isinstance" = none
  len_ : mg "len" = none
  list_ : mg "list" = none
  max_ : mg "max" = none
  min_ : mg "min" = none
  range_ : mg "range" = none
  set_ : mg "set" = none
  sorted_ : mg "sorted" = none
  str_ : mg "str" = none
  sum_ : mg "sum" = none
  tuple_ : mg "tuple" = none
  zip_ : mg "zip" = none
  ValueError_ : mg "ValueError" = none
  abs_ : mg "abs" = none
theorem blt_mk {K : PySem.W.Frag} {h : Heap} {mg : Str → Option Value} (X : K.In h) (G : h.Ns mainGlobals mg) (z1 : PySem.W.nsIn K mainGlobals "all" = some none) (z2 : PySem.W.nsIn K mainGlobals "any" = some none) (z3 : PySem.W.nsIn K mainGlobals "bool" = some none) (z4 : PySem.W.nsIn K mainGlobals "divmod" = some none)
    (z5 : PySem.W.nsIn K mainGlobals "enumerate" = some none) (z6 : PySem.W.nsIn K mainGlobals "int" = some none) (z7 : PySem.W.nsIn K mainGlobals "isinstance" = some none) (z8 : PySem.W.nsIn K mainGlobals "len" = some none) (z9 : PySem.W.nsIn K mainGlobals "list" = some none) (z10 : PySem.W.nsIn K mainGlobals "max" = some none)
    (z11 : PySem.W.nsIn K mainGlobals "min" = some none) (z12 : PySem.W.nsIn K mainGlobals "range" = some none) (z13 : PySem.W.nsIn K mainGlobals "set" = some none) (z14 : PySem.W.nsIn K mainGlobals "sorted" = some none) (z15 : PySem.W.nsIn K mainGlobals "str" = some none) (z16 : PySem.W.nsIn K mainGlobals "sum" = some none)
    (z17 : PySem.W.nsIn K mainGlobals "tuple" = some none) (z18 : PySem.W.nsIn K mainGlobals "zip" = some none) (z19 : PySem.W.nsIn K mainGlobals "ValueError" = some none) (z20 : PySem.W.nsIn K mainGlobals "abs" = some none) : Blt mg :=
  ⟨PySem.W.mg_none_of X G z1, PySem.W.mg_none_of X G z2, PySem.W.mg_none_of X G z3, PySem.W.mg_none_of X G z4, PySem.W.mg_none_of X G z5, PySem.W.mg_none_of X G z6, PySem.W.mg_none_of X G z7, PySem.W.mg_none_of X G z8, PySem.W.mg_none_of X G z9, PySem.W.mg_none_of X G z10, PySem.W.mg_none_of X G z11,
    PySem.W.mg_none_of X G z12, PySem.W.mg_none_of X G z13, PySem.W.mg_none_of X G z14, PySem.W.mg_none_of X G z15, PySem.W.mg_none_of X G z16, PySem.W.mg_none_of X G z17, PySem.W.mg_none_of X G z18, PySem.W.mg_none_of X G z19, PySem.W.mg_none_of X G z20⟩
theorem kit_ii (K : PySem.W.Frag) : PySem.W.kitOne K (.type "int") (.type "int") = some true := by kernel_rfl
theorem kit_ib (K : PySem.W.Frag) : PySem.W.kitOne K (.type "int") (.type "bool") = some false := by kernel_rfl
theorem kit_ss (K : PySem.W.Frag) : PySem.W.kitOne K (.type "str") (.type "str") = some true := by kernel_rfl
theorem kit_is (K : PySem.W.Frag) : PySem.W.kitOne K (.type "int") (.type "str") = some false := by kernel_rfl
theorem kit_bs (K : PySem.W.Frag) : PySem.W.kitOne K (.type "bool") (.type "str") = some false := by kernel_rfl
theorem kit_bi (K : PySem.W.Frag) : PySem.W.kitOne K (.type "bool") (.type "int") = some true := by kernel_rfl
theorem kit_bb (K : PySem.W.Frag) : PySem.W.kitOne K (.type "bool") (.type "bool") = some true := by kernel_rfl
theorem kit_ns (K : PySem.W.Frag) : PySem.W.kitOne K (.type "NoneType") (.type "str") = some false := by kernel_rfl
theorem kit_ni (K : PySem.W.Frag) : PySem.W.kitOne K (.type "NoneType") (.type "int") = some false := by kernel_rfl
theorem kit_ls (K : PySem.W.Frag) : PySem.W.kitOne K (.type "list") (.type "str") = some false := by kernel_rfl
theorem kit_li (K : PySem.W.Frag) : PySem.W.kitOne K (.type "list") (.type "int") = some false := by kernel_rfl
theorem kit_ts (K : PySem.W.Frag) : PySem.W.kitOne K (.type "tuple") (.type "str") = some false := by kernel_rfl
theorem kit_ti (K : PySem.W.Frag) : PySem.W.kitOne K (.type "tuple") (.type "int") = some false := by kernel_rfl
theorem kit_si (K : PySem.W.Frag) : PySem.W.kitOne K (.type "str") (.type "int") = some false := by kernel_rfl

end K15
namespace K15
open PySem L2
section
variable {P : Program} {w : World} {K : PySem.W.Frag} {mg : Str → Option Value} {base : Heap} {f : Addr} {fd : FuncData}

/-! ### the law's own small defs -/
def sp_cell (K : PySem.W.Frag) : Sp := fun vs H Q _ => ∃ (a : Addr) (ns : List Int) (k : Nat), vs = [.ref a, .int k] ∧ SqL K H a (ns.map V.int) ∧ ∀ z, Q (.int z) H
theorem sc_cell : FnScope ["_law_script", "_law_k"] ["_law_script", "_law_k"] (defScope s_cell) := ⟨rfl, rfl, rfl, by decide +kernel, rfl, by decide +kernel, by decide +kernel⟩
theorem ok_cell (F : Fun K "_law_cell" "_law_cell" s_cell f fd) (B : Blt mg) : FnOk P w K mg base CX0 1 f fd ["_law_script", "_law_k"] (sp_cell K) := by
  refine F.ok sc_cell (fun vs H Q E h => ?_) (fun cdv A outer s H vs Q E hr h => ?_)
  · obtain ⟨a, ns, k, rfl, _⟩ := h
    rfl
  obtain ⟨a, ns, k, rfl, hS, q⟩ := h
  refine ⟨_, (pss_cons (ps_if (pt_cmpR op_lt (pv 1) (pe_callB call_len_seq rfl B.len_ PySem.boot_len (pa_cons (pv 0) pa_nil)) (nomark _))
    (pss_one (ps_ret (pe_ix ix_list (pv 0) (pv 1) (fun _ _ => rfl))))
    pss_nil)
    (pss_one (ps_ret pe_int))), ?_⟩
  refine ⟨_, rfl, _, rfl, a, _, rfl, .inl hS, _, _, rfl, rfl, _, rfl, ?_⟩
  refine ite2 (fun c => ?_) (fun c => ?_)
  · have c' : (k : Int) < (((ns.map V.int).length : Nat) : Int) := of_decide_eq_true c
    rw [List.length_map] at c'
    have hk : k < ns.length := by omega
    refine ⟨_, rfl, _, rfl, a, _, _, _, rfl, rfl, hS, at_map (List.getElem?_eq_getElem hk), ?_⟩
    exact q _
  · exact q _

def sp_blended (K : PySem.W.Frag) : Sp := fun vs H Q _ => ∃ (c : Int) (a : Addr) (ms : List Int), vs = [.int c, .ref a] ∧ SqL K H a (ms.map V.int) ∧ ms.length ≤ 1000 ∧ (∀ m ∈ ms, 1 ≤ m) ∧
  ∀ r H' ns, H r = none → Same H H' → H' r = some (.lst (ns.map V.int)) → InR ns ms → Q (.ref r) H'
theorem sc_blended : FnScope ["_law_cell_here", "_law_ranges", "_law_answer", "_law_ball", "_law_k", "_law_many", "_law_other"] ["_law_cell_here", "_law_ranges"] (defScope s_blended) := ⟨rfl, rfl, rfl, by decide +kernel, rfl, by decide +kernel, by decide +kernel⟩
theorem ok_blended (F : Fun K "_law_blended" "_law_blended" s_blended f fd) (B : Blt mg) : FnOk P w K mg base CX0 1 f fd ["_law_cell_here", "_law_ranges"] (sp_blended K) := by
  refine F.ok sc_blended (fun vs H Q E h => ?_) (fun cdv A outer s H vs Q E hr h => ?_)
  · obtain ⟨c, a, ms, rfl, _⟩ := h
    rfl
  obtain ⟨c, a, ms, rfl, hS, hl, hm, q⟩ := h
  refine ⟨_, (pss_cons (ps_set (i := 2) sc_blended.nd rfl (Or.inl rfl) (pe_lst pa_nil))
    (pss_cons (ps_set (i := 3) sc_blended.nd rfl (Or.inl rfl) (pe_op op_add (pe_op op_mod (pv 0) pe_int) pe_int))
    (pss_cons (ps_for PassesOwn.never rfl (pi_enum rfl B.enumerate_ (pa_cons (pv 1) pa_nil)) (pg_tup rfl (pgs_cons (pg_name (i := 4) sc_blended.nd rfl (Or.inl rfl)) (pgs_cons (pg_name (i := 5) sc_blended.nd rfl (Or.inl rfl)) pgs_nil)))
    (pss_cons (ps_set (i := 3) sc_blended.nd rfl (Or.inl rfl) (pe_op op_mod (pe_op op_add (pe_op op_add (pe_op op_mul (pv 3) pe_int) (pe_op op_mul (pe_op op_mul pe_int (pv 4)) (pv 4))) pe_int) pe_int))
    (pss_cons (ps_set (i := 6) sc_blended.nd rfl (Or.inl rfl) (pe_op op_mod (pe_op op_mul (pv 3) (pe_op op_add (pe_op op_fdiv (pv 3) pe_int) pe_int)) pe_int))
    (pss_one (ps_expr (pe_bm PySem.F.plainAttrs_list PySem.F.slot_list_append PySem.F.type_list_append mt_append (pv 2) (pa_cons (pe_op op_mod (pe_op op_mod (pe_op op_add (pe_op op_mul (pv 6) (pv 6)) (pv 3)) pe_int) (pv 5)) pa_nil)))))))
    (pss_one (ps_ret (pv 2)))))), ?_⟩
  refine ⟨(by show 0 ≤ sizeLine; decide), fun p hp => ?_⟩
  refine ⟨_, rfl, _, _, rfl, rfl, (show (0 : Int) < 1000000093 by decide), _, _, rfl, rfl, ?_⟩
  have hlm : (ms.map V.int).length = ms.length := List.length_map _
  refine ⟨_, rfl, a, rfl, ⟨_, (same_new hp _).seq hS⟩, for_enum (K := K) (a := a) (xs := ms.map V.int) (fun i σ H2 => ∃ (ball : Int) (ns : List Int) (o1 o2 o3 : Option V),
      σ = [some (.int c), some (.ref a), some (.ref p), some (.int ball), o1, o2, o3] ∧ 0 ≤ ball ∧ ball < 2000000000 ∧ Same H H2 ∧ H2 p = some (.lst (ns.map V.int)) ∧ InR ns (ms.take i))
    ⟨c % 1000000093 + 12, [], none, none, none, rfl, by omega, by omega, same_new hp _, upd_same, .nil⟩ (fun i σ H2 _ ⟨_, _, _, _, _, _, _, _, s2, _, _⟩ => s2.seq hS) ?_ ?_⟩
  · rintro i y σ H2 T hi ⟨ball, ns, o1, o2, o3, rfl, b0, b1, s2, hp2, hin⟩ hT
    obtain ⟨m, rfl, hmi⟩ := map_at hi
    have hil : i < ms.length := (List.getElem?_eq_some_iff.mp hmi).1
    have hm1 : 1 ≤ m := hm m (List.mem_of_getElem? hmi)
    have hpT : p ≠ T := ne_of_none hp2 hT
    have hp3 : (upd H2 T (.tup [.int (i : Int), .int m])) p = some (.lst (ns.map V.int)) := by rw [upd_ne hpT]; exact hp2
    have nT : H T = none := s2.free hT
    refine ⟨T, _, rfl, SqT.of upd_same, rfl, _, _, rfl, _, _, rfl, rfl, ?_⟩
    refine ⟨_, rfl, _, _, rfl, rfl, .inr ⟨by decide, by decide⟩, _, rfl, _, _, rfl, rfl, .inl ⟨by decide, by decide⟩, _, rfl, _, _, rfl, rfl, .inr ⟨by omega, by omega⟩, _, _, rfl, rfl, _, _, rfl, rfl, _, _, rfl, rfl, (show (0 : Int) < 1000000093 by decide), ?_⟩
    generalize eb : (ball * 48817 + 65029 * (i : Int) * (i : Int) + 501) % 1000000093 = ball2
    have c0 : 0 ≤ ball2 := by omega
    have c1 : ball2 < 1000000093 := by omega
    refine ⟨_, rfl, _, rfl, _, _, rfl, rfl, ⟨by decide, by decide⟩, _, _, rfl, rfl, _, _, rfl, rfl, .inl ⟨by omega, by omega⟩, _, _, rfl, rfl, (show (0 : Int) < 998244353 by decide), ?_⟩
    generalize eo : ball2 * (ball2 / 2053 + 613) % 998244353 = oth
    have d0 : 0 ≤ oth := by omega
    have d1 : oth < 998244353 := by omega
    refine ⟨_, rfl, .inl ⟨rfl, _, SqL.of hp3⟩, _, rfl, _, rfl, _, _, rfl, rfl, .inl ⟨by omega, by omega⟩, _, rfl, _, _, rfl, rfl, _, _, rfl, rfl, (show (0 : Int) < 1000000087 by decide), _, rfl, _, _, rfl, rfl, (show (0 : Int) < m by omega), p, _, _, rfl, rfl, hp3, ?_, ?_⟩
    · rw [List.length_map, hin.length, List.length_take]
      exact small9000 (by omega)
    · generalize ez : (oth * oth + ball2) % 1000000087 = z
      refine ⟨ball2, ns ++ [z % m], some (.int (i : Int)), some (.int m), some (.int oth), (by subst eo; subst eb; rfl), c0, by omega, (s2.upd nT _).upd hp _, ?_, ?_⟩
      · subst ez
        subst eo
        subst eb
        rw [upd_same, List.map_append]
        rfl
      · rw [take_snoc hmi]
        exact hin.snoc (Int.emod_nonneg _ (by omega)) (Int.emod_lt_of_pos _ (by omega))
  · rintro σ H2 ⟨ball, ns, o1, o2, o3, rfl, b0, b1, s2, hp2, hin⟩
    refine ⟨_, rfl, ?_⟩
    rw [hlm, List.take_length] at hin
    exact q p H2 ns hp s2 hp2 hin

def sp_figures (K : PySem.W.Frag) : Sp := fun vs H Q _ => ∃ (c : Int) (a b : Addr) (ms ss : List Int), vs = [.int c, .ref a, .ref b] ∧ SqL K H a (ms.map V.int) ∧ SqL K H b (ss.map V.int) ∧ ms.length ≤ 1000 ∧ (∀ m ∈ ms, 1 ≤ m ∧ Big m) ∧ InR ss ms ∧
  ∀ r H' ns, H r = none → Same H H' → H' r = some (.lst (ns.map V.int)) → InR ns ms → Q (.ref r) H'
theorem sc_figures : FnScope ["_law_cell_here", "_law_ranges", "_law_spare", "_law_answer", "_law_k", "_law_many"] ["_law_cell_here", "_law_ranges", "_law_spare"] (defScope s_figures) := ⟨rfl, rfl, rfl, by decide +kernel, rfl, by decide +kernel, by decide +kernel⟩
theorem ok_figures (F : Fun K "_law_figures" "_law_figures" s_figures f fd) (B : Blt mg) : FnOk P w K mg base CX0 1 f fd ["_law_cell_here", "_law_ranges", "_law_spare"] (sp_figures K) := by
  refine F.ok sc_figures (fun vs H Q E h => ?_) (fun cdv A outer s H vs Q E hr h => ?_)
  · obtain ⟨c, a, b, ms, ss, rfl, _⟩ := h
    rfl
  obtain ⟨c, a, b, ms, ss, rfl, hS, hSS, hl, hm, hin0, q⟩ := h
  refine ⟨_, (pss_cons (ps_set (i := 3) sc_figures.nd rfl (Or.inl rfl) (pe_lst pa_nil))
    (pss_cons (ps_for PassesOwn.never rfl (pi_enum rfl B.enumerate_ (pa_cons (pv 1) pa_nil)) (pg_tup rfl (pgs_cons (pg_name (i := 4) sc_figures.nd rfl (Or.inl rfl)) (pgs_cons (pg_name (i := 5) sc_figures.nd rfl (Or.inl rfl)) pgs_nil)))
    (pss_cons (ps_if (PW.pt (pw_or (pt_cmpR op_eq (pv 0) pe_int (nomark _)) (pw_or1 (pt_cmpR op_eq (pv 0) (pe_op op_sub pe_int pe_int) (nomark _)))))
    (pss_one (ps_expr (pe_bm PySem.F.plainAttrs_list PySem.F.slot_list_append PySem.F.type_list_append mt_append (pv 3) (pa_cons (pe_ix ix_list (pv 2) (pv 4) (fun _ _ => rfl)) pa_nil))))
    (pss_one (ps_expr (pe_bm PySem.F.plainAttrs_list PySem.F.slot_list_append PySem.F.type_list_append mt_append (pv 3) (pa_cons (pe_op op_mod (pv 0) (pv 5)) pa_nil)))))
    (pss_one (ps_set (i := 0) sc_figures.nd rfl (Or.inl rfl) (pe_op op_fdivB (pv 0) (pv 5))))))
    (pss_one (ps_ret (pv 3))))), ?_⟩
  refine ⟨(by show 0 ≤ sizeLine; decide), fun p hp => ?_⟩
  have hlm : (ms.map V.int).length = ms.length := List.length_map _
  refine ⟨_, rfl, a, rfl, ⟨_, (same_new hp _).seq hS⟩, for_enum (K := K) (a := a) (xs := ms.map V.int) (fun i σ H2 => ∃ (cc : Int) (ns : List Int) (o1 o2 : Option V),
      σ = [some (.int cc), some (.ref a), some (.ref b), some (.ref p), o1, o2] ∧ Same H H2 ∧ H2 p = some (.lst (ns.map V.int)) ∧ InR ns (ms.take i))
    ⟨c, [], none, none, rfl, same_new hp _, upd_same, .nil⟩ (fun i σ H2 _ ⟨_, _, _, _, _, s2, _, _⟩ => s2.seq hS) ?_ ?_⟩
  · rintro i y σ H2 T hi ⟨cc, ns, o1, o2, rfl, s2, hp2, hin⟩ hT
    obtain ⟨m, rfl, hmi⟩ := map_at hi
    have hil : i < ms.length := (List.getElem?_eq_some_iff.mp hmi).1
    obtain ⟨hm1, hmB⟩ := hm m (List.mem_of_getElem? hmi)
    have hpT : p ≠ T := ne_of_none hp2 hT
    have hp3 : (upd H2 T (.tup [.int (i : Int), .int m])) p = some (.lst (ns.map V.int)) := by rw [upd_ne hpT]; exact hp2
    have nT : H T = none := s2.free hT
    have s3 : Same H (upd H2 T (.tup [.int (i : Int), .int m])) := s2.upd nT _
    have hlen : (ns.map V.int).length < sizeLine := by
      rw [List.length_map, hin.length, List.length_take]
      exact small9000 (by omega)
    obtain ⟨z0, hz0, z1, z2⟩ := hin0.at hmi
    refine ⟨T, _, rfl, SqT.of upd_same, rfl, _, _, rfl, _, _, rfl, rfl, ?_⟩
    -- what comes behind either way
    have fin : ∀ z : Int, 0 ≤ z → z < m → ∃ (cc' : Int) (ns' : List Int) (o1' o2' : Option V),
        [some (V.int (cc / m)), some (V.ref a), some (V.ref b), some (V.ref p), some (V.int (i : Int)), some (V.int m)] = [some (.int cc'), some (.ref a), some (.ref b), some (.ref p), o1', o2'] ∧
        Same H (upd (upd H2 T (.tup [.int (i : Int), .int m])) p (.lst (ns.map V.int ++ [V.int z]))) ∧ (upd (upd H2 T (.tup [.int (i : Int), .int m])) p (.lst (ns.map V.int ++ [V.int z]))) p = some (.lst (ns'.map V.int)) ∧ InR ns' (ms.take (i + 1)) := fun z h0 h1 => by
      refine ⟨cc / m, ns ++ [z], _, _, rfl, s3.upd hp _, ?_, ?_⟩
      · rw [upd_same, List.map_append]
        rfl
      · rw [take_snoc hmi]
        exact hin.snoc h0 h1
    refine ⟨_, rfl, rfl, _, rfl, ?_⟩
    refine ite2 (fun _ => ?_) (fun _ => ⟨_, rfl, _, _, rfl, rfl, rfl, _, rfl, ?_⟩)
    · refine iteT ⟨_, rfl, .inl ⟨rfl, _, SqL.of hp3⟩, _, rfl, _, rfl, b, _, _, _, rfl, rfl, s3.seq hSS, at_map hz0, p, _, _, rfl, rfl, hp3, hlen, ?_⟩
      exact ⟨_, rfl, _, rfl, _, _, rfl, rfl, ⟨by omega, hmB⟩, fin z0 z1 z2⟩
    · refine ite2 (fun _ => ?_) (fun _ => ?_)
      · refine ⟨_, rfl, .inl ⟨rfl, _, SqL.of hp3⟩, _, rfl, _, rfl, b, _, _, _, rfl, rfl, s3.seq hSS, at_map hz0, p, _, _, rfl, rfl, hp3, hlen, ?_⟩
        exact ⟨_, rfl, _, rfl, _, _, rfl, rfl, ⟨by omega, hmB⟩, fin z0 z1 z2⟩
      · refine ⟨_, rfl, .inl ⟨rfl, _, SqL.of hp3⟩, _, rfl, _, rfl, _, _, rfl, rfl, (show (0 : Int) < m by omega), p, _, _, rfl, rfl, hp3, hlen, ?_⟩
        exact ⟨_, rfl, _, rfl, _, _, rfl, rfl, ⟨by omega, hmB⟩, fin (cc % m) (Int.emod_nonneg _ (by omega)) (Int.emod_lt_of_pos _ (by omega))⟩
  · rintro σ H2 ⟨cc, ns, o1, o2, rfl, s2, hp2, hin⟩
    refine ⟨_, rfl, ?_⟩
    rw [hlm, List.take_length] at hin
    exact q p H2 ns hp s2 hp2 hin

def sp_part (K : PySem.W.Frag) : Sp := fun vs H Q _ => ∃ (a : Addr) (ns : List Int) (k : Nat) (b : Addr) (ms : List Int), vs = [.ref a, .int k, .ref b] ∧ SqL K H a (ns.map V.int) ∧ k ≤ 1000 ∧ SqL K H b (ms.map V.int) ∧ ms.length ≤ 1000 ∧ (∀ m ∈ ms, 1 ≤ m ∧ Big m) ∧
  ∀ r H' ns, H r = none → Same H H' → H' r = some (.lst (ns.map V.int)) → InR ns ms → Q (.ref r) H'
theorem sc_part : FnScope ["_law_script", "_law_k", "_law_ranges", "_law_cell_here", "_law_spare"] ["_law_script", "_law_k", "_law_ranges"] (defScope s_part) := ⟨rfl, rfl, rfl, by decide +kernel, rfl, by decide +kernel, by decide +kernel⟩
theorem ok_part (F : Fun K "_law_part" "_law_part" s_part f fd) (C_cell : Cal P w K mg base 1 "_law_cell" ["_law_script", "_law_k"] (sp_cell K)) (C_blended : Cal P w K mg base 1 "_law_blended" ["_law_cell_here", "_law_ranges"] (sp_blended K))
    (C_figures : Cal P w K mg base 1 "_law_figures" ["_law_cell_here", "_law_ranges", "_law_spare"] (sp_figures K)) : FnOk P w K mg base CX0 2 f fd ["_law_script", "_law_k", "_law_ranges"] (sp_part K) := by
  refine F.ok sc_part (fun vs H Q E h => ?_) (fun cdv A outer s H vs Q E hr h => ?_)
  · obtain ⟨a, ns, k, b, ms, rfl, _⟩ := h
    rfl
  obtain ⟨a, ns, k, b, ms, rfl, hS, hk, hB, hl, hm, q⟩ := h
  refine ⟨_, (pss_cons (ps_set (i := 3) sc_part.nd rfl (Or.inl rfl) (pe_fn C_cell hr (by decide) rfl (pa_cons (pv 0) (pa_cons (pv 1) pa_nil))))
    (pss_cons (ps_set (i := 4) sc_part.nd rfl (Or.inl rfl) (pe_fn C_blended hr (by decide) rfl (pa_cons (pe_op op_add (pv 3) (pe_op op_mul (pe_op op_mul pe_int (pv 1)) (pv 1))) (pa_cons (pv 2) pa_nil))))
    (pss_cons (ps_if (pt_cmpR op_eq (pe_op op_mod (pe_fn C_cell hr (by decide) rfl (pa_cons (pv 0) (pa_cons pe_int pa_nil))) pe_int) pe_int (nomark _))
    (pss_one (ps_ret (pe_fn C_figures hr (by decide) rfl (pa_cons (pv 3) (pa_cons (pv 2) (pa_cons (pv 4) pa_nil))))))
    pss_nil)
    (pss_one (ps_ret (pv 4)))))), ?_⟩
  refine ⟨_, rfl, _, rfl, a, ns, k, rfl, hS, fun z => ?_⟩
  refine ⟨_, rfl, _, rfl, _, _, rfl, rfl, .inl ⟨by decide, by decide⟩, _, rfl, _, _, rfl, rfl, .inr ⟨by omega, by omega⟩, _, _, rfl, rfl, _, rfl, _, b, ms, rfl, hB, hl, fun m h => (hm m h).1, fun r H1 ss hr1 s1 h1 hin => ?_⟩
  refine ⟨_, rfl, a, ns, 0, rfl, s1.seq hS, fun z' => ?_⟩
  refine ⟨_, _, rfl, rfl, (show (0 : Int) < 2 by decide), rfl, _, rfl, ?_⟩
  refine ite2 (fun _ => ?_) (fun _ => ?_)
  · refine ⟨_, rfl, _, rfl, _, rfl, _, b, r, ms, ss, rfl, s1.seq hB, SqL.of h1, hl, hm, hin, fun r2 H2 ns2 hr2 s2 h2 hin2 => ?_⟩
    exact q r2 H2 ns2 (s1.free hr2) (s1.trans s2) h2 hin2
  · refine ⟨_, rfl, ?_⟩
    exact q r H1 ss hr1 s1 h1 hin
end
end K15

namespace K15
open PySem L2
section
variable {P : Program} {w : World} {K : PySem.W.Frag} {mg : Str → Option Value} {base : Heap} {f : Addr} {fd : FuncData}
/-! ### whole numbers -/
/-- a thing's kind: whether it is a str, a whole number -/
structure Kind (K : PySem.W.Frag) (H : Hp) (v : V) (isS isW : Bool) : Prop where
  ex : ∃ (t : Value) (bi bb : Bool), TyOf K H v t ∧ PySem.W.kitOne K t (.type "str") = some isS ∧ PySem.W.kitOne K t (.type "int") = some bi ∧ (bi = true → PySem.W.kitOne K t (.type "bool") = some bb) ∧ isW = (bi && !bb)
theorem kind_int (H : Hp) (i : Int) : Kind K H (.int i) false true := ⟨_, true, false, .int i, kit_is K, kit_ii K, fun _ => kit_ib K, rfl⟩
theorem kind_bl (H : Hp) (b : Bool) : Kind K H (.bl b) false false := ⟨_, true, true, .bl b, kit_bs K, kit_bi K, fun _ => kit_bb K, rfl⟩
theorem kind_non (H : Hp) : Kind K H .non false false := ⟨_, false, false, .non, kit_ns K, kit_ni K, (fun z => nomatch z), rfl⟩
theorem kind_lst {H : Hp} {a : Addr} {xs : List V} (h : H a = some (.lst xs)) : Kind K H (.ref a) false false := ⟨_, false, false, .lst h, kit_ls K, kit_li K, (fun z => nomatch z), rfl⟩
theorem kind_tup {H : Hp} {a : Addr} {xs : List V} (h : H a = some (.tup xs)) : Kind K H (.ref a) false false := ⟨_, false, false, .tup h, kit_ts K, kit_ti K, (fun z => nomatch z), rfl⟩
theorem kind_str (H : Hp) (x : Str) : Kind K H (.str x) true false := ⟨_, false, false, .str x, kit_ss K, kit_si K, (fun z => nomatch z), rfl⟩
def sp_whole (K : PySem.W.Frag) : Sp := fun vs H Q _ => ∃ (v : V) (isS isW : Bool), vs = [v] ∧ Kind K H v isS isW ∧ Q (.bl isW) H
theorem sc_is_whole : FnScope ["thing"] ["thing"] (defScope s_is_whole) := ⟨rfl, rfl, rfl, by decide +kernel, rfl, by decide +kernel, by decide +kernel⟩
theorem ok_is_whole (F : Fun K "is_whole" "is_whole" s_is_whole f fd) (B : Blt mg) : FnOk P w K mg base CX0 1 f fd ["thing"] (sp_whole K) := by
  refine F.ok sc_is_whole (fun vs H Q E h => ?_) (fun cdv A outer s H vs Q E hr h => ?_)
  · obtain ⟨v, isS, isW, rfl, _⟩ := h
    rfl
  obtain ⟨v, isS, isW, rfl, kd, q⟩ := h
  obtain ⟨t, bi, bb, ty, k1, k2, k3, k4⟩ := kd.ex
  refine ⟨_, (pss_one (ps_ret (pe_and (pe_callB (call_isT "int") rfl B.isinstance_ PyProof.Rows.boot_isinstance (pa_cons (pv 0) (pa_cons (pe_bltn (v := .ty "int") rfl B.int_ PyProof.Rows.boot_int rfl) pa_nil))) (pe_one (pe_not (pe_callB (call_isT "bool") rfl B.isinstance_ PyProof.Rows.boot_isinstance (pa_cons (pv 0) (pa_cons (pe_bltn (v := .ty "bool") rfl B.bool_ PyProof.Rows.boot_bool rfl) pa_nil)))))))), ?_⟩
  refine ⟨_, rfl, _, _, _, rfl, ty, k2, _, rfl, ?_⟩
  subst k4
  cases bi with
  | false => exact iteF q
  | true =>
    refine iteT ?_
    refine ⟨_, rfl, _, _, _, rfl, ty, k3 rfl, _, rfl, ?_⟩
    exact q
/-! ### the classes -/
def sp_init (K : PySem.W.Frag) : Sp := fun vs H Q _ => ∃ (p C dx : Addr) (v : V), vs = [.ref p, v] ∧ H p = some (.ins C dx []) ∧ Cls K C ∧ NoAttr K C "need" ∧ Q .non (upd H p (.ins C dx [("need", v)]))
def sp_init1 (K : PySem.W.Frag) : Sp := fun vs H Q _ => ∃ (p C dx : Addr), vs = [.ref p] ∧ H p = some (.ins C dx []) ∧ Cls K C ∧ NoAttr K C "need" ∧ Q .non (upd H p (.ins C dx [("need", .int 1)]))
theorem sc_Rinit : FnScope ["self", "need"] ["self", "need"] (defScope s_Rinit) := ⟨rfl, rfl, rfl, by decide +kernel, rfl, by decide +kernel, by decide +kernel⟩
theorem ok_Rinit (F : Fun K "__init__" "Rule.__init__" s_Rinit f fd) : FnOk P w K mg base CX0 1 f fd ["self", "need"] (sp_init K) := by
  refine F.ok sc_Rinit (fun vs H Q E h => ?_) (fun cdv A outer s H vs Q E hr h => ?_)
  · obtain ⟨p, C, dx, v, rfl, _⟩ := h
    rfl
  obtain ⟨p, C, dx, v, rfl, hp, cl, na, q⟩ := h
  refine ⟨_, (pss_one (ps_fld (pv 0) (pv 1) rfl)), ?_⟩
  exact ⟨_, rfl, _, rfl, p, C, dx, [], rfl, hp, cl, na, (by show 0 < 1000; decide), q⟩
theorem sc_Ainit : FnScope ["self", "many"] ["self", "many"] (defScope s_Ainit) := ⟨rfl, rfl, rfl, by decide +kernel, rfl, by decide +kernel, by decide +kernel⟩
theorem ok_Ainit {R g : Addr} {gd : FuncData} (F : Fun K "__init__" "All.__init__" s_Ainit f fd) (mR : mg "Rule" = some (.ref R)) (c : ClsFn K R "__init__" g) (G : FnOk P w K mg base CX0 1 g gd ["self", "need"] (sp_init K)) (b : Binds K gd ["self", "need"] []) :
    FnOk P w K mg base CX0 2 f fd ["self", "many"] (sp_init K) := by
  refine F.ok sc_Ainit (fun vs H Q E h => ?_) (fun cdv A outer s H vs Q E hr h => ?_)
  · obtain ⟨p, C, dx, v, rfl, _⟩ := h
    rfl
  obtain ⟨p, C, dx, v, rfl, hp, cl, na, q⟩ := h
  refine ⟨_, (pss_one (ps_expr (pe_clsfn rfl mR c G hr b .nil pass0 (pa_cons (pv 0) (pa_cons (pv 1) pa_nil))))), ?_⟩
  exact ⟨_, rfl, _, rfl, p, C, dx, v, rfl, hp, cl, na, q⟩
theorem sc_Sinit : FnScope ["self", "need"] ["self", "need"] (defScope s_Sinit) := ⟨rfl, rfl, rfl, by decide +kernel, rfl, by decide +kernel, by decide +kernel⟩
theorem ok_Sinit {R g : Addr} {gd : FuncData} (F : Fun K "__init__" "Some.__init__" s_Sinit f fd) (mR : mg "Rule" = some (.ref R)) (c : ClsFn K R "__init__" g) (G : FnOk P w K mg base CX0 1 g gd ["self", "need"] (sp_init K)) (b : Binds K gd ["self", "need"] []) :
    FnOk P w K mg base CX0 2 f fd ["self", "need"] (sp_init K) := by
  refine F.ok sc_Sinit (fun vs H Q E h => ?_) (fun cdv A outer s H vs Q E hr h => ?_)
  · obtain ⟨p, C, dx, v, rfl, _⟩ := h
    rfl
  obtain ⟨p, C, dx, v, rfl, hp, cl, na, q⟩ := h
  refine ⟨_, (pss_one (ps_expr (pe_clsfn rfl mR c G hr b .nil pass0 (pa_cons (pv 0) (pa_cons (pv 1) pa_nil))))), ?_⟩
  exact ⟨_, rfl, _, rfl, p, C, dx, v, rfl, hp, cl, na, q⟩
theorem sc_Yinit : FnScope ["self"] ["self"] (defScope s_Yinit) := ⟨rfl, rfl, rfl, by decide +kernel, rfl, by decide +kernel, by decide +kernel⟩
theorem ok_Yinit {R g : Addr} {gd : FuncData} (F : Fun K "__init__" "Any.__init__" s_Yinit f fd) (mR : mg "Rule" = some (.ref R)) (c : ClsFn K R "__init__" g) (G : FnOk P w K mg base CX0 1 g gd ["self", "need"] (sp_init K)) (b : Binds K gd ["self", "need"] []) :
    FnOk P w K mg base CX0 2 f fd ["self"] (sp_init1 K) := by
  refine F.ok sc_Yinit (fun vs H Q E h => ?_) (fun cdv A outer s H vs Q E hr h => ?_)
  · obtain ⟨p, C, dx, rfl, _⟩ := h
    rfl
  obtain ⟨p, C, dx, rfl, hp, cl, na, q⟩ := h
  refine ⟨_, (pss_one (ps_expr (pe_clsfn rfl mR c G hr b .nil pass0 (pa_cons (pv 0) (pa_cons pe_int pa_nil))))), ?_⟩
  exact ⟨_, rfl, p, C, dx, .int 1, rfl, hp, cl, na, q⟩
/-- what a rule's class must have to be made -/
structure Own (K : PySem.W.Frag) (C fi : Addr) : Prop where
  cl : Cls K C
  nN : NoAttr K C "need"
  mks : Mk K C fi
theorem own_mk {K : PySem.W.Frag} {C fi : Addr} (i : PySem.W.findIn K (.ref C) "__init__" = some (some (.ref fi))) (pg : PySem.W.plainGet K C Str.empty = true) (hd : PySem.W.hasDictIn K C = true) (po : PySem.W.plainOver K C = true)
    (sa : PySem.W.findIn K (.ref C) "__setattr__" = some (some (.builtin "object.__setattr__"))) (n : PySem.W.findIn K (.ref C) "need" = some none) (mk : PySem.W.makesIn K C = true) (fn : PySem.W.isFn K (.ref fi) = true) (kc : PySem.W.keepIn K (.ref C) = true) : Own K C fi := ⟨⟨pg, hd, po, sa⟩, n, ⟨mk, i, fn, kc⟩⟩
theorem clsfn_mk {K : PySem.W.Frag} {C g : Addr} {m : Str} (a : PySem.W.findCls K (.ref C) (.type "type") m = some (.val (.ref g))) (rd : PySem.W.readsIn K C (.type "type") = true)
    (sp : PySem.W.specialIn K (.ref C) "__getattribute__" = some (some (.builtin "type.__getattribute__"))) (kp : PySem.W.keepIn K (.ref g) = true) : ClsFn K C m g := ⟨rd, a, sp, kp⟩
/-! ### rule_of -/
theorem ne_any_all : ¬ (V.str ("any" : Str) = V.str ("all" : Str)) := by
  intro h
  injection h with h
  exact absurd h (by decide +kernel)
theorem made_same {H : Hp} {x dx C : Addr} {l1 l2 : List (Str × V)} (nx : H x = none) (ndx : H dx = none) : Same H (upd (upd (upd H dx (.own x)) x (.ins C dx l1)) x (.ins C dx l2)) := fun b o e => by
  rw [upd_ne (ne_of_none e nx), upd_ne (ne_of_none e nx), upd_ne (ne_of_none e ndx)]
  exact e
/-- a rule's object of the class at C, which wants n, is handed back -/
def Made (C : Addr) (n : Int) (H : Hp) (Q : VK) : Prop := ∀ x dx H', Same H H' → H x = none → H' x = some (.ins C dx [("need", .int n)]) → Q (.ref x) H'
/-- no rule for so many listenings -/
def BadW (K : PySem.W.Frag) (H : Hp) (wd : V) (many : Int) : Prop := (∃ t, wd = .str t ∧ t ≠ "all" ∧ t ≠ "any") ∨ (∃ n, wd = .int n ∧ ¬ (1 ≤ n ∧ n ≤ many)) ∨ Kind K H wd false false
def sp_text (cA cY cN : Addr) : Sp := fun vs H Q E => ∃ (t : Str) (many : Int), vs = [.str t, .int many] ∧ (t = "all" ∧ Made cA many H Q ∨ t = "any" ∧ Made cY 1 H Q ∨ t ≠ "all" ∧ t ≠ "any" ∧ E (.ref cN) none H)
theorem sc_text : FnScope ["text", "many"] ["text", "many"] (defScope s_text) := ⟨rfl, rfl, rfl, by decide +kernel, rfl, by decide +kernel, by decide +kernel⟩
theorem ok_text {cA cY cN fA fY : Addr} {dA dY : FuncData} (F : Fun K "rule_of_text" "rule_of_text" s_text f fd) (mA : mg "All" = some (.ref cA)) (mY : mg "Any" = some (.ref cY)) (mN : mg "NoRule" = some (.ref cN)) (xN : ExcC K cN) (oA : Own K cA fA) (oY : Own K cY fY)
    (GA : FnOk P w K mg base CX0 2 fA dA ["self", "many"] (sp_init K)) (bA : Binds K dA ["self", "many"] []) (GY : FnOk P w K mg base CX0 2 fY dY ["self"] (sp_init1 K)) (bY : Binds K dY ["self"] []) :
    FnOk P w K mg base (CXE P w) 4 f fd ["text", "many"] (sp_text cA cY cN) := by
  refine F.okX sc_text (fun vs H Q E h => ?_) (fun cdv A' outer s H vs Q E hr h => ?_)
  · obtain ⟨t, many, rfl, _⟩ := h
    rfl
  obtain ⟨t, many, rfl, hw⟩ := h
  refine ⟨_, (pss_cons (ps_if (pt_cmpR op_eq (pv 0) pe_str (nomark _))
    (pss_one (ps_ret (pe_make oA.mks GA hr rfl mA bA .nil pass0 (pa_cons (pv 1) pa_nil))))
    pss_nil)
    (pss_cons (ps_if (pt_cmpR op_eq (pv 0) pe_str (nomark _))
    (pss_one (ps_ret (pe_make0 oY.mks GY hr rfl mY bY .nil pass0)))
    pss_nil)
    (pss_one (ps_raise0 starts_cx rfl rfl mN xN)))), ?_⟩
  refine ⟨_, rfl, rfl, _, rfl, ?_⟩
  rcases hw with ⟨rfl, q⟩ | ⟨rfl, q⟩ | ⟨n1, n2, q⟩
  · refine ite2 (fun _ => ?_) (fun c => absurd (decide_eq_true rfl) c)
    refine ⟨_, rfl, fun x dx nx ndx ne => ⟨x, cA, dx, _, rfl, upd_same, oA.cl, oA.nN, rfl, ?_⟩⟩
    exact q x dx _ (made_same nx ndx) nx upd_same
  · refine ite2 (fun c => absurd (of_decide_eq_true c) ne_any_all) (fun _ => ?_)
    refine ⟨_, rfl, rfl, _, rfl, ?_⟩
    refine ite2 (fun _ => ?_) (fun c => absurd (decide_eq_true rfl) c)
    refine fun x dx nx ndx ne => ⟨x, cY, dx, rfl, upd_same, oY.cl, oY.nN, rfl, ?_⟩
    exact q x dx _ (made_same nx ndx) nx upd_same
  · refine ite2 (fun c => absurd (V.str.inj (of_decide_eq_true c)) n1) (fun _ => ?_)
    refine ⟨_, rfl, rfl, _, rfl, ?_⟩
    refine ite2 (fun c => absurd (V.str.inj (of_decide_eq_true c)) n2) (fun _ => ?_)
    exact q
def sp_rule (K : PySem.W.Frag) (cA cY cS cN : Addr) : Sp := fun vs H Q E => ∃ (wd : V) (many : Int), vs = [wd, .int many] ∧ (wd = .str "all" ∧ Made cA many H Q ∨ wd = .str "any" ∧ Made cY 1 H Q ∨ (∃ n, wd = .int n ∧ 1 ≤ n ∧ n ≤ many ∧ Made cS n H Q) ∨ BadW K H wd many ∧ E (.ref cN) none H)
theorem sc_rule_of : FnScope ["word", "many"] ["word", "many"] (defScope s_rule_of) := ⟨rfl, rfl, rfl, by decide +kernel, rfl, by decide +kernel, by decide +kernel⟩
theorem ok_rule_of {cA cY cS cN fS : Addr} {dS : FuncData} (F : Fun K "rule_of" "rule_of" s_rule_of f fd) (B : Blt mg) (mS : mg "Some" = some (.ref cS)) (mN : mg "NoRule" = some (.ref cN)) (xN : ExcC K cN) (oS : Own K cS fS) (GS : FnOk P w K mg base CX0 2 fS dS ["self", "need"] (sp_init K)) (bS : Binds K dS ["self", "need"] [])
    (C_text : CalX P w K mg base 4 "rule_of_text" ["text", "many"] (sp_text cA cY cN)) (C_whole : Cal P w K mg base 1 "is_whole" ["thing"] (sp_whole K)) : FnOk P w K mg base (CXE P w) 5 f fd ["word", "many"] (sp_rule K cA cY cS cN) := by
  refine F.okX sc_rule_of (fun vs H Q E h => ?_) (fun cdv A' outer s H vs Q E hr h => ?_)
  · obtain ⟨wd, many, rfl, _⟩ := h
    rfl
  obtain ⟨wd, many, rfl, hw⟩ := h
  have hr3 : Room 3 _ := hr.mono (by decide)
  refine ⟨_, (pss_cons (ps_if (pt_val (pe_callB (call_isT "str") rfl B.isinstance_ PyProof.Rows.boot_isinstance (pa_cons (pv 0) (pa_cons (pe_bltn (v := .ty "str") rfl B.str_ PyProof.Rows.boot_str rfl) pa_nil))))
    (pss_one (ps_ret (pe_fnX C_text passes_cx hr (by decide) rfl (pa_cons (pv 0) (pa_cons (pv 1) pa_nil)))))
    pss_nil)
    (pss_cons (ps_if (PW.pt (pw_and (pt_val (pe_fn C_whole hr (by decide) rfl (pa_cons (pv 0) pa_nil))) (pw_and1 (pt_chain op_le op_le pe_int (pv 0) (pv 1)))))
    (pss_one (ps_ret (pe_make oS.mks GS hr3 rfl mS bS .nil pass0 (pa_cons (pv 0) pa_nil))))
    pss_nil)
    (pss_one (ps_raise0 starts_cx rfl rfl mN xN)))), ?_⟩
  rcases hw with ⟨rfl, q⟩ | ⟨rfl, q⟩ | ⟨n, rfl, h1, h2, q⟩ | ⟨⟨t, rfl, n1, n2⟩ | ⟨n, rfl, hn⟩ | kd, q⟩
  · refine ⟨_, rfl, _, _, _, rfl, .str _, kit_ss K, _, rfl, iteT ?_⟩
    exact ⟨_, rfl, _, rfl, "all", _, rfl, .inl ⟨rfl, q⟩⟩
  · refine ⟨_, rfl, _, _, _, rfl, .str _, kit_ss K, _, rfl, iteT ?_⟩
    exact ⟨_, rfl, _, rfl, "any", _, rfl, .inr (.inl ⟨rfl, q⟩)⟩
  · refine ⟨_, rfl, _, _, _, rfl, .int _, kit_is K, _, rfl, iteF ?_⟩
    refine ⟨_, rfl, _, _, _, rfl, kind_int H n, _, rfl, iteT ?_⟩
    refine ⟨_, rfl, _, _, rfl, rfl, _, rfl, ?_⟩
    rw [decide_eq_true h1]
    refine iteT ⟨_, rfl, _, _, rfl, rfl, _, rfl, ?_⟩
    rw [decide_eq_true h2]
    refine iteT ?_
    refine ⟨_, rfl, fun x dx nx ndx ne => ⟨x, cS, dx, _, rfl, upd_same, oS.cl, oS.nN, rfl, ?_⟩⟩
    exact q x dx _ (made_same nx ndx) nx upd_same
  · refine ⟨_, rfl, _, _, _, rfl, .str _, kit_ss K, _, rfl, iteT ?_⟩
    exact ⟨_, rfl, _, rfl, t, _, rfl, .inr (.inr ⟨n1, n2, q⟩)⟩
  · refine ⟨_, rfl, _, _, _, rfl, .int _, kit_is K, _, rfl, iteF ?_⟩
    refine ⟨_, rfl, _, _, _, rfl, kind_int H n, _, rfl, iteT ?_⟩
    refine ⟨_, rfl, _, _, rfl, rfl, _, rfl, ?_⟩
    refine ite2 (fun c1 => ?_) (fun _ => ⟨_, rfl, iteF q⟩)
    refine ⟨_, rfl, _, _, rfl, rfl, _, rfl, ?_⟩
    refine ite2 (fun c2 => absurd ⟨of_decide_eq_true c1, of_decide_eq_true c2⟩ hn) (fun _ => q)
  · obtain ⟨t, bi, bb, ty, k1, k2, k3, k4⟩ := id kd.ex
    refine ⟨_, rfl, _, _, _, rfl, ty, k1, _, rfl, iteF ?_⟩
    refine ⟨_, rfl, _, _, _, rfl, kd, _, rfl, iteF ?_⟩
    exact iteF q
end
end K15

namespace K15
open PySem L2
/-! ### choirs as data -/
structure Lis where
  (whom : Nat) (beats : Int) (back : Bool)
inductive RW where
  | all | any | num (n : Int)
structure Bell where
  (name : Str) (start : Int) (rule : RW) (lis : List Lis)
def lisV (l : Lis) : List V := [.int l.whom, .int l.beats, .int (if l.back then 1 else 0)]
def rwV : RW → V
  | .all => .str "all"
  | .any => .str "any"
  | .num n => .int n
def LisAt (H : Hp) (v : V) (l : Lis) : Prop := ∃ a, v = .ref a ∧ H a = some (.tup (lisV l))
def BellAt (H : Hp) (v : V) (b : Bell) : Prop := ∃ a t ls, v = .ref a ∧ H a = some (.tup [.str b.name, .int b.start, rwV b.rule, .ref t]) ∧ H t = some (.tup ls) ∧ Paired (LisAt H) ls b.lis
def ChoirAt (H : Hp) (v : V) (c : List Bell) : Prop := ∃ a vs, v = .ref a ∧ H a = some (.tup vs) ∧ Paired (BellAt H) vs c
def TupS (H H' : Hp) : Prop := ∀ b xs, H b = some (.tup xs) → H' b = some (.tup xs)
theorem TupS.trans {H H1 H2 : Hp} (a : TupS H H1) (b : TupS H1 H2) : TupS H H2 := fun c xs e => b c xs (a c xs e)
theorem Same.tup {H H' : Hp} (s : Same H H') : TupS H H' := fun b xs e => s b _ e
theorem tup_upd {H : Hp} {p : Addr} {o : HO} (h : ∀ xs, H p ≠ some (.tup xs)) : TupS H (upd H p o) := fun b xs e => by
  have hb : b ≠ p := fun z => h xs (by rw [← z]; exact e)
  rw [upd_ne hb]
  exact e
theorem paired_imp {α β : Type} {F G : α → β → Prop} (f : ∀ a b, F a b → G a b) : ∀ {xs : List α} {ys : List β}, Paired F xs ys → Paired G xs ys
  | _, _, .nil => .nil
  | _, _, .cons r t => .cons (f _ _ r) (paired_imp f t)
theorem paired_len {α β : Type} {F : α → β → Prop} : ∀ {xs : List α} {ys : List β}, Paired F xs ys → xs.length = ys.length
  | _, _, .nil => rfl
  | _, _, .cons _ t => congrArg (· + 1) (paired_len t)
theorem paired_at {α β : Type} {F : α → β → Prop} : ∀ {xs : List α} {ys : List β} {i : Nat} {x : α}, Paired F xs ys → xs[i]? = some x → ∃ y, ys[i]? = some y ∧ F x y
  | _, _, 0, _, .cons r _, e => by simp at e; subst e; exact ⟨_, rfl, r⟩
  | _, _, i + 1, _, .cons _ t, e => by
    obtain ⟨y, h1, h2⟩ := paired_at (i := i) t (by simpa using e)
    exact ⟨y, by simpa using h1, h2⟩
theorem paired_snoc {α β : Type} {F : α → β → Prop} {x : α} {y : β} (h : F x y) : ∀ {xs : List α} {ys : List β}, Paired F xs ys → Paired F (xs ++ [x]) (ys ++ [y])
  | _, _, .nil => .cons h .nil
  | _, _, .cons r t => .cons r (paired_snoc h t)
theorem LisAt.mono {H H' : Hp} (s : TupS H H') {v : V} {l : Lis} (h : LisAt H v l) : LisAt H' v l := by
  obtain ⟨a, e, q⟩ := h
  exact ⟨a, e, s _ _ q⟩
theorem BellAt.mono {H H' : Hp} (s : TupS H H') {v : V} {b : Bell} (h : BellAt H v b) : BellAt H' v b := by
  obtain ⟨a, t, ls, e, q1, q2, q3⟩ := h
  exact ⟨a, t, ls, e, s _ _ q1, s _ _ q2, paired_imp (fun _ _ z => z.mono s) q3⟩
def GoodR (n : Nat) : RW → Prop
  | .num i => 1 ≤ i ∧ i ≤ n
  | _ => True
/-- whom it listens to lies below m; where waits is false one of the same stroke lies below k -/
def GoodL (m k : Nat) (waits : Bool) (l : Lis) : Prop := l.whom < m ∧ 1 ≤ l.beats ∧ l.beats ≤ 1000 ∧ (waits = false → l.back = false → l.whom < k)
structure GoodB (m k : Nat) (waits : Bool) (b : Bell) : Prop where
  n1 : 1 ≤ b.lis.length
  n6 : b.lis.length ≤ 6
  s0 : 0 ≤ b.start
  s1 : b.start ≤ 1000
  r : GoodR b.lis.length b.rule
  l : ∀ l ∈ b.lis, GoodL m k waits l
end K15

namespace K15
open PySem L2
/-! ### things as data -/
theorem ntake_snoc {α : Type} {l : List α} {i : Nat} {x : α} (h : l[i]? = some x) : l.take (i + 1) = l.take i ++ [x] := by
  obtain ⟨hi, e⟩ := List.getElem?_eq_some_iff.mp h
  rw [List.take_succ_eq_append_getElem hi, e]
inductive Th where
  | int (i : Int) | bl (b : Bool) | non | str (z : Str) | tup (ts : List Th) | lst | dic
mutual
def ThAt (H : Hp) : Th → V → Prop
  | .int i, v => v = .int i
  | .bl b, v => v = .bl b
  | .non, v => v = .non
  | .str z, v => v = .str z ∧ z.length ≤ 2000
  | .tup ts, v => ∃ a vs, v = .ref a ∧ H a = some (.tup vs) ∧ ThsAt H ts vs
  | .lst, v => ∃ a xs, v = .ref a ∧ H a = some (.lst xs)
  | .dic, v => ∃ a kvs, v = .ref a ∧ H a = some (.dK kvs)
def ThsAt (H : Hp) : List Th → List V → Prop
  | [], vs => vs = []
  | t :: ts, vs => ∃ v r, vs = v :: r ∧ ThAt H t v ∧ ThsAt H ts r
end
mutual
theorem ThAt.same {H H' : Hp} (s : Same H H') : ∀ (t : Th) {v : V}, ThAt H t v → ThAt H' t v
  | .int _, _, h => h
  | .bl _, _, h => h
  | .non, _, h => h
  | .str _, _, h => h
  | .tup ts, _, ⟨a, vs, e, ha, h⟩ => ⟨a, vs, e, s _ _ ha, ThsAt.same s ts h⟩
  | .lst, _, ⟨a, xs, e, ha⟩ => ⟨a, xs, e, s _ _ ha⟩
  | .dic, _, ⟨a, xs, e, ha⟩ => ⟨a, xs, e, s _ _ ha⟩
theorem ThsAt.same {H H' : Hp} (s : Same H H') : ∀ (ts : List Th) {vs : List V}, ThsAt H ts vs → ThsAt H' ts vs
  | [], _, h => h
  | t :: ts, _, ⟨v, r, e, h1, h2⟩ => ⟨v, r, e, ThAt.same s t h1, ThsAt.same s ts h2⟩
end
theorem ThsAt.len {H : Hp} : ∀ {ts : List Th} {vs : List V}, ThsAt H ts vs → vs.length = ts.length
  | [], _, h => by cases h; rfl
  | t :: ts, _, ⟨v, r, e, _, h2⟩ => by subst e; exact congrArg (· + 1) (ThsAt.len h2)
theorem ThsAt.at {H : Hp} : ∀ {ts : List Th} {vs : List V} {i : Nat} {t : Th}, ThsAt H ts vs → ts[i]? = some t → ∃ v, vs[i]? = some v ∧ ThAt H t v
  | _ :: _, _, 0, _, ⟨v, r, e, h1, _⟩, h => by subst e; cases h; exact ⟨v, rfl, h1⟩
  | _ :: ts, _, i + 1, _, ⟨v, r, e, _, h2⟩, h => by
    subst e
    obtain ⟨u, h3, h4⟩ := ThsAt.at (i := i) h2 (by simpa using h)
    exact ⟨u, by simpa using h3, h4⟩
theorem ThsAt.app {H : Hp} : ∀ {ts us : List Th} {vs ws : List V}, ThsAt H ts vs → ThsAt H us ws → ThsAt H (ts ++ us) (vs ++ ws)
  | [], _, _, _, h, h' => by cases h; exact h'
  | _ :: _, _, _, _, ⟨v, r, e, h1, h2⟩, h' => by subst e; exact ⟨v, r ++ _, rfl, h1, ThsAt.app h2 h'⟩
/-! ### what is a bell, of things -/
def isS : Th → Bool | .str _ => true | _ => false
def isI : Th → Bool | .int _ => true | _ => false
def isT : Th → Bool | .tup _ => true | _ => false
def inT : Th → Int → Int → Bool
  | .int i, lo, hi => decide (lo ≤ i) && decide (i ≤ hi)
  | _, _, _ => false
def lettersT : Str := "abcdefghijklmnopqrstuvwxyz"
def fourT : List Str := ["all", "any", "bell", "none"]
def inLet (c : Nat) : Bool := !(Builtin.Str.occurrences lettersT ⟨#[c]⟩ 0 lettersT.length 1).isEmpty
def wordS (z : Str) : Bool := decide (1 ≤ z.length) && decide (z.length ≤ 8) && z.cps.toList.all inLet
def wordT : Th → Bool | .str z => wordS z | _ => false
def nameT : Th → Bool | .str z => wordS z && !decide (z ∈ fourT) | _ => false
def ruleT : Th → Int → Bool
  | .str z, _ => decide (z = "all") || decide (z = "any")
  | .int n, m => decide (1 ≤ n) && decide (n ≤ m)
  | _, _ => false
def lisB : Th → Int → Bool
  | .tup [x, y, z], m => inT x 0 (m - 1) && (inT y 1 1000 && inT z 0 1)
  | _, _ => false
def lissB : Th → Int → Bool
  | .tup ts, m => decide (1 ≤ ts.length) && decide (ts.length ≤ 6) && ts.all (fun t => lisB t m)
  | _, _ => false
def lenT : Th → Nat | .tup ts => ts.length | _ => 0
def inA : Th → List Str → Bool | .str z, ahead => decide (z ∈ ahead) | _, _ => false
def bellB : Th → List Str → Int → Bool
  | .tup [n, s, r, l], ahead, m => nameT n && !inA n ahead && inT s 0 1000 && (lissB l m && ruleT r (lenT l))
  | _, _, _ => false
def nameOf : Th → Str | .tup (.str z :: _) => z | _ => Str.empty
section
variable {P : Program} {w : World} {K : PySem.W.Frag} {mg : Str → Option Value} {base : Heap} {f : Addr} {fd : FuncData}
theorem kit_tt (K : PySem.W.Frag) : PySem.W.kitOne K (.type "tuple") (.type "tuple") = some true := by kernel_rfl
theorem kit_st (K : PySem.W.Frag) : PySem.W.kitOne K (.type "str") (.type "tuple") = some false := by kernel_rfl
theorem kit_it (K : PySem.W.Frag) : PySem.W.kitOne K (.type "int") (.type "tuple") = some false := by kernel_rfl
theorem kit_bt (K : PySem.W.Frag) : PySem.W.kitOne K (.type "bool") (.type "tuple") = some false := by kernel_rfl
theorem kit_nt (K : PySem.W.Frag) : PySem.W.kitOne K (.type "NoneType") (.type "tuple") = some false := by kernel_rfl
theorem kit_lt (K : PySem.W.Frag) : PySem.W.kitOne K (.type "list") (.type "tuple") = some false := by kernel_rfl
theorem kit_dt (K : PySem.W.Frag) : PySem.W.kitOne K (.type "dict") (.type "tuple") = some false := by kernel_rfl
theorem kit_ds (K : PySem.W.Frag) : PySem.W.kitOne K (.type "dict") (.type "str") = some false := by kernel_rfl
theorem kit_di (K : PySem.W.Frag) : PySem.W.kitOne K (.type "dict") (.type "int") = some false := by kernel_rfl
theorem kind_dic {H : Hp} {a : Addr} {kvs : List (Key × V)} (h : H a = some (.dK kvs)) : Kind K H (.ref a) false false := ⟨_, false, false, .dK h, kit_ds K, kit_di K, (fun z => nomatch z), rfl⟩
theorem ThAt.kind {H : Hp} {t : Th} {v : V} (h : ThAt H t v) : Kind K H v (isS t) (isI t) := by
  cases t with
  | int i => cases h; exact kind_int H i
  | bl b => cases h; exact kind_bl H b
  | non => cases h; exact kind_non H
  | str z => obtain ⟨rfl, _⟩ := h; exact kind_str H z
  | tup ts => obtain ⟨a, vs, rfl, ha, _⟩ := h; exact kind_tup ha
  | lst => obtain ⟨a, xs, rfl, ha⟩ := h; exact kind_lst ha
  | dic => obtain ⟨a, xs, rfl, ha⟩ := h; exact kind_dic ha
theorem ThAt.ty {H : Hp} {t : Th} {v : V} (h : ThAt H t v) : ∃ ty, TyOf K H v ty ∧ PySem.W.kitOne K ty (.type "tuple") = some (isT t) := by
  cases t with
  | int i => cases h; exact ⟨_, .int i, kit_it K⟩
  | bl b => cases h; exact ⟨_, .bl b, kit_bt K⟩
  | non => cases h; exact ⟨_, .non, kit_nt K⟩
  | str z => obtain ⟨rfl, _⟩ := h; exact ⟨_, .str z, kit_st K⟩
  | tup ts => obtain ⟨a, vs, rfl, ha, _⟩ := h; exact ⟨_, .tup ha, kit_tt K⟩
  | lst => obtain ⟨a, xs, rfl, ha⟩ := h; exact ⟨_, .lst ha, kit_lt K⟩
  | dic => obtain ⟨a, xs, rfl, ha⟩ := h; exact ⟨_, .dK ha, kit_dt K⟩
def sp_within : Sp := fun vs H Q _ => ∃ (v : V) (t : Th) (lo hi : Int), vs = [v, .int lo, .int hi] ∧ ThAt H t v ∧ Q (.bl (inT t lo hi)) H
theorem sc_within : FnScope ["thing", "least", "most"] ["thing", "least", "most"] (defScope s_is_whole_within) := ⟨rfl, rfl, rfl, by decide +kernel, rfl, by decide +kernel, by decide +kernel⟩
theorem ok_within (F : Fun K "is_whole_within" "is_whole_within" s_is_whole_within f fd) (C_whole : Cal P w K mg base 1 "is_whole" ["thing"] (sp_whole K)) : FnOk P w K mg base CX0 2 f fd ["thing", "least", "most"] sp_within := by
  refine F.ok sc_within (fun vs H Q E h => ?_) (fun cdv A outer s H vs Q E hr h => ?_)
  · obtain ⟨v, t, lo, hi, rfl, _⟩ := h
    rfl
  obtain ⟨v, t, lo, hi, rfl, ht, q⟩ := h
  refine ⟨_, (pss_one (ps_ret (pe_and (pe_fn C_whole hr (by decide) rfl (pa_cons (pv 0) pa_nil)) (pe_one (pe_chain op_le op_le (pv 1) (pv 0) (pv 2)))))), ?_⟩
  refine ⟨_, rfl, v, isS t, isI t, rfl, ht.kind, _, rfl, ?_⟩
  cases t with
  | int i =>
    cases ht
    refine iteT ?_
    refine ⟨_, rfl, _, rfl, _, _, rfl, rfl, _, rfl, ?_⟩
    refine ite2 (fun c => ?_) (fun c => ?_)
    · have e : inT (.int i) lo hi = decide (i ≤ hi) := by
        show (decide (lo ≤ i) && decide (i ≤ hi)) = _
        rw [show decide (lo ≤ i) = true from c]
        rfl
      rw [e] at q
      exact ⟨_, rfl, _, _, rfl, rfl, q⟩
    · have e : inT (.int i) lo hi = false := by
        show (decide (lo ≤ i) && decide (i ≤ hi)) = _
        rw [show decide (lo ≤ i) = false from Bool.eq_false_iff.mpr c]
        rfl
      rw [e] at q
      exact q
  | _ => exact iteF q
end
end K15
namespace K15
open PySem L2
/-! ### is_word, is_name, is_rule, is_listening, are_listenings, is_bell -/
theorem all_map {α : Type} (l : List α) (p : α → Bool) : (l.map p).all id = l.all p := by
  rw [List.all_map]
  rfl
section
variable {P : Program} {w : World} {K : PySem.W.Frag} {mg : Str → Option Value} {base : Heap} {f : Addr} {fd : FuncData}
def sp_word : Sp := fun vs H Q _ => ∃ (v : V) (t : Th), vs = [v] ∧ ThAt H t v ∧ ∀ H', Same H H' → Q (.bl (wordT t)) H'
theorem sc_word : FnScope ["thing"] ["thing"] (defScope s_is_word) := ⟨rfl, rfl, rfl, by decide +kernel, rfl, by decide +kernel, by decide +kernel⟩
theorem ok_word {tM tL : Tok} (F : Fun K "is_word" "is_word" s_is_word f fd) (B : Blt mg) (mM : mg "MOST_LETTERS" = some (.int 8 tM)) (mL : mg "LETTERS" = some (.str lettersT tL)) : FnOk P w K mg base CX0 1 f fd ["thing"] sp_word := by
  refine F.ok sc_word (fun vs H Q E h => ?_) (fun cdv A outer s H vs Q E hr h => ?_)
  · obtain ⟨v, t, rfl, _⟩ := h
    rfl
  obtain ⟨v, t, rfl, ht, q⟩ := h
  refine ⟨_, (pss_cons (ps_if (PW.pt (pw_or (pt_not (pt_val (pe_callB (call_isT "str") rfl B.isinstance_ PyProof.Rows.boot_isinstance (pa_cons (pv 0) (pa_cons (pe_bltn (v := .ty "str") rfl B.str_ PyProof.Rows.boot_str rfl) pa_nil))))) (pw_or1 (pt_not (pt_chain op_le op_le pe_int (pe_callB call_len_str rfl B.len_ PySem.boot_len (pa_cons (pv 0) pa_nil)) (pe_glob (v := .int 8) rfl mM ⟨tM, rfl⟩))))))
    (pss_one (ps_ret pe_bl))
    pss_nil)
    (pss_one (ps_ret (pe_callB (call_all rfl) rfl B.all_ PyProof.Rows.boot_all (pa_cons (pe_comp ["sign"] [] [] rfl (pi_str (pv 0)) (fun _ _ _ _ _ => (pg_name (i := 0) (show List.Nodup [("sign" : Str)] by decide +kernel) rfl (Or.inl rfl))) (fun _ _ _ _ _ => pts_nil) (fun _ _ _ _ _ => (pe_cmpR op_in_str (pv 0) (pe_glob (v := .str lettersT) rfl mL ⟨tL, rfl⟩) rfl))) pa_nil))))), ?_⟩
  obtain ⟨ty, bi, bb, tyv, ks, _⟩ := (ht.kind (K := K)).ex
  refine ⟨_, rfl, _, _, _, rfl, tyv, ks, _, rfl, ?_⟩
  cases t with
  | str z =>
    obtain ⟨rfl, hz⟩ := ht
    refine iteF ?_
    refine ⟨_, rfl, _, rfl, (by rw [sizeLine_eq]; omega), _, _, rfl, rfl, _, rfl, ite2 (fun g1 => ?_) (fun g1 => ?_)⟩
    rotate_left
    · have e : wordT (.str z) = false := by
        show (decide (1 ≤ z.length) && decide (z.length ≤ 8) && z.cps.toList.all inLet) = false
        have : ¬ 1 ≤ z.length := fun h => g1 (decide_eq_true (by omega))
        rw [decide_eq_false this]
        rfl
      rw [e] at q
      exact ⟨_, rfl, iteT (q H (.refl H))⟩
    have h1 : (1 : Int) ≤ (z.length : Int) := of_decide_eq_true g1
    refine ⟨_, _, rfl, rfl, _, rfl, ?_⟩
    by_cases h2 : (z.length : Int) ≤ 8
    rotate_left
    · have e : wordT (.str z) = false := by
        show (decide (1 ≤ z.length) && decide (z.length ≤ 8) && z.cps.toList.all inLet) = false
        rw [decide_eq_false (show ¬ z.length ≤ 8 by omega), Bool.and_false]
        rfl
      rw [e] at q
      rw [decide_eq_false h2]
      exact iteT (q H (.refl H))
    rw [decide_eq_true h2]
    refine iteF ?_
    have e : wordT (.str z) = z.cps.toList.all inLet := by
      show (decide (1 ≤ z.length) && decide (z.length ≤ 8) && z.cps.toList.all inLet) = _
      rw [decide_eq_true (show 1 ≤ z.length by omega), decide_eq_true (show z.length ≤ 8 by omega)]
      rfl
    rw [e] at q
    refine ⟨_, rfl, z, rfl, fun D hD => ?_⟩
    refine comp_str (z := z) (fun i ys H3 => Same H H3 ∧ ys = ((z.cps.toList.take i).map inLet).map V.bl) ⟨same_new hD _, rfl⟩ ?_ ?_
    · rintro i c ys H3 hc ⟨s3, rfl⟩ hD3
      have hc' : z.cps.toList[i]? = some c := by simpa using hc
      have hi : i < z.length := by
        have := (List.getElem?_eq_some_iff.mp hc').1
        rw [tx_len] at this
        exact this
      refine ⟨rfl, tTrue_ite ?_⟩
      refine ⟨_, rfl, _, _, rfl, rfl, _, hD3, ?_, _, ⟨s3.upd hD _, rfl⟩, ?_⟩
      · rw [List.length_map, List.length_map, List.length_take]
        exact small9000 (by omega)
      · rw [take_snoc hc', List.map_append, List.map_append]
        exact upd_same
    rintro ys H3 ⟨s3, rfl⟩ hD3
    have hT : z.cps.toList.take z.cps.size = z.cps.toList := List.take_of_length_le (by simp)
    rw [hT] at hD3
    refine ⟨D, _, rfl, SqL.of hD3, ?_⟩
    rw [all_map]
    exact q H3 s3
  | _ => exact iteT (iteT (q H (.refl H)))
def sp_name : Sp := fun vs H Q _ => ∃ (v : V) (t : Th), vs = [v] ∧ ThAt H t v ∧ ∀ H', Same H H' → Q (.bl (nameT t)) H'
theorem sc_name : FnScope ["thing"] ["thing"] (defScope s_is_name) := ⟨rfl, rfl, rfl, by decide +kernel, rfl, by decide +kernel, by decide +kernel⟩
theorem ok_name {aN : Addr} (F : Fun K "is_name" "is_name" s_is_name f fd) (mN : mg "NO_NAMES" = some (.ref aN)) (hN : ∀ H, SqT K H aN (fourT.map V.str)) (C_word : Cal P w K mg base 1 "is_word" ["thing"] sp_word) : FnOk P w K mg base CX0 2 f fd ["thing"] sp_name := by
  refine F.ok sc_name (fun vs H Q E h => ?_) (fun cdv A outer s H vs Q E hr h => ?_)
  · obtain ⟨v, t, rfl, _⟩ := h
    rfl
  obtain ⟨v, t, rfl, ht, q⟩ := h
  refine ⟨_, (pss_one (ps_ret (pe_and (pe_fn C_word hr (by decide) rfl (pa_cons (pv 0) pa_nil)) (pe_one (pe_cmpR op_notIn_seq (pv 0) (pe_glob (v := .ref aN) rfl mN rfl) rfl))))), ?_⟩
  refine ⟨_, rfl, v, t, rfl, ht, fun H1 s1 => ⟨_, rfl, ?_⟩⟩
  cases t with
  | str z =>
    obtain ⟨rfl, hz⟩ := ht
    show if wordS z = true then _ else _
    by_cases hw : wordS z = true
    · rw [if_pos hw]
      refine ⟨_, rfl, aN, _, rfl, .inr (hN H1), rfl, strs_flat fourT, ?_⟩
      have e : nameT (.str z) = !decide (z ∈ fourT) := by
        show (wordS z && !decide (z ∈ fourT)) = _
        rw [hw]
        rfl
      rw [e, ← inV_str] at q
      exact q H1 s1
    · rw [if_neg hw]
      have e : nameT (.str z) = false := by
        show (wordS z && !decide (z ∈ fourT)) = _
        rw [Bool.eq_false_iff.mpr hw]
        rfl
      rw [e] at q
      exact q H1 s1
  | _ => exact iteF (q H1 s1)
def sp_isrule : Sp := fun vs H Q _ => ∃ (v : V) (t : Th) (m : Int), vs = [v, .int m] ∧ ThAt H t v ∧ ∀ H', Same H H' → Q (.bl (ruleT t m)) H'
theorem sc_isrule : FnScope ["thing", "many"] ["thing", "many"] (defScope s_is_rule) := ⟨rfl, rfl, rfl, by decide +kernel, rfl, by decide +kernel, by decide +kernel⟩
theorem ok_isrule {cA cY cS cN : Addr} (F : Fun K "is_rule" "is_rule" s_is_rule f fd) (mN : mg "NoRule" = some (.ref cN)) (xm : PySem.W.exmOne K (.ref cN) (.ref cN) = some true) (C_rule : CalX P w K mg base 5 "rule_of" ["word", "many"] (sp_rule K cA cY cS cN)) : FnOk P w K mg base CX0 6 f fd ["thing", "many"] sp_isrule := by
  refine F.ok sc_isrule (fun vs H Q E h => ?_) (fun cdv A outer s H vs Q E hr h => ?_)
  · obtain ⟨v, t, m, rfl, _⟩ := h
    rfl
  obtain ⟨v, t, m, rfl, ht, q⟩ := h
  refine ⟨_, (pss_cons (ps_try rfl rfl rfl mN (psx_expr (px_fn C_rule hr (by decide) rfl (pa_cons (pv 0) (pa_cons (pv 1) pa_nil)))) (fun _ => (pss_one (ps_ret pe_bl))))
    (pss_one (ps_ret pe_bl))), ?_⟩
  refine ⟨_, rfl, _, rfl, v, m, rfl, ?_⟩
  have good : ruleT t m = true → ∀ {x : Addr} {dx : Addr} {C : Addr} {n : Int} (H' : Hp), Same H H' → H x = none → H' x = some (.ins C dx [("need", .int n)]) → Q (.bl true) H' := fun e _ _ _ _ H' s' _ _ => by rw [e] at q; exact q H' s'
  have bad : ruleT t m = false → PySem.W.exmOne K (.ref cN) (.ref cN) = some true ∧ ∀ a C, Value.ref cN = .ref C → H a = none → Q (.bl false) (upd H a (ExO a C none)) := fun e => ⟨xm, fun a C _ na => by rw [e] at q; exact q _ (same_new na _)⟩
  have kd := ht.kind (K := K)
  cases t with
  | str z =>
    obtain ⟨rfl, _⟩ := ht
    by_cases h1 : z = "all"
    · refine .inl ⟨congrArg V.str h1, fun x dx H' s' nx hx => good ?_ H' s' nx hx⟩
      show (decide (z = "all") || _) = true
      rw [decide_eq_true h1]
      rfl
    by_cases h2 : z = "any"
    · refine .inr (.inl ⟨congrArg V.str h2, fun x dx H' s' nx hx => good ?_ H' s' nx hx⟩)
      show (decide (z = "all") || decide (z = "any")) = true
      rw [decide_eq_true h2, Bool.or_true]
    · refine .inr (.inr (.inr ⟨.inl ⟨z, rfl, h1, h2⟩, bad ?_⟩))
      show (decide (z = "all") || decide (z = "any")) = false
      rw [decide_eq_false h1, decide_eq_false h2]
      rfl
  | int n =>
    cases ht
    by_cases h : 1 ≤ n ∧ n ≤ m
    · refine .inr (.inr (.inl ⟨n, rfl, h.1, h.2, fun x dx H' s' nx hx => good ?_ H' s' nx hx⟩))
      show (decide (1 ≤ n) && decide (n ≤ m)) = true
      rw [decide_eq_true h.1, decide_eq_true h.2]
      rfl
    · refine .inr (.inr (.inr ⟨.inr (.inl ⟨n, rfl, h⟩), bad ?_⟩))
      show (decide (1 ≤ n) && decide (n ≤ m)) = false
      rw [← Bool.decide_and]
      exact decide_eq_false h
  | _ => exact .inr (.inr (.inr ⟨.inr (.inr kd), bad rfl⟩))
def sp_islis : Sp := fun vs H Q _ => ∃ (v : V) (t : Th) (m : Int), vs = [v, .int m] ∧ ThAt H t v ∧ Q (.bl (lisB t m)) H
theorem sc_islis : FnScope ["thing", "bells"] ["thing", "bells"] (defScope s_is_listening) := ⟨rfl, rfl, rfl, by decide +kernel, rfl, by decide +kernel, by decide +kernel⟩
theorem ok_islis {tM : Tok} (F : Fun K "is_listening" "is_listening" s_is_listening f fd) (B : Blt mg) (mM : mg "MOST_BEATS" = some (.int 1000 tM)) (C_within : Cal P w K mg base 2 "is_whole_within" ["thing", "least", "most"] sp_within) : FnOk P w K mg base CX0 3 f fd ["thing", "bells"] sp_islis := by
  refine F.ok sc_islis (fun vs H Q E h => ?_) (fun cdv A outer s H vs Q E hr h => ?_)
  · obtain ⟨v, t, m, rfl, _⟩ := h
    rfl
  obtain ⟨v, t, m, rfl, ht, q⟩ := h
  refine ⟨_, (pss_cons (ps_if (PW.pt (pw_or (pt_not (pt_val (pe_callB (call_isT "tuple") rfl B.isinstance_ PyProof.Rows.boot_isinstance (pa_cons (pv 0) (pa_cons (pe_bltn (v := .ty "tuple") rfl B.tuple_ PyProof.Rows.boot_tuple rfl) pa_nil))))) (pw_or1 (pt_cmpR op_ne (pe_callB call_len_seq rfl B.len_ PySem.boot_len (pa_cons (pv 0) pa_nil)) pe_int (nomark _)))))
    (pss_one (ps_ret pe_bl))
    pss_nil)
    (pss_cons (ps_if (pt_not (pt_val (pe_fn C_within hr (by decide) rfl (pa_cons (pe_ix ix_tup (pv 0) pe_int (fun _ _ => rfl)) (pa_cons pe_int (pa_cons (pe_op op_sub (pv 1) pe_int) pa_nil))))))
    (pss_one (ps_ret pe_bl))
    pss_nil)
    (pss_one (ps_ret (pe_and (pe_fn C_within hr (by decide) rfl (pa_cons (pe_ix ix_tup (pv 0) pe_int (fun _ _ => rfl)) (pa_cons pe_int (pa_cons (pe_glob (v := .int 1000) rfl mM ⟨tM, rfl⟩) pa_nil)))) (pe_one (pe_fn C_within hr (by decide) rfl (pa_cons (pe_ix ix_tup (pv 0) pe_int (fun _ _ => rfl)) (pa_cons pe_int (pa_cons pe_int pa_nil)))))))))), ?_⟩
  obtain ⟨ty, tyv, kt⟩ := ht.ty (K := K)
  refine ⟨_, rfl, _, _, _, rfl, tyv, kt, _, rfl, ?_⟩
  cases t with
  | tup ts =>
    obtain ⟨a, vs, rfl, ha, hts⟩ := ht
    have hlen := hts.len
    refine iteF ?_
    refine ⟨_, rfl, a, _, rfl, .inr (SqT.of ha), rfl, _, rfl, ?_⟩
    match ts, hts, q, hlen with
    | [x, y, z], hts, q, hlen =>
      obtain ⟨vx, r1, rfl, hx, vy, r2, rfl, hy, vz, r3, rfl, hz, rfl⟩ := hts
      refine iteF ?_
      refine ⟨_, rfl, a, _, _, _, rfl, rfl, SqT.of ha, rfl, _, rfl, _, _, rfl, rfl, vx, x, 0, m - 1, rfl, hx, _, rfl, ?_⟩
      have e : lisB (.tup [x, y, z]) m = (inT x 0 (m - 1) && (inT y 1 1000 && inT z 0 1)) := rfl
      rw [e] at q
      cases e1 : inT x 0 (m - 1) with
      | false => rw [e1] at q; exact iteT q
      | true =>
        rw [e1] at q
        refine iteF ?_
        refine ⟨_, rfl, a, _, _, _, rfl, rfl, SqT.of ha, rfl, vy, y, 1, 1000, rfl, hy, _, rfl, ?_⟩
        cases e2 : inT y 1 1000 with
        | false => rw [e2] at q; exact iteF q
        | true =>
          rw [e2] at q
          refine iteT ?_
          exact ⟨_, rfl, a, _, _, _, rfl, rfl, SqT.of ha, rfl, vz, z, 0, 1, rfl, hz, q⟩
    | [], hts, q, hlen => rw [hlen]; exact iteT q
    | [_], hts, q, hlen => rw [hlen]; exact iteT q
    | [_, _], hts, q, hlen => rw [hlen]; exact iteT q
    | _ :: _ :: _ :: _ :: r, hts, q, hlen =>
      refine ite2 (fun _ => q) (fun c => absurd ?_ c)
      rw [hlen]
      simp only [List.length_cons]
      simp
      omega
  | _ => exact iteT (iteT q)
def sp_arelis : Sp := fun vs H Q _ => ∃ (v : V) (t : Th) (m : Int), vs = [v, .int m] ∧ ThAt H t v ∧ ∀ H', Same H H' → Q (.bl (lissB t m)) H'
theorem sc_arelis : FnScope ["thing", "bells"] ["thing", "bells"] (defScope s_are_listenings) := ⟨rfl, rfl, rfl, by decide +kernel, rfl, by decide +kernel, by decide +kernel⟩
theorem ok_arelis {tM : Tok} (F : Fun K "are_listenings" "are_listenings" s_are_listenings f fd) (B : Blt mg) (mM : mg "MOST_LISTENINGS" = some (.int 6 tM)) (C_islis : Cal P w K mg base 3 "is_listening" ["thing", "bells"] sp_islis) : FnOk P w K mg base CX0 4 f fd ["thing", "bells"] sp_arelis := by
  refine F.ok sc_arelis (fun vs H Q E h => ?_) (fun cdv A outer s H vs Q E hr h => ?_)
  · obtain ⟨v, t, m, rfl, _⟩ := h
    rfl
  obtain ⟨v, t, m, rfl, ht, q⟩ := h
  refine ⟨_, (pss_cons (ps_if (PW.pt (pw_or (pt_not (pt_val (pe_callB (call_isT "tuple") rfl B.isinstance_ PyProof.Rows.boot_isinstance (pa_cons (pv 0) (pa_cons (pe_bltn (v := .ty "tuple") rfl B.tuple_ PyProof.Rows.boot_tuple rfl) pa_nil))))) (pw_or1 (pt_not (pt_chain op_le op_le pe_int (pe_callB call_len_seq rfl B.len_ PySem.boot_len (pa_cons (pv 0) pa_nil)) (pe_glob (v := .int 6) rfl mM ⟨tM, rfl⟩))))))
    (pss_one (ps_ret pe_bl))
    pss_nil)
    (pss_one (ps_ret (pe_callB (call_all rfl) rfl B.all_ PyProof.Rows.boot_all (pa_cons (pe_comp ["listening"] ["bells"] [1] rfl (pi_tup (pv 0)) (fun _ _ _ _ _ => (pg_name (i := 0) (show List.Nodup [("listening" : Str), ("bells" : Str)] by decide +kernel) rfl (Or.inl rfl))) (fun _ _ _ _ _ => pts_nil) (fun _ _ _ _ _ => (pe_fn C_islis hr (by decide) rfl (pa_cons (pv 0) (pa_cons (pv 1) pa_nil))))) pa_nil))))), ?_⟩
  obtain ⟨ty, tyv, kt⟩ := ht.ty (K := K)
  refine ⟨_, rfl, _, _, _, rfl, tyv, kt, _, rfl, ?_⟩
  cases t with
  | tup ts =>
    obtain ⟨a, vs, rfl, ha, hts⟩ := ht
    have hlen := hts.len
    refine iteF ?_
    refine ⟨_, rfl, a, _, rfl, .inr (SqT.of ha), _, _, rfl, rfl, _, rfl, ite2 (fun g1 => ?_) (fun g1 => ?_)⟩
    rotate_left
    · have e : lissB (.tup ts) m = false := by
        show (decide (1 ≤ ts.length) && decide (ts.length ≤ 6) && ts.all (fun t => lisB t m)) = false
        have : ¬ 1 ≤ ts.length := fun h => g1 (decide_eq_true (by omega))
        rw [decide_eq_false this]
        rfl
      rw [e] at q
      exact ⟨_, rfl, iteT (q H (.refl H))⟩
    have h1 : (1 : Int) ≤ ((vs.length : Nat) : Int) := of_decide_eq_true g1
    refine ⟨_, _, rfl, rfl, _, rfl, ?_⟩
    by_cases h2 : ((vs.length : Nat) : Int) ≤ 6
    rotate_left
    · have e : lissB (.tup ts) m = false := by
        show (decide (1 ≤ ts.length) && decide (ts.length ≤ 6) && ts.all (fun t => lisB t m)) = false
        rw [decide_eq_false (show ¬ ts.length ≤ 6 by omega), Bool.and_false]
        rfl
      rw [e] at q
      rw [decide_eq_false h2]
      exact iteT (q H (.refl H))
    rw [decide_eq_true h2]
    refine iteF ?_
    have e : lissB (.tup ts) m = ts.all (fun t => lisB t m) := by
      show (decide (1 ≤ ts.length) && decide (ts.length ≤ 6) && ts.all (fun t => lisB t m)) = _
      rw [decide_eq_true (show 1 ≤ ts.length by omega), decide_eq_true (show ts.length ≤ 6 by omega)]
      rfl
    rw [e] at q
    refine ⟨_, rfl, a, rfl, ⟨_, SqT.of ha⟩, fun D hD => ?_⟩
    refine comp_tup (K := K) (a := a) (xs := vs) (fun i ys H3 => Same H H3 ∧ ys = ((ts.take i).map (fun t => lisB t m)).map V.bl) ⟨same_new hD _, rfl⟩ (fun i ys H3 _ ⟨z, _⟩ => SqT.of (z _ _ ha)) ?_ ?_
    · rintro i x ys H3 hx ⟨s3, rfl⟩ hD3
      have hi : i < ts.length := by
        have := (List.getElem?_eq_some_iff.mp hx).1
        omega
      have ht := List.getElem?_eq_getElem hi
      obtain ⟨x', hx', htx⟩ := hts.at ht
      obtain rfl : x' = x := Option.some.inj (hx'.symm.trans hx)
      refine ⟨rfl, tTrue_ite ?_⟩
      refine ⟨_, rfl, _, rfl, x', ts[i], m, rfl, ThAt.same s3 _ htx, _, hD3, ?_, _, ⟨s3.upd hD _, rfl⟩, ?_⟩
      · rw [List.length_map, List.length_map, List.length_take]
        exact small9000 (by omega)
      · rw [take_snoc ht, List.map_append, List.map_append]
        exact upd_same
    rintro ys H3 ⟨s3, rfl⟩ hD3
    rw [hlen, List.take_length] at hD3
    refine ⟨D, _, rfl, SqL.of hD3, ?_⟩
    rw [all_map]
    exact q H3 s3
  | _ => exact iteT (iteT (q H (.refl H)))
def sp_isbell : Sp := fun vs H Q _ => ∃ (v : V) (t : Th) (al : Addr) (ahead : List Str) (m : Int), vs = [v, .ref al, .int m] ∧ ThAt H t v ∧ H al = some (.lst (ahead.map V.str)) ∧ ∀ H', Same H H' → Q (.bl (bellB t ahead m)) H'
theorem sc_isbell : FnScope ["thing", "ahead", "bells"] ["thing", "ahead", "bells"] (defScope s_is_bell) := ⟨rfl, rfl, rfl, by decide +kernel, rfl, by decide +kernel, by decide +kernel⟩
theorem ok_isbell {tM : Tok} (F : Fun K "is_bell" "is_bell" s_is_bell f fd) (B : Blt mg) (mM : mg "MOST_START" = some (.int 1000 tM)) (C_within : Cal P w K mg base 2 "is_whole_within" ["thing", "least", "most"] sp_within) (C_name : Cal P w K mg base 2 "is_name" ["thing"] sp_name) (C_arelis : Cal P w K mg base 4 "are_listenings" ["thing", "bells"] sp_arelis)
    (C_isrule : Cal P w K mg base 6 "is_rule" ["thing", "many"] sp_isrule) : FnOk P w K mg base CX0 7 f fd ["thing", "ahead", "bells"] sp_isbell := by
  refine F.ok sc_isbell (fun vs H Q E h => ?_) (fun cdv A outer s H vs Q E hr h => ?_)
  · obtain ⟨v, t, al, ahead, m, rfl, _⟩ := h
    rfl
  obtain ⟨v, t, al, ahead, m, rfl, ht, hal, q⟩ := h
  refine ⟨_, (pss_cons (ps_if (PW.pt (pw_or (pt_not (pt_val (pe_callB (call_isT "tuple") rfl B.isinstance_ PyProof.Rows.boot_isinstance (pa_cons (pv 0) (pa_cons (pe_bltn (v := .ty "tuple") rfl B.tuple_ PyProof.Rows.boot_tuple rfl) pa_nil))))) (pw_or1 (pt_cmpR op_ne (pe_callB call_len_seq rfl B.len_ PySem.boot_len (pa_cons (pv 0) pa_nil)) pe_int (nomark _)))))
    (pss_one (ps_ret pe_bl))
    pss_nil)
    (pss_cons (ps_if (PW.pt (pw_or (pt_not (pt_val (pe_fn C_name hr (by decide) rfl (pa_cons (pe_ix ix_tup (pv 0) pe_int (fun _ _ => rfl)) pa_nil)))) (pw_or1 (pt_cmpR op_in_seq (pe_ix ix_tup (pv 0) pe_int (fun _ _ => rfl)) (pv 1) rfl))))
    (pss_one (ps_ret pe_bl))
    pss_nil)
    (pss_cons (ps_if (pt_not (pt_val (pe_fn C_within hr (by decide) rfl (pa_cons (pe_ix ix_tup (pv 0) pe_int (fun _ _ => rfl)) (pa_cons pe_int (pa_cons (pe_glob (v := .int 1000) rfl mM ⟨tM, rfl⟩) pa_nil))))))
    (pss_one (ps_ret pe_bl))
    pss_nil)
    (pss_one (ps_ret (pe_and (pe_fn C_arelis hr (by decide) rfl (pa_cons (pe_ix ix_tup (pv 0) pe_int (fun _ _ => rfl)) (pa_cons (pv 2) pa_nil))) (pe_one (pe_fn C_isrule hr (by decide) rfl (pa_cons (pe_ix ix_tup (pv 0) pe_int (fun _ _ => rfl)) (pa_cons (pe_callB call_len_seq rfl B.len_ PySem.boot_len (pa_cons (pe_ix ix_tup (pv 0) pe_int (fun _ _ => rfl)) pa_nil)) pa_nil)))))))))), ?_⟩
  obtain ⟨ty, tyv, kt⟩ := ht.ty (K := K)
  refine ⟨_, rfl, _, _, _, rfl, tyv, kt, _, rfl, ?_⟩
  cases t with
  | tup ts =>
    obtain ⟨a, vs, rfl, ha, hts⟩ := ht
    have hlen := hts.len
    refine iteF ?_
    refine ⟨_, rfl, a, _, rfl, .inr (SqT.of ha), rfl, _, rfl, ?_⟩
    match ts, hts, q, hlen with
    | [n, st, r, l], hts, q, hlen =>
      obtain ⟨vn, r1, rfl, hn, vs', r2, rfl, hs, vr, r3, rfl, hr', vl, r4, rfl, hl, rfl⟩ := hts
      refine iteF ?_
      have e : bellB (.tup [n, st, r, l]) ahead m = (nameT n && !inA n ahead && inT st 0 1000 && (lissB l m && ruleT r (lenT l))) := rfl
      rw [e] at q
      refine ⟨_, rfl, a, _, _, _, rfl, rfl, SqT.of ha, rfl, vn, n, rfl, hn, fun H1 s1 => ⟨_, rfl, ?_⟩⟩
      have ha1 := s1 _ _ ha
      cases e1 : nameT n with
      | false => rw [e1] at q; exact iteT (iteT (q H1 s1))
      | true =>
        rw [e1] at q
        refine iteF ?_
        cases n with
        | str z =>
          obtain ⟨rfl, _⟩ := hn
          refine ⟨_, rfl, a, _, _, _, rfl, rfl, SqT.of ha1, rfl, _, rfl, al, _, rfl, .inl (SqL.of (s1 _ _ hal)), rfl, strs_flat ahead, _, rfl, ?_⟩
          show if inV (.str z) (ahead.map V.str) = true then _ else _
          rw [inV_str]
          have e2 : inA (.str z) ahead = decide (z ∈ ahead) := rfl
          rw [e2] at q
          cases e3 : decide (z ∈ ahead) with
          | true => rw [e3] at q; exact iteT (q H1 s1)
          | false =>
            rw [e3] at q
            refine iteF ?_
            refine ⟨_, rfl, a, _, _, _, rfl, rfl, SqT.of ha1, rfl, vs', st, 0, 1000, rfl, ThAt.same s1 _ hs, _, rfl, ?_⟩
            cases e4 : inT st 0 1000 with
            | false => rw [e4] at q; exact iteT (q H1 s1)
            | true =>
              rw [e4] at q
              refine iteF ?_
              refine ⟨_, rfl, a, _, _, _, rfl, rfl, SqT.of ha1, rfl, _, rfl, vl, l, m, rfl, ThAt.same s1 _ hl, fun H2 s2 => ⟨_, rfl, ?_⟩⟩
              cases e5 : lissB l m with
              | false => rw [e5] at q; exact iteF (q H2 (s1.trans s2))
              | true =>
                rw [e5] at q
                refine iteT ?_
                have s02 := s1.trans s2
                cases l with
                | tup ls =>
                  obtain ⟨la, lv, rfl, hla, hls⟩ := hl
                  refine ⟨_, rfl, a, _, _, _, rfl, rfl, SqT.of (s02 _ _ ha), rfl, _, rfl, a, _, _, _, rfl, rfl, SqT.of (s02 _ _ ha), rfl, la, _, rfl, .inr (SqT.of (s02 _ _ hla)), vr, r, _, rfl, ThAt.same s02 _ hr', fun H3 s3 => ?_⟩
                  rw [hls.len]
                  exact q H3 (s02.trans s3)
                | _ => cases e5
        | _ => cases e1
    | [], hts, q, hlen => rw [hlen]; exact iteT (q H (.refl H))
    | [_], hts, q, hlen => rw [hlen]; exact iteT (q H (.refl H))
    | [_, _], hts, q, hlen => rw [hlen]; exact iteT (q H (.refl H))
    | [_, _, _], hts, q, hlen => rw [hlen]; exact iteT (q H (.refl H))
    | _ :: _ :: _ :: _ :: _ :: r, hts, q, hlen =>
      refine ite2 (fun _ => q H (.refl H)) (fun c => absurd ?_ c)
      rw [hlen]
      simp only [List.length_cons]
      simp
      omega
  | _ => exact iteT (iteT (q H (.refl H)))
end
end K15
namespace K15
open PySem L2
/-! ### _law_bell -/
theorem drop_at {α : Type} {xs : List α} {i : Nat} {a : α} (h : xs[i]? = some a) : xs.drop i = a :: xs.drop (i + 1) := by
  obtain ⟨hi, e⟩ := List.getElem?_eq_some_iff.mp h
  rw [List.drop_eq_getElem_cons hi, e]
/-- the three numbers from the place 3 + 3 * j on -/
theorem cut_three {xs : List V} {j : Nat} {a b c : V} (ha : xs[3 + 3 * j]? = some a) (hb : xs[3 + 3 * j + 1]? = some b) (hc : xs[3 + 3 * j + 1 + 1]? = some c) : cutV xs (some (3 + 3 * (j : Int))) (some (6 + 3 * (j : Int))) = [a, b, c] := by
  unfold cutV
  have h4 : 3 + 3 * j + 1 + 1 < xs.length := (List.getElem?_eq_some_iff.mp hc).1
  have e1 : (3 + 3 * (j : Int)) = ((3 + 3 * j : Nat) : Int) := by omega
  have e2 : (6 + 3 * (j : Int)) = ((6 + 3 * j : Nat) : Int) := by omega
  rw [e1, e2, HT.sIx_nat, HT.sIx_nat]
  have e3 : min (3 + 3 * j) xs.length = 3 + 3 * j := by omega
  have e4 : min (6 + 3 * j) xs.length - (3 + 3 * j) = 3 := by omega
  rw [e3, e4, drop_at ha, drop_at hb, drop_at hc]
  rfl
section
variable {P : Program} {w : World} {K : PySem.W.Frag} {mg : Str → Option Value} {base : Heap} {f : Addr} {fd : FuncData}
def sp_bell : Sp := fun vs H Q _ => ∃ (r : Addr) (ns : List Int) (z : Str) (m sc : Nat), vs = [.ref r, .str z, .int m, .int sc] ∧ H r = some (.lst (ns.map V.int)) ∧ ns.length = 21 ∧ (∀ n ∈ ns, 0 ≤ n) ∧ (∃ n2 : Int, ns[2]? = some n2 ∧ n2 < 6) ∧ 1 ≤ m ∧ 1 ≤ sc ∧ sc ≤ 1000 ∧
  ∀ (H' : Hp) (v : V) (b : Bell), Same H H' → BellAt H' v b → b.name = z → GoodB m 0 true b → Q v H'
theorem sc_bell : FnScope ["_law_numbers", "_law_name", "_law_many", "_law_scale", "_law_count", "_law_listenings", "_law_k", "_law_rule", "_law_whom", "_law_beats", "_law_back"] ["_law_numbers", "_law_name", "_law_many", "_law_scale"] (defScope s_bell) := ⟨rfl, rfl, rfl, by decide +kernel, rfl, by decide +kernel, by decide +kernel⟩
theorem ok_bell (F : Fun K "_law_bell" "_law_bell" s_bell f fd) (B : Blt mg) : FnOk P w K mg base CX0 1 f fd ["_law_numbers", "_law_name", "_law_many", "_law_scale"] sp_bell := by
  refine F.ok sc_bell (fun vs H Q E h => ?_) (fun cdv A outer s H vs Q E hr h => ?_)
  · obtain ⟨r, ns, z, m, sc, rfl, _⟩ := h
    rfl
  obtain ⟨r, ns, z, m, sc, rfl, hr0, hl, pos, ⟨n2, hn2, n26⟩, m1, sc1, scM, q⟩ := h
  refine ⟨_, (pss_cons (ps_set (i := 4) sc_bell.nd rfl (Or.inl rfl) (pe_ix ix_list (pv 0) pe_int (fun _ _ => rfl)))
    (pss_cons (ps_set (i := 5) sc_bell.nd rfl (Or.inl rfl) (pe_lst pa_nil))
    (pss_cons (ps_for PassesOwn.never rfl (pi_range1 rfl B.range_ (pa_cons (pe_op op_add (pv 4) pe_int) pa_nil)) (pg_name (i := 6) sc_bell.nd rfl (Or.inl rfl))
    (pss_cons (ps_asg (pe_slice sl_list (pv 0) (po_some (pe_op op_add pe_int (pe_op op_mul pe_int (pv 6)))) (po_some (pe_op op_add pe_int (pe_op op_mul pe_int (pv 6))))) (pg_tupL rfl (pgs_cons (pg_name (i := 8) sc_bell.nd rfl (Or.inl rfl)) (pgs_cons (pg_name (i := 9) sc_bell.nd rfl (Or.inl rfl)) (pgs_cons (pg_name (i := 10) sc_bell.nd rfl (Or.inl rfl)) pgs_nil)))))
    (pss_one (ps_expr (pe_bm PySem.F.plainAttrs_list PySem.F.slot_list_append PySem.F.type_list_append mt_append (pv 5) (pa_cons (pe_tup (pa_cons (pe_op op_mod (pv 8) (pv 2)) (pa_cons (pe_op op_add pe_int (pe_op op_mod (pv 9) (pv 3))) (pa_cons (pe_callTy call_int1 rfl B.int_ PyProof.Rows.boot_int (pa_cons (pe_cmpR op_gt (pv 10) pe_int (nomark _)) pa_nil)) pa_nil)))) pa_nil))))))
    (pss_cons (ps_set (i := 7) sc_bell.nd rfl (Or.inl rfl) pe_str)
    (pss_join (ps_if (pt_cmpR op_gt (pe_ix ix_list (pv 0) pe_int (fun _ _ => rfl)) pe_int (nomark _))
    (pss_one (ps_set (i := 7) sc_bell.nd rfl (Or.inl rfl) pe_str))
    pss_nil)
    (pss_join (ps_if (pt_cmpR op_gt (pe_ix ix_list (pv 0) pe_int (fun _ _ => rfl)) pe_int (nomark _))
    (pss_one (ps_set (i := 7) sc_bell.nd rfl (Or.inl rfl) (pe_op op_add pe_int (pe_op op_mod (pe_op op_sub (pe_ix ix_list (pv 0) pe_int (fun _ _ => rfl)) pe_int) (pe_callB call_len_seq rfl B.len_ PySem.boot_len (pa_cons (pv 5) pa_nil))))))
    pss_nil)
    (pss_one (ps_ret (pe_tup (pa_cons (pv 1) (pa_cons (pe_op op_mod (pe_ix ix_list (pv 0) pe_int (fun _ _ => rfl)) (pe_op op_add (pv 3) pe_int)) (pa_cons (pv 7) (pa_cons (pe_callTy call_tuple_of rfl B.tuple_ PyProof.Rows.boot_tuple (pa_cons (pv 5) pa_nil)) pa_nil))))))))))))), ?_⟩
  have at_map : ∀ {i : Nat} {n : Int}, ns[i]? = some n → atI (ns.map V.int) (i : Int) = some (.int n) := fun {i n} e => atI_nat (by rw [List.getElem?_map, e]; rfl)
  refine ⟨_, rfl, r, _, _, _, rfl, rfl, SqL.of hr0, at_map hn2, ?_⟩
  refine ⟨(by show 0 ≤ sizeLine; decide), fun l hl0 => ?_⟩
  have nrl : r ≠ l := ne_of_none hr0 hl0
  obtain ⟨c, rfl⟩ : ∃ c : Nat, n2 = (c : Int) := ⟨n2.toNat, by have := pos n2 (List.mem_of_getElem? hn2); omega⟩
  refine ⟨_, rfl, _, _, rfl, rfl, (c : Int) + 1, rfl, by omega, by omega, ?_⟩
  refine for_range (lo := 0) (n := ((c : Int) + 1).toNat) (fun j σ H3 => ∃ (vs : List V) (ls : List Lis) (o6 o8 o9 o10 : Option V), σ = [some (.ref r), some (.str z), some (.int m), some (.int sc), some (.int c), some (.ref l), o6, none, o8, o9, o10] ∧
      ls.length = j ∧ H3 l = some (.lst vs) ∧ Paired (LisAt H3) vs ls ∧ (∀ x ∈ ls, GoodL m 0 true x) ∧ Same H H3)
    ⟨[], [], none, none, none, none, rfl, rfl, upd_same, .nil, fun _ h => (nomatch h), same_new hl0 _⟩ ?_ ?_
  · rintro j σ H3 hj ⟨vs, ls, o6, o8, o9, o10, rfl, hls, hl3, pr, gl, s3⟩
    have hj6 : j < 6 := by omega
    obtain ⟨a, ha⟩ : ∃ a, ns[3 + 3 * j]? = some a := ⟨_, List.getElem?_eq_getElem (by omega)⟩
    obtain ⟨b, hb⟩ : ∃ b, ns[3 + 3 * j + 1]? = some b := ⟨_, List.getElem?_eq_getElem (by omega)⟩
    obtain ⟨d, hd⟩ : ∃ d, ns[3 + 3 * j + 1 + 1]? = some d := ⟨_, List.getElem?_eq_getElem (by omega)⟩
    refine ⟨_, rfl, _, rfl, _, _, rfl, rfl, .inl ⟨by decide, by decide⟩, _, _, rfl, rfl, _, rfl, _, rfl, _, _, rfl, rfl, .inl ⟨by decide, by decide⟩, _, _, rfl, rfl, _, rfl, r, _, rfl, SqL.of (s3 _ _ hr0), fun lc hlc => ?_⟩
    have ec : cutV (ns.map V.int) (some (3 + 3 * (0 + (j : Int)))) (some (6 + 3 * (0 + (j : Int)))) = [.int a, .int b, .int d] := by
      rw [Int.zero_add]
      exact cut_three (by rw [List.getElem?_map, ha]; rfl) (by rw [List.getElem?_map, hb]; rfl) (by rw [List.getElem?_map, hd]; rfl)
    rw [ec]
    have v1 := same_new hlc (.lst [.int a, .int b, .int d])
    refine ⟨lc, _, rfl, SqL.of upd_same, rfl, _, _, rfl, _, _, rfl, _, _, rfl, rfl, ?_⟩
    refine ⟨_, rfl, .inl ⟨rfl, _, SqL.of (v1 _ _ hl3)⟩, _, rfl, _, rfl, _, _, rfl, rfl, (show (0 : Int) < m by omega), _, rfl, _, rfl, _, _, rfl, rfl, (show (0 : Int) < sc by omega), _, _, rfl, rfl, _, rfl, _, _, rfl, rfl, .inr ⟨_, rfl, ?_⟩⟩
    refine ⟨(by show 3 ≤ sizeLine; decide), fun lt hlt => ?_⟩
    have em : a % (m : Int) = (((a % (m : Int)).toNat : Nat) : Int) := by
      have := Int.emod_nonneg a (show (m : Int) ≠ 0 by omega)
      omega
    have et : (HO.tup [.int (a % (m : Int)), .int (1 + b % (sc : Int)), .int (if decide (0 < d) = true then 1 else 0)]) = .tup (lisV ⟨(a % (m : Int)).toNat, 1 + b % (sc : Int), decide (0 < d)⟩) := by
      show _ = HO.tup [.int (((a % (m : Int)).toNat : Nat) : Int), _, _]
      rw [← em]
    have v2 := v1.trans (same_new hlt (.tup [.int (a % (m : Int)), .int (1 + b % (sc : Int)), .int (if decide (0 < d) = true then 1 else 0)]))
    have elt : (upd (upd H3 lc (.lst [.int a, .int b, .int d])) lt (.tup [.int (a % (m : Int)), .int (1 + b % (sc : Int)), .int (if decide (0 < d) = true then 1 else 0)])) lt = some (.tup (lisV ⟨(a % (m : Int)).toNat, 1 + b % (sc : Int), decide (0 < d)⟩)) := upd_same.trans (congrArg some et)
    have nlt : lt ≠ l := fun e => by rw [e, v1 _ _ hl3] at hlt; cases hlt
    have vl : vs.length = j := (paired_len pr).trans hls
    refine ⟨l, _, _, rfl, rfl, v2 _ _ hl3, small9000 (by omega), ?_⟩
    have tS : TupS H3 (upd (upd (upd H3 lc (.lst [.int a, .int b, .int d])) lt (.tup [.int (a % (m : Int)), .int (1 + b % (sc : Int)), .int (if decide (0 < d) = true then 1 else 0)])) l (.lst (vs ++ [.ref lt]))) :=
      (Same.tup v2).trans (tup_upd fun xs e => by rw [v2 _ _ hl3] at e; cases e)
    refine ⟨vs ++ [.ref lt], ls ++ [⟨(a % (m : Int)).toNat, 1 + b % (sc : Int), decide (0 < d)⟩], _, _, _, _, rfl, by rw [List.length_append, hls]; rfl, upd_same, paired_snoc ⟨lt, rfl, by rw [upd_ne nlt]; exact elt⟩ (paired_imp (fun _ _ x => x.mono tS) pr), fun x hx => ?_, (s3.trans v2).upd hl0 _⟩
    rcases List.mem_append.mp hx with hx | hx
    · exact gl x hx
    · rw [List.mem_singleton] at hx
      subst hx
      have g1 := Int.emod_nonneg a (show (m : Int) ≠ 0 by omega)
      have g2 := Int.emod_lt_of_pos a (show (0 : Int) < m by omega)
      have g3 := Int.emod_nonneg b (show (sc : Int) ≠ 0 by omega)
      have g4 := Int.emod_lt_of_pos b (show (0 : Int) < sc by omega)
      exact ⟨by show (a % (m : Int)).toNat < m; omega, by show 1 ≤ 1 + b % (sc : Int); omega, by show 1 + b % (sc : Int) ≤ 1000; omega, fun h => (nomatch h)⟩
  rintro σ H3 ⟨vs, ls, o6, o8, o9, o10, rfl, hls, hl3, pr, gl, s3⟩
  have hls' : ls.length = c + 1 := by omega
  obtain ⟨n0, hn0⟩ : ∃ n, ns[0]? = some n := ⟨_, List.getElem?_eq_getElem (by omega)⟩
  obtain ⟨n1, hn1⟩ : ∃ n, ns[1]? = some n := ⟨_, List.getElem?_eq_getElem (by omega)⟩
  have hr3 := s3 _ _ hr0
  have vl : vs.length = c + 1 := by
    have := paired_len pr
    omega
  refine ⟨fun σ H4 => ∃ w : RW, σ = [some (.ref r), some (.str z), some (.int m), some (.int sc), some (.int c), some (.ref l), o6, some (rwV w), o8, o9, o10] ∧ GoodR ls.length w ∧ H4 = H3, ?_, ?_⟩
  · exact ⟨_, rfl, r, _, _, _, rfl, rfl, SqL.of hr3, at_map hn1, _, _, rfl, rfl, _, rfl, ite2 (fun _ => ⟨.any, rfl, trivial, rfl⟩) (fun _ => ⟨.all, rfl, trivial, rfl⟩)⟩
  rintro σ H4 ⟨w0, rfl, gw0, rfl⟩
  refine ⟨fun σ H5 => ∃ w : RW, σ = [some (.ref r), some (.str z), some (.int m), some (.int sc), some (.int c), some (.ref l), o6, some (rwV w), o8, o9, o10] ∧ GoodR ls.length w ∧ H5 = H4, ?_, ?_⟩
  · refine ⟨_, rfl, r, _, _, _, rfl, rfl, SqL.of hr3, at_map hn1, _, _, rfl, rfl, _, rfl, ite2 (fun _ => ?_) (fun _ => ⟨w0, rfl, gw0, rfl⟩)⟩
    exact ⟨_, rfl, r, _, _, _, rfl, rfl, SqL.of hr3, at_map hn1, _, _, rfl, rfl, _, rfl, l, _, rfl, .inl (SqL.of hl3), _, _, rfl, rfl, (show (0 : Int) < ((vs.length : Nat) : Int) by omega), _, _, rfl, rfl, .num (1 + (n1 - 6) % ((vs.length : Nat) : Int)), rfl, ⟨by have := Int.emod_nonneg (n1 - 6) (show ((vs.length : Nat) : Int) ≠ 0 by omega); omega, by have := Int.emod_lt_of_pos (n1 - 6) (show (0 : Int) < ((vs.length : Nat) : Int) by omega); omega⟩, rfl⟩
  rintro σ H5 ⟨w1, rfl, gw1, rfl⟩
  refine ⟨_, rfl, _, rfl, r, _, _, _, rfl, rfl, SqL.of hr3, at_map hn0, _, rfl, _, _, rfl, rfl, _, _, rfl, rfl, (show (0 : Int) < (sc : Int) + 1 by omega), _, rfl, _, rfl, l, _, rfl, .inl ⟨SqL.of hl3, fun t ht => ?_⟩⟩
  refine ⟨(by show 4 ≤ sizeLine; decide), fun x hx => ?_⟩
  have s4 := same_new ht (.tup vs)
  have s5 := same_new hx (.tup [.str z, .int (n0 % ((sc : Int) + 1)), rwV w1, .ref t])
  have s45 := s4.trans s5
  exact q _ _ ⟨z, n0 % ((sc : Int) + 1), w1, ls⟩ (s3.trans s45) ⟨x, t, vs, rfl, upd_same, s5 _ _ upd_same, paired_imp (fun _ _ y => y.mono (Same.tup s45)) pr⟩ rfl ⟨by show 1 ≤ ls.length; omega, by show ls.length ≤ 6; omega, Int.emod_nonneg _ (by omega), by have := Int.emod_lt_of_pos n0 (show (0 : Int) < (sc : Int) + 1 by omega); show n0 % ((sc : Int) + 1) ≤ 1000; omega, gw1, gl⟩
end
end K15
namespace K15
open PySem L2
/-! ### _law_choir -/
def rngB : List Int := [1001, 12, 6] ++ (List.replicate (Int.toNat 6) [6, 1000, 4]).flatten
theorem rngB_ok : ∀ m ∈ rngB, 1 ≤ m ∧ Big m := by
  unfold Big
  decide +kernel
theorem rngB_len : rngB.length = 21 := by decide
theorem rngH_ok : ∀ m ∈ [(6 : Int), 4], 1 ≤ m ∧ Big m := by
  unfold Big
  decide +kernel
theorem inR_pos {ns ms : List Int} (h : InR ns ms) : ∀ n ∈ ns, 0 ≤ n := by
  induction h with
  | nil => intro n hn; cases hn
  | cons a b t ih =>
    intro n hn
    rcases List.mem_cons.mp hn with rfl | hn
    · exact a
    · exact ih n hn
section
variable {P : Program} {w : World} {K : PySem.W.Frag} {mg : Str → Option Value} {base : Heap} {f : Addr} {fd : FuncData}
def sp_choir (K : PySem.W.Frag) : Sp := fun vs H Q _ => ∃ (a : Addr) (ns : List Int) (k : Nat) (nl : Addr) (names : List Str), vs = [.ref a, .int k, .ref nl] ∧ SqL K H a (ns.map V.int) ∧ k ≤ 900 ∧ H nl = some (.lst (names.map V.str)) ∧ names.length = 6 ∧
  ∀ (H' : Hp) (v : V) (c : List Bell), Same H H' → ChoirAt H' v c → 1 ≤ c.length → c.length ≤ 6 → c.map (·.name) = names.take c.length → (∀ b ∈ c, GoodB c.length 0 true b) → Q v H'
theorem sc_choir : FnScope ["_law_script", "_law_at", "_law_names_here", "_law_head", "_law_many", "_law_scale", "_law_bells", "_law_k", "_law_numbers"] ["_law_script", "_law_at", "_law_names_here"] (defScope s_choir) := ⟨rfl, rfl, rfl, by decide +kernel, rfl, by decide +kernel, by decide +kernel⟩
theorem ok_choir (F : Fun K "_law_choir" "_law_choir" s_choir f fd) (B : Blt mg) (C_cell : Cal P w K mg base 1 "_law_cell" ["_law_script", "_law_k"] (sp_cell K)) (C_part : Cal P w K mg base 2 "_law_part" ["_law_script", "_law_k", "_law_ranges"] (sp_part K))
    (C_bell : Cal P w K mg base 1 "_law_bell" ["_law_numbers", "_law_name", "_law_many", "_law_scale"] sp_bell) : FnOk P w K mg base CX0 3 f fd ["_law_script", "_law_at", "_law_names_here"] (sp_choir K) := by
  refine F.ok sc_choir (fun vs H Q E h => ?_) (fun cdv A outer s H vs Q E hr h => ?_)
  · obtain ⟨a, ns, k, nl, names, rfl, _⟩ := h
    rfl
  obtain ⟨a, ns, k, nl, names, rfl, hS, hk, hnl, hn6, q⟩ := h
  refine ⟨_, (pss_cons (ps_set (i := 3) sc_choir.nd rfl (Or.inl rfl) (pe_fn C_part hr (by decide) rfl (pa_cons (pv 0) (pa_cons (pv 1) (pa_cons (pe_lst (pa_cons pe_int (pa_cons pe_int pa_nil))) pa_nil)))))
    (pss_cons (ps_set (i := 4) sc_choir.nd rfl (Or.inl rfl) (pe_op op_add pe_int (pe_ix ix_list (pv 3) pe_int (fun _ _ => rfl))))
    (pss_cons (ps_set (i := 5) sc_choir.nd rfl (Or.inl rfl) pe_int)
    (pss_join (ps_if (pt_cmpR op_eq (pe_op op_mod (pe_fn C_cell hr (by decide) rfl (pa_cons (pv 0) (pa_cons pe_int pa_nil))) pe_int) pe_int (nomark _))
    (pss_one (ps_set (i := 5) sc_choir.nd rfl (Or.inl rfl) (pe_ix ix_list (pe_lst (pa_cons pe_int (pa_cons pe_int (pa_cons pe_int (pa_cons pe_int pa_nil))))) (pe_ix ix_list (pv 3) pe_int (fun _ _ => rfl)) (fun _ _ => rfl))))
    pss_nil)
    (pss_cons (ps_set (i := 6) sc_choir.nd rfl (Or.inl rfl) (pe_lst pa_nil))
    (pss_cons (ps_for PassesOwn.never rfl (pi_range1 rfl B.range_ (pa_cons (pv 4) pa_nil)) (pg_name (i := 7) sc_choir.nd rfl (Or.inl rfl))
    (pss_cons (ps_set (i := 8) sc_choir.nd rfl (Or.inl rfl) (pe_fn C_part hr (by decide) rfl (pa_cons (pv 0) (pa_cons (pe_op op_add (pe_op op_add (pv 1) pe_int) (pv 7)) (pa_cons (pe_op op_cat (pe_lst (pa_cons pe_int (pa_cons pe_int (pa_cons pe_int pa_nil)))) (pe_op op_rep (pe_lst (pa_cons pe_int (pa_cons pe_int (pa_cons pe_int pa_nil)))) pe_int)) pa_nil)))))
    (pss_one (ps_expr (pe_bm PySem.F.plainAttrs_list PySem.F.slot_list_append PySem.F.type_list_append mt_append (pv 6) (pa_cons (pe_fn C_bell hr (by decide) rfl (pa_cons (pv 8) (pa_cons (pe_ix ix_list (pv 2) (pv 7) (fun _ _ => rfl)) (pa_cons (pv 4) (pa_cons (pv 5) pa_nil))))) pa_nil))))))
    (pss_one (ps_ret (pe_callTy call_tuple_of rfl B.tuple_ PyProof.Rows.boot_tuple (pa_cons (pv 6) pa_nil)))))))))), ?_⟩
  refine ⟨_, rfl, _, rfl, (by show 2 ≤ sizeLine; decide), fun b hb => ?_⟩
  refine ⟨a, ns, k, b, [6, 4], rfl, (same_new hb _).seq hS, by omega, SqL.of upd_same, by decide, rngH_ok, fun r H1 hd _ s1 hr1 hin => ?_⟩
  have s01 := (same_new hb _).trans s1
  obtain ⟨n0, hn0, a0, b0⟩ := hin.at (i := 0) (m := 6) (by decide)
  obtain ⟨n1, hn1, a1, b1⟩ := hin.at (i := 1) (m := 4) (by decide)
  refine ⟨_, rfl, r, _, _, _, rfl, rfl, SqL.of hr1, at_map hn0, _, _, rfl, rfl, ?_⟩
  obtain ⟨m, hm⟩ : ∃ m : Nat, 1 + n0 = (m : Int) := ⟨(1 + n0).toNat, by omega⟩
  dsimp only
  rw [hm]
  have m1 : 1 ≤ m := by omega
  have m6 : m ≤ 6 := by omega
  refine ⟨fun σ H4 => ∃ sc : Nat, σ = [some (.ref a), some (.int k), some (.ref nl), some (.ref r), some (.int m), some (.int sc), none, none, none] ∧ 1 ≤ sc ∧ sc ≤ 1000 ∧ Same H1 H4, ?_, ?_⟩
  · refine ⟨_, rfl, a, ns, 0, rfl, s01.seq hS, fun zc => ?_⟩
    refine ⟨_, _, rfl, rfl, (show (0 : Int) < 2 by decide), rfl, _, rfl, ite2 (fun _ => ?_) (fun _ => ⟨1000, rfl, by decide, by decide, .refl H1⟩)⟩
    refine ⟨(by show 4 ≤ sizeLine; decide), fun l4 hl4 => ?_⟩
    obtain ⟨sc, hsc, sc1, scM⟩ : ∃ sc : Nat, atI [V.int 3, V.int 12, V.int 1000, V.int 5] n1 = some (.int sc) ∧ 1 ≤ sc ∧ sc ≤ 1000 := by
      have hc : n1 = 0 ∨ n1 = 1 ∨ n1 = 2 ∨ n1 = 3 := by omega
      rcases hc with rfl | rfl | rfl | rfl
      · exact ⟨3, rfl, by decide, by decide⟩
      · exact ⟨12, rfl, by decide, by decide⟩
      · exact ⟨1000, rfl, by decide, by decide⟩
      · exact ⟨5, rfl, by decide, by decide⟩
    have s4 := same_new hl4 (.lst [.int 3, .int 12, .int 1000, .int 5])
    exact ⟨_, rfl, r, _, _, _, rfl, rfl, SqL.of (s4 _ _ hr1), at_map hn1, l4, _, _, _, rfl, rfl, SqL.of upd_same, hsc, sc, rfl, sc1, scM, s4⟩
  rintro σ H4 ⟨sc, rfl, sc1, scM, s14⟩
  have s04 := s01.trans s14
  refine ⟨(by show 0 ≤ sizeLine; decide), fun l hl => ?_⟩
  have l0 : H l = none := s04.free hl
  refine ⟨_, rfl, (m : Int), rfl, by omega, by omega, ?_⟩
  refine for_range (lo := 0) (n := ((m : Nat) : Int).toNat) (fun j σ H5 => ∃ (vs : List V) (c : List Bell) (o7 o8 : Option V), σ = [some (.ref a), some (.int k), some (.ref nl), some (.ref r), some (.int m), some (.int sc), some (.ref l), o7, o8] ∧
      c.length = j ∧ c.map (·.name) = names.take j ∧ (∀ b ∈ c, GoodB m 0 true b) ∧ H5 l = some (.lst vs) ∧ Paired (BellAt H5) vs c ∧ Same H H5)
    ⟨[], [], none, none, rfl, rfl, rfl, fun _ h => (nomatch h), upd_same, .nil, s04.trans (same_new hl _)⟩ ?_ ?_
  · rintro j σ H5 hj ⟨vs, c, o7, o8, rfl, hc, hcn, gc, hl5, pr, s5⟩
    have hjm : j < m := by omega
    rw [Int.zero_add]
    refine ⟨_, rfl, _, rfl, _, _, rfl, rfl, _, rfl, _, _, rfl, rfl, (by show 3 ≤ sizeLine; decide), fun l1 hl1 => ?_⟩
    refine ⟨(by show 3 ≤ sizeLine; decide), fun l2 hl2 => ?_⟩
    refine ⟨l2, 6, _, rfl, rfl, upd_same, by decide, by decide, (by show 3 * 6 ≤ sizeLine; decide), fun l3 hl3 => ?_⟩
    refine ⟨l1, l3, _, _, rfl, rfl, (same_new hl3 _) _ _ ((same_new hl2 _) _ _ upd_same), upd_same, (by show 3 + 18 ≤ sizeLine; decide), fun lr hlr => ?_⟩
    have v1 := (same_new hl1 (.lst [.int 1001, .int 12, .int 6])).trans ((same_new hl2 _).trans ((same_new hl3 _).trans (same_new hlr (.lst (rngB.map V.int)))))
    refine ⟨a, ns, k + 1 + j, lr, rngB, congrArg (fun z => [V.ref a, V.int z, V.ref lr]) (show (k : Int) + 1 + (j : Int) = ((k + 1 + j : Nat) : Int) by omega), (s5.trans v1).seq hS, by omega, SqL.of upd_same, by rw [rngB_len]; decide, rngB_ok, fun rb H6 nums hrb s6 hrb6 hinb => ?_⟩
    have s56 := v1.trans s6
    obtain ⟨n2, hn2, _, c2⟩ := hinb.at (i := 2) (m := 6) (by decide)
    have ez := List.getElem?_eq_getElem (show j < names.length by omega)
    refine ⟨_, rfl, .inl ⟨rfl, _, SqL.of (s56 _ _ hl5)⟩, _, rfl, _, rfl, _, rfl, nl, _, _, _, rfl, rfl, SqL.of ((s5.trans s56) _ _ hnl), atI_nat (v := V.str names[j]) (by rw [List.getElem?_map, ez]; rfl), _, rfl, _, rfl, rb, nums, names[j], m, sc, rfl, hrb6, by rw [hinb.length, rngB_len], inR_pos hinb, ⟨n2, hn2, c2⟩, m1, sc1, scM, fun H7 v b s7 hv hbn gb => ?_⟩
    have s57 := s56.trans s7
    have vl : vs.length = j := (paired_len pr).trans hc
    refine ⟨l, _, _, rfl, rfl, s57 _ _ hl5, small9000 (by omega), ?_⟩
    have tU : TupS H7 (upd H7 l (.lst (vs ++ [v]))) := tup_upd fun xs e => by rw [s57 _ _ hl5] at e; cases e
    have tS : TupS H5 (upd H7 l (.lst (vs ++ [v]))) := (Same.tup s57).trans tU
    refine ⟨vs ++ [v], c ++ [b], _, _, rfl, by rw [List.length_append, hc]; rfl, ?_, ?_, upd_same, paired_snoc (hv.mono tU) (paired_imp (fun _ _ x => x.mono tS) pr), (s5.trans s57).upd l0 _⟩
    · rw [List.map_append, hcn, ntake_snoc ez]
      show _ ++ [b.name] = _
      rw [hbn]
    · intro x hx
      rcases List.mem_append.mp hx with hx | hx
      · exact gc x hx
      · rw [List.mem_singleton] at hx
        subst hx
        exact gb
  rintro σ H5 ⟨vs, c, o7, o8, rfl, hc, hcn, gc, hl5, pr, s5⟩
  refine ⟨_, rfl, l, _, rfl, .inl ⟨SqL.of hl5, fun t ht => ?_⟩⟩
  have s6 := same_new ht (.tup vs)
  have hcm : c.length = m := by omega
  refine q _ _ c (s5.trans s6) ⟨t, vs, rfl, upd_same, paired_imp (fun _ _ x => x.mono (Same.tup s6)) pr⟩ (by omega) (by omega) ?_ (by rw [hcm]; exact gc)
  rw [hcn, hc]
end
end K15
namespace K15
open PySem L2
/-! ### what _law_names rests on -/
def letters : Str := "abcdefghijklmnopqrstuvwxyz"
theorem letters_len : letters.cps.toList.length = 26 := by decide +kernel
theorem letters_size : letters.length = 26 := by decide +kernel
theorem letters_nodup : letters.cps.toList.Nodup := by decide +kernel
def four : List Str := ["all", "any", "bell", "none"]
def candP (pre : Str) (c : Nat) : Str := pre ++ (⟨#[c]⟩ : Str)
theorem candP_len (pre : Str) (c : Nat) : (candP pre c).length = pre.length + 1 := by
  unfold candP
  rw [str_app_len]
  rfl
theorem str_app_cps (a b : Str) : (a ++ b).cps.toList = a.cps.toList ++ b.cps.toList := by
  show (a.cps ++ b.cps).toList = _
  rw [Array.toList_append]
theorem candP_inj {pre : Str} {c d : Nat} (h : candP pre c = candP pre d) : c = d := by
  have e := congrArg (fun x : Str => x.cps.toList) h
  dsimp only [candP] at e
  rw [str_app_cps, str_app_cps] at e
  exact List.head_eq_of_cons_eq (List.append_cancel_left e)
theorem candP_nodup (pre : Str) : ∀ {l : List Nat}, l.Nodup → (l.map (candP pre)).Nodup
  | [], _ => .nil
  | c :: l, h => by
    rw [List.map_cons, List.nodup_cons]
    rw [List.nodup_cons] at h
    refine ⟨fun hm => ?_, candP_nodup pre h.2⟩
    obtain ⟨d, hd, e⟩ := List.mem_map.mp hm
    exact h.1 (candP_inj e ▸ hd)
def lowS (z : Str) : Prop := ∀ c ∈ z.cps.toList, c ∈ letters.cps.toList
theorem lowS_app {a b : Str} (ha : lowS a) (hb : lowS b) : lowS (a ++ b) := fun c hc => by
  rw [str_app_cps] at hc
  rcases List.mem_append.mp hc with h | h
  · exact ha c h
  · exact hb c h
theorem lowS_one {c : Nat} (h : c ∈ letters.cps.toList) : lowS ⟨#[c]⟩ := fun d hd => by
  have e : d = c := List.mem_singleton.mp hd
  rw [e]
  exact h
theorem lowS_slice {x : Str} (h : lowS x) (lo hi : Option Int) : lowS (Txt.slice x lo hi) := fun c hc => by
  rw [slice_txt] at hc
  unfold cutN at hc
  exact h c (List.mem_of_mem_drop (List.mem_of_mem_take hc))
theorem candP_first (pre : Str) (known : List Str) (h : known.length ≤ 25) : ∃ z rest, ((letters.cps.toList.map (candP pre)).filter (fun x => decide (x ∉ known))).map V.str = V.str z :: rest ∧ z ∉ known ∧ z.length = pre.length + 1 ∧ (lowS pre → lowS z) := by
  have hex : ∃ x ∈ letters.cps.toList.map (candP pre), x ∉ known := by
    refine Classical.byContradiction fun no => ?_
    have all : ∀ x ∈ letters.cps.toList.map (candP pre), x ∈ known := fun x hx => Classical.byContradiction fun hm => no ⟨x, hx, hm⟩
    have := nodup_sub (candP_nodup pre letters_nodup) all
    rw [List.length_map, letters_len] at this
    omega
  obtain ⟨x, hx, hm⟩ := hex
  have hin : x ∈ (letters.cps.toList.map (candP pre)).filter (fun x => decide (x ∉ known)) := List.mem_filter.mpr ⟨hx, decide_eq_true hm⟩
  cases e : (letters.cps.toList.map (candP pre)).filter (fun x => decide (x ∉ known)) with
  | nil => rw [e] at hin; cases hin
  | cons z r =>
    have h0 : z ∈ (letters.cps.toList.map (candP pre)).filter (fun x => decide (x ∉ known)) := by rw [e]; exact List.mem_cons_self
    obtain ⟨c, hc, rfl⟩ := List.mem_map.mp (List.mem_filter.mp h0).1
    exact ⟨candP pre c, _, rfl, of_decide_eq_true (List.mem_filter.mp h0).2, candP_len pre c, fun hp => lowS_app hp (lowS_one hc)⟩
/-- texts of one sign each, joined -/
theorem join_ones (l : List Nat) : (Txt.join Str.empty (l.map fun c => (⟨#[c]⟩ : Str))).length = l.length := by
  have e := size_glued Str.empty (l.map fun c => (⟨#[c]⟩ : Str))
  have e0 : Str.empty.length = 0 := rfl
  rw [e0, Nat.mul_zero, Nat.add_zero, List.map_map] at e
  refine (show _ = _ from e).trans ?_
  induction l with
  | nil => rfl
  | cons c l ih => rw [List.map_cons, List.sum_cons, List.length_cons, ih (size_glued Str.empty _ |>.trans (by rw [e0, Nat.mul_zero, Nat.add_zero, List.map_map]))]; show 1 + l.length = l.length + 1; omega
/-! ### rows of numbers, and the texts made of them -/
def rngN : List Int := (List.replicate (Int.toNat 6) ([8] ++ (List.replicate (Int.toNat 8) [26]).flatten)).flatten
theorem rngN_ok : ∀ m ∈ rngN, 1 ≤ m ∧ Big m := by
  unfold Big
  decide +kernel
theorem rngN_len : rngN.length = 54 := by decide
theorem rngN_at : ∀ j, j < 54 → rngN[j]? = some (if j % 9 = 0 then 8 else 26) := by decide +kernel
theorem at_zero {α : Type} (x : α) (r : List α) : atI (x :: r) 0 = some x := atI_nat (j := 0) rfl
def Low (cs : List Int) : Prop := ∀ n ∈ cs, 0 ≤ n ∧ n < 26
def sg (n : Int) : Nat := letters.cps.toList.getD n.toNat 0
theorem sg_at {n : Int} (h0 : 0 ≤ n) (h1 : n < 26) : atI letters.cps.toList n = some (sg n) := by
  have hd : n.toNat < letters.cps.toList.length := by rw [letters_len]; omega
  have e : n = ((n.toNat : Nat) : Int) := by omega
  have := atI_nat (List.getElem?_eq_getElem hd)
  rw [← e] at this
  rw [this]
  unfold sg
  rw [List.getD_eq_getElem?_getD, List.getElem?_eq_getElem hd]
  rfl
def ones (cs : List Int) : List Str := cs.map fun n => (⟨#[sg n]⟩ : Str)
theorem ones_len (cs : List Int) : (Txt.join Str.empty (ones cs)).length = cs.length := by
  have e := join_ones (cs.map sg)
  rw [List.map_map, List.length_map] at e
  exact e
theorem ones_ok {cs : List Int} (h : cs.length ≤ 9) : JoinOk Str.empty (ones cs) = true := by
  have e0 : Str.empty.length = 0 := rfl
  have e : (Txt.join Str.empty (ones cs)).length = ((ones cs).map (·.length)).sum + ((ones cs).length - 1) * Str.empty.length := size_glued Str.empty (ones cs)
  rw [ones_len, e0, Nat.mul_zero, Nat.add_zero] at e
  refine PyProof.Rows.joinOk_of ?_
  rw [e0, Nat.mul_zero, Nat.add_zero, ← e]
  omega
theorem ones_at {cs : List Int} {i : Nat} {n : Int} (h : cs[i]? = some n) : (ones cs)[i]? = some ⟨#[sg n]⟩ := by
  unfold ones
  rw [List.getElem?_map, h]
  rfl
theorem foldl_ones : ∀ (l : List Nat) (a : Array Nat), ((l.map fun c => (⟨#[c]⟩ : Str)).foldl (fun acc q => acc ++ Str.empty.cps ++ q.cps) a).toList = a.toList ++ l
  | [], a => (List.append_nil _).symm
  | c :: l, a => by
    rw [List.map_cons, List.foldl_cons, foldl_ones l, Array.toList_append, Array.toList_append]
    show (a.toList ++ []) ++ [c] ++ l = a.toList ++ (c :: l)
    rw [List.append_nil, List.append_assoc]
    rfl
theorem join_cps : ∀ l : List Nat, (Txt.join Str.empty (l.map fun c => (⟨#[c]⟩ : Str))).cps.toList = l
  | [] => rfl
  | c :: l => by
    show ((l.map fun c => (⟨#[c]⟩ : Str)).foldl (fun acc q => acc ++ Str.empty.cps ++ q.cps) #[c]).toList = _
    rw [foldl_ones]
    rfl
theorem sg_mem {n : Int} (h0 : 0 ≤ n) (h1 : n < 26) : sg n ∈ letters.cps.toList := by
  have hd : n.toNat < letters.cps.toList.length := by rw [letters_len]; omega
  unfold sg
  rw [List.getD_eq_getElem?_getD, List.getElem?_eq_getElem hd]
  exact List.getElem_mem hd
theorem lowS_ones {cs : List Int} (h : Low cs) : lowS (Txt.join Str.empty (ones cs)) := fun c hc => by
  have e := join_cps (cs.map sg)
  rw [List.map_map] at e
  have e' : (Txt.join Str.empty (ones cs)).cps.toList = cs.map sg := e
  rw [e'] at hc
  obtain ⟨n, hn, rfl⟩ := List.mem_map.mp hc
  exact sg_mem (h n hn).1 (h n hn).2
theorem cutV_ints (cs : List Int) (lo hi : Nat) (h : lo ≤ hi) (h2 : hi ≤ cs.length) : cutV (cs.map V.int) (some (lo : Int)) (some (hi : Int)) = ((cs.drop lo).take (hi - lo)).map V.int := by
  unfold cutV
  rw [HT.sIx_nat, HT.sIx_nat, List.length_map, Nat.min_eq_left h2, Nat.min_eq_left (Nat.le_trans h h2), List.map_take, List.map_drop]
theorem row_of {nums : List Int} (hin : InR nums rngN) {k : Nat} (hk : k < 6) : ∃ z rest, (nums.drop (9 * k)).take 9 = z :: rest ∧ rest.length = 8 ∧ 0 ≤ z ∧ z < 8 ∧ Low rest := by
  have hl : nums.length = 54 := by rw [hin.length, rngN_len]
  have hat : ∀ i, i < 9 → ((nums.drop (9 * k)).take 9)[i]? = nums[9 * k + i]? := fun i hi => by
    rw [List.getElem?_take_of_lt hi, List.getElem?_drop]
  have hlen : ((nums.drop (9 * k)).take 9).length = 9 := by
    rw [List.length_take, List.length_drop]
    omega
  cases e : (nums.drop (9 * k)).take 9 with
  | nil => rw [e] at hlen; cases hlen
  | cons z rest =>
    rw [e] at hat hlen
    have hrl : rest.length = 8 := Nat.succ.inj hlen
    refine ⟨z, rest, rfl, hrl, ?_⟩
    obtain ⟨z', h1, h2, h3⟩ := hin.at (rngN_at (9 * k + 0) (by omega))
    rw [if_pos (show (9 * k + 0) % 9 = 0 by omega)] at h3
    have e1 := (hat 0 (by decide)).trans h1
    cases e1
    refine ⟨h2, h3, fun n hn => ?_⟩
    obtain ⟨i, hi⟩ := List.getElem?_of_mem hn
    have i8 : i < 8 := by
      have := (List.getElem?_eq_some_iff.mp hi).1
      omega
    obtain ⟨n', g1, g2, g3⟩ := hin.at (rngN_at (9 * k + (i + 1)) (by omega))
    rw [if_neg (show ¬ (9 * k + (i + 1)) % 9 = 0 by omega)] at g3
    have e2 := (hat (i + 1) (by omega)).trans g1
    rw [List.getElem?_cons_succ, hi] at e2
    cases e2
    exact ⟨g2, g3⟩
theorem cut_stem {nums : List Int} {z : Int} {rest : List Int} (h : (nums.drop (9 * 0)).take 9 = z :: rest) (hl : nums.length = 54) : cutV (nums.map V.int) (some 1) (some 9) = rest.map V.int := by
  have e := cutV_ints nums 1 9 (by decide) (by omega)
  refine e.trans (congrArg (List.map V.int) ?_)
  cases nums with
  | nil => cases hl
  | cons a l =>
    have h' : a :: l.take 8 = z :: rest := h
    exact (List.cons.inj h').2
theorem cut_row {nums : List Int} {j : Nat} {z : Int} {rest : List Int} (h : (nums.drop (9 * j)).take 9 = z :: rest) (hj : j < 6) (hl : nums.length = 54) : cutV (nums.map V.int) (some (9 * (j : Int))) (some (9 * (j : Int) + 9)) = (z :: rest).map V.int := by
  have e := cutV_ints nums (9 * j) (9 * j + 9) (by omega) (by omega)
  rw [show 9 * j + 9 - 9 * j = 9 by omega, h] at e
  rw [show ((9 * j + 9 : Nat) : Int) = 9 * (j : Int) + 9 by omega, show ((9 * j : Nat) : Int) = 9 * (j : Int) by omega] at e
  exact e
theorem cut_name {z : Int} {rest : List Int} (h0 : 0 ≤ z) (h8 : z < 8) (hl : rest.length = 8) : ∃ cs : List Int, cutV ((z :: rest).map V.int) (some 1) (some (2 + z)) = cs.map V.int ∧ 1 ≤ cs.length ∧ cs.length ≤ 8 ∧ ∀ n ∈ cs, n ∈ rest := by
  obtain ⟨y, rfl⟩ : ∃ y : Nat, z = (y : Int) := ⟨z.toNat, by omega⟩
  have e := cutV_ints ((y : Int) :: rest) 1 (y + 2) (by omega) (by rw [List.length_cons]; omega)
  rw [show ((y + 2 : Nat) : Int) = 2 + (y : Int) by omega] at e
  refine ⟨rest.take (y + 1), e, ?_, ?_, fun n hn => List.mem_of_mem_take hn⟩
  · rw [List.length_take]
    omega
  · rw [List.length_take]
    omega
theorem slice_to (x : Str) (k : Nat) : (Txt.slice x none (some (k : Int))).length = min k x.length := by
  have hx := tx_len x
  rw [← tx_len (Txt.slice x none (some (k : Int))), slice_txt]
  unfold cutN
  rw [HT.sIx_nat]
  simp only [HT.sIx_none, List.drop_zero, List.length_take]
  omega
theorem slice_from (x : Str) (k : Nat) : (Txt.slice x (some (k : Int)) none).length = x.length - k := by
  have hx := tx_len x
  rw [← tx_len (Txt.slice x (some (k : Int)) none), slice_txt]
  unfold cutN
  rw [HT.sIx_nat]
  simp only [HT.sIx_none, List.length_take, List.length_drop]
  omega
end K15
namespace K15
open PySem L2
/-! ### _law_names -/
/-- six names that stand for bells: unlike, none of those ahead, none of the four words -/
structure GoodNm (ahead names : List Str) : Prop where
  nd : names.Nodup
  fr : ∀ x ∈ names, x ∉ ahead ∧ x ∉ four
  ln : ∀ x ∈ names, 1 ≤ x.length ∧ x.length ≤ 8
  lw : ∀ x ∈ names, lowS x
section
variable {P : Program} {w : World} {K : PySem.W.Frag} {mg : Str → Option Value} {base : Heap} {f : Addr} {fd : FuncData}
def sp_names (K : PySem.W.Frag) : Sp := fun vs H Q _ => ∃ (a : Addr) (ns : List Int) (k : Nat) (al : Addr) (ahead : List Str), vs = [.ref a, .int k, .ref al] ∧ SqL K H a (ns.map V.int) ∧ k ≤ 900 ∧ H al = some (.lst (ahead.map V.str)) ∧ ahead.length ≤ 12 ∧
  ∀ (H' : Hp) (p : Addr) (names : List Str), Same H H' → H p = none → H' p = some (.lst (names.map V.str)) → names.length = 6 → GoodNm ahead names → Q (.ref p) H'
theorem sc_names : FnScope ["_law_script", "_law_at", "_law_ahead", "_law_letters", "_law_numbers", "_law_style", "_law_stem", "_law_answer", "_law_k", "_law_row", "_law_name", "_law_known", "_law_sign", "_law_some"] ["_law_script", "_law_at", "_law_ahead"] (defScope s_names) := ⟨rfl, rfl, rfl, by decide +kernel, rfl, by decide +kernel, by decide +kernel⟩
theorem ok_names (F : Fun K "_law_names" "_law_names" s_names f fd) (B : Blt mg) (C_cell : Cal P w K mg base 1 "_law_cell" ["_law_script", "_law_k"] (sp_cell K)) (C_blended : Cal P w K mg base 1 "_law_blended" ["_law_cell_here", "_law_ranges"] (sp_blended K))
    (C_part : Cal P w K mg base 2 "_law_part" ["_law_script", "_law_k", "_law_ranges"] (sp_part K)) : FnOk P w K mg base CX0 3 f fd ["_law_script", "_law_at", "_law_ahead"] (sp_names K) := by
  refine F.ok sc_names (fun vs H Q E h => ?_) (fun cdv A outer s H vs Q E hr h => ?_)
  · obtain ⟨a, ns, k, al, ahead, rfl, _⟩ := h
    rfl
  obtain ⟨a, ns, k, al, ahead, rfl, hS, hk, hal, ha12, q⟩ := h
  refine ⟨_, (pss_cons (ps_set (i := 3) sc_names.nd rfl (Or.inr rfl) pe_str)
    (pss_cons (ps_set (i := 4) sc_names.nd rfl (Or.inl rfl) (pe_fn C_part hr (by decide) rfl (pa_cons (pv 0) (pa_cons (pv 1) (pa_cons (pe_op op_rep (pe_op op_cat (pe_lst (pa_cons pe_int pa_nil)) (pe_op op_rep (pe_lst (pa_cons pe_int pa_nil)) pe_int)) pe_int) pa_nil)))))
    (pss_cons (ps_set (i := 5) sc_names.nd rfl (Or.inl rfl) pe_int)
    (pss_join (ps_if (pt_cmpR op_eq (pe_op op_mod (pe_fn C_cell hr (by decide) rfl (pa_cons (pv 0) (pa_cons pe_int pa_nil))) pe_int) pe_int (nomark _))
    (pss_one (ps_set (i := 5) sc_names.nd rfl (Or.inl rfl) (pe_ix ix_list (pe_fn C_blended hr (by decide) rfl (pa_cons (pe_fn C_cell hr (by decide) rfl (pa_cons (pv 0) (pa_cons (pv 1) pa_nil))) (pa_cons (pe_lst (pa_cons pe_int (pa_cons pe_int pa_nil))) pa_nil))) pe_int (fun _ _ => rfl))))
    pss_nil)
    (pss_cons (ps_set (i := 6) sc_names.nd rfl (Or.inl rfl) (pe_bm PySem.F.plainAttrs_str PySem.F.slot_str_join PySem.F.type_str_join mt_join pe_str (pa_cons (pe_comp ["_law_number"] ["_law_letters"] [3] rfl (pi_list (pe_slice sl_list (pv 4) (po_some pe_int) (po_some pe_int))) (fun _ _ _ _ _ => (pg_name (i := 0) (show List.Nodup [("_law_number" : Str), ("_law_letters" : Str)] by decide +kernel) rfl (Or.inl rfl))) (fun _ _ _ _ _ => pts_nil) (fun _ _ _ _ _ => (pe_ix ix_str (pv 1) (pv 0) (fun _ _ => rfl)))) pa_nil)))
    (pss_cons (ps_set (i := 7) sc_names.nd rfl (Or.inl rfl) (pe_lst pa_nil))
    (pss_cons (ps_for PassesOwn.never rfl (pi_range1 rfl B.range_ (pa_cons pe_int pa_nil)) (pg_name (i := 8) sc_names.nd rfl (Or.inl rfl))
    (pss_cons (ps_set (i := 9) sc_names.nd rfl (Or.inl rfl) (pe_slice sl_list (pv 4) (po_some (pe_op op_mul pe_int (pv 8))) (po_some (pe_op op_add (pe_op op_mul pe_int (pv 8)) pe_int))))
    (pss_cons (ps_set (i := 10) sc_names.nd rfl (Or.inr rfl) (pe_bm PySem.F.plainAttrs_str PySem.F.slot_str_join PySem.F.type_str_join mt_join pe_str (pa_cons (pe_comp ["_law_number"] ["_law_letters"] [3] rfl (pi_list (pe_slice sl_list (pv 9) (po_some pe_int) (po_some (pe_op op_add pe_int (pe_ix ix_list (pv 9) pe_int (fun _ _ => rfl)))))) (fun _ _ _ _ _ => (pg_name (i := 0) (show List.Nodup [("_law_number" : Str), ("_law_letters" : Str)] by decide +kernel) rfl (Or.inl rfl))) (fun _ _ _ _ _ => pts_nil) (fun _ _ _ _ _ => (pe_ix ix_str (pv 1) (pv 0) (fun _ _ => rfl)))) pa_nil)))
    (pss_join (ps_if (pt_cmpR op_eq (pv 5) pe_int (nomark _))
    (pss_one (ps_set (i := 10) sc_names.nd rfl (Or.inr rfl) (pe_slice sl_str (pv 6) po_none (po_some (pe_op op_add (pe_op op_add (pv 8) pe_int) (pe_op op_mod (pe_ix ix_list (pv 4) pe_int (fun _ _ => rfl)) pe_int))))))
    pss_nil)
    (pss_join (ps_if (pt_cmpR op_eq (pv 5) pe_int (nomark _))
    (pss_cons (ps_set (i := 12) sc_names.nd rfl (Or.inl rfl) (pe_ix ix_str (pv 3) (pe_op op_mod (pe_op op_add (pe_ix ix_list (pv 4) pe_int (fun _ _ => rfl)) (pe_op op_mul pe_int (pv 8))) pe_int) (fun _ _ => rfl)))
    (pss_one (ps_set (i := 10) sc_names.nd rfl (Or.inr rfl) (pe_op op_add_str (pe_op op_add_str (pe_slice sl_str (pv 6) po_none (po_some (pe_ix ix_list (pv 4) pe_int (fun _ _ => rfl)))) (pv 12)) (pe_slice sl_str (pv 6) (po_some (pe_op op_add (pe_ix ix_list (pv 4) pe_int (fun _ _ => rfl)) pe_int)) po_none)))))
    pss_nil)
    (pss_cons (ps_set (i := 11) sc_names.nd rfl (Or.inr rfl) (pe_op op_cat (pe_op op_cat (pv 2) (pv 7)) (pe_lst (pa_cons pe_str (pa_cons pe_str (pa_cons pe_str (pa_cons pe_str pa_nil)))))))
    (pss_join (ps_if (pt_cmpR op_in_seq (pv 10) (pv 11) rfl)
    (pss_cons (ps_setComp (i := 13) ["_law_sign"] ["_law_name"] [10] rfl sc_names.nd rfl (Or.inl rfl) (pi_str (pv 3)) (fun _ _ _ _ _ => (pg_name (i := 0) (show List.Nodup [("_law_sign" : Str), ("_law_name" : Str)] by decide +kernel) rfl (Or.inl rfl))) (fun _ _ _ _ _ => pts_nil) (fun _ _ _ _ _ => (pe_op op_add_str (pe_slice sl_str (pv 1) po_none (po_some pe_int)) (pv 0))))
    (pss_one (ps_set (i := 10) sc_names.nd rfl (Or.inr rfl) (pe_ix ix_list (pe_comp ["_law_one"] ["_law_known"] [11] rfl (pi_list (pv 13)) (fun _ _ _ _ _ => (pg_name (i := 0) (show List.Nodup [("_law_one" : Str), ("_law_known" : Str)] by decide +kernel) rfl (Or.inl rfl))) (fun _ _ _ _ _ => (pts_one (pt_cmpR (op_notIn_seqC (K := K) rfl) (pv 0) (pv 1) rfl))) (fun _ _ _ _ _ => (pv 0))) pe_int (fun _ _ => rfl)))))
    pss_nil)
    (pss_one (ps_expr (pe_bm PySem.F.plainAttrs_list PySem.F.slot_list_append PySem.F.type_list_append mt_append (pv 7) (pa_cons (pv 10) pa_nil)))))))))))
    (pss_one (ps_ret (pv 7)))))))))), ?_⟩
  refine ⟨_, rfl, _, rfl, (by show 1 ≤ sizeLine; decide), fun l1 hl1 => ?_⟩
  refine ⟨(by show 1 ≤ sizeLine; decide), fun l2 hl2 => ?_⟩
  refine ⟨l2, 8, _, rfl, rfl, upd_same, by decide, by decide, (by show 1 * 8 ≤ sizeLine; decide), fun l3 hl3 => ?_⟩
  refine ⟨l1, l3, _, _, rfl, rfl, (same_new hl3 _) _ _ ((same_new hl2 _) _ _ upd_same), upd_same, (by show 1 + 8 ≤ sizeLine; decide), fun l4 hl4 => ?_⟩
  refine ⟨l4, 6, _, rfl, rfl, upd_same, by decide, by decide, (by show 9 * 6 ≤ sizeLine; decide), fun lr hlr => ?_⟩
  have v1 := (same_new hl1 (.lst [.int 8])).trans ((same_new hl2 _).trans ((same_new hl3 _).trans ((same_new hl4 _).trans (same_new hlr (.lst (rngN.map V.int))))))
  refine ⟨a, ns, k, lr, rngN, rfl, v1.seq hS, by omega, SqL.of upd_same, by rw [rngN_len]; decide, rngN_ok, fun r H1 nums hr0 s1 hr1 hin => ?_⟩
  have s01 := v1.trans s1
  have hlen : nums.length = 54 := by rw [hin.length, rngN_len]
  clear v1 s1 hl1 hl2 hl3 hl4 hlr hr0
  refine ⟨fun σ H4 => ∃ st : Int, σ = [some (.ref a), some (.int k), some (.ref al), some (.str letters), some (.ref r), some (.int st), none, none, none, none, none, none, none, none] ∧ Same H1 H4, ?_, ?_⟩
  · refine ⟨_, rfl, a, ns, 0, rfl, s01.seq hS, fun zc => ?_⟩
    refine ⟨_, _, rfl, rfl, (show (0 : Int) < 2 by decide), rfl, _, rfl, ite2 (fun _ => ?_) (fun _ => ⟨0, rfl, .refl H1⟩)⟩
    refine ⟨_, rfl, _, rfl, a, ns, k, rfl, s01.seq hS, fun z2 => ?_⟩
    refine ⟨(by show 2 ≤ sizeLine; decide), fun lb hlb => ?_⟩
    refine ⟨z2, lb, [3, 3], rfl, SqL.of upd_same, by decide, by decide, fun rb H2 bs hrb s2 hrb2 hinb => ?_⟩
    obtain ⟨n1, hn1, _⟩ := hinb.at (i := 1) (m := 3) (by decide)
    exact ⟨rb, _, _, _, rfl, rfl, SqL.of hrb2, at_map hn1, n1, rfl, (same_new hlb _).trans s2⟩
  rintro σ H4 ⟨st, rfl, s14⟩
  have s04 := s01.trans s14
  have hr4 := s14 _ _ hr1
  clear s14 s01 hr1
  obtain ⟨z0, rest0, e0, len0, z00, z08, low0⟩ := row_of hin (k := 0) (by decide)
  have hz0 : atI (nums.map V.int) 0 = some (.int z0) := by
    cases nums with
    | nil => cases hlen
    | cons x l =>
      have h' : x :: l.take 8 = z0 :: rest0 := e0
      rw [(List.cons.inj h').1]
      exact at_zero _ _
  obtain ⟨z9, hz9, z90, _⟩ := hin.at (rngN_at 9 (by decide))
  refine ⟨rfl, _, rfl, _, rfl, _, rfl, r, _, rfl, SqL.of hr4, fun lc hlc => ?_⟩
  rw [cut_stem e0 hlen]
  refine ⟨lc, rfl, ⟨_, SqL.of upd_same⟩, fun D hD => ?_⟩
  have hlc5 : (upd H4 lc (.lst (rest0.map V.int))) lc = some (.lst (rest0.map V.int)) := upd_same
  have s45 := same_new hlc (.lst (rest0.map V.int))
  generalize upd H4 lc (.lst (rest0.map V.int)) = H5 at hD hlc5 s45 ⊢
  have s05 := s04.trans s45
  have hr5 := s45 _ _ hr4
  clear s45 s04 hr4 hlc
  refine comp_list (K := K) (a := lc) (xs := rest0.map V.int) (fun i ys H6 => Same H5 H6 ∧ ys = ((ones rest0).take i).map V.str) ⟨same_new hD _, rfl⟩ (fun i ys H6 _ ⟨z, _⟩ => SqL.of (z _ _ hlc5)) ?_ ?_
  · rintro i x ys H6 hx ⟨s6, rfl⟩ hD6
    obtain ⟨n, rfl, hn⟩ := map_at hx
    obtain ⟨n0, n26⟩ := low0 n (List.mem_of_getElem? hn)
    refine ⟨rfl, tTrue_ite ?_⟩
    refine ⟨_, rfl, _, rfl, letters, _, _, rfl, rfl, (by rw [letters_size]; decide), sg_at n0 n26, _, hD6, ?_, _, ⟨s6.upd hD _, rfl⟩, ?_⟩
    · rw [List.length_map, List.length_take]
      have := (List.getElem?_eq_some_iff.mp hn).1
      exact small9000 (by omega)
    · rw [take_snoc (ones_at hn), List.map_append]
      exact upd_same
  rintro ys H6 ⟨s56, rfl⟩ hD6
  rw [List.take_of_length_le (by unfold ones; rw [List.length_map, List.length_map]; omega)] at hD6
  refine ⟨_, D, ones rest0, rfl, rfl, hD6, ones_ok (by omega), ?_⟩
  have hsl : (Txt.join Str.empty (ones rest0)).length = 8 := (ones_len rest0).trans len0
  have hsw : lowS (Txt.join Str.empty (ones rest0)) := lowS_ones low0
  have s06 := s05.trans s56
  have hr6 := s56 _ _ hr5
  clear hD hD6 s56 s05 hr5 hlc5
  generalize hst : Txt.join Str.empty (ones rest0) = stem at hsl hsw
  refine ⟨(by show 0 ≤ sizeLine; decide), fun l hl => ?_⟩
  have l0 : H l = none := s06.free hl
  have hal6 := s06 _ _ hal
  refine ⟨6, rfl, by decide, by decide, ?_⟩
  refine for_range (lo := 0) (n := Int.toNat 6) (fun j σ H7 => ∃ (names : List Str) (o8 o9 o10 o11 o12 o13 : Option V), σ = [some (.ref a), some (.int k), some (.ref al), some (.str letters), some (.ref r), some (.int st), some (.str stem), some (.ref l), o8, o9, o10, o11, o12, o13] ∧
      names.length = j ∧ GoodNm ahead names ∧ H7 l = some (.lst (names.map V.str)) ∧ Same H6 H7)
    ⟨[], none, none, none, none, none, none, (by rw [← hst]; rfl), rfl, ⟨.nil, fun _ h => (nomatch h), fun _ h => (nomatch h), fun _ h => (nomatch h)⟩, upd_same, same_new hl _⟩ ?_ ?_
  · rintro j σ H7 hj ⟨names, o8, o9, o10, o11, o12, o13, rfl, hn, good, hl7, s67⟩
    have hj6 : j < 6 := hj
    rw [Int.zero_add]
    obtain ⟨z, rest, ej, lenj, zj0, zj8, lowj⟩ := row_of hin hj6
    have hr7 := s67 _ _ hr6
    refine ⟨_, rfl, _, rfl, _, _, rfl, rfl, .inl ⟨by decide, by decide⟩, _, rfl, _, rfl, _, _, rfl, rfl, .inl ⟨by decide, by decide⟩, _, _, rfl, rfl, _, rfl, r, _, rfl, SqL.of hr7, fun lw hlw => ?_⟩
    rw [cut_row ej hj6 hlen]
    have hw8 : (upd H7 lw (.lst ((z :: rest).map V.int))) lw = some (.lst ((z :: rest).map V.int)) := upd_same
    have s78 := same_new hlw (.lst ((z :: rest).map V.int))
    generalize upd H7 lw (.lst ((z :: rest).map V.int)) = H8 at hw8 s78 ⊢
    refine ⟨rfl, _, rfl, _, rfl, _, rfl, lw, _, _, _, rfl, rfl, SqL.of hw8, at_zero _ _, _, _, rfl, rfl, _, rfl, lw, _, rfl, SqL.of hw8, fun lc2 hlc2 => ?_⟩
    obtain ⟨cs, ecs, cs1, cs8, csr⟩ := cut_name zj0 zj8 lenj
    dsimp only
    rw [ecs]
    refine ⟨lc2, rfl, ⟨_, SqL.of upd_same⟩, fun D2 hD2 => ?_⟩
    have hc9 : (upd H8 lc2 (.lst (cs.map V.int))) lc2 = some (.lst (cs.map V.int)) := upd_same
    have s89 := same_new hlc2 (.lst (cs.map V.int))
    generalize upd H8 lc2 (.lst (cs.map V.int)) = H9 at hD2 hc9 s89 ⊢
    have s79 := s78.trans s89
    clear s78 s89 hlw hlc2 hw8
    refine comp_list (K := K) (a := lc2) (xs := cs.map V.int) (fun i ys HA => Same H9 HA ∧ ys = ((ones cs).take i).map V.str) ⟨same_new hD2 _, rfl⟩ (fun i ys HA _ ⟨z, _⟩ => SqL.of (z _ _ hc9)) ?_ ?_
    · rintro i x ys HA hx ⟨sA, rfl⟩ hDA
      obtain ⟨n, rfl, hn⟩ := map_at hx
      obtain ⟨n0, n26⟩ := lowj n (csr n (List.mem_of_getElem? hn))
      refine ⟨rfl, tTrue_ite ?_⟩
      refine ⟨_, rfl, _, rfl, letters, _, _, rfl, rfl, (by rw [letters_size]; decide), sg_at n0 n26, _, hDA, ?_, _, ⟨sA.upd hD2 _, rfl⟩, ?_⟩
      · rw [List.length_map, List.length_take]
        have := (List.getElem?_eq_some_iff.mp hn).1
        exact small9000 (by omega)
      · rw [take_snoc (ones_at hn), List.map_append]
        exact upd_same
    rintro ys HA ⟨s9A, rfl⟩ hDA
    rw [List.take_of_length_le (by unfold ones; rw [List.length_map, List.length_map]; omega)] at hDA
    refine ⟨_, D2, ones cs, rfl, rfl, hDA, ones_ok (by omega), ?_⟩
    have hnl : (Txt.join (Str.ofString "") (ones cs)).length = cs.length := ones_len cs
    have hnw : lowS (Txt.join (Str.ofString "") (ones cs)) := lowS_ones fun n hn => lowj n (csr n hn)
    have s7A := s79.trans s9A
    clear hD2 hDA s9A s79 hc9
    have hrA := s7A _ _ hr7
    have hlA := s7A _ _ hl7
    have s6A := s67.trans s7A
    refine ⟨fun σ HB => ∃ nm : Str, σ = [some (.ref a), some (.int k), some (.ref al), some (.str letters), some (.ref r), some (.int st), some (.str stem), some (.ref l), some (.int j), some (.ref lw), some (.str nm), o11, o12, o13] ∧ (1 ≤ nm.length ∧ nm.length ≤ 8) ∧ lowS nm ∧ HA = HB, ?_, ?_⟩
    · refine ⟨_, rfl, rfl, _, rfl, ite2 (fun _ => ?_) (fun _ => ⟨_, rfl, ⟨by omega, by omega⟩, hnw, rfl⟩)⟩
      refine ⟨_, rfl, _, rfl, _, _, rfl, rfl, _, rfl, r, _, _, _, rfl, rfl, SqL.of hrA, hz0, _, _, rfl, rfl, (show (0 : Int) < 3 by decide), _, _, rfl, rfl, _, rfl, stem, rfl, (by rw [hsl]; decide), _, rfl, ?_, lowS_slice hsw _ _, rfl⟩
      obtain ⟨m, hm, m1⟩ : ∃ m : Nat, (j : Int) + 1 + z0 % 3 = (m : Int) ∧ 1 ≤ m := by
        have := Int.emod_nonneg z0 (show (3 : Int) ≠ 0 by decide)
        exact ⟨((j : Int) + 1 + z0 % 3).toNat, by omega, by omega⟩
      rw [hm, slice_to, hsl]
      omega
    rintro σ HB ⟨nm, rfl, ⟨nm1, nm8⟩, nmw, rfl⟩
    refine ⟨fun σ HB => ∃ (nm : Str) (o12 : Option V), σ = [some (.ref a), some (.int k), some (.ref al), some (.str letters), some (.ref r), some (.int st), some (.str stem), some (.ref l), some (.int j), some (.ref lw), some (.str nm), o11, o12, o13] ∧ (1 ≤ nm.length ∧ nm.length ≤ 8) ∧ lowS nm ∧ HA = HB, ?_, ?_⟩
    · refine ⟨_, rfl, rfl, _, rfl, ite2 (fun _ => ?_) (fun _ => ⟨nm, o12, rfl, ⟨nm1, nm8⟩, nmw, rfl⟩)⟩
      have hm0 := Int.emod_nonneg (z9 + 3 * (j : Int)) (show (26 : Int) ≠ 0 by decide)
      have hm1 := Int.emod_lt_of_pos (z9 + 3 * (j : Int)) (show (0 : Int) < 26 by decide)
      refine ⟨_, rfl, _, rfl, r, _, _, _, rfl, rfl, SqL.of hrA, at_map hz9, _, rfl, _, _, rfl, rfl, .inl ⟨by decide, by decide⟩, _, _, rfl, rfl, _, _, rfl, rfl, (show (0 : Int) < 26 by decide), letters, _, _, rfl, rfl, (by rw [letters_size]; decide), sg_at hm0 hm1, ?_⟩
      obtain ⟨m, rfl⟩ : ∃ m : Nat, z0 = (m : Int) := ⟨z0.toNat, by omega⟩
      have t1 := slice_to stem m
      have t2 := slice_from stem (m + 1)
      have t3 : ((m : Int) + 1) = ((m + 1 : Nat) : Int) := by omega
      rw [← t3] at t2
      refine ⟨_, rfl, _, rfl, r, _, _, _, rfl, rfl, SqL.of hrA, hz0, _, rfl, stem, rfl, (by rw [hsl]; decide), _, rfl, _, _, rfl, rfl, (by rw [t1, str_size1, sizeLine_eq]; omega), _, rfl, _, rfl, r, _, _, _, rfl, rfl, SqL.of hrA, hz0, _, _, rfl, rfl, _, rfl, stem, rfl, (by rw [hsl]; decide), _, _, rfl, rfl, (by rw [str_app_len, t1, t2, str_size1, sizeLine_eq]; omega), _, _, rfl, ?_, lowS_app (lowS_app (lowS_slice hsw _ _) (lowS_one (sg_mem hm0 hm1))) (lowS_slice hsw _ _), rfl⟩
      rw [str_app_len, str_app_len, t1, t2, str_size1, hsl]
      omega
    clear nm1 nm8 nmw
    rintro σ HB ⟨nm, o12, rfl, ⟨nm1, nm8⟩, nmw, rfl⟩
    refine ⟨_, rfl, _, rfl, al, l, _, _, rfl, rfl, s6A _ _ hal6, hlA, (by rw [List.length_map, List.length_map, sizeLine_eq]; omega), fun p1 hp1 => ?_⟩
    refine ⟨(by show 4 ≤ sizeLine; decide), fun l4 hl4 => ?_⟩
    refine ⟨p1, l4, _, _, rfl, rfl, (same_new hl4 _) _ _ upd_same, upd_same, (by rw [List.length_append, List.length_map, List.length_map, sizeLine_eq]; show _ + 4 ≤ _; omega), fun lk hlk => ?_⟩
    have ek : (ahead.map V.str ++ names.map V.str) ++ [V.str "all", V.str "any", V.str "bell", V.str "none"] = (ahead ++ names ++ four).map V.str := by
      rw [List.map_append, List.map_append]
      rfl
    have vB := (same_new hp1 (.lst (ahead.map V.str ++ names.map V.str))).trans ((same_new hl4 (.lst [.str "all", .str "any", .str "bell", .str "none"])).trans (same_new hlk (.lst ((ahead.map V.str ++ names.map V.str) ++ [V.str "all", V.str "any", V.str "bell", V.str "none"]))))
    have hkB : (upd (upd (upd HA p1 (.lst (ahead.map V.str ++ names.map V.str))) l4 (.lst [.str "all", .str "any", .str "bell", .str "none"])) lk (.lst ((ahead.map V.str ++ names.map V.str) ++ [V.str "all", V.str "any", V.str "bell", V.str "none"]))) lk = some (.lst ((ahead ++ names ++ four).map V.str)) := upd_same.trans (congrArg (fun x => some (HO.lst x)) ek)
    generalize upd (upd (upd HA p1 (.lst (ahead.map V.str ++ names.map V.str))) l4 (.lst [.str "all", .str "any", .str "bell", .str "none"])) lk (.lst ((ahead.map V.str ++ names.map V.str) ++ [V.str "all", V.str "any", V.str "bell", V.str "none"])) = HC at vB hkB ⊢
    clear hp1 hl4 hlk
    obtain ⟨known, hkn⟩ : ∃ known, known = ahead ++ names ++ four := ⟨_, rfl⟩
    have hk25 : known.length ≤ 25 := by
      rw [hkn, List.length_append, List.length_append]
      show _ + 4 ≤ 25
      omega
    rw [← hkn] at hkB
    refine ⟨fun σ HD => ∃ (nm : Str) (o13 : Option V), σ = [some (.ref a), some (.int k), some (.ref al), some (.str letters), some (.ref r), some (.int st), some (.str stem), some (.ref l), some (.int j), some (.ref lw), some (.str nm), some (.ref lk), o12, o13] ∧ nm ∉ known ∧ (1 ≤ nm.length ∧ nm.length ≤ 8) ∧ lowS nm ∧ Same HC HD, ?_, ?_⟩
    · refine ⟨_, rfl, _, rfl, lk, _, rfl, .inl (SqL.of hkB), rfl, strs_flat known, _, rfl, ?_⟩
      refine ite2 (fun _ => ?_) (fun c1 => ?_)
      · refine ⟨_, rfl, letters, rfl, fun D3 hD3 => ?_⟩
        refine comp_str (z := letters) (fun i ys HD => Same HC HD ∧ ys = ((letters.cps.toList.take i).map (candP (Txt.slice nm none (some 7)))).map V.str) ⟨same_new hD3 _, rfl⟩ ?_ ?_
        · rintro i c ys HD hc ⟨sD, rfl⟩ hDD
          have hc' : letters.cps.toList[i]? = some c := by simpa using hc
          have hi : i < 26 := by
            have := (List.getElem?_eq_some_iff.mp hc').1
            rw [letters_len] at this
            exact this
          refine ⟨rfl, tTrue_ite ?_⟩
          refine ⟨_, rfl, _, rfl, nm, rfl, (by rw [sizeLine_eq]; omega), _, rfl, _, _, rfl, rfl, (by rw [str_size1, sizeLine_eq]; have := slice_len nm 7; exact Nat.le_trans (Nat.add_le_add_right this 1) (by decide)), _, hDD, ?_, _, ⟨sD.upd hD3 _, rfl⟩, ?_⟩
          · rw [List.length_map, List.length_map, List.length_take]
            exact small9000 (by omega)
          · rw [take_snoc hc', List.map_append, List.map_append]
            exact upd_same
        rintro ys HD ⟨sD, rfl⟩ hDD
        have hT : letters.cps.toList.take letters.cps.size = letters.cps.toList := List.take_of_length_le (by simp)
        rw [hT] at hDD
        obtain ⟨cands, hcd⟩ : ∃ cands, cands = letters.cps.toList.map (candP (Txt.slice nm none (some 7))) := ⟨_, rfl⟩
        have hcl : cands.length = 26 := by rw [hcd, List.length_map, letters_len]
        obtain ⟨zz, rst, hzz, hm0, hl0, hlw⟩ := candP_first (Txt.slice nm none (some 7)) known hk25
        rw [← hcd] at hDD hzz
        have hkD := sD _ _ hkB
        refine ⟨_, rfl, D3, rfl, ⟨_, SqL.of hDD⟩, fun D4 hD4 => ?_⟩
        refine comp_list (K := K) (a := D3) (xs := cands.map V.str) (fun i ys HE => Same HD HE ∧ ys = ((cands.take i).filter (fun x => decide (x ∉ known))).map V.str) ⟨same_new hD4 _, rfl⟩ (fun i ys HE _ ⟨z, _⟩ => SqL.of (z _ _ hDD)) ?_ ?_
        · rintro i x ys HE hx ⟨sE, rfl⟩ hDE
          rw [List.getElem?_map] at hx
          obtain ⟨u, hu, rfl⟩ := Option.map_eq_some_iff.mp hx
          have hi : i < 26 := by
            have := (List.getElem?_eq_some_iff.mp hu).1
            omega
          refine ⟨rfl, ?_⟩
          refine ⟨_, rfl, _, rfl, lk, _, rfl, .inl (SqL.of (sE _ _ hkD)), rfl, strs_flat known, _, rfl, ?_⟩
          have hfl : ((cands.take (i + 1)).filter (fun x => decide (x ∉ known))) = ((cands.take i).filter (fun x => decide (x ∉ known))) ++ (if decide (u ∉ known) = true then [u] else []) := by
            rw [take_snoc hu, List.filter_append]
            by_cases hm : u ∈ known <;> simp [hm]
          refine ite2 (fun e => ?_) (fun e => ?_)
          · have e' : (!inV (.str u) (known.map V.str)) = true := e
            rw [inV_str] at e'
            have hm : u ∉ known := by simpa using e'
            refine ⟨_, rfl, _, hDE, ?_, _, ⟨sE.upd hD4 _, rfl⟩, ?_⟩
            · rw [List.length_map]
              refine small9000 (Nat.le_trans (List.length_filter_le _ _) ?_)
              rw [List.length_take]
              omega
            · rw [hfl, if_pos (decide_eq_true hm), List.map_append]
              exact upd_same
          · have e' : ¬ (!inV (.str u) (known.map V.str)) = true := e
            rw [inV_str] at e'
            have hm : u ∈ known := by simpa using e'
            refine ⟨_, ⟨sE, rfl⟩, ?_⟩
            rw [hfl, if_neg (by simp [hm]), List.append_nil]
            exact hDE
        rintro ys HE ⟨sE, rfl⟩ hDE
        rw [List.length_map, List.take_length, hzz] at hDE
        have hzl : zz.length ≤ 8 := by
          have := slice_len nm 7
          have e7 : (Txt.slice nm none (some 7)).length ≤ 7 := this
          omega
        exact ⟨D4, _, _, _, rfl, rfl, SqL.of hDE, at_zero _ _, zz, _, rfl, hm0, ⟨by omega, hzl⟩, hlw (lowS_slice nmw _ _), sD.trans sE⟩
      · have c1' : ¬ inV (.str nm) (known.map V.str) = true := c1
        rw [inV_str] at c1'
        exact ⟨nm, _, rfl, fun hz => c1' (decide_eq_true hz), ⟨nm1, nm8⟩, nmw, .refl HC⟩
    clear nm1 nm8 nmw
    rintro σ HD ⟨nm, o13, rfl, hnk, ⟨nm1, nm8⟩, nmw, sD⟩
    have s6D := s6A.trans (vB.trans sD)
    have hlD := (vB.trans sD) _ _ hlA
    rw [hkn, List.mem_append, List.mem_append] at hnk
    refine ⟨_, rfl, .inl ⟨rfl, _, SqL.of hlD⟩, _, rfl, l, _, _, rfl, rfl, hlD, (by rw [List.length_map]; exact small9000 (by omega)), ?_⟩
    refine ⟨names ++ [nm], _, _, _, _, _, _, rfl, by rw [List.length_append, hn]; rfl, ⟨?_, ?_, ?_, ?_⟩, by rw [List.map_append]; exact upd_same, s6D.upd hl _⟩
    · rw [List.nodup_append]
      refine ⟨good.nd, by simp, fun x hx y hy e => ?_⟩
      rw [List.mem_singleton] at hy
      subst e hy
      exact hnk (.inl (.inr hx))
    · intro x hx
      rcases List.mem_append.mp hx with h | h
      · exact good.fr x h
      · rw [List.mem_singleton] at h
        subst h
        exact ⟨fun h => hnk (.inl (.inl h)), fun h => hnk (.inr h)⟩
    · intro x hx
      rcases List.mem_append.mp hx with h | h
      · exact good.ln x h
      · rw [List.mem_singleton] at h
        subst h
        exact ⟨nm1, nm8⟩
    · intro x hx
      rcases List.mem_append.mp hx with h | h
      · exact good.lw x h
      · rw [List.mem_singleton] at h
        subst h
        exact nmw
  rintro σ H7 ⟨names, o8, o9, o10, o11, o12, o13, rfl, hn, good, hl7, s67⟩
  exact ⟨_, rfl, q H7 l names (s06.trans s67) l0 hl7 hn good⟩
end
end K15
namespace K15
open PySem L2
/-! ### _law_same, of like things -/
def Lk : Nat → Hp → V → V → Prop
  | 0, _, _, _ => False
  | n + 1, H, x, y => (∃ a, x = .str a ∧ y = .str a) ∨ (∃ i : Int, x = .int i ∧ y = .int i) ∨
    (∃ p q xs ys, x = .ref p ∧ y = .ref q ∧ H p = some (.tup xs) ∧ H q = some (.tup ys) ∧ xs.length = ys.length ∧ ys.length ≤ 6 ∧ ∀ (i : Nat) u v, xs[i]? = some u → ys[i]? = some v → Lk n H u v)
theorem Lk.same : ∀ {n : Nat} {H H' : Hp} {x y : V}, Same H H' → Lk n H x y → Lk n H' x y
  | 0, _, _, _, _, _, h => h.elim
  | n + 1, _, _, _, _, s, h => by
    rcases h with h | h | ⟨p, q, xs, ys, e1, e2, hp, hq, hl, h6, h⟩
    · exact .inl h
    · exact .inr (.inl h)
    · exact .inr (.inr ⟨p, q, xs, ys, e1, e2, s _ _ hp, s _ _ hq, hl, h6, fun i u v h1 h2 => (h i u v h1 h2).same s⟩)
theorem lk_int {n : Nat} {H : Hp} (i : Int) : Lk (n + 1) H (.int i) (.int i) := .inr (.inl ⟨i, rfl, rfl⟩)
theorem lk_str {n : Nat} {H : Hp} (a : Str) : Lk (n + 1) H (.str a) (.str a) := .inl ⟨a, rfl, rfl⟩
section
variable {P : Program} {w : World} {K : PySem.W.Frag} {mg : Str → Option Value} {base : Heap} {f : Addr} {fd : FuncData}
def sp_like (n : Nat) : Sp := fun vs H Q _ => ∃ x y, vs = [x, y] ∧ Lk n H x y ∧ ∀ H', Same H H' → Q (.bl true) H'
theorem sc_same : FnScope ["_law_answer", "_law_due"] ["_law_answer", "_law_due"] (defScope s_same) := ⟨rfl, rfl, rfl, by decide +kernel, rfl, by decide +kernel, by decide +kernel⟩
theorem ok_like0 (F : Fun K "_law_same" "_law_same" s_same f fd) : FnOk P w K mg base CX0 1 f fd ["_law_answer", "_law_due"] (sp_like 0) :=
  F.ok sc_same (fun _ _ _ _ ⟨_, _, _, h, _⟩ => h.elim) (fun _ _ _ _ _ _ _ _ _ ⟨_, _, _, h, _⟩ => h.elim)
theorem ok_like {n : Nat} (F : Fun K "_law_same" "_law_same" s_same f fd) (B : Blt mg) (C_same : Cal P w K mg base (n + 1) "_law_same" ["_law_answer", "_law_due"] (sp_like n)) : FnOk P w K mg base CX0 (n + 1 + 1) f fd ["_law_answer", "_law_due"] (sp_like (n + 1)) := by
  refine F.ok sc_same (fun vs H Q E h => ?_) (fun cdv A outer s H vs Q E hr h => ?_)
  · obtain ⟨x, y, rfl, _⟩ := h
    rfl
  obtain ⟨x, y, rfl, h, q⟩ := h
  refine ⟨_, (pss_cons (ps_if (pt_val (pe_callB (call_isT "tuple") rfl B.isinstance_ PyProof.Rows.boot_isinstance (pa_cons (pv 1) (pa_cons (pe_bltn (v := .ty "tuple") rfl B.tuple_ PyProof.Rows.boot_tuple rfl) pa_nil))))
    (pss_cons (ps_if (PW.pt (pw_or (pt_not (pt_val (pe_callB (call_isT "tuple") rfl B.isinstance_ PyProof.Rows.boot_isinstance (pa_cons (pv 0) (pa_cons (pe_bltn (v := .ty "tuple") rfl B.tuple_ PyProof.Rows.boot_tuple rfl) pa_nil))))) (pw_or1 (pt_cmpR op_ne (pe_callB call_len_seq rfl B.len_ PySem.boot_len (pa_cons (pv 0) pa_nil)) (pe_callB call_len_seq rfl B.len_ PySem.boot_len (pa_cons (pv 1) pa_nil)) (nomark _)))))
    (pss_one (ps_ret pe_bl))
    pss_nil)
    (pss_one (ps_ret (pe_callB (call_all rfl) rfl B.all_ PyProof.Rows.boot_all (pa_cons (pe_comp ["_law_k"] ["_law_answer", "_law_due"] [0, 1] rfl (pi_range1 rfl B.range_ (pa_cons (pe_callB call_len_seq rfl B.len_ PySem.boot_len (pa_cons (pv 1) pa_nil)) pa_nil)) (fun _ _ _ _ _ => (pg_name (i := 0) (show List.Nodup [("_law_k" : Str), ("_law_answer" : Str), ("_law_due" : Str)] by decide +kernel) rfl (Or.inl rfl))) (fun _ _ _ _ _ => pts_nil) (fun _ _ _ _ _ => (pe_fn C_same hr (Nat.le_refl _) rfl (pa_cons (pe_ix (ix_tupC (K := K) rfl) (pv 1) (pv 0) (fun _ _ => rfl)) (pa_cons (pe_ix (ix_tupC (K := K) rfl) (pv 2) (pv 0) (fun _ _ => rfl)) pa_nil))))) pa_nil)))))
    pss_nil)
    (pss_cons (ps_if (pt_val (pe_callB (call_isT "str") rfl B.isinstance_ PyProof.Rows.boot_isinstance (pa_cons (pv 1) (pa_cons (pe_bltn (v := .ty "str") rfl B.str_ PyProof.Rows.boot_str rfl) pa_nil))))
    (pss_one (ps_ret (pe_and (pe_callB (call_isT "str") rfl B.isinstance_ PyProof.Rows.boot_isinstance (pa_cons (pv 0) (pa_cons (pe_bltn (v := .ty "str") rfl B.str_ PyProof.Rows.boot_str rfl) pa_nil))) (pe_one (pe_cmpR op_eq (pv 0) (pv 1) (nomark _))))))
    pss_nil)
    (pss_one (ps_ret (pe_and (pe_callB (call_isT "int") rfl B.isinstance_ PyProof.Rows.boot_isinstance (pa_cons (pv 0) (pa_cons (pe_bltn (v := .ty "int") rfl B.int_ PyProof.Rows.boot_int rfl) pa_nil))) (pe_and (pe_not (pe_callB (call_isT "bool") rfl B.isinstance_ PyProof.Rows.boot_isinstance (pa_cons (pv 0) (pa_cons (pe_bltn (v := .ty "bool") rfl B.bool_ PyProof.Rows.boot_bool rfl) pa_nil)))) (pe_one (pe_cmpR op_eq (pv 0) (pv 1) (nomark _))))))))), ?_⟩
  rcases h with ⟨a, rfl, rfl⟩ | ⟨i, rfl, rfl⟩ | ⟨p, p2, xs, ys, rfl, rfl, hp, hp2, hxy, h6, hS⟩
  · refine ⟨_, rfl, _, _, _, rfl, .str a, kit_st K, _, rfl, iteF ?_⟩
    refine ⟨_, rfl, _, _, _, rfl, .str a, kit_ss K, _, rfl, iteT ?_⟩
    refine ⟨_, rfl, _, _, _, rfl, .str a, kit_ss K, _, rfl, iteT ?_⟩
    refine ⟨_, rfl, _, rfl, rfl, ?_⟩
    rw [decide_eq_true rfl]
    exact q H (.refl H)
  · refine ⟨_, rfl, _, _, _, rfl, .int i, kit_it K, _, rfl, iteF ?_⟩
    refine ⟨_, rfl, _, _, _, rfl, .int i, kit_is K, _, rfl, iteF ?_⟩
    refine ⟨_, rfl, _, _, _, rfl, .int i, kit_ii K, _, rfl, iteT ?_⟩
    refine ⟨_, rfl, _, _, _, rfl, .int i, kit_ib K, _, rfl, _, rfl, iteT ?_⟩
    refine ⟨_, rfl, _, rfl, rfl, ?_⟩
    rw [decide_eq_true rfl]
    exact q H (.refl H)
  · refine ⟨_, rfl, _, _, _, rfl, .tup hp2, kit_tt K, _, rfl, iteT ?_⟩
    refine ⟨_, rfl, _, _, _, rfl, .tup hp, kit_tt K, _, rfl, iteF ?_⟩
    refine ⟨_, rfl, p, _, rfl, .inr (SqT.of hp), _, rfl, p2, _, rfl, .inr (SqT.of hp2), rfl, _, rfl, ?_⟩
    refine ite2 (fun cc => ?_) (fun _ => ?_)
    · exact absurd cc (by rw [hxy]; simp)
    refine ⟨_, rfl, p2, _, rfl, .inr (SqT.of hp2), ((ys.length : Nat) : Int), rfl, by omega, by omega, fun D hD => ?_⟩
    refine comp_range (fun j zs H3 => Same H H3 ∧ zs = (List.replicate j true).map V.bl) ⟨same_new hD _, rfl⟩ ?_ ?_
    · rintro j zs H3 hj ⟨s3, rfl⟩ hD3
      have hj' : j < ys.length := by omega
      have ex := List.getElem?_eq_getElem (show j < xs.length by omega)
      have ey := List.getElem?_eq_getElem hj'
      rw [Int.zero_add]
      refine ⟨rfl, tTrue_ite ?_⟩
      refine ⟨_, rfl, _, rfl, p, _, _, _, rfl, rfl, SqT.of (s3 _ _ hp), atI_nat ex, _, rfl, _, rfl, p2, _, _, _, rfl, rfl, SqT.of (s3 _ _ hp2), atI_nat ey, ?_⟩
      refine ⟨_, _, rfl, (hS j _ _ ex ey).same s3, fun H4 s4 => ?_⟩
      refine ⟨_, s4 _ _ hD3, by rw [List.length_map, List.length_replicate]; exact small9000 (by omega), _, ⟨(s3.trans s4).upd hD _, rfl⟩, ?_⟩
      rw [upd_same, List.replicate_succ', List.map_append]
      rfl
    rintro zs H3 ⟨s3, rfl⟩ hD3
    refine ⟨D, _, rfl, SqL.of hD3, ?_⟩
    have hall : ∀ m : Nat, (List.replicate m true).all id = true := fun m => by rw [List.all_eq_true]; intro x hx; exact (List.mem_replicate.mp hx).2
    rw [hall]
    exact q H3 s3
end
end K15
namespace K15
open PySem L2
/-! ### texts read: is_written_whole, read_number, read_rule, read_listening, read_bell -/
def figuresT : Str := "0123456789"
def inFig (c : Nat) : Bool := !(Builtin.Str.occurrences figuresT ⟨#[c]⟩ 0 figuresT.length 1).isEmpty
theorem fig_digit {c : Nat} (h : inFig c = true) : 48 ≤ c ∧ c ≤ 57 := by
  unfold inFig at h
  rcases StrLaws.occ_head figuresT ⟨#[c]⟩ 1 (Nat.le_refl _) with ⟨e, _⟩ | ⟨i, r, _, h2, _⟩
  · rw [e] at h
    cases h
  · have hm := List.mem_of_getElem? ((StrLaws.subAt_one figuresT c i).mp h2)
    have all : ∀ c ∈ figuresT.cps.toList, 48 ≤ c ∧ c ≤ 57 := by decide +kernel
    exact all c hm
theorem digit_fig {c : Nat} (h1 : 48 ≤ c) (h2 : c ≤ 57) : inFig c = true := by
  have all : ∀ d, d < 10 → inFig (48 + d) = true := by decide +kernel
  have := all (c - 48) (by omega)
  rw [show 48 + (c - 48) = c by omega] at this
  exact this
theorem zero_str : ("0" : Str) = ⟨#[48]⟩ := by decide +kernel
def writS (z : Str) (m : Int) : Bool := decide (1 ≤ z.length) && decide ((z.length : Int) ≤ m) && z.cps.toList.all inFig && (decide (z = "0") || decide (z.cps.toList[0]? ≠ some 48))
def numT (z : Str) : Th := if writS z 9 = true then .int (PySem.NumText.digitsVal z.cps.toList : Nat) else .non
def ruleR (z : Str) : Th := if z = "all" ∨ z = "any" then .str z else numT z
def beatsR (z : Str) : Str := if Txt.endswith z "=" = true then Txt.slice z none (some (-1)) else z
def backR (z : Str) : Int := if Txt.endswith z "=" = true then 0 else 1
def lisR (names : List Str) (z : Str) : Th :=
  if nameT (.str (Txt.partition z "+").1) = true ∧ (Txt.partition z "+").1 ∈ names then
    .tup [.int ((names.findIdx (fun x => decide (x = (Txt.partition z "+").1)) : Nat) : Int), numT (beatsR (Txt.partition z "+").2.2), .int (backR (Txt.partition z "+").2.2)]
  else .non
def bellR (names : List Str) (z : Str) : Th :=
  if (Txt.split z " ").length < 4 then .non
  else .tup [.str ((Txt.split z " ").getD 0 Str.empty), numT ((Txt.split z " ").getD 1 Str.empty), ruleR ((Txt.split z " ").getD 2 Str.empty), .tup (((Txt.split z " ").drop 3).map (lisR names))]
theorem partition_le (x y : Str) : (Txt.partition x y).1.length ≤ x.length ∧ (Txt.partition x y).2.2.length ≤ x.length := by
  unfold Txt.partition
  cases Builtin.Str.occurrences x y 0 x.length 1 with
  | nil => exact ⟨Nat.le_refl _, Nat.zero_le _⟩
  | cons i r => exact ⟨strSub_length_le .., strSub_length_le ..⟩
theorem slice_le (x : Str) (lo hi : Option Int) : (Txt.slice x lo hi).length ≤ x.length := by
  rw [← tx_len, ← tx_len, slice_txt]
  unfold cutN
  rw [List.length_take, List.length_drop]
  omega
theorem beats_le (z : Str) : (beatsR z).length ≤ z.length := by
  unfold beatsR
  split
  · exact slice_le ..
  · exact Nat.le_refl _
section
variable {P : Program} {w : World} {K : PySem.W.Frag} {mg : Str → Option Value} {base : Heap} {f : Addr} {fd : FuncData}
def sp_writ : Sp := fun vs H Q _ => ∃ (z : Str) (m : Int), vs = [.str z, .int m] ∧ z.length ≤ 2000 ∧ ∀ H', Same H H' → Q (.bl (writS z m)) H'
theorem sc_writ : FnScope ["text", "most_figures"] ["text", "most_figures"] (defScope s_is_written_whole) := ⟨rfl, rfl, rfl, by decide +kernel, rfl, by decide +kernel, by decide +kernel⟩
theorem ok_writ {tF : Tok} (F : Fun K "is_written_whole" "is_written_whole" s_is_written_whole f fd) (B : Blt mg) (mF : mg "FIGURES" = some (.str figuresT tF)) : FnOk P w K mg base CX0 1 f fd ["text", "most_figures"] sp_writ := by
  refine F.ok sc_writ (fun vs H Q E h => ?_) (fun cdv A outer s H vs Q E hr h => ?_)
  · obtain ⟨z, m, rfl, _⟩ := h
    rfl
  obtain ⟨z, m, rfl, hz, q⟩ := h
  refine ⟨_, (pss_cons (ps_if (pt_not (pt_chain op_le op_le pe_int (pe_callB call_len_str rfl B.len_ PySem.boot_len (pa_cons (pv 0) pa_nil)) (pv 1)))
    (pss_one (ps_ret pe_bl))
    pss_nil)
    (pss_cons (ps_if (pt_not (pt_val (pe_callB (call_all rfl) rfl B.all_ PyProof.Rows.boot_all (pa_cons (pe_comp ["sign"] [] [] rfl (pi_str (pv 0)) (fun _ _ _ _ _ => (pg_name (i := 0) (show List.Nodup [("sign" : Str)] by decide +kernel) rfl (Or.inl rfl))) (fun _ _ _ _ _ => pts_nil) (fun _ _ _ _ _ => (pe_cmpR op_in_str (pv 0) (pe_glob (v := .str figuresT) rfl mF ⟨tF, rfl⟩) rfl))) pa_nil))))
    (pss_one (ps_ret pe_bl))
    pss_nil)
    (pss_one (ps_ret (pe_or (pe_cmpR op_eq (pv 0) pe_str (nomark _)) (pe_one (pe_cmpR op_ne (pe_ix ix_str (pv 0) pe_int (fun _ _ => rfl)) pe_str (nomark _)))))))), ?_⟩
  refine ⟨_, rfl, _, rfl, (by rw [sizeLine_eq]; omega), _, _, rfl, rfl, _, rfl, ite2 (fun g1 => ?_) (fun g1 => ?_)⟩
  rotate_left
  · have e : writS z m = false := by
      unfold writS
      rw [decide_eq_false (show ¬ 1 ≤ z.length from fun h => g1 (decide_eq_true (by omega)))]
      rfl
    rw [e] at q
    exact ⟨_, rfl, iteT (q H (.refl H))⟩
  have h1 : (1 : Int) ≤ (z.length : Int) := of_decide_eq_true g1
  refine ⟨_, rfl, _, _, rfl, rfl, _, rfl, ?_⟩
  by_cases h2 : (z.length : Int) ≤ m
  rotate_left
  · have e : writS z m = false := by
      unfold writS
      rw [decide_eq_false h2, Bool.and_false]
      rfl
    rw [e] at q
    rw [decide_eq_false h2]
    exact iteT (q H (.refl H))
  rw [decide_eq_true h2]
  refine iteF ?_
  have e : writS z m = (z.cps.toList.all inFig && (decide (z = "0") || decide (z.cps.toList[0]? ≠ some 48))) := by
    unfold writS
    rw [decide_eq_true (show 1 ≤ z.length by omega), decide_eq_true h2]
    rfl
  rw [e] at q
  refine ⟨_, rfl, z, rfl, fun D hD => ?_⟩
  refine comp_str (z := z) (fun i ys H3 => Same H H3 ∧ ys = ((z.cps.toList.take i).map inFig).map V.bl) ⟨same_new hD _, rfl⟩ ?_ ?_
  · rintro i c ys H3 hc ⟨s3, rfl⟩ hD3
    have hc' : z.cps.toList[i]? = some c := by simpa using hc
    have hi : i < z.length := by
      have := (List.getElem?_eq_some_iff.mp hc').1
      rw [tx_len] at this
      exact this
    refine ⟨rfl, tTrue_ite ?_⟩
    refine ⟨_, rfl, _, _, rfl, rfl, _, hD3, ?_, _, ⟨s3.upd hD _, rfl⟩, ?_⟩
    · rw [List.length_map, List.length_map, List.length_take]
      exact small9000 (by omega)
    · rw [take_snoc hc', List.map_append, List.map_append]
      exact upd_same
  rintro ys H3 ⟨s3, rfl⟩ hD3
  have hT : z.cps.toList.take z.cps.size = z.cps.toList := List.take_of_length_le (by simp)
  rw [hT] at hD3
  refine ⟨D, _, rfl, SqL.of hD3, ?_⟩
  rw [all_map]
  refine ⟨_, rfl, ?_⟩
  cases ea : z.cps.toList.all inFig with
  | false => rw [ea] at q; exact iteT (q H3 s3)
  | true =>
    rw [ea] at q
    refine iteF ?_
    refine ⟨_, rfl, rfl, _, rfl, ?_⟩
    refine ite2 (fun c => ?_) (fun c => ?_)
    · rw [decide_eq_true (show z = "0" from V.str.inj (of_decide_eq_true c))] at q
      exact q H3 s3
    · have c' : ¬ z = "0" := fun h => c (decide_eq_true (congrArg V.str h))
      rw [decide_eq_false c'] at q
      have h0 : 0 < z.cps.toList.length := by rw [tx_len]; omega
      have hat := List.getElem?_eq_getElem h0
      refine ⟨_, rfl, _, _, _, rfl, rfl, (by rw [sizeLine_eq]; omega), atI_nat (j := 0) hat, rfl, ?_⟩
      have e0 : (!decide (V.str ⟨#[z.cps.toList[0]]⟩ = V.str ("0" : Str))) = decide (z.cps.toList[0]? ≠ some 48) := by
        rw [hat, zero_str, ← decide_not]
        refine decide_eq_decide.mpr ⟨fun h h' => h ?_, fun h h' => h ?_⟩
        · rw [Option.some.inj h']
        · have := V.str.inj h'
          injection this with this
          have e2 := congrArg Array.toList this
          rw [(List.cons.inj e2).1]
      rw [e0]
      exact q H3 s3
theorem writ_digits {z : Str} {m : Int} (h : writS z m = true) : PySem.NumText.AllDigits z.cps.toList ∧ z.cps.toList ≠ [] ∧ (z.length : Int) ≤ m := by
  unfold writS at h
  rw [Bool.and_eq_true, Bool.and_eq_true, Bool.and_eq_true] at h
  obtain ⟨⟨⟨h1, h2⟩, h3⟩, _⟩ := h
  refine ⟨fun c hc => fig_digit (List.all_eq_true.mp h3 c hc), fun e => ?_, of_decide_eq_true h2⟩
  have := of_decide_eq_true h1
  rw [← tx_len, e] at this
  exact absurd this (by decide)
def sp_rnum : Sp := fun vs H Q _ => ∃ (z : Str), vs = [.str z] ∧ z.length ≤ 2000 ∧ ∀ H' v, Same H H' → ThAt H' (numT z) v → Q v H'
theorem sc_rnum : FnScope ["text"] ["text"] (defScope s_read_number) := ⟨rfl, rfl, rfl, by decide +kernel, rfl, by decide +kernel, by decide +kernel⟩
theorem ok_rnum {tM : Tok} (F : Fun K "read_number" "read_number" s_read_number f fd) (B : Blt mg) (mM : mg "MOST_FIGURES" = some (.int 9 tM)) (C_writ : Cal P w K mg base 1 "is_written_whole" ["text", "most_figures"] sp_writ) : FnOk P w K mg base CX0 2 f fd ["text"] sp_rnum := by
  refine F.ok sc_rnum (fun vs H Q E h => ?_) (fun cdv A outer s H vs Q E hr h => ?_)
  · obtain ⟨z, rfl, _⟩ := h
    rfl
  obtain ⟨z, rfl, hz, q⟩ := h
  refine ⟨_, (pss_cons (ps_if (pt_val (pe_fn C_writ hr (by decide) rfl (pa_cons (pv 0) (pa_cons (pe_glob (v := .int 9) rfl mM ⟨tM, rfl⟩) pa_nil))))
    (pss_one (ps_ret (pe_callTy call_int_text rfl B.int_ PyProof.Rows.boot_int (pa_cons (pv 0) pa_nil))))
    pss_nil)
    (pss_one (ps_ret pe_non))), ?_⟩
  refine ⟨_, rfl, z, 9, rfl, hz, fun H1 s1 => ⟨_, rfl, ?_⟩⟩
  cases e : writS z 9 with
  | false =>
    refine iteF ?_
    have e2 : numT z = .non := by unfold numT; rw [e]; rfl
    rw [e2] at q
    exact q H1 .non s1 rfl
  | true =>
    refine iteT ?_
    obtain ⟨h1, h2, h3⟩ := writ_digits e
    have e2 : numT z = .int (PySem.NumText.digitsVal z.cps.toList : Nat) := by unfold numT; rw [e]; rfl
    rw [e2] at q
    exact ⟨_, rfl, z, _, rfl, by omega, PySem.intText_digits h1 h2 (by omega), q H1 _ s1 rfl⟩
def sp_rrule : Sp := fun vs H Q _ => ∃ (z : Str), vs = [.str z] ∧ z.length ≤ 2000 ∧ ∀ H' v, Same H H' → ThAt H' (ruleR z) v → Q v H'
theorem sc_rrule : FnScope ["text"] ["text"] (defScope s_read_rule) := ⟨rfl, rfl, rfl, by decide +kernel, rfl, by decide +kernel, by decide +kernel⟩
theorem ok_rrule (F : Fun K "read_rule" "read_rule" s_read_rule f fd) (C_rnum : Cal P w K mg base 2 "read_number" ["text"] sp_rnum) : FnOk P w K mg base CX0 3 f fd ["text"] sp_rrule := by
  refine F.ok sc_rrule (fun vs H Q E h => ?_) (fun cdv A outer s H vs Q E hr h => ?_)
  · obtain ⟨z, rfl, _⟩ := h
    rfl
  obtain ⟨z, rfl, hz, q⟩ := h
  refine ⟨_, (pss_cons (ps_if (pt_cmpR op_in_seq (pv 0) (pe_tup (pa_cons pe_str (pa_cons pe_str pa_nil))) rfl)
    (pss_one (ps_ret (pv 0)))
    pss_nil)
    (pss_one (ps_ret (pe_fn C_rnum hr (by decide) rfl (pa_cons (pv 0) pa_nil))))), ?_⟩
  refine ⟨_, rfl, (by show 2 ≤ sizeLine; decide), fun l hl => ?_⟩
  have s1 := same_new hl (.tup [.str "all", .str "any"])
  refine ⟨l, _, rfl, .inr (SqT.of upd_same), rfl, strs_flat ["all", "any"], _, rfl, ?_⟩
  rw [show [V.str "all", V.str "any"] = (["all", "any"] : List Str).map V.str from rfl, inV_str]
  by_cases h : z = "all" ∨ z = "any"
  · rw [decide_eq_true (by rcases h with rfl | rfl <;> simp)]
    refine iteT ?_
    have e2 : ruleR z = .str z := if_pos h
    rw [e2] at q
    exact ⟨_, rfl, q _ _ s1 ⟨rfl, hz⟩⟩
  · rw [decide_eq_false (by
      intro hm
      rcases List.mem_cons.mp hm with h1 | h1
      · exact h (.inl h1)
      · exact h (.inr (List.mem_singleton.mp h1)))]
    refine iteF ?_
    have e2 : ruleR z = numT z := if_neg h
    rw [e2] at q
    exact ⟨_, rfl, z, rfl, hz, fun H' v s' ht => q H' v (s1.trans s') ht⟩
end
end K15
namespace K15
open PySem L2
theorem plus_str : ("+" : Str) = ⟨#[43]⟩ := by decide +kernel
theorem eq_str : ("=" : Str) = ⟨#[61]⟩ := by decide +kernel
theorem gap_str : (" " : Str) = ⟨#[32]⟩ := by decide +kernel
theorem find_at {names : List Str} {z : Str} (h : z ∈ names) : names[names.findIdx (fun x => decide (x = z))]? = some z ∧ ∀ i, i < names.findIdx (fun x => decide (x = z)) → names[i]? ≠ some z := by
  have hx : names.findIdx (fun x => decide (x = z)) < names.length := List.findIdx_lt_length_of_exists ⟨z, h, decide_eq_true rfl⟩
  refine ⟨?_, fun i hi e => ?_⟩
  · rw [List.getElem?_eq_getElem hx]
    exact congrArg some (of_decide_eq_true (List.findIdx_getElem (p := fun x => decide (x = z)) (w := hx)))
  · obtain ⟨hl, e'⟩ := List.getElem?_eq_some_iff.mp e
    have := List.not_of_lt_findIdx hi
    rw [e'] at this
    rw [decide_eq_true rfl] at this
    cases this
section
variable {P : Program} {w : World} {K : PySem.W.Frag} {mg : Str → Option Value} {base : Heap} {f : Addr} {fd : FuncData}
def sp_rlis : Sp := fun vs H Q _ => ∃ (z : Str) (nl : Addr) (names : List Str), vs = [.str z, .ref nl] ∧ z.length ≤ 2000 ∧ H nl = some (.lst (names.map V.str)) ∧ names.length ≤ 1000 ∧ ∀ H' v, Same H H' → ThAt H' (lisR names z) v → Q v H'
theorem sc_rlis : FnScope ["text", "names", "parts", "beats", "back"] ["text", "names"] (defScope s_read_listening) := ⟨rfl, rfl, rfl, by decide +kernel, rfl, by decide +kernel, by decide +kernel⟩
theorem ok_rlis (F : Fun K "read_listening" "read_listening" s_read_listening f fd) (C_name : Cal P w K mg base 2 "is_name" ["thing"] sp_name) (C_rnum : Cal P w K mg base 2 "read_number" ["text"] sp_rnum) : FnOk P w K mg base CX0 3 f fd ["text", "names"] sp_rlis := by
  refine F.ok sc_rlis (fun vs H Q E h => ?_) (fun cdv A outer s H vs Q E hr h => ?_)
  · obtain ⟨z, nl, names, rfl, _⟩ := h
    rfl
  obtain ⟨z, nl, names, rfl, hz, hnl, hn, q⟩ := h
  refine ⟨_, (pss_cons (ps_set (i := 2) sc_rlis.nd rfl (Or.inl rfl) (pe_bm PySem.F.plainAttrs_str PySem.F.slot_str_partition PySem.F.type_str_partition mt_partition (pv 0) (pa_cons pe_str pa_nil)))
    (pss_cons (ps_if (PW.pt (pw_or (pt_not (pt_val (pe_fn C_name hr (by decide) rfl (pa_cons (pe_ix ix_tup (pv 2) pe_int (fun _ _ => rfl)) pa_nil)))) (pw_or1 (pt_cmpR op_notIn_seq (pe_ix ix_tup (pv 2) pe_int (fun _ _ => rfl)) (pv 1) rfl))))
    (pss_one (ps_ret pe_non))
    pss_nil)
    (pss_cons (ps_set (i := 3) sc_rlis.nd rfl (Or.inl rfl) (pe_ix ix_tup (pv 2) pe_int (fun _ _ => rfl)))
    (pss_cons (ps_set (i := 4) sc_rlis.nd rfl (Or.inl rfl) pe_int)
    (pss_join (ps_if (pt_val (pe_bm PySem.F.plainAttrs_str PySem.F.slot_str_endswith PySem.F.type_str_endswith mt_endswith (pv 3) (pa_cons pe_str pa_nil)))
    (pss_cons (ps_set (i := 3) sc_rlis.nd rfl (Or.inl rfl) (pe_slice sl_str (pv 3) po_none (po_some (pe_un un_neg pe_int))))
    (pss_one (ps_set (i := 4) sc_rlis.nd rfl (Or.inl rfl) pe_int)))
    pss_nil)
    (pss_one (ps_ret (pe_tup (pa_cons (pe_bm PySem.F.plainAttrs_list PySem.F.slot_list_index PySem.F.type_list_index mt_index (pv 1) (pa_cons (pe_ix ix_tup (pv 2) pe_int (fun _ _ => rfl)) pa_nil)) (pa_cons (pe_fn C_rnum hr (by decide) rfl (pa_cons (pv 3) pa_nil)) (pa_cons (pv 4) pa_nil))))))))))), ?_⟩
  obtain ⟨p1, p2⟩ := partition_le z "+"
  refine ⟨_, rfl, rfl, z, "+", rfl, rfl, (by decide +kernel), (by omega), fun p hp => ?_⟩
  have s1 := same_new hp (.tup [.str (Txt.partition z "+").1, .str (Txt.partition z "+").2.1, .str (Txt.partition z "+").2.2])
  have hP : (upd H p (.tup [.str (Txt.partition z "+").1, .str (Txt.partition z "+").2.1, .str (Txt.partition z "+").2.2])) p = some (.tup [.str (Txt.partition z "+").1, .str (Txt.partition z "+").2.1, .str (Txt.partition z "+").2.2]) := upd_same
  unfold lisR at q
  generalize upd H p (.tup [.str (Txt.partition z "+").1, .str (Txt.partition z "+").2.1, .str (Txt.partition z "+").2.2]) = H1 at s1 hP ⊢
  generalize Txt.partition z "+" = pt at *
  obtain ⟨nm, pl, rs⟩ := pt
  dsimp only at *
  refine ⟨_, rfl, p, _, _, _, rfl, rfl, SqT.of hP, rfl, .str nm, .str nm, rfl, ⟨rfl, by omega⟩, fun H2 s2 => ⟨_, rfl, ?_⟩⟩
  have s02 := s1.trans s2
  have hP2 := s2 _ _ hP
  cases e1 : nameT (.str nm) with
  | false =>
    rw [e1] at q
    exact iteT (iteT (q H2 .non s02 rfl))
  | true =>
    rw [e1] at q
    refine iteF ?_
    refine ⟨_, rfl, p, _, _, _, rfl, rfl, SqT.of hP2, rfl, _, rfl, nl, _, rfl, .inl (SqL.of (s02 _ _ hnl)), rfl, strs_flat names, _, rfl, ?_⟩
    rw [inV_str]
    by_cases hm : nm ∈ names
    rotate_left
    · rw [decide_eq_false hm]
      refine iteT ?_
      rw [if_neg (fun h => hm h.2)] at q
      exact q H2 .non s02 rfl
    rw [decide_eq_true hm]
    refine iteF ?_
    rw [if_pos ⟨rfl, hm⟩] at q
    refine ⟨_, rfl, p, _, _, _, rfl, rfl, SqT.of hP2, rfl, ?_⟩
    refine ⟨fun σ H3 => σ = [some (.str z), some (.ref nl), some (.ref p), some (.str (beatsR rs)), some (.int (backR rs))] ∧ H3 = H2, ?_, ?_⟩
    · refine ⟨_, rfl, rfl, rs, "=", rfl, rfl, _, rfl, ?_⟩
      unfold beatsR backR
      cases e2 : Txt.endswith rs "=" with
      | false => exact iteF ⟨rfl, rfl⟩
      | true =>
        refine iteT ?_
        exact ⟨_, rfl, _, rfl, _, rfl, rs, rfl, (by rw [sizeLine_eq]; omega), rfl, rfl⟩
    rintro σ H3 ⟨rfl, rfl⟩
    obtain ⟨f1, f2⟩ := find_at hm
    have hb := beats_le rs
    refine ⟨_, rfl, .inl ⟨rfl, _, SqL.of (s02 _ _ hnl)⟩, _, rfl, p, _, _, _, rfl, rfl, SqT.of hP2, rfl, nl, nm, names, _, rfl, rfl, s02 _ _ hnl, hn, f1, f2, _, rfl, beatsR rs, rfl, by omega, fun H4 v s4 ht => ?_⟩
    refine ⟨_, rfl, (by show 3 ≤ sizeLine; decide), fun t htn => ?_⟩
    refine q _ _ ((s02.trans s4).trans (same_new htn _)) ⟨t, _, rfl, upd_same, _, _, rfl, rfl, _, _, rfl, ThAt.same (same_new htn _) _ ht, _, _, rfl, rfl, rfl⟩
end
end K15
namespace K15
open PySem L2
theorem tup_th {H : Hp} {a : Addr} {vs : List V} {ts : List Th} (h : H a = some (.tup vs)) (p : ThsAt H ts vs) : ThAt H (.tup ts) (.ref a) := ⟨a, vs, rfl, h, p⟩
theorem th3 {H : Hp} {s t r : Th} {u v w : V} (h1 : ThAt H s u) (h2 : ThAt H t v) (h3 : ThAt H r w) : ThsAt H [s, t, r] [u, v, w] := ⟨_, _, rfl, h1, _, _, rfl, h2, _, _, rfl, h3, rfl⟩
theorem th4 {H : Hp} {s t r q : Th} {u v w x : V} (h1 : ThAt H s u) (h2 : ThAt H t v) (h3 : ThAt H r w) (h4 : ThAt H q x) : ThsAt H [s, t, r, q] [u, v, w, x] := ⟨_, _, rfl, h1, _, _, rfl, h2, _, _, rfl, h3, _, _, rfl, h4, rfl⟩
/-! ### heaps in which lists stay lists -/
structure Kin (H H' : Hp) : Prop where
  tup : ∀ a vs, H a = some (.tup vs) → H' a = some (.tup vs)
  lst : ∀ a xs, H a = some (.lst xs) → ∃ ys, H' a = some (.lst ys)
  dic : ∀ a kvs, H a = some (.dK kvs) → ∃ l, H' a = some (.dK l)
theorem Same.kin {H H' : Hp} (s : Same H H') : Kin H H' := ⟨fun a vs h => s _ _ h, fun a xs h => ⟨xs, s _ _ h⟩, fun a l h => ⟨l, s _ _ h⟩⟩
theorem Kin.trans {H H1 H2 : Hp} (k : Kin H H1) (k' : Kin H1 H2) : Kin H H2 := ⟨fun a vs h => k'.tup _ _ (k.tup _ _ h), fun a xs h => by obtain ⟨ys, h'⟩ := k.lst _ _ h; exact k'.lst _ _ h', fun a l h => by obtain ⟨m, h'⟩ := k.dic _ _ h; exact k'.dic _ _ h'⟩
theorem kin_upd {H : Hp} {D : Addr} {ys zs : List V} (h : H D = some (.lst ys)) : Kin H (upd H D (.lst zs)) := by
  refine ⟨fun a vs e => ?_, fun a xs e => ?_, fun a l e => ?_⟩
  · have : a ≠ D := fun z => by rw [z, h] at e; cases e
    rw [upd_ne this]
    exact e
  · by_cases hd : a = D
    · rw [hd]
      exact ⟨_, upd_same⟩
    · rw [upd_ne hd]
      exact ⟨_, e⟩
  · have : a ≠ D := fun z => by rw [z, h] at e; cases e
    rw [upd_ne this]
    exact ⟨_, e⟩
mutual
theorem ThAt.kin {H H' : Hp} (s : Kin H H') : ∀ (t : Th) {v : V}, ThAt H t v → ThAt H' t v
  | .int _, _, h => h
  | .bl _, _, h => h
  | .non, _, h => h
  | .str _, _, h => h
  | .tup ts, _, ⟨a, vs, e, ha, h⟩ => ⟨a, vs, e, s.tup _ _ ha, ThsAt.kin s ts h⟩
  | .lst, _, ⟨a, xs, e, ha⟩ => by obtain ⟨ys, h'⟩ := s.lst _ _ ha; exact ⟨a, ys, e, h'⟩
  | .dic, _, ⟨a, xs, e, ha⟩ => by obtain ⟨ys, h'⟩ := s.dic _ _ ha; exact ⟨a, ys, e, h'⟩
theorem ThsAt.kin {H H' : Hp} (s : Kin H H') : ∀ (ts : List Th) {vs : List V}, ThsAt H ts vs → ThsAt H' ts vs
  | [], _, h => h
  | t :: ts, _, ⟨v, r, e, h1, h2⟩ => ⟨v, r, e, ThAt.kin s t h1, ThsAt.kin s ts h2⟩
end
theorem ThsAt.snoc {H : Hp} {ts : List Th} {t : Th} {vs : List V} {v : V} (h : ThsAt H ts vs) (h' : ThAt H t v) : ThsAt H (ts ++ [t]) (vs ++ [v]) := h.app ⟨v, [], rfl, h', rfl⟩
end K15
namespace K15
open PySem L2
theorem getD_at {ws : List Str} {i : Nat} (h : i < ws.length) : (ws.map V.str)[i]? = some (.str (ws.getD i Str.empty)) := by
  rw [List.getElem?_map, List.getElem?_eq_getElem h, List.getD_eq_getElem?_getD, List.getElem?_eq_getElem h]
  rfl
theorem getD_mem {ws : List Str} {i : Nat} (h : i < ws.length) : ws.getD i Str.empty ∈ ws := by
  rw [List.getD_eq_getElem?_getD, List.getElem?_eq_getElem h]
  exact List.getElem_mem h
theorem cut_three' (ws : List Str) (h : 3 ≤ ws.length) : cutV (ws.map V.str) (some 3) none = (ws.drop 3).map V.str := by
  unfold cutV
  rw [show (3 : Int) = ((3 : Nat) : Int) from rfl, HT.sIx_nat, HT.sIx_none, List.length_map, Nat.min_eq_left h, List.map_drop]
  exact List.take_of_length_le (by rw [List.length_drop, List.length_map]; omega)
theorem cut_upto (ws : List Str) (i : Nat) (h : i ≤ ws.length) : cutV (ws.map V.str) none (some (i : Int)) = (ws.take i).map V.str := by
  unfold cutV
  rw [HT.sIx_nat, HT.sIx_none, List.length_map, Nat.min_eq_left h, List.map_take]
  rfl
section
variable {P : Program} {w : World} {K : PySem.W.Frag} {mg : Str → Option Value} {base : Heap} {f : Addr} {fd : FuncData}
def sp_rbell : Sp := fun vs H Q _ => ∃ (z : Str) (nl : Addr) (names : List Str), vs = [.str z, .ref nl] ∧ z.length ≤ 1900 ∧ H nl = some (.lst (names.map V.str)) ∧ names.length ≤ 1000 ∧ ∀ H' v, Same H H' → ThAt H' (bellR names z) v → Q v H'
theorem sc_rbell : FnScope ["row", "names", "words", "listenings"] ["row", "names"] (defScope s_read_bell) := ⟨rfl, rfl, rfl, by decide +kernel, rfl, by decide +kernel, by decide +kernel⟩
theorem ok_rbell (F : Fun K "read_bell" "read_bell" s_read_bell f fd) (B : Blt mg) (C_rnum : Cal P w K mg base 2 "read_number" ["text"] sp_rnum) (C_rrule : Cal P w K mg base 3 "read_rule" ["text"] sp_rrule) (C_rlis : Cal P w K mg base 3 "read_listening" ["text", "names"] sp_rlis) : FnOk P w K mg base CX0 4 f fd ["row", "names"] sp_rbell := by
  refine F.ok sc_rbell (fun vs H Q E h => ?_) (fun cdv A outer s H vs Q E hr h => ?_)
  · obtain ⟨z, nl, names, rfl, _⟩ := h
    rfl
  obtain ⟨z, nl, names, rfl, hz, hnl, hn, q⟩ := h
  refine ⟨_, (pss_cons (ps_set (i := 2) sc_rbell.nd rfl (Or.inl rfl) (pe_bm PySem.F.plainAttrs_str PySem.F.slot_str_split PySem.F.type_str_split mt_split (pv 0) (pa_cons pe_str pa_nil)))
    (pss_cons (ps_if (pt_cmpR op_lt (pe_callB call_len_seq rfl B.len_ PySem.boot_len (pa_cons (pv 2) pa_nil)) pe_int (nomark _))
    (pss_one (ps_ret pe_non))
    pss_nil)
    (pss_cons (ps_setComp (i := 3) ["word"] ["names"] [1] rfl sc_rbell.nd rfl (Or.inl rfl) (pi_list (pe_slice sl_list (pv 2) (po_some pe_int) po_none)) (fun _ _ _ _ _ => (pg_name (i := 0) (show List.Nodup [("word" : Str), ("names" : Str)] by decide +kernel) rfl (Or.inl rfl))) (fun _ _ _ _ _ => pts_nil) (fun _ _ _ _ _ => (pe_fn C_rlis hr (by decide) rfl (pa_cons (pv 0) (pa_cons (pv 1) pa_nil)))))
    (pss_one (ps_ret (pe_tup (pa_cons (pe_ix ix_list (pv 2) pe_int (fun _ _ => rfl)) (pa_cons (pe_fn C_rnum hr (by decide) rfl (pa_cons (pe_ix ix_list (pv 2) pe_int (fun _ _ => rfl)) pa_nil)) (pa_cons (pe_fn C_rrule hr (by decide) rfl (pa_cons (pe_ix ix_list (pv 2) pe_int (fun _ _ => rfl)) pa_nil)) (pa_cons (pe_callTy call_tuple_of rfl B.tuple_ PyProof.Rows.boot_tuple (pa_cons (pv 3) pa_nil)) pa_nil)))))))))), ?_⟩
  refine ⟨_, rfl, rfl, z, " ", rfl, rfl, (by decide +kernel), by omega, fun l hl => ?_⟩
  have s1 := same_new hl (.lst ((Txt.split z " ").map V.str))
  have hL : (upd H l (.lst ((Txt.split z " ").map V.str))) l = some (.lst ((Txt.split z " ").map V.str)) := upd_same
  have hsh : ∀ a ∈ Txt.split z " ", a.length ≤ z.length := fun a h => PyProof.Rows.part_short h
  have hle := PyProof.Rows.split_le z " "
  unfold bellR at q
  generalize upd H l (.lst ((Txt.split z " ").map V.str)) = H1 at s1 hL ⊢
  generalize Txt.split z " " = ws at *
  refine ⟨_, rfl, l, _, rfl, .inl (SqL.of hL), _, _, rfl, rfl, _, rfl, ite2 (fun c => ?_) (fun c => ?_)⟩
  · have c' : ws.length < 4 := by
      have := of_decide_eq_true c
      rw [List.length_map] at this
      omega
    rw [if_pos c'] at q
    exact q H1 .non s1 rfl
  have h4 : 4 ≤ ws.length := by
    refine Classical.byContradiction fun no => c (decide_eq_true ?_)
    rw [List.length_map]
    omega
  rw [if_neg (by omega)] at q
  refine ⟨_, rfl, _, rfl, l, _, rfl, SqL.of hL, fun l2 hl2 => ?_⟩
  rw [cut_three' ws (by omega)]
  have s2 := same_new hl2 (.lst ((ws.drop 3).map V.str))
  have hL2 : (upd H1 l2 (.lst ((ws.drop 3).map V.str))) l2 = some (.lst ((ws.drop 3).map V.str)) := upd_same
  generalize upd H1 l2 (.lst ((ws.drop 3).map V.str)) = H2 at s2 hL2 ⊢
  refine ⟨l2, rfl, ⟨_, SqL.of hL2⟩, fun D hD => ?_⟩
  refine comp_list (K := K) (a := l2) (xs := (ws.drop 3).map V.str) (fun i ys H3 => Same H2 H3 ∧ ThsAt H3 (((ws.drop 3).take i).map (lisR names)) ys) ⟨same_new hD _, rfl⟩ (fun i ys H3 _ ⟨s, _⟩ => SqL.of (s _ _ hL2)) ?_ ?_
  · rintro i x ys H3 hx ⟨s3, hy⟩ hD3
    rw [List.getElem?_map] at hx
    obtain ⟨a, ha, rfl⟩ : ∃ a, (ws.drop 3)[i]? = some a ∧ V.str a = x := by
      cases e : (ws.drop 3)[i]? with
      | none => rw [e] at hx; cases hx
      | some a => rw [e] at hx; exact ⟨a, rfl, Option.some.inj hx⟩
    have ham : a ∈ ws := List.mem_of_mem_drop (List.mem_of_getElem? ha)
    have hal := hsh a ham
    have hil := (List.getElem?_eq_some_iff.mp ha).1
    rw [List.length_drop] at hil
    refine ⟨rfl, tTrue_ite ?_⟩
    have s03 := (s1.trans s2).trans s3
    refine ⟨_, rfl, _, rfl, a, nl, names, rfl, by omega, s03 _ _ hnl, hn, fun H4 v s4 ht => ?_⟩
    have hyl := hy.len
    rw [List.length_map, List.length_take] at hyl
    refine ⟨_, s4 _ _ hD3, small9000 (by omega), _, ⟨(s3.trans s4).upd hD _, ?_⟩, upd_same⟩
    rw [take_snoc ha, List.map_append]
    exact ThsAt.snoc (ThsAt.kin ((Same.kin s4).trans (kin_upd (s4 _ _ hD3))) _ hy) (ThAt.kin (kin_upd (s4 _ _ hD3)) _ ht)
  rintro ys H3 ⟨s3, hy⟩ hD3
  rw [List.length_map, List.take_length] at hy
  have hyl := hy.len
  rw [List.length_map, List.length_drop] at hyl
  have s13 := s2.trans s3
  have hl3 := s13 _ _ hL
  refine ⟨_, rfl, l, _, _, _, rfl, rfl, SqL.of hl3, atI_nat (j := 0) (getD_at (by omega)), ?_⟩
  refine ⟨_, rfl, l, _, _, _, rfl, rfl, SqL.of hl3, atI_nat (j := 1) (getD_at (by omega)), _, rfl, (by have := hsh _ (getD_mem (i := 1) (show 1 < ws.length by omega)); omega), fun H4 v4 s4 ht4 => ?_⟩
  refine ⟨_, rfl, l, _, _, _, rfl, rfl, SqL.of (s4 _ _ hl3), atI_nat (j := 2) (getD_at (by omega)), _, rfl, (by have := hsh _ (getD_mem (i := 2) (show 2 < ws.length by omega)); omega), fun H5 v5 s5 ht5 => ?_⟩
  refine ⟨_, rfl, D, _, rfl, .inl ⟨SqL.of ((s4.trans s5) _ _ hD3), fun t ht => ?_⟩⟩
  refine ⟨(by show 4 ≤ sizeLine; decide), fun r hr' => ?_⟩
  have v1 := same_new ht (.tup ys)
  have v2 := same_new hr' (.tup [.str (ws.getD 0 Str.empty), v4, v5, .ref t])
  have s35 := (s4.trans s5).trans (v1.trans v2)
  refine q _ _ (((s1.trans s13).trans s35)) (tup_th upd_same (th4 ⟨rfl, ?_⟩ (ThAt.same (s5.trans (v1.trans v2)) _ ht4) (ThAt.same (v1.trans v2) _ ht5) (tup_th (v2 _ _ upd_same) (ThsAt.same s35 _ hy))))
  have := hsh _ (getD_mem (i := 0) (show 0 < ws.length by omega))
  omega
theorem call_isTC {X : Cx} {K : PySem.W.Frag} (n : String) (hK : X.K = K) : CallR X (.builtin "isinstance") (rIsT K n) := hK ▸ call_isT n
def sp_arows : Sp := fun vs H Q _ => ∃ (l : Addr) (zs : List Str), vs = [.ref l] ∧ H l = some (.lst (zs.map V.str)) ∧ 1 ≤ zs.length ∧ zs.length ≤ 6 ∧ ∀ H', Same H H' → Q (.bl true) H'
theorem kit_ll (K : PySem.W.Frag) : PySem.W.kitOne K (.type "list") (.type "list") = some true := by kernel_rfl
theorem sc_arows : FnScope ["thing"] ["thing"] (defScope s_are_rows) := ⟨rfl, rfl, rfl, by decide +kernel, rfl, by decide +kernel, by decide +kernel⟩
theorem ok_arows {tO : Tok} (F : Fun K "are_rows" "are_rows" s_are_rows f fd) (B : Blt mg) (mO : mg "MOST_BELLS" = some (.int 6 tO)) : FnOk P w K mg base CX0 1 f fd ["thing"] sp_arows := by
  refine F.ok sc_arows (fun vs H Q E h => ?_) (fun cdv A outer s H vs Q E hr h => ?_)
  · obtain ⟨l, zs, rfl, _⟩ := h
    rfl
  obtain ⟨l, zs, rfl, hl, z1, z6, q⟩ := h
  refine ⟨_, (pss_cons (ps_if (PW.pt (pw_or (pt_not (pt_val (pe_callB (call_isT "list") rfl B.isinstance_ PyProof.Rows.boot_isinstance (pa_cons (pv 0) (pa_cons (pe_bltn (v := .ty "list") rfl B.list_ PyProof.Rows.boot_list rfl) pa_nil))))) (pw_or1 (pt_not (pt_chain op_le op_le pe_int (pe_callB call_len_seq rfl B.len_ PySem.boot_len (pa_cons (pv 0) pa_nil)) (pe_glob (v := .int 6) rfl mO ⟨tO, rfl⟩))))))
    (pss_one (ps_ret pe_bl))
    pss_nil)
    (pss_one (ps_ret (pe_callB (call_all rfl) rfl B.all_ PyProof.Rows.boot_all (pa_cons (pe_comp ["row"] [] [] rfl (pi_list (pv 0)) (fun _ _ _ _ _ => (pg_name (i := 0) (show List.Nodup [("row" : Str)] by decide +kernel) rfl (Or.inl rfl))) (fun _ _ _ _ _ => pts_nil) (fun _ _ _ _ _ => (pe_callB (call_isTC (K := K) "str" rfl) rfl B.isinstance_ PyProof.Rows.boot_isinstance (pa_cons (pv 0) (pa_cons (pe_bltn (v := .ty "str") rfl B.str_ PyProof.Rows.boot_str rfl) pa_nil))))) pa_nil))))), ?_⟩
  refine ⟨_, rfl, _, _, _, rfl, .lst hl, kit_ll K, _, rfl, iteF ?_⟩
  refine ⟨_, rfl, l, _, rfl, .inl (SqL.of hl), _, _, rfl, rfl, _, rfl, ?_⟩
  rw [List.length_map, decide_eq_true (show (1 : Int) ≤ ((zs.length : Nat) : Int) by omega)]
  refine iteT ⟨_, _, rfl, rfl, _, rfl, ?_⟩
  rw [decide_eq_true (show ((zs.length : Nat) : Int) ≤ 6 by omega)]
  refine iteF ?_
  refine ⟨_, rfl, l, rfl, ⟨_, SqL.of hl⟩, fun D hD => ?_⟩
  refine comp_list (K := K) (a := l) (xs := zs.map V.str) (fun i ys H3 => Same H H3 ∧ ys = ((zs.take i).map (fun _ => true)).map V.bl) ⟨same_new hD _, rfl⟩ (fun i ys H3 _ ⟨z, _⟩ => SqL.of (z _ _ hl)) ?_ ?_
  · rintro i x ys H3 hx ⟨s3, rfl⟩ hD3
    obtain ⟨a, ha, rfl⟩ : ∃ a, zs[i]? = some a ∧ V.str a = x := by
      rw [List.getElem?_map] at hx
      cases e : zs[i]? with
      | none => rw [e] at hx; cases hx
      | some a => rw [e] at hx; exact ⟨a, rfl, Option.some.inj hx⟩
    refine ⟨rfl, tTrue_ite ?_⟩
    refine ⟨_, rfl, _, _, _, rfl, .str a, kit_ss K, _, hD3, ?_, _, ⟨s3.upd hD _, rfl⟩, ?_⟩
    · rw [List.length_map, List.length_map, List.length_take]
      exact small9000 (by omega)
    · rw [take_snoc ha, List.map_append, List.map_append]
      exact upd_same
  rintro ys H3 ⟨s3, rfl⟩ hD3
  rw [List.length_map, List.take_length] at hD3
  refine ⟨D, _, rfl, SqL.of hD3, ?_⟩
  rw [all_map]
  have e : (zs.all fun _ => true) = true := List.all_eq_true.mpr fun _ _ => rfl
  rw [e]
  exact q H3 s3
def headR (z : Str) : Str := (Txt.split z " ").getD 0 Str.empty
def sp_read : Sp := fun vs H Q _ => ∃ (l : Addr) (zs : List Str), vs = [.ref l] ∧ H l = some (.lst (zs.map V.str)) ∧ 1 ≤ zs.length ∧ zs.length ≤ 6 ∧ (∀ z ∈ zs, z.length ≤ 1900) ∧ (∀ i z, zs[i]? = some z → bellB (bellR (zs.map headR) z) ((zs.map headR).take i) zs.length = true) ∧
  ∀ (H' : Hp) (v : V), Same H H' → ThAt H' (.tup (zs.map (bellR (zs.map headR)))) v → Q v H'
theorem sc_read : FnScope ["rows", "names", "bells", "number", "row", "bell"] ["rows"] (defScope s_read_choir) := ⟨rfl, rfl, rfl, by decide +kernel, rfl, by decide +kernel, by decide +kernel⟩
theorem ok_read (F : Fun K "read_choir" "read_choir" s_read_choir f fd) (B : Blt mg) (C_arows : Cal P w K mg base 1 "are_rows" ["thing"] sp_arows) (C_rbell : Cal P w K mg base 4 "read_bell" ["row", "names"] sp_rbell) (C_isbell : Cal P w K mg base 7 "is_bell" ["thing", "ahead", "bells"] sp_isbell) : FnOk P w K mg base CX0 8 f fd ["rows"] sp_read := by
  refine F.ok sc_read (fun vs H Q E h => ?_) (fun cdv A outer s H vs Q E hr h => ?_)
  · obtain ⟨l, zs, rfl, _⟩ := h
    rfl
  obtain ⟨l, zs, rfl, hl, z1, z6, hz, hb, q⟩ := h
  refine ⟨_, (pss_cons (ps_if (pt_not (pt_val (pe_fn C_arows hr (by decide) rfl (pa_cons (pv 0) pa_nil))))
    pss_never
    pss_nil)
    (pss_cons (ps_setComp (i := 1) ["row"] [] [] rfl sc_read.nd rfl (Or.inl rfl) (pi_list (pv 0)) (fun _ _ _ _ _ => (pg_name (i := 0) (show List.Nodup [("row" : Str)] by decide +kernel) rfl (Or.inl rfl))) (fun _ _ _ _ _ => pts_nil) (fun _ _ _ _ _ => (pe_ix (ix_listC (K := K) rfl) (pe_bmC (K := K) rfl PySem.F.plainAttrs_str PySem.F.slot_str_split PySem.F.type_str_split mt_split (pv 0) (pa_cons pe_str pa_nil)) pe_int (fun _ _ => rfl))))
    (pss_cons (ps_set (i := 2) sc_read.nd rfl (Or.inl rfl) (pe_lst pa_nil))
    (pss_cons (ps_for PassesOwn.never rfl (pi_enum rfl B.enumerate_ (pa_cons (pv 0) pa_nil)) (pg_tup rfl (pgs_cons (pg_name (i := 3) sc_read.nd rfl (Or.inl rfl)) (pgs_cons (pg_name (i := 4) sc_read.nd rfl (Or.inl rfl)) pgs_nil)))
    (pss_cons (ps_set (i := 5) sc_read.nd rfl (Or.inl rfl) (pe_fn C_rbell hr (by decide) rfl (pa_cons (pv 4) (pa_cons (pv 1) pa_nil))))
    (pss_cons (ps_if (pt_not (pt_val (pe_fn C_isbell hr (by decide) rfl (pa_cons (pv 5) (pa_cons (pe_slice sl_list (pv 1) po_none (po_some (pv 3))) (pa_cons (pe_callB call_len_seq rfl B.len_ PySem.boot_len (pa_cons (pv 0) pa_nil)) pa_nil))))))
    pss_never
    pss_nil)
    (pss_one (ps_expr (pe_bm PySem.F.plainAttrs_list PySem.F.slot_list_append PySem.F.type_list_append mt_append (pv 2) (pa_cons (pv 5) pa_nil)))))))
    (pss_one (ps_ret (pe_callTy call_tuple_of rfl B.tuple_ PyProof.Rows.boot_tuple (pa_cons (pv 2) pa_nil)))))))), ?_⟩
  refine ⟨_, rfl, l, zs, rfl, hl, z1, z6, fun H1 s1 => ⟨_, rfl, iteF ?_⟩⟩
  have hl1 := s1 _ _ hl
  refine ⟨_, rfl, l, rfl, ⟨_, SqL.of hl1⟩, fun D hD => ?_⟩
  refine comp_list (K := K) (a := l) (xs := zs.map V.str) (fun i ys H3 => Same H1 H3 ∧ ys = ((zs.take i).map headR).map V.str) ⟨same_new hD _, rfl⟩ (fun i ys H3 _ ⟨z, _⟩ => SqL.of (z _ _ hl1)) ?_ ?_
  · rintro i x ys H3 hx ⟨s3, rfl⟩ hD3
    obtain ⟨a, ha, rfl⟩ : ∃ a, zs[i]? = some a ∧ V.str a = x := by
      rw [List.getElem?_map] at hx
      cases e : zs[i]? with
      | none => rw [e] at hx; cases hx
      | some a => rw [e] at hx; exact ⟨a, rfl, Option.some.inj hx⟩
    have hal := hz a (List.mem_of_getElem? ha)
    refine ⟨rfl, tTrue_ite ?_⟩
    have hp0 := PyProof.Rows.split_pos a " "
    refine ⟨_, rfl, rfl, a, " ", rfl, rfl, (by decide +kernel), by omega, fun p hp => ?_⟩
    have v1 := same_new hp (.lst ((Txt.split a " ").map V.str))
    refine ⟨p, _, _, _, rfl, rfl, SqL.of upd_same, atI_nat (j := 0) (getD_at (by omega)), _, v1 _ _ hD3, ?_, _, ⟨(s3.trans v1).upd hD _, rfl⟩, ?_⟩
    · rw [List.length_map, List.length_map, List.length_take]
      exact small9000 (by omega)
    · rw [take_snoc ha, List.map_append, List.map_append]
      exact upd_same
  rintro ys H2 ⟨s2, rfl⟩ hD2
  rw [List.length_map, List.take_length] at hD2
  have s02 := s1.trans s2
  have hlen : (zs.map headR).length = zs.length := List.length_map _
  generalize zs.map headR = names at *
  refine ⟨(by show 0 ≤ sizeLine; decide), fun bl hbl => ?_⟩
  have v0 := same_new hbl (.lst [])
  refine ⟨_, rfl, l, rfl, ⟨_, SqL.of ((s02.trans v0) _ _ hl)⟩, for_enum (K := K) (a := l) (xs := zs.map V.str) (fun i σ H3 => ∃ (vs : List V) (o3 o4 o5 : Option V), σ = [some (.ref l), some (.ref D), some (.ref bl), o3, o4, o5] ∧ Same H2 H3 ∧ H3 bl = some (.lst vs) ∧ ThsAt H3 ((zs.take i).map (bellR names)) vs)
    ⟨[], none, none, none, rfl, v0, upd_same, rfl⟩ (fun i σ H3 _ ⟨_, _, _, _, _, s3, _⟩ => SqL.of ((s02.trans s3) _ _ hl)) ?_ ?_⟩
  · rintro i x σ H3 T hx ⟨vs, o3, o4, o5, rfl, s3, hbl3, hv⟩ hT
    obtain ⟨a, ha, rfl⟩ : ∃ a, zs[i]? = some a ∧ V.str a = x := by
      rw [List.getElem?_map] at hx
      cases e : zs[i]? with
      | none => rw [e] at hx; cases hx
      | some a => rw [e] at hx; exact ⟨a, rfl, Option.some.inj hx⟩
    have hal := hz a (List.mem_of_getElem? ha)
    have hil := (List.getElem?_eq_some_iff.mp ha).1
    have hbi := hb i a ha
    have vT := same_new hT (.tup [.int (i : Int), .str a])
    refine ⟨T, _, rfl, SqT.of upd_same, rfl, _, _, rfl, _, _, rfl, rfl, ?_⟩
    have s4 := s3.trans vT
    refine ⟨_, rfl, _, rfl, a, D, names, rfl, hal, s4 _ _ hD2, by omega, fun H5 bv s5 hbv => ?_⟩
    have s25 := s4.trans s5
    refine ⟨_, rfl, _, rfl, _, rfl, _, rfl, D, _, rfl, SqL.of (s25 _ _ hD2), fun p hp => ?_⟩
    rw [cut_upto names i (by omega)]
    have v6 := same_new hp (.lst ((names.take i).map V.str))
    refine ⟨_, rfl, l, _, rfl, .inl (SqL.of (v6 _ _ (s25 _ _ (s02 _ _ hl)))), bv, bellR names a, p, names.take i, _, rfl, ThAt.same v6 _ hbv, upd_same, fun H7 s7 => ⟨_, rfl, ?_⟩⟩
    rw [List.length_map, hbi]
    refine iteF ?_
    have v57 := v6.trans s7
    have hbl7 := (vT.trans (s5.trans v57)) _ _ hbl3
    have hvl := hv.len
    rw [List.length_map, List.length_take] at hvl
    refine ⟨_, rfl, .inl ⟨rfl, _, SqL.of hbl7⟩, _, rfl, bl, vs, _, rfl, rfl, hbl7, small9000 (by omega), ?_⟩
    refine ⟨_, _, _, _, rfl, ?_, upd_same, ?_⟩
    · have hb2 : H2 bl = none := hbl
      exact (s25.trans v57).upd hb2 _
    · rw [take_snoc ha, List.map_append]
      exact ThsAt.snoc (ThsAt.kin ((Same.kin (vT.trans (s5.trans v57))).trans (kin_upd hbl7)) _ hv) (ThAt.kin ((Same.kin v57).trans (kin_upd hbl7)) _ hbv)
  rintro σ H3 ⟨vs, o3, o4, o5, rfl, s3, hbl3, hv⟩
  rw [List.length_map, List.take_length] at hv
  refine ⟨_, rfl, bl, _, rfl, .inl ⟨SqL.of hbl3, fun t ht => ?_⟩⟩
  have v1 := same_new ht (.tup vs)
  exact q _ _ ((s02.trans s3).trans v1) (tup_th upd_same (ThsAt.same v1 _ hv))
end
end K15
namespace K15
open PySem L2
/-! ### rules that are asked how many they want; texts written -/
def wantsR (b : Bell) : Int := match b.rule with
  | .all => b.lis.length
  | .any => 1
  | .num n => n
def ruleW (b : Bell) : Str := if wantsR b = b.lis.length then "all" else if wantsR b = 1 then "any" else numS (wantsR b)
def endS (l : Lis) : Str := if l.back then "" else "="
def lisS (names : List Str) (l : Lis) : Str := Str.empty ++ names.getD l.whom Str.empty ++ "+" ++ numS l.beats ++ endS l
def partsS (names : List Str) (b : Bell) : List Str := [b.name, numS b.start, ruleW b] ++ b.lis.map (lisS names)
def rowS (names : List Str) (b : Bell) : Str := Txt.join " " (partsS names b)
def rowX (names : List Str) (b : Bell) (w : Str) : Str := Txt.join " " ([b.name, numS b.start, w] ++ b.lis.map (lisS names))
theorem numS_le {n : Int} (h0 : 0 ≤ n) (h1 : n ≤ 1000) : 1 ≤ (numS n).length ∧ (numS n).length ≤ 4 := by
  obtain ⟨m, rfl⟩ : ∃ m : Nat, n = m := ⟨n.toNat, by omega⟩
  exact numS_len (by omega)
theorem small_log {n : Int} (h0 : 0 ≤ n) (h1 : n ≤ 1000) : n.natAbs.log2 < 1920 := by
  have h : n.natAbs < 2 ^ 10 := by omega
  by_cases hz : n.natAbs = 0
  · rw [hz]
    decide
  · exact Nat.lt_of_lt_of_le (Nat.log2_lt hz |>.mpr h) (by decide)
theorem endS_le (l : Lis) : (endS l).length ≤ 1 := by
  unfold endS
  split <;> decide +kernel
theorem lisS_le {names : List Str} {l : Lis} (hn : ∀ x ∈ names, x.length ≤ 8) (h0 : 1 ≤ l.beats) (h1 : l.beats ≤ 1000) (hw : l.whom < names.length) : (lisS names l).length ≤ 14 := by
  have h8 : (names.getD l.whom Str.empty).length ≤ 8 := by
    rw [List.getD_eq_getElem?_getD, List.getElem?_eq_getElem hw]
    exact hn _ (List.getElem_mem hw)
  have h4 := (numS_le (n := l.beats) (by omega) h1).2
  have h2 := endS_le l
  unfold lisS
  rw [str_app_len, str_app_len, str_app_len, str_app_len]
  have e0 : Str.empty.length = 0 := rfl
  have e1 : ("+" : Str).length = 1 := by decide +kernel
  omega
end K15
namespace K15
open PySem L2
/-! ### _law_written -/
section
variable {P : Program} {w : World} {K : PySem.W.Frag} {mg : Str → Option Value} {base : Heap} {f : Addr} {fd : FuncData}
def partsT (names : List Str) (b : Bell) (w : Str) (i : Nat) : List (List Nat) := ([b.name, numS b.start, w] ++ (b.lis.take i).map (lisS names)).map fun x => x.cps.toList
theorem partsT_succ {names : List Str} {b : Bell} {w : Str} {i : Nat} {l : Lis} (h : b.lis[i]? = some l) : partsT names b w (i + 1) = partsT names b w i ++ [(lisS names l).cps.toList] := by
  unfold partsT
  rw [take_snoc h]
  simp only [List.map_append, List.append_assoc]
  rfl
theorem partsT_ne (names : List Str) (b : Bell) (w : Str) (i : Nat) : partsT names b w i ≠ [] := by
  unfold partsT
  rw [List.map_append]
  exact List.append_ne_nil_of_left_ne_nil (by simp) _
theorem row_done {names : List Str} {b : Bell} {w r : Str} (h : r.cps.toList = jn 32 (partsT names b w b.lis.length)) : r = rowX names b w := by
  refine str_ext ?_
  rw [h]
  unfold rowX
  rw [gap_str, tjoin_cps]
  unfold partsT
  rw [List.take_length]
def sp_written : Sp := fun vs H Q _ => ∃ (v : V) (b : Bell) (nl : Addr) (names : List Str) (m : Nat) (w : Str), vs = [.ref nl, v, .str w] ∧ w.length ≤ 4 ∧ BellAt H v b ∧ H nl = some (.lst (names.map V.str)) ∧ (∀ x ∈ names, x.length ≤ 8) ∧ GoodB m 0 true b ∧ m ≤ names.length ∧ b.name.length ≤ 8 ∧ ∀ H', Same H H' → Q (.str (rowX names b w)) H'
theorem sc_written : FnScope ["_law_names_here", "_law_bell_here", "_law_word", "_law_row", "_law_name", "_law_start", "_law_rule", "_law_listenings", "_law_whom", "_law_beats", "_law_back"] ["_law_names_here", "_law_bell_here", "_law_word"] (defScope s_written) := ⟨rfl, rfl, rfl, by decide +kernel, rfl, by decide +kernel, by decide +kernel⟩
theorem ok_written (F : Fun K "_law_written" "_law_written" s_written f fd) (B : Blt mg) : FnOk P w K mg base CX0 1 f fd ["_law_names_here", "_law_bell_here", "_law_word"] sp_written := by
  refine F.ok sc_written (fun vs H Q E h => ?_) (fun cdv A outer s H vs Q E hr h => ?_)
  · obtain ⟨v, b, nl, names, m, wd, rfl, _⟩ := h
    rfl
  obtain ⟨v, b, nl, names, m, wd, rfl, l2, ⟨a, t, ls, rfl, ha, ht, pr⟩, hnl, h8, g, hm, hbn, q⟩ := h
  refine ⟨_, (pss_cons (ps_asg (pv 1) (pg_tup rfl (pgs_cons (pg_name (i := 4) sc_written.nd rfl (Or.inl rfl)) (pgs_cons (pg_name (i := 5) sc_written.nd rfl (Or.inl rfl)) (pgs_cons (pg_name (i := 6) sc_written.nd rfl (Or.inl rfl)) (pgs_cons (pg_name (i := 7) sc_written.nd rfl (Or.inl rfl)) pgs_nil))))))
    (pss_cons (ps_set (i := 3) sc_written.nd rfl (Or.inl rfl) (pe_op op_add_str (pe_op op_add_str (pe_op op_add_str (pe_op op_add_str (pv 4) pe_str) (pe_callTy call_str_int rfl B.str_ PyProof.Rows.boot_str (pa_cons (pv 5) pa_nil))) pe_str) (pv 2)))
    (pss_cons (ps_for PassesOwn.never rfl (pi_tup (pv 7)) (pg_tup rfl (pgs_cons (pg_name (i := 8) sc_written.nd rfl (Or.inl rfl)) (pgs_cons (pg_name (i := 9) sc_written.nd rfl (Or.inl rfl)) (pgs_cons (pg_name (i := 10) sc_written.nd rfl (Or.inl rfl)) pgs_nil))))
    (pss_one (ps_set (i := 3) sc_written.nd rfl (Or.inl rfl) (pe_op op_add_str (pe_op op_add_str (pe_op op_add_str (pe_op op_add_str (pe_op op_add_str (pv 3) pe_str) (pe_ix ix_list (pv 0) (pv 8) (fun _ _ => rfl))) pe_str) (pe_callTy call_str_int rfl B.str_ PyProof.Rows.boot_str (pa_cons (pv 9) pa_nil))) (pe_ix ix_list (pe_lst (pa_cons pe_str (pa_cons pe_str pa_nil))) (pv 10) (fun _ _ => rfl))))))
    (pss_one (ps_ret (pv 3)))))), ?_⟩
  have hll := paired_len pr
  have n6 := g.n6
  have l1 := (numS_le g.s0 g.s1).2
  have lg : (" " : Str).length = 1 := by decide +kernel
  have lp : ("+" : Str).length = 1 := by decide +kernel
  refine ⟨_, rfl, a, _, rfl, SqT.of ha, rfl, _, _, rfl, _, _, rfl, _, _, rfl, _, _, rfl, rfl, ?_⟩
  have a1 := str_app_len b.name " "
  have a2 := str_app_len (b.name ++ " ") (numS b.start)
  have a3 := str_app_len (b.name ++ " " ++ numS b.start) " "
  have a4 := str_app_len (b.name ++ " " ++ numS b.start ++ " ") wd
  refine ⟨_, rfl, _, _, rfl, rfl, (by rw [sizeLine_eq]; omega), _, rfl, _, rfl, small_log g.s0 g.s1, _, _, rfl, rfl, (by show (b.name ++ " ").length + (numS b.start).length ≤ sizeLine; rw [sizeLine_eq]; omega), _, _, rfl, rfl, (by show (b.name ++ " " ++ numS b.start).length + (" " : Str).length ≤ sizeLine; rw [sizeLine_eq]; omega), _, rfl, _, _, rfl, rfl, (by show (b.name ++ " " ++ numS b.start ++ " ").length + wd.length ≤ sizeLine; rw [sizeLine_eq]; omega), ?_⟩
  refine ⟨_, rfl, t, rfl, ⟨_, SqT.of ht⟩, for_tup (K := K) (a := t) (xs := ls) (fun i σ H2 => ∃ (r : Str) (o8 o9 o10 : Option V), σ = [some (.ref nl), some (.ref a), some (.str wd), some (.str r), some (.str b.name), some (.int b.start), some (rwV b.rule), some (.ref t), o8, o9, o10] ∧ Same H H2 ∧ r.cps.toList = jn 32 (partsT names b wd i) ∧ r.length ≤ 18 + 15 * i)
    ⟨b.name ++ " " ++ numS b.start ++ " " ++ wd, none, none, none, rfl, .refl H, ?_, by omega⟩ (fun i σ H2 _ ⟨_, _, _, _, _, s2, _⟩ => SqT.of (s2 _ _ ht)) ?_ ?_⟩
  · rw [app_cps, app_cps, app_cps, app_cps, gap_str]
    show (((_ ++ [32]) ++ _) ++ [32]) ++ _ = b.name.cps.toList ++ 32 :: ((numS b.start).cps.toList ++ 32 :: wd.cps.toList)
    simp only [List.append_assoc]
    rfl
  · rintro i x σ H2 hx ⟨r, o8, o9, o10, rfl, s2, hr2, hrl⟩
    obtain ⟨l, hl, ⟨la, rfl, hla⟩⟩ := paired_at pr hx
    obtain ⟨g1, g2, g3, _⟩ := g.l l (List.mem_of_getElem? hl)
    have hi := (List.getElem?_eq_some_iff.mp hl).1
    have hw : l.whom < names.length := by omega
    have h8' : (names.getD l.whom Str.empty).length ≤ 8 := by
      rw [List.getD_eq_getElem?_getD, List.getElem?_eq_getElem hw]
      exact h8 _ (List.getElem_mem hw)
    have l4 := (numS_le (n := l.beats) (by omega) g3).2
    have l5 := endS_le l
    refine ⟨la, _, rfl, SqT.of (s2 _ _ hla), rfl, _, _, rfl, _, _, rfl, _, _, rfl, rfl, ?_⟩
    have b1 := str_app_len r " "
    have b2 := str_app_len (r ++ " ") (names.getD l.whom Str.empty)
    have b3 := str_app_len (r ++ " " ++ names.getD l.whom Str.empty) "+"
    have b4 := str_app_len (r ++ " " ++ names.getD l.whom Str.empty ++ "+") (numS l.beats)
    have b5 := str_app_len (r ++ " " ++ names.getD l.whom Str.empty ++ "+" ++ numS l.beats) (endS l)
    refine ⟨_, rfl, _, _, rfl, rfl, (by rw [sizeLine_eq]; omega), _, rfl, _, rfl, nl, _, _, _, rfl, rfl, SqL.of (s2 _ _ hnl), atI_nat (getD_at hw), _, _, rfl, rfl, (by show (r ++ " ").length + (names.getD l.whom Str.empty).length ≤ sizeLine; rw [sizeLine_eq]; omega), _, _, rfl, rfl, (by show (r ++ " " ++ names.getD l.whom Str.empty).length + ("+" : Str).length ≤ sizeLine; rw [sizeLine_eq]; omega), _, rfl, _, rfl, small_log (by omega) g3, _, _, rfl, rfl, (by show (r ++ " " ++ names.getD l.whom Str.empty ++ "+").length + (numS l.beats).length ≤ sizeLine; rw [sizeLine_eq]; omega), (by show 2 ≤ sizeLine; decide), fun el hel => ?_⟩
    have v1 := same_new hel (.lst [.str "=", .str ""])
    have hat : atI [V.str "=", V.str ""] (if l.back then 1 else 0) = some (.str (endS l)) := by
      unfold endS
      cases l.back
      · exact at_zero _ _
      · exact atI_nat (j := 1) rfl
    refine ⟨_, rfl, el, _, _, _, rfl, rfl, SqL.of upd_same, hat, _, _, rfl, rfl, (by show (r ++ " " ++ names.getD l.whom Str.empty ++ "+" ++ numS l.beats).length + (endS l).length ≤ sizeLine; rw [sizeLine_eq]; omega), ?_⟩
    refine ⟨r ++ " " ++ names.getD l.whom Str.empty ++ "+" ++ numS l.beats ++ endS l, _, _, _, rfl, s2.trans v1, ?_, by omega⟩
    rw [partsT_succ hl, jn_snoc _ _ _ (partsT_ne names b wd i), ← hr2]
    unfold lisS
    simp only [app_cps]
    rw [gap_str]
    show ((((r.cps.toList ++ [32]) ++ _) ++ _) ++ _) ++ _ = r.cps.toList ++ 32 :: (((([] ++ _) ++ _) ++ _) ++ _)
    simp only [List.append_assoc, List.nil_append]
    rfl
  · rintro σ H2 ⟨r, o8, o9, o10, rfl, s2, hr2, hrl⟩
    rw [hll] at hr2
    rw [← row_done hr2] at q
    exact ⟨_, rfl, q H2 s2⟩
end
end K15
namespace K15
open PySem L2
/-! ### what is written is read -/
def lisT (l : Lis) : Th := .tup [.int l.whom, .int l.beats, .int (if l.back then 1 else 0)]
def rwT : RW → Th
  | .all => .str "all"
  | .any => .str "any"
  | .num n => .int n
def bellT (b : Bell) : Th := .tup [.str b.name, .int b.start, rwT b.rule, .tup (b.lis.map lisT)]
def rwS : RW → Str
  | .all => "all"
  | .any => "any"
  | .num n => numS n
def ruleA (b : Bell) : RW := if wantsR b = b.lis.length then .all else if wantsR b = 1 then .any else .num (wantsR b)
def withR (b : Bell) (r : RW) : Bell := ⟨b.name, b.start, r, b.lis⟩
theorem let_low {c : Nat} (h : inLet c = true) : 97 ≤ c ∧ c ≤ 122 := by
  unfold inLet at h
  rcases StrLaws.occ_head lettersT ⟨#[c]⟩ 1 (Nat.le_refl _) with ⟨e, _⟩ | ⟨i, r, _, h2, _⟩
  · rw [e] at h
    cases h
  · have hm := List.mem_of_getElem? ((StrLaws.subAt_one lettersT c i).mp h2)
    have all : ∀ c ∈ lettersT.cps.toList, 97 ≤ c ∧ c ≤ 122 := by decide +kernel
    exact all c hm
theorem word_signs {z : Str} (h : wordS z = true) : ∀ c ∈ z.cps.toList, 97 ≤ c ∧ c ≤ 122 := fun c hc => by
  have h' : (decide (1 ≤ z.length) && decide (z.length ≤ 8) && z.cps.toList.all inLet) = true := h
  rw [Bool.and_eq_true] at h'
  exact let_low (List.all_eq_true.mp h'.2 c hc)
theorem num_signs {n : Int} (h0 : 0 ≤ n) (h1 : n ≤ 1000) : ∀ c ∈ (numS n).cps.toList, 48 ≤ c ∧ c ≤ 57 := by
  obtain ⟨m, rfl⟩ : ∃ m : Nat, n = m := ⟨n.toNat, by omega⟩
  exact numS_fig (by omega)
theorem writ_num {m : Nat} (h : m < 1001) : writS (numS (m : Int)) 9 = true := by
  obtain ⟨l1, l4⟩ := numS_len h
  unfold writS
  have ha : (numS (m : Int)).cps.toList.all inFig = true := List.all_eq_true.mpr fun c hc => digit_fig (numS_fig h c hc).1 (numS_fig h c hc).2
  rw [decide_eq_true l1, decide_eq_true (show ((numS (m : Int)).length : Int) ≤ 9 by omega), ha]
  show (decide (numS (m : Int) = "0") || decide ((numS (m : Int)).cps.toList[0]? ≠ some 48)) = true
  rcases (dg_ok m h).2.2.2 with e | e
  · rw [decide_eq_true (show numS (m : Int) = "0" from str_ext (by rw [numS_cps, e, zero_str]))]
    rfl
  · rw [decide_eq_true (show (numS (m : Int)).cps.toList[0]? ≠ some 48 by rw [numS_cps]; exact e), Bool.or_true]
theorem numT_numS {n : Int} (h0 : 0 ≤ n) (h1 : n ≤ 1000) : numT (numS n) = .int n := by
  obtain ⟨m, rfl⟩ : ∃ m : Nat, n = m := ⟨n.toNat, by omega⟩
  have h : m < 1001 := by omega
  have hw := writ_num h
  obtain ⟨d1, d2, d3⟩ := writ_digits hw
  have e := PySem.intText_digits d1 d2 (by omega)
  rw [numS_reads h] at e
  unfold numT
  rw [if_pos hw]
  exact congrArg Th.int (Option.some.inj e).symm
theorem all_signs : ∀ c ∈ ("all" : Str).cps.toList, 97 ≤ c := by decide +kernel
theorem any_signs : ∀ c ∈ ("any" : Str).cps.toList, 97 ≤ c := by decide +kernel
theorem num_ne {n : Int} (h0 : 0 ≤ n) (h1 : n ≤ 1000) {z : Str} (hz : ∀ c ∈ z.cps.toList, 97 ≤ c) : numS n ≠ z := fun e => by
  have hl := (numS_le h0 h1).1
  have hne : (numS n).cps.toList ≠ [] := fun q => by
    rw [← tx_len, q] at hl
    exact absurd hl (by decide)
  obtain ⟨c, hc⟩ := List.exists_mem_of_ne_nil _ hne
  have a := num_signs h0 h1 c hc
  rw [e] at hc
  have b := hz c hc
  omega
theorem ruleR_rwS {n : Nat} {r : RW} (g : GoodR n r) (h : n ≤ 1000) : ruleR (rwS r) = rwT r := by
  cases r with
  | all => exact if_pos (.inl rfl)
  | any => exact if_pos (.inr rfl)
  | num i =>
    have g' : 1 ≤ i ∧ i ≤ (n : Int) := g
    unfold ruleR rwS
    rw [if_neg (fun q => q.elim (num_ne (by omega) (by omega) all_signs) (num_ne (by omega) (by omega) any_signs))]
    exact numT_numS (by omega) (by omega)
/-- each listening of b is to a name -/
def Heard (names : List Str) (b : Bell) : Prop := ∀ l ∈ b.lis, ∃ nm, names[l.whom]? = some nm ∧ nameT (.str nm) = true
theorem name_word {z : Str} (h : nameT (.str z) = true) : wordS z = true := by
  have h' : (wordS z && !decide (z ∈ fourT)) = true := h
  rw [Bool.and_eq_true] at h'
  exact h'.1
theorem let_all : ∀ c ∈ lettersT.cps.toList, inLet c = true := by decide +kernel
theorem word_low {z : Str} (h : lowS z) (h1 : 1 ≤ z.length) (h8 : z.length ≤ 8) : wordS z = true := by
  show (decide (1 ≤ z.length) && decide (z.length ≤ 8) && z.cps.toList.all inLet) = true
  rw [decide_eq_true h1, decide_eq_true h8]
  show z.cps.toList.all inLet = true
  rw [List.all_eq_true]
  exact fun c hc => let_all c (h c hc)
theorem inT_ok {i lo hi : Int} (h1 : lo ≤ i) (h2 : i ≤ hi) : inT (.int i) lo hi = true := by
  show (decide (lo ≤ i) && decide (i ≤ hi)) = true
  rw [decide_eq_true h1, decide_eq_true h2]
  rfl
structure GoodC (c : List Bell) : Prop where
  c1 : 1 ≤ c.length
  c6 : c.length ≤ 6
  gb : ∀ b ∈ c, GoodB c.length 0 true b
  wd : ∀ b ∈ c, wordS b.name = true
  f4 : ∀ b ∈ c, b.name ∉ fourT
  nd : (c.map (·.name)).Nodup
theorem GoodC.of {c : List Bell} {ahead names : List Str} (g : GoodNm ahead names) (c1 : 1 ≤ c.length) (c6 : c.length ≤ 6) (hcn : c.map (·.name) = names.take c.length) (gb : ∀ b ∈ c, GoodB c.length 0 true b) : GoodC c := by
  have inN : ∀ b ∈ c, b.name ∈ names := fun b hb => by
    have : b.name ∈ c.map (·.name) := List.mem_map.mpr ⟨b, hb, rfl⟩
    rw [hcn] at this
    exact List.mem_of_mem_take this
  refine ⟨c1, c6, gb, fun b hb => word_low (g.lw _ (inN b hb)) (g.ln _ (inN b hb)).1 (g.ln _ (inN b hb)).2, fun b hb => (g.fr _ (inN b hb)).2, ?_⟩
  rw [hcn]
  exact g.nd.sublist (List.take_sublist _ _)
theorem GoodC.len {c : List Bell} (g : GoodC c) : ∀ b ∈ c, b.name.length ≤ 8 := fun b hb => by
  have h := g.wd b hb
  have h' : (decide (1 ≤ b.name.length) && decide (b.name.length ≤ 8) && b.name.cps.toList.all inLet) = true := h
  rw [Bool.and_eq_true, Bool.and_eq_true] at h'
  exact of_decide_eq_true h'.1.2
end K15
namespace K15
open PySem L2
/-! ### for the laws of texts -/
theorem eqL_str : ∀ bs : List Str, eqL (bs.map V.str) (bs.map V.str) = true
  | [] => rfl
  | b :: r => by
    show (eqV (V.str b) (V.str b) && eqL (r.map V.str) (r.map V.str)) = true
    rw [eqL_str r]
    simp [eqV]
theorem rowX_le {names : List Str} {m : Nat} {b : Bell} {w : Str} (hw : w.length ≤ 4) (g : GoodB m 0 true b) (hm : m ≤ names.length) (h8 : ∀ x ∈ names, x.length ≤ 8) (hb : b.name.length ≤ 8) : (rowX names b w).length ≤ 900 := by
  have h1 : ∀ y ∈ [b.name, numS b.start, w] ++ b.lis.map (lisS names), y.length ≤ 14 := by
    intro y hy
    rcases List.mem_append.mp hy with h | h
    · rcases List.mem_cons.mp h with rfl | h
      · omega
      rcases List.mem_cons.mp h with rfl | h
      · have := (numS_le g.s0 g.s1).2
        omega
      · rw [List.mem_singleton.mp h]
        omega
    · obtain ⟨l, hl, rfl⟩ := List.mem_map.mp h
      obtain ⟨g1, g2, g3, _⟩ := g.l l hl
      exact lisS_le h8 g2 g3 (by omega)
  have h2 := StrLaws.sumLen_le _ h1
  have h3 : ([b.name, numS b.start, w] ++ b.lis.map (lisS names)).length ≤ 9 := by
    rw [List.length_append, List.length_map]
    have := g.n6
    show 3 + b.lis.length ≤ 9
    omega
  have h4 := StrLaws.join_length_le " " ([b.name, numS b.start, w] ++ b.lis.map (lisS names))
  have e1 : (" " : Str).length = 1 := by decide +kernel
  have e2 : rowX names b w = Str.join " " ([b.name, numS b.start, w] ++ b.lis.map (lisS names)) := StrLaws.glued_eq_join _ _
  rw [e2]
  rw [e1] at h4
  omega
theorem rwS_le {n : Nat} {r : RW} (g : GoodR n r) (h : n ≤ 1000) : (rwS r).length ≤ 4 := by
  cases r with
  | all => decide +kernel
  | any => decide +kernel
  | num i =>
    have g' : 1 ≤ i ∧ i ≤ (n : Int) := g
    exact (numS_le (by omega) (by omega)).2
end K15
namespace K15
open PySem L2
/-! ### the law's own reading of a listening -/
theorem first_split {c : Nat} : ∀ {w : List Nat}, c ∈ w → ∃ a b, w = a ++ c :: b ∧ c ∉ a
  | x :: w, h => by
    by_cases e : x = c
    · exact ⟨[], w, by rw [e]; rfl, fun q => by cases q⟩
    · rcases List.mem_cons.mp h with h | h
      · exact absurd h.symm e
      · obtain ⟨a, b, e1, e2⟩ := first_split h
        refine ⟨x :: a, b, by rw [e1]; rfl, fun q => ?_⟩
        rcases List.mem_cons.mp q with q | q
        · exact e q.symm
        · exact e2 q
theorem last_split {c : Nat} {w : List Nat} (h : c ∈ w) : ∃ a b, w = a ++ c :: b ∧ c ∉ b := by
  obtain ⟨a, b, e1, e2⟩ := first_split (List.mem_reverse.mpr h)
  refine ⟨b.reverse, a.reverse, ?_, fun q => e2 (List.mem_reverse.mp q)⟩
  have := congrArg List.reverse e1
  rw [List.reverse_reverse, List.reverse_append, List.reverse_cons, List.append_assoc] at this
  exact this
def mkS (l : List Nat) : Str := ⟨l.toArray⟩
theorem mkS_cps (l : List Nat) : (mkS l).cps.toList = l := rfl
def lastEq (z : Str) : Bool := decide (Txt.slice z (some (-1)) none = "=")
def backL (z : Str) : Int := if lastEq z = true then 0 else 1
def bodyL (z : Str) : Str := Txt.slice z none (some ((z.length : Int) - 1 + backL z))
theorem slice_tail (z : Str) : (Txt.slice z (some (-1)) none).cps.toList = z.cps.toList.drop (z.cps.toList.length - 1) := by
  rw [slice_txt]
  unfold cutN
  rw [HT.sIx_none]
  have e : HT.sIx z.cps.toList.length 0 (some (-1)) = z.cps.toList.length - 1 := by
    show ((-1 : Int) + ((z.cps.toList.length : Nat) : Int)).toNat = _
    omega
  rw [e]
  exact List.take_of_length_le (by rw [List.length_drop]; omega)
theorem lastEq_iff (z : Str) : lastEq z = true ↔ ∃ a, z.cps.toList = a ++ [61] := by
  unfold lastEq
  rw [decide_eq_true_iff]
  constructor
  · intro h
    have e := slice_tail z
    rw [h, eq_str] at e
    refine ⟨z.cps.toList.take (z.cps.toList.length - 1), ?_⟩
    have := List.take_append_drop (z.cps.toList.length - 1) z.cps.toList
    rw [← e] at this
    exact this.symm
  · rintro ⟨a, h⟩
    refine str_ext ?_
    rw [slice_tail, h, eq_str, List.length_append]
    show (a ++ [61]).drop (a.length + 1 - 1) = [61]
    rw [Nat.add_sub_cancel, List.drop_left]
theorem body_eq {z : Str} {a : List Nat} (h : z.cps.toList = a ++ [61]) : (bodyL z).cps.toList = a ∧ backL z = 0 := by
  have hb : backL z = 0 := if_pos ((lastEq_iff z).mpr ⟨a, h⟩)
  refine ⟨?_, hb⟩
  unfold bodyL
  rw [hb, slice_txt]
  unfold cutN
  have lz := tx_len z
  rw [h, List.length_append] at lz
  have lz' : a.length + 1 = z.length := lz
  rw [HT.sIx_none, List.drop_zero, show ((z.length : Int) - 1 + 0) = ((a.length : Nat) : Int) by omega, HT.sIx_nat, h, List.length_append, Nat.min_eq_left (Nat.le_add_right _ _), Nat.sub_zero, List.take_left]
theorem body_all {z : Str} (h : lastEq z = false) : bodyL z = z ∧ backL z = 1 := by
  have hb : backL z = 1 := if_neg (by rw [h]; decide)
  refine ⟨str_ext ?_, hb⟩
  unfold bodyL
  rw [hb, slice_txt]
  unfold cutN
  have lz := tx_len z
  rw [HT.sIx_none, List.drop_zero, show ((z.length : Int) - 1 + 1) = ((z.length : Nat) : Int) by omega, HT.sIx_nat, lz, Nat.min_self, Nat.sub_zero, ← lz, List.take_length]
theorem ends_iff (z : Str) : Txt.endswith z "=" = true ↔ ∃ a, z.cps.toList = a ++ [61] := by
  constructor
  · intro h
    rw [eq_str] at h
    unfold Txt.endswith at h
    rw [Bool.and_eq_true] at h
    have q1 : 0 + 1 ≤ z.length := of_decide_eq_true h.1
    have hm := (StrLaws.subAt_one z 61 (z.length - 1)).mp ⟨by show z.length - 1 + 1 ≤ z.length; omega, h.2⟩
    have lz := tx_len z
    refine ⟨z.cps.toList.take (z.length - 1), ?_⟩
    rw [← take_snoc hm, show z.length - 1 + 1 = z.cps.toList.length by omega, List.take_length]
  · rintro ⟨a, h⟩
    rw [eq_str]
    exact ends_with (a := mkS a) (by rw [mkS_cps]; exact h)
theorem part_none {c : Nat} {z : Str} (h : c ∉ z.cps.toList) : Txt.partition z ⟨#[c]⟩ = (z, Str.empty, Str.empty) := by
  unfold Txt.partition
  rcases StrLaws.occ_head z ⟨#[c]⟩ 1 (Nat.le_refl _) with ⟨e, _⟩ | ⟨i, r, _, h2, _⟩
  · rw [e]
  · exact absurd (List.mem_of_getElem? ((StrLaws.subAt_one z c i).mp h2)) h
theorem numT_cases (z : Str) : numT z = .non ∨ ∃ b, numT z = .int b := by
  unfold numT
  split
  · exact .inr ⟨_, rfl⟩
  · exact .inl rfl
theorem numT_plus {z : Str} (h : 43 ∈ z.cps.toList) : numT z = .non := by
  unfold numT
  rw [if_neg]
  intro q
  have := (writ_digits q).1 43 h
  omega
theorem name_plus {z : Str} (h : 43 ∈ z.cps.toList) : nameT (.str z) = false := by
  rw [Bool.eq_false_iff]
  intro q
  have := word_signs (name_word q) 43 h
  omega
def lisOk (names : List Str) (z : Str) : Bool := lisB (lisR names z) names.length
/-- what is told of a listening whose name is n and whose figures are q -/
theorem lis_parts {names : List Str} {z n r : Str} (hp : Txt.partition z "+" = (n, ("+" : Str), r)) :
    (nameT (.str n) = false ∨ n ∉ names ∨ numT (beatsR r) = .non → lisOk names z = false) ∧
    (nameT (.str n) = true → n ∈ names → ∀ b, numT (beatsR r) = .int b → lisR names z = .tup [.int ((names.findIdx (fun x => decide (x = n)) : Nat) : Int), .int b, .int (backR r)] ∧ lisOk names z = (decide (1 ≤ b) && decide (b ≤ 1000))) := by
  unfold lisOk lisR
  rw [hp]
  dsimp only
  refine ⟨fun h => ?_, fun h1 h2 b hb => ?_⟩
  · by_cases hc : nameT (.str n) = true ∧ n ∈ names
    · rw [if_pos hc]
      rcases h with h | h | h
      · rw [hc.1] at h
        cases h
      · exact absurd hc.2 h
      · rw [h]
        show (inT _ _ _ && (false && _)) = false
        rw [Bool.false_and, Bool.and_false]
    · rw [if_neg hc]
      rfl
  · rw [if_pos ⟨h1, h2⟩, hb]
    refine ⟨rfl, ?_⟩
    have hi : names.findIdx (fun x => decide (x = n)) < names.length := List.findIdx_lt_length_of_exists ⟨n, h2, decide_eq_true rfl⟩
    show (inT (.int _) 0 ((names.length : Int) - 1) && ((decide (1 ≤ b) && decide (b ≤ 1000)) && inT (.int (backR r)) 0 1)) = _
    have e1 : inT (.int ((names.findIdx (fun x => decide (x = n)) : Nat) : Int)) 0 ((names.length : Int) - 1) = true := inT_ok (by omega) (by omega)
    have e2 : inT (.int (backR r)) 0 1 = true := by
      unfold backR
      split
      · exact inT_ok (by decide) (by decide)
      · exact inT_ok (by decide) (by decide)
    rw [e1, e2, Bool.and_true, Bool.true_and]
/-- by the last cross, and by the first -/
theorem lis_read (names : List Str) (z : Str) :
    ((Txt.rpartition (bodyL z) "+").2.1 = "" ∨ (Txt.rpartition (bodyL z) "+").1 ∉ names ∨ nameT (.str (Txt.rpartition (bodyL z) "+").1) = false ∨ numT (Txt.rpartition (bodyL z) "+").2.2 = .non → lisOk names z = false) ∧
    ((Txt.rpartition (bodyL z) "+").2.1 ≠ "" → (Txt.rpartition (bodyL z) "+").1 ∈ names → nameT (.str (Txt.rpartition (bodyL z) "+").1) = true → ∀ b, numT (Txt.rpartition (bodyL z) "+").2.2 = .int b →
      lisR names z = .tup [.int ((names.findIdx (fun x => decide (x = (Txt.rpartition (bodyL z) "+").1)) : Nat) : Int), .int b, .int (backL z)] ∧ lisOk names z = (decide (1 ≤ b) && decide (b ≤ 1000))) := by
  by_cases h43 : 43 ∈ z.cps.toList
  rotate_left
  · have hb : 43 ∉ (bodyL z).cps.toList := by
      cases hl : lastEq z with
      | true =>
        obtain ⟨a, ha⟩ := (lastEq_iff z).mp hl
        rw [(body_eq ha).1]
        intro q
        exact h43 (by rw [ha]; exact List.mem_append_left _ q)
      | false =>
        rw [(body_all hl).1]
        exact h43
    rw [plus_str, rpart_none hb]
    refine ⟨fun _ => ?_, fun q => absurd rfl q⟩
    unfold lisOk lisR
    rw [plus_str, part_none h43]
    dsimp only
    split
    · have e : numT (beatsR Str.empty) = .non := by
        have e1 : beatsR Str.empty = Str.empty := by
          unfold beatsR
          rw [if_neg]
          rw [eq_str, ends_not (by intro q; cases q)]
          decide
        rw [e1]
        unfold numT
        rw [if_neg (by decide +kernel)]
      rw [e]
      show (inT _ _ _ && (false && _)) = false
      rw [Bool.false_and, Bool.and_false]
    · rfl
  obtain ⟨n, r, hz, hn⟩ := first_split h43
  have hp : Txt.partition z "+" = (mkS n, ("+" : Str), mkS r) := by
    rw [plus_str]
    exact partition_app (a := mkS n) (b := mkS r) hz hn
  obtain ⟨p1, p2⟩ := lis_parts (names := names) hp
  -- the figures: those behind the first cross, without the last sign if it is =
  have key : ∃ q : List Nat, (bodyL z).cps.toList = n ++ 43 :: q ∧ beatsR (mkS r) = mkS q ∧ backL z = backR (mkS r) := by
    cases hl : lastEq z with
    | true =>
      obtain ⟨a, ha⟩ := (lastEq_iff z).mp hl
      obtain ⟨b1, b2⟩ := body_eq ha
      have hr : r ≠ [] := fun e => by
        rw [e] at hz
        have := hz.symm.trans ha
        have e2 := congrArg List.getLast? this
        rw [List.getLast?_concat, List.getLast?_append] at e2
        cases e2
      obtain ⟨r', x, er⟩ : ∃ r' x, r = r' ++ [x] := ⟨r.dropLast, r.getLast hr, (List.dropLast_concat_getLast hr).symm⟩
      have e3 : (n ++ 43 :: r') ++ [x] = a ++ [61] := by
        rw [← ha, hz, er, List.append_assoc]
        rfl
      obtain ⟨ea, ex⟩ := List.append_inj' e3 rfl
      have ex' : x = 61 := (List.cons.inj ex).1
      subst ex'
      have hm : (mkS r).cps.toList = (mkS r').cps.toList ++ [61] := er
      refine ⟨r', by rw [b1, ← ea], ?_, ?_⟩
      · unfold beatsR
        rw [if_pos ((ends_iff _).mpr ⟨r', er⟩)]
        exact slice_last hm
      · rw [b2]
        exact (if_pos ((ends_iff _).mpr ⟨r', er⟩)).symm
    | false =>
      obtain ⟨b1, b2⟩ := body_all hl
      have he : ¬ Txt.endswith (mkS r) "=" = true := fun q => by
        obtain ⟨a, ha⟩ := (ends_iff _).mp q
        have ha' : r = a ++ [61] := ha
        have : lastEq z = true := (lastEq_iff z).mpr ⟨n ++ 43 :: a, by rw [hz, ha', List.append_assoc]; rfl⟩
        rw [hl] at this
        cases this
      exact ⟨r, by rw [b1]; exact hz, if_neg he, by rw [b2]; exact (if_neg he).symm⟩
  obtain ⟨q, hq, hbt, hbk⟩ := key
  by_cases hq43 : 43 ∈ q
  · obtain ⟨q1, q2, eq, hq2⟩ := last_split hq43
    have hr : Txt.rpartition (bodyL z) "+" = (mkS (n ++ 43 :: q1), ("+" : Str), mkS q2) := by
      rw [plus_str]
      refine rpart_last (a := mkS (n ++ 43 :: q1)) (b := mkS q2) ?_ hq2
      rw [hq, eq, mkS_cps, mkS_cps, List.append_assoc]
      rfl
    have hnm : nameT (.str (mkS (n ++ 43 :: q1))) = false := name_plus (by rw [mkS_cps]; exact List.mem_append_right _ List.mem_cons_self)
    rw [hr]
    refine ⟨fun _ => p1 (.inr (.inr (by rw [hbt]; exact numT_plus hq43))), fun _ _ h => ?_⟩
    dsimp only at h
    rw [hnm] at h
    cases h
  · have hr : Txt.rpartition (bodyL z) "+" = (mkS n, ("+" : Str), mkS q) := by
      rw [plus_str]
      exact rpart_last (a := mkS n) (b := mkS q) hq hq43
    rw [hr]
    dsimp only
    rw [hbt] at p1 p2
    refine ⟨fun h => ?_, fun _ h1 h2 b hb => ?_⟩
    · rcases h with h | h | h | h
      · exact absurd h (by decide +kernel)
      · exact p1 (.inr (.inl h))
      · exact p1 (.inl h)
      · exact p1 (.inr (.inr h))
    · rw [hbk]
      exact p2 h2 h1 b hb
end K15
namespace K15
open PySem L2
/-! ### _law_number_in, _law_is_name, _law_listening_in -/
theorem writ_long {z : Str} (h1 : 1 ≤ z.length) (h9 : (z.length : Int) ≤ 9) : writS z 9 = (z.cps.toList.all inFig && (decide (z = "0") || decide (z.cps.toList[0]? ≠ some 48))) := by
  unfold writS
  rw [decide_eq_true h1, decide_eq_true h9]
  rfl
theorem zero_head {z : Str} (h1 : 1 ≤ z.length) (h : ¬ 1 < z.length) (h0 : z.cps.toList[0]? = some 48) : z = "0" := by
  have lz := tx_len z
  refine str_ext ?_
  rw [zero_str]
  match e : z.cps.toList with
  | [] => rw [e] at lz; simp at lz; omega
  | [x] => rw [e] at h0; cases h0; rfl
  | x :: y :: r => rw [e] at lz; simp at lz; omega
section
variable {P : Program} {w : World} {K : PySem.W.Frag} {mg : Str → Option Value} {base : Heap} {f : Addr} {fd : FuncData}
def sp_lnum : Sp := fun vs H Q _ => ∃ (z : Str), vs = [.str z] ∧ z.length ≤ 2000 ∧ ∀ H' v, Same H H' → ThAt H' (numT z) v → Q v H'
theorem sc_lnum : FnScope ["_law_word"] ["_law_word"] (defScope s_number_in) := ⟨rfl, rfl, rfl, by decide +kernel, rfl, by decide +kernel, by decide +kernel⟩
theorem ok_lnum (F : Fun K "_law_number_in" "_law_number_in" s_number_in f fd) (B : Blt mg) : FnOk P w K mg base CX0 1 f fd ["_law_word"] sp_lnum := by
  refine F.ok sc_lnum (fun vs H Q E h => ?_) (fun cdv A outer s H vs Q E hr h => ?_)
  · obtain ⟨z, rfl, _⟩ := h
    rfl
  obtain ⟨z, rfl, hz, q⟩ := h
  refine ⟨_, (pss_join (ps_if (PW.pt (pw_or (pt_not (pt_chain op_le op_le pe_int (pe_callB call_len_str rfl B.len_ PySem.boot_len (pa_cons (pv 0) pa_nil)) pe_int)) (pw_or1 (PW.pt (pw_and (pt_cmpR op_gt (pe_callB call_len_str rfl B.len_ PySem.boot_len (pa_cons (pv 0) pa_nil)) pe_int (nomark _)) (pw_and1 (pt_cmpR op_eq (pe_ix ix_str (pv 0) pe_int (fun _ _ => rfl)) pe_str (nomark _))))))))
    (pss_one (ps_ret pe_non))
    pss_nil)
    (pss_cons (ps_if (pt_not (pt_val (pe_callB (call_all rfl) rfl B.all_ PyProof.Rows.boot_all (pa_cons (pe_comp ["_law_sign"] [] [] rfl (pi_str (pv 0)) (fun _ _ _ _ _ => (pg_name (i := 0) (show List.Nodup [("_law_sign" : Str)] by decide +kernel) rfl (Or.inl rfl))) (fun _ _ _ _ _ => pts_nil) (fun _ _ _ _ _ => (pe_cmpR op_in_str (pv 0) pe_str rfl))) pa_nil))))
    (pss_one (ps_ret pe_non))
    pss_nil)
    (pss_one (ps_ret (pe_callTy call_int_text rfl B.int_ PyProof.Rows.boot_int (pa_cons (pv 0) pa_nil)))))), ?_⟩
  have no : ∀ H', Same H H' → writS z 9 = false → Q .non H' := fun H' s' e => by
    have e2 : numT z = .non := by unfold numT; rw [e]; rfl
    rw [e2] at q
    exact q H' .non s' rfl
  refine ⟨fun σ H3 => σ = [some (.str z)] ∧ H3 = H ∧ 1 ≤ z.length ∧ (z.length : Int) ≤ 9 ∧ (decide (z = "0") || decide (z.cps.toList[0]? ≠ some 48)) = true, ?_, ?_⟩
  · refine ⟨_, rfl, _, rfl, (by rw [sizeLine_eq]; omega), _, _, rfl, rfl, _, rfl, ite2 (fun g1 => ?_) (fun g1 => ?_)⟩
    rotate_left
    · have e : writS z 9 = false := by
        unfold writS
        rw [decide_eq_false (show ¬ 1 ≤ z.length from fun h => g1 (decide_eq_true (by omega)))]
        rfl
      exact ⟨_, rfl, iteT (iteT (no H (.refl H) e))⟩
    have h1 : 1 ≤ z.length := by have := of_decide_eq_true g1; omega
    refine ⟨_, _, rfl, rfl, _, rfl, ?_⟩
    by_cases h9 : (z.length : Int) ≤ 9
    rotate_left
    · have e : writS z 9 = false := by
        unfold writS
        rw [decide_eq_false h9, Bool.and_false]
        rfl
      rw [decide_eq_false h9]
      exact iteT (iteT (no H (.refl H) e))
    rw [decide_eq_true h9]
    refine iteF ?_
    have e := writ_long h1 h9
    have h0 : 0 < z.cps.toList.length := by rw [tx_len]; omega
    have hat := List.getElem?_eq_getElem h0
    have e0 : decide (V.str ⟨#[z.cps.toList[0]]⟩ = V.str ("0" : Str)) = decide (z.cps.toList[0]? = some 48) := by
      rw [hat, zero_str]
      refine decide_eq_decide.mpr ⟨fun h => ?_, fun h => by rw [Option.some.inj h]⟩
      have := V.str.inj h
      injection this with this
      have e2 := congrArg Array.toList this
      rw [(List.cons.inj e2).1]
    refine ⟨_, rfl, _, rfl, (by rw [sizeLine_eq]; omega), _, _, rfl, rfl, _, rfl, ite2 (fun g2 => ?_) (fun g2 => ?_)⟩
    · refine ⟨_, rfl, _, _, _, rfl, rfl, (by rw [sizeLine_eq]; omega), atI_nat (j := 0) hat, rfl, _, rfl, ?_⟩
      rw [e0]
      by_cases h48 : z.cps.toList[0]? = some 48
      · rw [decide_eq_true h48]
        have hz0 : z ≠ "0" := fun ez => by
          have := of_decide_eq_true g2
          rw [ez] at this
          exact absurd this (by decide +kernel)
        rw [decide_eq_false hz0, decide_eq_false (fun q => q h48), Bool.or_false, Bool.and_false] at e
        exact iteT (no H (.refl H) e)
      · rw [decide_eq_false h48]
        exact iteF ⟨rfl, rfl, h1, h9, by rw [decide_eq_true h48, Bool.or_true]⟩
    · refine iteF ⟨rfl, rfl, h1, h9, ?_⟩
      by_cases h48 : z.cps.toList[0]? = some 48
      · rw [decide_eq_true (zero_head h1 (fun h => g2 (decide_eq_true (by omega))) h48)]
        rfl
      · rw [decide_eq_true h48, Bool.or_true]
  rintro σ H3 ⟨rfl, rfl, h1, h9, hh⟩
  have e := writ_long h1 h9
  rw [hh, Bool.and_true] at e
  refine ⟨_, rfl, z, rfl, fun D hD => ?_⟩
  refine comp_str (z := z) (fun i ys H4 => Same H3 H4 ∧ ys = ((z.cps.toList.take i).map inFig).map V.bl) ⟨same_new hD _, rfl⟩ ?_ ?_
  · rintro i c ys H4 hc ⟨s3, rfl⟩ hD3
    have hc' : z.cps.toList[i]? = some c := by simpa using hc
    have hi : i < z.length := by
      have := (List.getElem?_eq_some_iff.mp hc').1
      rw [tx_len] at this
      exact this
    refine ⟨rfl, tTrue_ite ?_⟩
    refine ⟨_, rfl, _, _, rfl, rfl, _, hD3, ?_, _, ⟨s3.upd hD _, rfl⟩, ?_⟩
    · rw [List.length_map, List.length_map, List.length_take]
      exact small9000 (by omega)
    · rw [take_snoc hc', List.map_append, List.map_append]
      exact upd_same
  rintro ys H4 ⟨s4, rfl⟩ hD4
  have hT : z.cps.toList.take z.cps.size = z.cps.toList := List.take_of_length_le (by simp)
  rw [hT] at hD4
  refine ⟨D, _, rfl, SqL.of hD4, ?_⟩
  rw [all_map]
  refine ⟨_, rfl, ?_⟩
  cases ea : z.cps.toList.all inFig with
  | false =>
    rw [ea] at e
    exact iteT (no H4 s4 e)
  | true =>
    rw [ea] at e
    refine iteF ?_
    obtain ⟨d1, d2, d3⟩ := writ_digits e
    have e2 : numT z = .int (PySem.NumText.digitsVal z.cps.toList : Nat) := by unfold numT; rw [e]; rfl
    rw [e2] at q
    exact ⟨_, rfl, z, _, rfl, by omega, PySem.intText_digits d1 d2 (by omega), q H4 _ s4 rfl⟩
def sp_lname : Sp := fun vs H Q _ => ∃ (z : Str), vs = [.str z] ∧ z.length ≤ 2000 ∧ ∀ H', Same H H' → Q (.bl (nameT (.str z))) H'
theorem sc_lname : FnScope ["_law_name"] ["_law_name"] (defScope s_lis_name) := ⟨rfl, rfl, rfl, by decide +kernel, rfl, by decide +kernel, by decide +kernel⟩
theorem ok_lname (F : Fun K "_law_is_name" "_law_is_name" s_lis_name f fd) (B : Blt mg) : FnOk P w K mg base CX0 1 f fd ["_law_name"] sp_lname := by
  refine F.ok sc_lname (fun vs H Q E h => ?_) (fun cdv A outer s H vs Q E hr h => ?_)
  · obtain ⟨z, rfl, _⟩ := h
    rfl
  obtain ⟨z, rfl, hz, q⟩ := h
  refine ⟨_, (pss_cons (ps_if (PW.pt (pw_or (pt_not (pt_chain op_le op_le pe_int (pe_callB call_len_str rfl B.len_ PySem.boot_len (pa_cons (pv 0) pa_nil)) pe_int)) (pw_or1 (pt_cmpR op_in_seq (pv 0) (pe_tup (pa_cons pe_str (pa_cons pe_str (pa_cons pe_str (pa_cons pe_str pa_nil))))) rfl))))
    (pss_one (ps_ret pe_bl))
    pss_nil)
    (pss_one (ps_ret (pe_callB (call_all rfl) rfl B.all_ PyProof.Rows.boot_all (pa_cons (pe_comp ["_law_sign"] [] [] rfl (pi_str (pv 0)) (fun _ _ _ _ _ => (pg_name (i := 0) (show List.Nodup [("_law_sign" : Str)] by decide +kernel) rfl (Or.inl rfl))) (fun _ _ _ _ _ => pts_nil) (fun _ _ _ _ _ => (pe_cmpR op_in_str (pv 0) pe_str rfl))) pa_nil))))), ?_⟩
  have no : ∀ H', Same H H' → (wordS z = false ∨ z ∈ fourT) → Q (.bl false) H' := fun H' s' e => by
    have e2 : nameT (.str z) = false := by
      show (wordS z && !decide (z ∈ fourT)) = false
      rcases e with e | e
      · rw [e]; rfl
      · rw [decide_eq_true e]; exact Bool.and_false _
    rw [e2] at q
    exact q H' s'
  refine ⟨_, rfl, _, rfl, (by rw [sizeLine_eq]; omega), _, _, rfl, rfl, _, rfl, ite2 (fun g1 => ?_) (fun g1 => ?_)⟩
  rotate_left
  · refine ⟨_, rfl, iteT (iteT (no H (.refl H) (.inl ?_)))⟩
    show (decide (1 ≤ z.length) && decide (z.length ≤ 8) && z.cps.toList.all inLet) = false
    rw [decide_eq_false (show ¬ 1 ≤ z.length from fun h => g1 (decide_eq_true (by omega)))]
    rfl
  have h1 : 1 ≤ z.length := by have := of_decide_eq_true g1; omega
  refine ⟨_, _, rfl, rfl, _, rfl, ?_⟩
  by_cases h8 : (z.length : Int) ≤ 8
  rotate_left
  · rw [decide_eq_false h8]
    refine iteT (iteT (no H (.refl H) (.inl ?_)))
    show (decide (1 ≤ z.length) && decide (z.length ≤ 8) && z.cps.toList.all inLet) = false
    rw [decide_eq_false (show ¬ z.length ≤ 8 by omega), Bool.and_false]
    rfl
  rw [decide_eq_true h8]
  refine iteF ?_
  have ew : wordS z = z.cps.toList.all inLet := by
    show (decide (1 ≤ z.length) && decide (z.length ≤ 8) && z.cps.toList.all inLet) = _
    rw [decide_eq_true h1, decide_eq_true (show z.length ≤ 8 by omega)]
    rfl
  refine ⟨_, rfl, (by show 4 ≤ sizeLine; decide), fun l hl => ?_⟩
  have s1 := same_new hl (.tup [.str "all", .str "any", .str "bell", .str "none"])
  refine ⟨l, _, rfl, .inr (SqT.of upd_same), rfl, strs_flat fourT, _, rfl, ?_⟩
  rw [show [V.str "all", V.str "any", V.str "bell", V.str "none"] = fourT.map V.str from rfl, inV_str] at *
  by_cases h4 : z ∈ fourT
  · rw [decide_eq_true h4]
    exact iteT (no _ s1 (.inr h4))
  rw [decide_eq_false h4]
  refine iteF ?_
  have e2 : nameT (.str z) = z.cps.toList.all inLet := by
    show (wordS z && !decide (z ∈ fourT)) = _
    rw [decide_eq_false h4, ew]
    exact Bool.and_true _
  rw [e2] at q
  generalize upd H l (.tup (fourT.map V.str)) = H1 at s1 ⊢
  refine ⟨_, rfl, z, rfl, fun D hD => ?_⟩
  refine comp_str (z := z) (fun i ys H4 => Same H1 H4 ∧ ys = ((z.cps.toList.take i).map inLet).map V.bl) ⟨same_new hD _, rfl⟩ ?_ ?_
  · rintro i c ys H4 hc ⟨s3, rfl⟩ hD3
    have hc' : z.cps.toList[i]? = some c := by simpa using hc
    have hi : i < z.length := by
      have := (List.getElem?_eq_some_iff.mp hc').1
      rw [tx_len] at this
      exact this
    refine ⟨rfl, tTrue_ite ?_⟩
    refine ⟨_, rfl, _, _, rfl, rfl, _, hD3, ?_, _, ⟨s3.upd hD _, rfl⟩, ?_⟩
    · rw [List.length_map, List.length_map, List.length_take]
      exact small9000 (by omega)
    · rw [take_snoc hc', List.map_append, List.map_append]
      exact upd_same
  rintro ys H4 ⟨s4, rfl⟩ hD4
  have hT : z.cps.toList.take z.cps.size = z.cps.toList := List.take_of_length_le (by simp)
  rw [hT] at hD4
  refine ⟨D, _, rfl, SqL.of hD4, ?_⟩
  rw [all_map]
  exact q H4 (s1.trans s4)
end
end K15
namespace K15
open PySem L2
/-! ### _law_listening_in -/
def lisL (names : List Str) (z : Str) : Th := if lisOk names z = true then lisR names z else .non
theorem rpartition_le (x y : Str) : (Txt.rpartition x y).1.length ≤ x.length ∧ (Txt.rpartition x y).2.2.length ≤ x.length := by
  unfold Txt.rpartition
  cases Builtin.Str.lastOccurrence x y 0 x.length with
  | none => exact ⟨Nat.zero_le _, Nat.le_refl _⟩
  | some i => exact ⟨strSub_length_le .., strSub_length_le ..⟩
theorem numT_int {z : Str} {b : Int} (h : numT z = .int b) : 0 ≤ b := by
  unfold numT at h
  split at h
  · cases h
    omega
  · cases h
section
variable {P : Program} {w : World} {K : PySem.W.Frag} {mg : Str → Option Value} {base : Heap} {f : Addr} {fd : FuncData}
def sp_llis : Sp := fun vs H Q _ => ∃ (z : Str) (nl : Addr) (names : List Str), vs = [.str z, .ref nl] ∧ z.length ≤ 2000 ∧ H nl = some (.lst (names.map V.str)) ∧ names.length ≤ 1000 ∧ ∀ H' v, Same H H' → ThAt H' (lisL names z) v → Q v H'
theorem sc_llis : FnScope ["_law_word", "_law_known", "_law_back", "_law_beats", "_law_name", "_law_cross", "_law_figures_here"] ["_law_word", "_law_known"] (defScope s_listening_in) := ⟨rfl, rfl, rfl, by decide +kernel, rfl, by decide +kernel, by decide +kernel⟩
theorem ok_llis (F : Fun K "_law_listening_in" "_law_listening_in" s_listening_in f fd) (B : Blt mg) (C_num : Cal P w K mg base 1 "_law_number_in" ["_law_word"] sp_lnum) (C_name : Cal P w K mg base 1 "_law_is_name" ["_law_name"] sp_lname) : FnOk P w K mg base CX0 2 f fd ["_law_word", "_law_known"] sp_llis := by
  refine F.ok sc_llis (fun vs H Q E h => ?_) (fun cdv A outer s H vs Q E hr h => ?_)
  · obtain ⟨z, nl, names, rfl, _⟩ := h
    rfl
  obtain ⟨z, nl, names, rfl, hz, hnl, hn, q⟩ := h
  refine ⟨_, (pss_cons (ps_set (i := 2) sc_llis.nd rfl (Or.inl rfl) (pe_op op_sub pe_int (pe_callTy call_int1 rfl B.int_ PyProof.Rows.boot_int (pa_cons (pe_cmpR op_eq (pe_slice sl_str (pv 0) (po_some (pe_un un_neg pe_int)) po_none) pe_str (nomark _)) pa_nil))))
    (pss_cons (ps_asg (pe_bm PySem.F.plainAttrs_str PySem.F.slot_str_rpartition PySem.F.type_str_rpartition mt_rpartition (pe_slice sl_str (pv 0) po_none (po_some (pe_op op_add (pe_op op_sub (pe_callB call_len_str rfl B.len_ PySem.boot_len (pa_cons (pv 0) pa_nil)) pe_int) (pv 2)))) (pa_cons pe_str pa_nil)) (pg_tup rfl (pgs_cons (pg_name (i := 4) sc_llis.nd rfl (Or.inl rfl)) (pgs_cons (pg_name (i := 5) sc_llis.nd rfl (Or.inl rfl)) (pgs_cons (pg_name (i := 6) sc_llis.nd rfl (Or.inl rfl)) pgs_nil)))))
    (pss_cons (ps_set (i := 3) sc_llis.nd rfl (Or.inl rfl) (pe_fn C_num hr (by decide) rfl (pa_cons (pv 6) pa_nil)))
    (pss_cons (ps_if (PW.pt (pw_or (pt_cmpR op_eq (pv 5) pe_str (nomark _)) (pw_or (pt_cmpR op_notIn_seq (pv 4) (pv 1) rfl) (pw_or1 (pt_not (pt_val (pe_fn C_name hr (by decide) rfl (pa_cons (pv 4) pa_nil))))))))
    (pss_one (ps_ret pe_non))
    pss_nil)
    (pss_cons (ps_if (PW.pt (pw_or (pt_cmpR op_isN (pv 3) pe_non (nomark _)) (pw_or1 (pt_not (pt_chain op_le op_le pe_int (pv 3) pe_int)))))
    (pss_one (ps_ret pe_non))
    pss_nil)
    (pss_one (ps_ret (pe_tup (pa_cons (pe_bm PySem.F.plainAttrs_list PySem.F.slot_list_index PySem.F.type_list_index mt_index (pv 1) (pa_cons (pv 4) pa_nil)) (pa_cons (pv 3) (pa_cons (pv 2) pa_nil))))))))))), ?_⟩
  obtain ⟨r1, r2⟩ := lis_read names z
  have lb : (bodyL z).length ≤ z.length := slice_le ..
  obtain ⟨pl1, pl2⟩ := rpartition_le (bodyL z) "+"
  have no : ∀ H', Same H H' → lisOk names z = false → Q .non H' := fun H' s' e => by
    have e2 : lisL names z = .non := by unfold lisL; rw [e]; rfl
    rw [e2] at q
    exact q H' .non s' rfl
  have eb : ∀ b : Bool, b = decide (V.str (Txt.slice z (some (-1)) none) = V.str ("=" : Str)) → (1 : Int) - (if b = true then 1 else 0) = backL z := by
    intro b hb
    unfold backL lastEq
    rw [hb]
    by_cases h : Txt.slice z (some (-1)) none = "="
    · rw [if_pos (decide_eq_true (congrArg V.str h)), if_pos (decide_eq_true h)]
      rfl
    · rw [if_neg (fun q => h (V.str.inj (of_decide_eq_true q))), if_neg (fun q => h (of_decide_eq_true q))]
      rfl
  refine ⟨_, rfl, _, rfl, _, rfl, z, rfl, (by rw [sizeLine_eq]; omega), rfl, .inr ⟨_, rfl, _, _, rfl, rfl, ?_⟩⟩
  dsimp only
  rw [eb _ rfl]
  refine ⟨_, rfl, _, rfl, _, rfl, (by rw [sizeLine_eq]; omega), _, _, rfl, rfl, _, rfl, _, _, rfl, rfl, _, rfl, z, rfl, (by rw [sizeLine_eq]; omega), rfl, bodyL z, "+", rfl, rfl, (by decide +kernel), by omega, fun p hp => ?_⟩
  have s1 := same_new hp (.tup [.str (Txt.rpartition (bodyL z) "+").1, .str (Txt.rpartition (bodyL z) "+").2.1, .str (Txt.rpartition (bodyL z) "+").2.2])
  have hP : (upd H p (.tup [.str (Txt.rpartition (bodyL z) "+").1, .str (Txt.rpartition (bodyL z) "+").2.1, .str (Txt.rpartition (bodyL z) "+").2.2])) p = some (.tup [.str (Txt.rpartition (bodyL z) "+").1, .str (Txt.rpartition (bodyL z) "+").2.1, .str (Txt.rpartition (bodyL z) "+").2.2]) := upd_same
  generalize upd H p (.tup [.str (Txt.rpartition (bodyL z) "+").1, .str (Txt.rpartition (bodyL z) "+").2.1, .str (Txt.rpartition (bodyL z) "+").2.2]) = H1 at s1 hP ⊢
  generalize Txt.rpartition (bodyL z) "+" = pt at *
  obtain ⟨nm, cr, fg⟩ := pt
  dsimp only at *
  refine ⟨p, _, rfl, SqT.of hP, rfl, _, _, rfl, _, _, rfl, _, _, rfl, rfl, ?_⟩
  refine ⟨_, rfl, fg, rfl, by omega, fun H2 v2 s2 hv2 => ?_⟩
  have s02 := s1.trans s2
  refine ⟨_, rfl, rfl, _, rfl, ?_⟩
  by_cases hc : cr = ""
  · rw [decide_eq_true (congrArg V.str hc)]
    exact iteT (iteT (no H2 s02 (r1 (.inl hc))))
  rw [decide_eq_false (fun e => hc (V.str.inj e))]
  refine iteF ⟨_, rfl, _, rfl, nl, _, rfl, .inl (SqL.of (s02 _ _ hnl)), rfl, strs_flat names, _, rfl, ?_⟩
  rw [inV_str]
  by_cases hm : nm ∈ names
  rotate_left
  · rw [decide_eq_false hm]
    exact iteT (iteT (no H2 s02 (r1 (.inr (.inl hm)))))
  rw [decide_eq_true hm]
  refine iteF ⟨_, rfl, nm, rfl, by omega, fun H3 s3 => ⟨_, rfl, ?_⟩⟩
  have s03 := s02.trans s3
  cases hnm : nameT (.str nm) with
  | false => exact iteT (no H3 s03 (r1 (.inr (.inr (.inl hnm)))))
  | true =>
    refine iteF ?_
    rcases numT_cases fg with hb | ⟨b, hb⟩
    · rw [hb] at hv2
      cases hv2
      refine ⟨_, rfl, rfl, _, rfl, iteT (iteT (no H3 s03 (r1 (.inr (.inr (.inr hb))))))⟩
    · obtain ⟨t1, t2⟩ := r2 hc hm hnm b hb
      rw [hb] at hv2
      cases hv2
      refine ⟨_, rfl, rfl, _, rfl, iteF ?_⟩
      refine ⟨_, rfl, _, _, rfl, rfl, _, rfl, ?_⟩
      by_cases h1 : 1 ≤ b
      rotate_left
      · rw [decide_eq_false h1] at t2 ⊢
        refine iteF ⟨_, rfl, iteT (no H3 s03 t2)⟩
      rw [decide_eq_true h1] at t2 ⊢
      refine iteT ⟨_, _, rfl, rfl, _, rfl, ?_⟩
      by_cases h2 : b ≤ 1000
      rotate_left
      · rw [decide_eq_false h2] at t2 ⊢
        exact iteT (no H3 s03 t2)
      rw [decide_eq_true h2] at t2 ⊢
      refine iteF ?_
      have e2 : lisL names z = .tup [.int ((names.findIdx (fun x => decide (x = nm)) : Nat) : Int), .int b, .int (backL z)] := by
        unfold lisL
        rw [t2, ← t1]
        rfl
      rw [e2] at q
      obtain ⟨f1, f2⟩ := find_at hm
      refine ⟨_, rfl, .inl ⟨rfl, _, SqL.of (s03 _ _ hnl)⟩, _, rfl, nl, nm, names, _, rfl, rfl, s03 _ _ hnl, hn, f1, f2, _, rfl, _, rfl, (by show 3 ≤ sizeLine; decide), fun t ht => ?_⟩
      exact q _ _ (s03.trans (same_new ht _)) (tup_th upd_same (th3 rfl rfl rfl))
end
end K15
namespace K15
open PySem L2
/-! ### _law_bell_in -/
def bellL (names : List Str) (k : Nat) (z : Str) : Th := if bellB (bellR names z) (names.take k) names.length = true then bellR names z else .non
theorem bell_parts {names ahead ws : List Str} {z : Str} (hs : Txt.split z " " = ws) (h4 : 4 ≤ ws.length) : bellR names z = .tup [.str (ws.getD 0 Str.empty), numT (ws.getD 1 Str.empty), ruleR (ws.getD 2 Str.empty), .tup ((ws.drop 3).map (lisR names))] ∧
    bellB (bellR names z) ahead names.length = (nameT (.str (ws.getD 0 Str.empty)) && !decide (ws.getD 0 Str.empty ∈ ahead) && inT (numT (ws.getD 1 Str.empty)) 0 1000 && ((decide ((ws.drop 3).length ≤ 6) && (ws.drop 3).all (lisOk names)) && ruleT (ruleR (ws.getD 2 Str.empty)) ((ws.drop 3).length : Nat))) := by
  have e : bellR names z = .tup [.str (ws.getD 0 Str.empty), numT (ws.getD 1 Str.empty), ruleR (ws.getD 2 Str.empty), .tup ((ws.drop 3).map (lisR names))] := by
    unfold bellR
    rw [hs, if_neg (by omega)]
  refine ⟨e, ?_⟩
  rw [e]
  show (nameT _ && !inA (.str _) ahead && inT _ 0 1000 && (lissB (.tup ((ws.drop 3).map (lisR names))) names.length && ruleT _ ((((ws.drop 3).map (lisR names)).length : Nat) : Int))) = _
  have e1 : lissB (.tup ((ws.drop 3).map (lisR names))) names.length = (decide ((ws.drop 3).length ≤ 6) && (ws.drop 3).all (lisOk names)) := by
    show (decide (1 ≤ ((ws.drop 3).map (lisR names)).length) && decide (((ws.drop 3).map (lisR names)).length ≤ 6) && ((ws.drop 3).map (lisR names)).all (fun t => lisB t names.length)) = _
    rw [List.length_map, decide_eq_true (show 1 ≤ (ws.drop 3).length by rw [List.length_drop]; omega), List.all_map]
    rfl
  rw [e1, List.length_map]
  rfl
theorem lisOk_tup {names : List Str} {z : Str} (h : lisOk names z = true) : ∃ ts, lisR names z = .tup ts := by
  unfold lisOk at h
  cases e : lisR names z with
  | tup ts => exact ⟨ts, rfl⟩
  | _ => rw [e] at h; cases h
theorem lisL_at {K : PySem.W.Frag} {H : Hp} {names : List Str} : ∀ {ws : List Str} {ys : List V}, ThsAt H (ws.map (lisL names)) ys → (∀ u ∈ ys, NonT K H u) ∧ ys.any isN = !(ws.all (lisOk names)) ∧ (ws.all (lisOk names) = true → ThsAt H (ws.map (lisR names)) ys)
  | [], _, h => by cases h; exact ⟨(fun u hu => by cases hu), rfl, fun _ => rfl⟩
  | z :: ws, _, ⟨v, r, e, h1, h2⟩ => by
    subst e
    obtain ⟨a1, a2, a3⟩ := lisL_at (K := K) h2
    rw [List.any_cons, List.all_cons, a2]
    cases hz : lisOk names z with
    | false =>
      have ev : v = .non := by
        have : lisL names z = .non := by unfold lisL; rw [hz]; rfl
        rw [this] at h1
        exact h1
      subst ev
      refine ⟨fun u hu => ?_, rfl, (fun q => by cases q)⟩
      rcases List.mem_cons.mp hu with rfl | hu
      · exact .inl rfl
      · exact a1 u hu
    | true =>
      have el : lisL names z = lisR names z := by unfold lisL; rw [hz]; rfl
      rw [el] at h1
      obtain ⟨ts, et⟩ := lisOk_tup hz
      have h1' := h1
      rw [et] at h1'
      obtain ⟨p, vs, rfl, hp, _⟩ := h1'
      refine ⟨fun u hu => ?_, rfl, fun q => ⟨_, _, rfl, h1, a3 q⟩⟩
      rcases List.mem_cons.mp hu with rfl | hu
      · exact .inr ⟨p, vs, rfl, SqT.of hp⟩
      · exact a1 u hu
section
variable {P : Program} {w : World} {K : PySem.W.Frag} {mg : Str → Option Value} {base : Heap} {f : Addr} {fd : FuncData}
def sp_lbell : Sp := fun vs H Q _ => ∃ (z : Str) (nl : Addr) (names : List Str) (k : Nat), vs = [.str z, .ref nl, .int k] ∧ z.length ≤ 1900 ∧ H nl = some (.lst (names.map V.str)) ∧ names.length ≤ 1000 ∧ k ≤ names.length ∧ ∀ H' v, Same H H' → ThAt H' (bellL names k z) v → Q v H'
theorem sc_lbell : FnScope ["_law_row", "_law_known", "_law_k", "_law_words", "_law_start", "_law_rule", "_law_listenings"] ["_law_row", "_law_known", "_law_k"] (defScope s_bell_in) := ⟨rfl, rfl, rfl, by decide +kernel, rfl, by decide +kernel, by decide +kernel⟩
theorem ok_lbell (F : Fun K "_law_bell_in" "_law_bell_in" s_bell_in f fd) (B : Blt mg) (C_num : Cal P w K mg base 1 "_law_number_in" ["_law_word"] sp_lnum) (C_name : Cal P w K mg base 1 "_law_is_name" ["_law_name"] sp_lname) (C_lis : Cal P w K mg base 2 "_law_listening_in" ["_law_word", "_law_known"] sp_llis) : FnOk P w K mg base CX0 3 f fd ["_law_row", "_law_known", "_law_k"] sp_lbell := by
  refine F.ok sc_lbell (fun vs H Q E h => ?_) (fun cdv A outer s H vs Q E hr h => ?_)
  · obtain ⟨z, nl, names, k, rfl, _⟩ := h
    rfl
  obtain ⟨z, nl, names, k, rfl, hz, hnl, hn, hk, q⟩ := h
  refine ⟨_, (pss_cons (ps_set (i := 3) sc_lbell.nd rfl (Or.inl rfl) (pe_bm PySem.F.plainAttrs_str PySem.F.slot_str_split PySem.F.type_str_split mt_split (pv 0) (pa_cons pe_str pa_nil)))
    (pss_cons (ps_if (PW.pt (pw_or (pt_cmpR op_lt (pe_callB call_len_seq rfl B.len_ PySem.boot_len (pa_cons (pv 3) pa_nil)) pe_int (nomark _)) (pw_or (pt_cmpR op_gt (pe_callB call_len_seq rfl B.len_ PySem.boot_len (pa_cons (pv 3) pa_nil)) pe_int (nomark _)) (pw_or (pt_not (pt_val (pe_fn C_name hr (by decide) rfl (pa_cons (pe_ix ix_list (pv 3) pe_int (fun _ _ => rfl)) pa_nil)))) (pw_or1 (pt_cmpR op_in_seq (pe_ix ix_list (pv 3) pe_int (fun _ _ => rfl)) (pe_slice sl_list (pv 1) po_none (po_some (pv 2))) rfl))))))
    (pss_one (ps_ret pe_non))
    pss_nil)
    (pss_cons (ps_set (i := 4) sc_lbell.nd rfl (Or.inl rfl) (pe_fn C_num hr (by decide) rfl (pa_cons (pe_ix ix_list (pv 3) pe_int (fun _ _ => rfl)) pa_nil)))
    (pss_cons (ps_set (i := 5) sc_lbell.nd rfl (Or.inl rfl) (pe_ix ix_list (pv 3) pe_int (fun _ _ => rfl)))
    (pss_join (ps_if (pt_cmpR op_notIn_seq (pv 5) (pe_tup (pa_cons pe_str (pa_cons pe_str pa_nil))) rfl)
    (pss_cons (ps_set (i := 5) sc_lbell.nd rfl (Or.inl rfl) (pe_fn C_num hr (by decide) rfl (pa_cons (pv 5) pa_nil)))
    (pss_one (ps_if (PW.pt (pw_or (pt_cmpR op_isN (pv 5) pe_non (nomark _)) (pw_or1 (pt_not (pt_chain op_le op_le pe_int (pv 5) (pe_op op_sub (pe_callB call_len_seq rfl B.len_ PySem.boot_len (pa_cons (pv 3) pa_nil)) pe_int))))))
    (pss_one (ps_ret pe_non))
    pss_nil)))
    pss_nil)
    (pss_cons (ps_set (i := 6) sc_lbell.nd rfl (Or.inl rfl) (pe_callTy call_tuple_of rfl B.tuple_ PyProof.Rows.boot_tuple (pa_cons (pe_comp ["_law_word"] ["_law_known"] [1] rfl (pi_list (pe_slice sl_list (pv 3) (po_some pe_int) po_none)) (fun _ _ _ _ _ => (pg_name (i := 0) (show List.Nodup [("_law_word" : Str), ("_law_known" : Str)] by decide +kernel) rfl (Or.inl rfl))) (fun _ _ _ _ _ => pts_nil) (fun _ _ _ _ _ => (pe_fn C_lis hr (by decide) rfl (pa_cons (pv 0) (pa_cons (pv 1) pa_nil))))) pa_nil)))
    (pss_cons (ps_if (PW.pt (pw_or (pt_cmpR op_isN (pv 4) pe_non (nomark _)) (pw_or (pt_cmpR op_gt (pv 4) pe_int (nomark _)) (pw_or1 (pt_cmpR (op_inN hr.units) pe_non (pv 6) rfl)))))
    (pss_one (ps_ret pe_non))
    pss_nil)
    (pss_one (ps_ret (pe_tup (pa_cons (pe_ix ix_list (pv 3) pe_int (fun _ _ => rfl)) (pa_cons (pv 4) (pa_cons (pv 5) (pa_cons (pv 6) pa_nil)))))))))))))), ?_⟩
  have no : ∀ H', Same H H' → bellB (bellR names z) (names.take k) names.length = false → Q .non H' := fun H' s' e => by
    have e2 : bellL names k z = .non := by unfold bellL; rw [e]; rfl
    rw [e2] at q
    exact q H' .non s' rfl
  refine ⟨_, rfl, rfl, z, " ", rfl, rfl, (by decide +kernel), by omega, fun l hl => ?_⟩
  have s1 := same_new hl (.lst ((Txt.split z " ").map V.str))
  have hL : (upd H l (.lst ((Txt.split z " ").map V.str))) l = some (.lst ((Txt.split z " ").map V.str)) := upd_same
  have hsh : ∀ a ∈ Txt.split z " ", a.length ≤ z.length := fun a h => PyProof.Rows.part_short h
  have hle := PyProof.Rows.split_le z " "
  generalize upd H l (.lst ((Txt.split z " ").map V.str)) = H1 at s1 hL ⊢
  obtain ⟨ws, hws⟩ : ∃ ws, Txt.split z " " = ws := ⟨_, rfl⟩
  rw [hws] at hL hsh hle
  refine ⟨_, rfl, l, _, rfl, .inl (SqL.of hL), _, _, rfl, rfl, _, rfl, ?_⟩
  rw [List.length_map]
  by_cases c4 : ws.length < 4
  · rw [decide_eq_true (show ((ws.length : Nat) : Int) < 4 by omega)]
    refine iteT (iteT (no H1 s1 ?_))
    have : bellR names z = .non := by
      unfold bellR
      rw [hws, if_pos c4]
    rw [this]
    rfl
  rw [decide_eq_false (show ¬ ((ws.length : Nat) : Int) < 4 by omega)]
  obtain ⟨eR, eB⟩ := bell_parts (names := names) (ahead := names.take k) hws (by omega)
  have hdl : (ws.drop 3).length = ws.length - 3 := List.length_drop
  refine iteF ⟨_, rfl, l, _, rfl, .inl (SqL.of hL), _, _, rfl, rfl, _, rfl, ?_⟩
  rw [List.length_map]
  by_cases c9 : 9 < ws.length
  · rw [decide_eq_true (show (9 : Int) < ((ws.length : Nat) : Int) by omega)]
    rw [decide_eq_false (show ¬ (ws.drop 3).length ≤ 6 by omega), Bool.false_and, Bool.false_and, Bool.and_false] at eB
    exact iteT (iteT (no H1 s1 eB))
  rw [decide_eq_false (show ¬ (9 : Int) < ((ws.length : Nat) : Int) by omega)]
  rw [decide_eq_true (show (ws.drop 3).length ≤ 6 by omega), Bool.true_and] at eB
  refine iteF ⟨_, rfl, l, _, _, _, rfl, rfl, SqL.of hL, atI_nat (j := 0) (getD_at (by omega)), _, rfl, (by have := hsh _ (getD_mem (i := 0) (show 0 < ws.length by omega)); omega), fun H2 s2 => ⟨_, rfl, ?_⟩⟩
  have s02 := s1.trans s2
  cases e0 : nameT (.str (ws.getD 0 Str.empty)) with
  | false =>
    rw [e0, Bool.false_and, Bool.false_and, Bool.false_and] at eB
    exact iteT (iteT (no H2 s02 eB))
  | true =>
  rw [e0, Bool.true_and] at eB
  have hL2 := s2 _ _ hL
  refine iteF ⟨_, rfl, l, _, _, _, rfl, rfl, SqL.of hL2, atI_nat (j := 0) (getD_at (by omega)), _, rfl, _, rfl, _, rfl, nl, _, rfl, SqL.of (s02 _ _ hnl), fun p hp => ?_⟩
  rw [cut_upto names k hk]
  have s3 := same_new hp (.lst ((names.take k).map V.str))
  have hp3 := upd_same (H := H2) (a := p) (o := .lst ((names.take k).map V.str))
  generalize upd H2 p (.lst ((names.take k).map V.str)) = H3 at s3 hp3 ⊢
  have s03 := s02.trans s3
  refine ⟨p, _, rfl, .inl (SqL.of hp3), rfl, strs_flat _, _, rfl, ?_⟩
  rw [inV_str]
  by_cases hin : ws.getD 0 Str.empty ∈ names.take k
  · rw [decide_eq_true hin]
    rw [decide_eq_true hin] at eB
    exact iteT (no H3 s03 eB)
  rw [decide_eq_false hin]
  rw [decide_eq_false hin] at eB
  refine iteF ?_
  have hL3 := s3 _ _ hL2
  have s13 := s2.trans s3
  clear s2 s3 hp hp3 hL2 s02 hl hL
  -- start
  refine ⟨_, rfl, l, _, _, _, rfl, rfl, SqL.of hL3, atI_nat (j := 1) (getD_at (by omega)), _, rfl, (by have := hsh _ (getD_mem (i := 1) (show 1 < ws.length by omega)); omega), fun H4 v4 s4 ht4 => ?_⟩
  have s04 := s03.trans s4
  have hL4 := s4 _ _ hL3
  refine ⟨_, rfl, l, _, _, _, rfl, rfl, SqL.of hL4, atI_nat (j := 2) (getD_at (by omega)), ?_⟩
  have hw2 := hsh _ (getD_mem (i := 2) (show 2 < ws.length by omega))
  have hw0 := hsh _ (getD_mem (i := 0) (show 0 < ws.length by omega))
  refine ⟨fun σ H5 => ∃ v5, σ = [some (.str z), some (.ref nl), some (.int k), some (.ref l), some v4, some v5, none] ∧ Same H4 H5 ∧ ThAt H5 (ruleR (ws.getD 2 Str.empty)) v5 ∧ ruleT (ruleR (ws.getD 2 Str.empty)) ((ws.drop 3).length : Nat) = true, ?_, ?_⟩
  · refine ⟨_, rfl, (by show 2 ≤ sizeLine; decide), fun t ht => ?_⟩
    have u1 : Same H4 (upd H4 t (.tup ((["all", "any"] : List Str).map V.str))) := same_new ht _
    refine ⟨t, _, rfl, .inr (SqT.of upd_same), rfl, strs_flat ["all", "any"], _, rfl, ?_⟩
    rw [show [V.str "all", V.str "any"] = (["all", "any"] : List Str).map V.str from rfl, inV_str]
    generalize upd H4 t (.tup ((["all", "any"] : List Str).map V.str)) = H5 at u1 ⊢
    by_cases h : ws.getD 2 Str.empty = "all" ∨ ws.getD 2 Str.empty = "any"
    · rw [decide_eq_true (show ws.getD 2 Str.empty ∈ (["all", "any"] : List Str) by rcases h with h | h <;> rw [h] <;> simp)]
      have e2 : ruleR (ws.getD 2 Str.empty) = .str (ws.getD 2 Str.empty) := if_pos h
      refine iteF ⟨_, rfl, u1, ?_, ?_⟩
      · rw [e2]
        exact ⟨rfl, by omega⟩
      · rw [e2]
        show (decide (ws.getD 2 Str.empty = "all") || decide (ws.getD 2 Str.empty = "any")) = true
        rcases h with h | h
        · rw [decide_eq_true h]; rfl
        · rw [decide_eq_true h, Bool.or_true]
    · rw [decide_eq_false (by
        intro hm
        rcases List.mem_cons.mp hm with h1 | h1
        · exact h (.inl h1)
        · exact h (.inr (List.mem_singleton.mp h1)))]
      have e2 : ruleR (ws.getD 2 Str.empty) = numT (ws.getD 2 Str.empty) := if_neg h
      rw [e2] at eB ⊢
      refine iteT ⟨_, rfl, _, rfl, by omega, fun H6 v6 s6 ht6 => ?_⟩
      have s06 := s04.trans (u1.trans s6)
      rcases numT_cases (ws.getD 2 Str.empty) with hb | ⟨b, hb⟩
      · rw [hb] at ht6 eB
        cases ht6
        refine ⟨_, rfl, rfl, _, rfl, iteT (iteT (no H6 s06 ?_))⟩
        rw [eB]
        show (_ && (_ && false)) = false
        rw [Bool.and_false, Bool.and_false]
      · rw [hb] at ht6 eB ⊢
        cases ht6
        refine ⟨_, rfl, rfl, _, rfl, iteF ?_⟩
        refine ⟨_, rfl, _, _, rfl, rfl, _, rfl, ?_⟩
        by_cases h1 : 1 ≤ b
        rotate_left
        · rw [decide_eq_false h1]
          refine iteF ⟨_, rfl, iteT (no H6 s06 ?_)⟩
          rw [eB]
          show (_ && (_ && (decide (1 ≤ b) && _))) = false
          rw [decide_eq_false h1, Bool.false_and, Bool.and_false, Bool.and_false]
        rw [decide_eq_true h1]
        refine iteT ⟨_, rfl, l, _, rfl, .inl (SqL.of ((u1.trans s6) _ _ hL4)), _, _, rfl, rfl, _, _, rfl, rfl, _, rfl, ?_⟩
        rw [List.length_map]
        by_cases h2 : b ≤ ((ws.length : Nat) : Int) - 3
        rotate_left
        · rw [decide_eq_false h2]
          refine iteT (no H6 s06 ?_)
          rw [eB]
          show (_ && (_ && (_ && decide (b ≤ (((ws.drop 3).length : Nat) : Int))))) = false
          rw [decide_eq_false (show ¬ b ≤ (((ws.drop 3).length : Nat) : Int) by omega), Bool.and_false, Bool.and_false, Bool.and_false]
        rw [decide_eq_true h2]
        refine iteF ⟨_, rfl, u1.trans s6, rfl, ?_⟩
        show (decide (1 ≤ b) && decide (b ≤ (((ws.drop 3).length : Nat) : Int))) = true
        rw [decide_eq_true h1, decide_eq_true (show b ≤ (((ws.drop 3).length : Nat) : Int) by omega)]
        rfl
  rintro σ H5 ⟨v5, rfl, s5, ht5, hrt⟩
  rw [hrt, Bool.and_true] at eB
  have hL5 := s5 _ _ hL4
  have s05 := s04.trans s5
  refine ⟨_, rfl, _, rfl, l, _, rfl, SqL.of hL5, fun l2 hl2 => ?_⟩
  rw [cut_three' ws (by omega)]
  have s6 := same_new hl2 (.lst ((ws.drop 3).map V.str))
  have hL2 : (upd H5 l2 (.lst ((ws.drop 3).map V.str))) l2 = some (.lst ((ws.drop 3).map V.str)) := upd_same
  generalize upd H5 l2 (.lst ((ws.drop 3).map V.str)) = H6 at s6 hL2 ⊢
  have s06 := s05.trans s6
  refine ⟨l2, rfl, ⟨_, SqL.of hL2⟩, fun D hD => ?_⟩
  refine comp_list (K := K) (a := l2) (xs := (ws.drop 3).map V.str) (fun i ys H7 => Same H6 H7 ∧ ThsAt H7 (((ws.drop 3).take i).map (lisL names)) ys) ⟨same_new hD _, rfl⟩ (fun i ys H7 _ ⟨s, _⟩ => SqL.of (s _ _ hL2)) ?_ ?_
  · rintro i x ys H7 hx ⟨s7, hy⟩ hD7
    rw [List.getElem?_map] at hx
    obtain ⟨a, ha, rfl⟩ : ∃ a, (ws.drop 3)[i]? = some a ∧ V.str a = x := by
      cases e : (ws.drop 3)[i]? with
      | none => rw [e] at hx; cases hx
      | some a => rw [e] at hx; exact ⟨a, rfl, Option.some.inj hx⟩
    have ham : a ∈ ws := List.mem_of_mem_drop (List.mem_of_getElem? ha)
    have hal := hsh a ham
    have hil := (List.getElem?_eq_some_iff.mp ha).1
    refine ⟨rfl, tTrue_ite ?_⟩
    refine ⟨_, rfl, _, rfl, a, nl, names, rfl, by omega, (s06.trans s7) _ _ hnl, hn, fun H8 v s8 ht => ?_⟩
    have hyl := hy.len
    rw [List.length_map, List.length_take] at hyl
    refine ⟨_, s8 _ _ hD7, small9000 (by omega), _, ⟨(s7.trans s8).upd hD _, ?_⟩, upd_same⟩
    rw [take_snoc ha, List.map_append]
    exact ThsAt.snoc (ThsAt.kin ((Same.kin s8).trans (kin_upd (s8 _ _ hD7))) _ hy) (ThAt.kin (kin_upd (s8 _ _ hD7)) _ ht)
  rintro ys H7 ⟨s7, hy⟩ hD7
  rw [List.length_map, List.take_length] at hy
  refine ⟨D, _, rfl, .inl ⟨SqL.of hD7, fun T hT => ?_⟩⟩
  have s8 := same_new hT (.tup ys)
  have hT8 := upd_same (H := H7) (a := T) (o := .tup ys)
  generalize upd H7 T (.tup ys) = H8 at s8 hT8 ⊢
  have s68 := s7.trans s8
  have s08 := s06.trans s68
  have hy8 := ThsAt.same s8 _ hy
  have s48 := s5.trans (s6.trans s68)
  have ht48 := ThAt.same s48 _ ht4
  have ht58 := ThAt.same (s6.trans s68) _ ht5
  have hL8 := s48 _ _ hL4
  clear s5 s6 s7 s8 s68 hD hD7 hT hL5 hL2 hl2 ht4 ht5 hy s05 s06
  rcases numT_cases (ws.getD 1 Str.empty) with hb | ⟨b, hb⟩
  · rw [hb] at ht48 eB
    cases ht48
    refine ⟨_, rfl, rfl, _, rfl, iteT (iteT (no H8 s08 ?_))⟩
    rw [eB]
    show (_ && false && _) = false
    rw [Bool.and_false, Bool.false_and]
  have b0 := numT_int hb
  have ht48' := ht48
  rw [hb] at ht48' eB
  cases ht48'
  refine ⟨_, rfl, rfl, _, rfl, iteF ?_⟩
  refine ⟨_, rfl, _, _, rfl, rfl, _, rfl, ?_⟩
  have eI : inT (.int b) 0 1000 = decide (b ≤ 1000) := by
    show (decide (0 ≤ b) && decide (b ≤ 1000)) = _
    rw [decide_eq_true b0]
    rfl
  rw [eI] at eB
  by_cases h1 : 1000 < b
  · rw [decide_eq_true h1]
    refine iteT (iteT (no H8 s08 ?_))
    rw [eB, decide_eq_false (show ¬ b ≤ 1000 by omega)]
    show (_ && false && _) = false
    rw [Bool.and_false, Bool.false_and]
  rw [decide_eq_false h1]
  rw [decide_eq_true (show b ≤ 1000 by omega)] at eB
  obtain ⟨a1, a2, a3⟩ := lisL_at (K := K) hy8
  refine iteF ⟨_, rfl, rfl, T, ys, rfl, .inr (SqT.of hT8), a1, _, rfl, ?_⟩
  rw [a2]
  cases eA : (ws.drop 3).all (lisOk names) with
  | false =>
    rw [eA] at eB
    exact iteT (no H8 s08 (by rw [eB]; rfl))
  | true =>
    rw [eA] at eB
    refine iteF ?_
    have e2 : bellL names k z = bellR names z := by unfold bellL; rw [eB]; rfl
    rw [e2, eR] at q
    refine ⟨_, rfl, l, _, _, _, rfl, rfl, SqL.of hL8, atI_nat (j := 0) (getD_at (by omega)), _, rfl, _, rfl, _, rfl, (by show 4 ≤ sizeLine; decide), fun r hr' => ?_⟩
    have v2 := same_new hr' (.tup [.str (ws.getD 0 Str.empty), .int b, v5, .ref T])
    exact q _ _ (s08.trans v2) (tup_th upd_same (th4 ⟨rfl, by omega⟩ (ThAt.same v2 _ ht48) (ThAt.same v2 _ ht58) (tup_th (v2 _ _ hT8) (ThsAt.same v2 _ (a3 eA)))))
end
end K15
namespace K15
open PySem L2
/-! ### _law_read -/
def GoodR15 (zs : List Str) (k : Nat) : Prop := ∀ z, zs[k]? = some z → bellB (bellR (zs.map headR) z) ((zs.map headR).take k) zs.length = true
def BadR15 (zs : List Str) (k : Nat) : Prop := ∃ z, zs[k]? = some z ∧ bellB (bellR (zs.map headR) z) ((zs.map headR).take k) zs.length = false
theorem good_bad {zs : List Str} {k : Nat} (g : GoodR15 zs k) (b : BadR15 zs k) : False := by
  obtain ⟨z, h1, h2⟩ := b
  rw [g z h1] at h2
  cases h2
theorem bellB_tup {t : Th} {ahead : List Str} {m : Int} (h : bellB t ahead m = true) : ∃ z s r l, t = .tup [.str z, s, r, l] := by
  unfold bellB at h
  split at h
  · rename_i n s r l
    simp only [Bool.and_eq_true] at h
    cases n with
    | str z => exact ⟨z, s, r, l, rfl⟩
    | _ => exact absurd h.1.1.1 (by simp [nameT])
  · cases h
theorem bellL_good {zs : List Str} {k : Nat} {z : Str} (hz : zs[k]? = some z) (g : GoodR15 zs k) : bellL (zs.map headR) k z = bellR (zs.map headR) z := by
  have := g z hz
  unfold bellL
  rw [List.length_map, this]
  rfl
theorem bellL_bad {zs : List Str} {k : Nat} {z : Str} (h : bellB (bellR (zs.map headR) z) ((zs.map headR).take k) zs.length = false) : bellL (zs.map headR) k z = .non := by
  unfold bellL
  rw [List.length_map, h]
  rfl
theorem good_or_bad {zs : List Str} {k : Nat} {z : Str} (hz : zs[k]? = some z) : GoodR15 zs k ∨ BadR15 zs k := by
  cases e : bellB (bellR (zs.map headR) z) ((zs.map headR).take k) zs.length with
  | true =>
    refine .inl fun z' hz' => ?_
    rw [hz] at hz'
    cases hz'
    exact e
  | false => exact .inr ⟨z, hz, e⟩
section
variable {P : Program} {w : World} {K : PySem.W.Frag} {mg : Str → Option Value} {base : Heap} {f : Addr} {fd : FuncData}
def sp_lread : Sp := fun vs H Q _ => ∃ (l : Addr) (zs : List Str), vs = [.ref l] ∧ H l = some (.lst (zs.map V.str)) ∧ zs.length ≤ 6 ∧ (∀ z ∈ zs, z.length ≤ 1900) ∧
  ((∀ (k : Nat) H', (∀ i, i < k → GoodR15 zs i) → BadR15 zs k → Same H H' → Q (.int k) H') ∧ ((∀ i, GoodR15 zs i) → ∀ H' v, Same H H' → ThAt H' (.tup (zs.map (bellR (zs.map headR)))) v → Q v H'))
theorem sc_lread : FnScope ["_law_rows", "_law_known", "_law_bells"] ["_law_rows"] (defScope s_read) := ⟨rfl, rfl, rfl, by decide +kernel, rfl, by decide +kernel, by decide +kernel⟩
theorem ok_lread (F : Fun K "_law_read" "_law_read" s_read f fd) (B : Blt mg) (C_bell : Cal P w K mg base 3 "_law_bell_in" ["_law_row", "_law_known", "_law_k"] sp_lbell) : FnOk P w K mg base CX0 4 f fd ["_law_rows"] sp_lread := by
  refine F.ok sc_lread (fun vs H Q E h => ?_) (fun cdv A outer s H vs Q E hr h => ?_)
  · obtain ⟨l, zs, rfl, _⟩ := h
    rfl
  obtain ⟨l, zs, rfl, hl, z6, hz, qB, qG⟩ := h
  refine ⟨_, (pss_cons (ps_set (i := 1) sc_lread.nd rfl (Or.inr rfl) (pe_comp ["_law_row"] [] [] rfl (pi_list (pv 0)) (fun _ _ _ _ _ => (pg_name (i := 0) (show List.Nodup [("_law_row" : Str)] by decide +kernel) rfl (Or.inl rfl))) (fun _ _ _ _ _ => pts_nil) (fun _ _ _ _ _ => (pe_ix (ix_listC (K := K) rfl) (pe_bmC (K := K) rfl PySem.F.plainAttrs_str PySem.F.slot_str_split PySem.F.type_str_split mt_split (pv 0) (pa_cons pe_str pa_nil)) pe_int (fun _ _ => rfl)))))
    (pss_cons (ps_setComp (i := 2) ["_law_k"] ["_law_known", "_law_rows"] [1, 0] rfl sc_lread.nd rfl (Or.inl rfl) (pi_range1 rfl B.range_ (pa_cons (pe_callB call_len_seq rfl B.len_ PySem.boot_len (pa_cons (pv 0) pa_nil)) pa_nil)) (fun _ _ _ _ _ => (pg_name (i := 0) (show List.Nodup [("_law_k" : Str), ("_law_known" : Str), ("_law_rows" : Str)] by decide +kernel) rfl (Or.inl rfl))) (fun _ _ _ _ _ => pts_nil) (fun _ _ _ _ _ => (pe_fn C_bell hr (by decide) rfl (pa_cons (pe_ix (ix_listC (K := K) rfl) (pv 2) (pv 0) (fun _ _ => rfl)) (pa_cons (pv 1) (pa_cons (pv 0) pa_nil))))))
    (pss_cons (ps_if (pt_cmpR (op_inN hr.units) pe_non (pv 2) rfl)
    (pss_one (ps_ret (pe_bm PySem.F.plainAttrs_list PySem.F.slot_list_index PySem.F.type_list_index (mt_indexN hr.units) (pv 2) (pa_cons pe_non pa_nil))))
    pss_nil)
    (pss_one (ps_ret (pe_callTy call_tuple_of rfl B.tuple_ PyProof.Rows.boot_tuple (pa_cons (pv 2) pa_nil))))))), ?_⟩
  refine ⟨_, rfl, l, rfl, ⟨_, SqL.of hl⟩, fun D hD => ?_⟩
  refine comp_list (K := K) (a := l) (xs := zs.map V.str) (fun i ys H3 => Same H H3 ∧ ys = ((zs.take i).map headR).map V.str) ⟨same_new hD _, rfl⟩ (fun i ys H3 _ ⟨z, _⟩ => SqL.of (z _ _ hl)) ?_ ?_
  · rintro i x ys H3 hx ⟨s3, rfl⟩ hD3
    obtain ⟨a, ha, rfl⟩ : ∃ a, zs[i]? = some a ∧ V.str a = x := by
      rw [List.getElem?_map] at hx
      cases e : zs[i]? with
      | none => rw [e] at hx; cases hx
      | some a => rw [e] at hx; exact ⟨a, rfl, Option.some.inj hx⟩
    have hal := hz a (List.mem_of_getElem? ha)
    refine ⟨rfl, tTrue_ite ?_⟩
    have hp0 := PyProof.Rows.split_pos a " "
    refine ⟨_, rfl, rfl, a, " ", rfl, rfl, (by decide +kernel), by omega, fun p hp => ?_⟩
    have v1 := same_new hp (.lst ((Txt.split a " ").map V.str))
    refine ⟨p, _, _, _, rfl, rfl, SqL.of upd_same, atI_nat (j := 0) (getD_at (by omega)), _, v1 _ _ hD3, ?_, _, ⟨(s3.trans v1).upd hD _, rfl⟩, ?_⟩
    · rw [List.length_map, List.length_map, List.length_take]
      exact small9000 (by omega)
    · rw [take_snoc ha, List.map_append, List.map_append]
      exact upd_same
  rintro ys H2 ⟨s2, rfl⟩ hD2
  rw [List.length_map, List.take_length] at hD2
  have hl2 := s2 _ _ hl
  refine ⟨_, rfl, l, _, rfl, .inl (SqL.of hl2), (((zs.map V.str).length : Nat) : Int), rfl, by rw [List.length_map]; omega, by rw [List.length_map]; omega, fun D2 hD3 => ?_⟩
  refine comp_range (fun j ys H4 => Same H2 H4 ∧ ThsAt H4 ((zs.take j).mapIdx (bellL (zs.map headR))) ys) ⟨same_new hD3 _, rfl⟩ ?_ ?_
  · rintro j ys H4 hj ⟨s4, hy⟩ hD4
    rw [List.length_map] at hj
    have hj' : j < zs.length := by omega
    have hat := List.getElem?_eq_getElem hj'
    rw [Int.zero_add]
    refine ⟨rfl, tTrue_ite ?_⟩
    refine ⟨_, rfl, _, rfl, l, _, _, _, rfl, rfl, SqL.of (s4 _ _ hl2), atI_nat (v := V.str zs[j]) (by rw [List.getElem?_map, hat]; rfl), _, rfl, _, rfl, zs[j], D, zs.map headR, j, rfl, hz _ (List.getElem_mem hj'), s4 _ _ hD2, by rw [List.length_map]; omega, by rw [List.length_map]; omega, fun H5 v s5 ht => ?_⟩
    have hyl := hy.len
    rw [List.length_mapIdx, List.length_take] at hyl
    refine ⟨_, s5 _ _ hD4, small9000 (by omega), _, ⟨(s4.trans s5).upd hD3 _, ?_⟩, upd_same⟩
    rw [take_snoc hat, List.mapIdx_concat, List.length_take, Nat.min_eq_left (Nat.le_of_lt hj')]
    exact ThsAt.snoc (ThsAt.kin ((Same.kin s5).trans (kin_upd (s5 _ _ hD4))) _ hy) (ThAt.kin (kin_upd (s5 _ _ hD4)) _ ht)
  rintro ys H4 ⟨s4, hy⟩ hD4
  have hT : (((zs.map V.str).length : Nat) : Int).toNat = zs.length := by rw [List.length_map]; omega
  rw [hT, List.take_length] at hy
  have hyl := hy.len
  rw [List.length_mapIdx] at hyl
  have s04 := s2.trans s4
  have at_ : ∀ (i : Nat) z, zs[i]? = some z → ∃ u, ys[i]? = some u ∧ ThAt H4 (bellL (zs.map headR) i z) u := fun i z h => hy.at (by rw [List.getElem?_mapIdx, h]; rfl)
  have kind : ∀ (i : Nat) u, ys[i]? = some u → (BadR15 zs i ∧ u = .non) ∨ (GoodR15 zs i ∧ ∃ p vs, u = .ref p ∧ H4 p = some (.tup vs)) := fun i u hu => by
    have hi : i < zs.length := by
      have := (List.getElem?_eq_some_iff.mp hu).1
      omega
    have hat := List.getElem?_eq_getElem hi
    obtain ⟨u', h1, h2⟩ := at_ i _ hat
    obtain rfl : u' = u := Option.some.inj (h1.symm.trans hu)
    rcases good_or_bad hat with g | b
    · refine .inr ⟨g, ?_⟩
      rw [bellL_good hat g] at h2
      obtain ⟨_, _, _, _, e⟩ := bellB_tup (g _ hat)
      rw [e] at h2
      obtain ⟨p, vs, e1, e2, _⟩ := h2
      exact ⟨p, vs, e1, e2⟩
    · refine .inl ⟨b, ?_⟩
      obtain ⟨z, hz1, hz2⟩ := b
      rw [hat] at hz1
      cases hz1
      rw [bellL_bad hz2] at h2
      exact h2
  have nt : ∀ u ∈ ys, NonT K H4 u := fun u hu => by
    obtain ⟨i, hi⟩ := List.getElem?_of_mem hu
    rcases kind i u hi with ⟨_, e⟩ | ⟨_, p, vs, e, hp⟩
    · exact .inl e
    · exact .inr ⟨p, vs, e, SqT.of hp⟩
  refine ⟨_, rfl, rfl, D2, ys, rfl, .inl (SqL.of hD4), nt, _, rfl, ?_⟩
  cases ea : ys.any isN with
  | true =>
    obtain ⟨u0, hu0, hn0⟩ := List.any_eq_true.mp ea
    have hf : ys.findIdx isN < ys.length := List.findIdx_lt_length_of_exists ⟨u0, hu0, hn0⟩
    have hfat := List.getElem?_eq_getElem hf
    have hfn : isN ys[ys.findIdx isN] = true := List.findIdx_getElem (p := isN) (w := hf)
    have isn : ∀ u, isN u = true → u = .non := fun u h => by cases u <;> first | rfl | cases h
    have hj : ys[ys.findIdx isN]? = some .non := by rw [hfat, isn _ hfn]
    have hb : ∀ i, i < ys.findIdx isN → GoodR15 zs i := fun i hi => by
      have hat := List.getElem?_eq_getElem (show i < ys.length by omega)
      rcases kind i _ hat with ⟨_, e⟩ | ⟨g, _⟩
      · have := List.not_of_lt_findIdx hi
        rw [e] at this
        cases this
      · exact g
    have hbad : BadR15 zs (ys.findIdx isN) := by
      rcases kind _ _ hj with ⟨b, _⟩ | ⟨_, p, vs, e, _⟩
      · exact b
      · cases e
    refine iteT ⟨_, rfl, .inl ⟨rfl, _, SqL.of hD4⟩, D2, ys, ys.findIdx isN, rfl, rfl, hD4, by omega, nt, hj, fun i hi e => ?_, qB _ H4 hb hbad s04⟩
    have hat := List.getElem?_eq_getElem (show i < ys.length by omega)
    rw [hat] at e
    have := List.not_of_lt_findIdx hi
    rw [Option.some.inj e] at this
    cases this
  | false =>
    refine iteF ?_
    have allg : ∀ i, GoodR15 zs i := fun i z hzi => by
      obtain ⟨u, hu, _⟩ := at_ i z hzi
      rcases kind i u hu with ⟨_, e⟩ | ⟨g, _⟩
      · have := List.any_eq_false.mp ea u (List.mem_of_getElem? hu)
        rw [e] at this
        exact absurd rfl this
      · exact g z hzi
    have em : zs.mapIdx (bellL (zs.map headR)) = zs.map (bellR (zs.map headR)) := by
      refine List.ext_getElem? fun i => ?_
      rw [List.getElem?_mapIdx, List.getElem?_map]
      cases e : zs[i]? with
      | none => rfl
      | some z => exact congrArg some (bellL_good e (allg i))
    rw [em] at hy
    refine ⟨_, rfl, D2, _, rfl, .inl ⟨SqL.of hD4, fun t ht => ?_⟩⟩
    have vt := same_new ht (.tup ys)
    exact qG allg _ _ (s04.trans vt) (tup_th upd_same (ThsAt.same vt _ hy))
end
end K15
namespace K15
open PySem L2
/-! ### NoText.__init__, are_rows, read_choir with its refusals, _law_told -/
def Refused (C : Addr) (v : V) (H : Hp) (E : XK) : Prop := ∀ (H' : Hp) (dx : Addr), Same H H' → H' dx = some (.xd [("row", v)]) → E (.ref C) (some dx) H'
theorem refused_at {C x dx : Addr} {v : V} {H H2 : Hp} {E : XK} (q : Refused C v H E) (s : Same H H2) (hx : H2 x = none) (n2 : H2 dx = none) (ne2 : dx ≠ x) : E (.ref C) (some dx) (drop (upd (upd (upd H2 x (ExN x C none)) dx (.xd [("row", v)])) x (ExN x C (some dx))) x) := by
  refine q _ dx (fun b o e => ?_) ?_
  · have e1 := s _ _ e
    have b1 : b ≠ x := ne_of_none e1 hx
    have b3 : b ≠ dx := ne_of_none e1 n2
    rw [drop_ne b1, upd_ne b1, upd_ne b3, upd_ne b1]
    exact e1
  · rw [drop_ne ne2, upd_ne ne2, upd_same]
theorem strs_th {H : Hp} : ∀ {zs : List Str} {xs : List V}, ThsAt H (zs.map Th.str) xs → xs = zs.map V.str
  | [], _, h => h
  | _ :: _, _, ⟨_, _, e, h1, h2⟩ => by
    subst e
    rw [h1.1, strs_th h2]
    rfl
theorem th_strs {H : Hp} : ∀ {zs : List Str}, (∀ z ∈ zs, z.length ≤ 2000) → ThsAt H (zs.map Th.str) (zs.map V.str)
  | [], _ => rfl
  | z :: zs, h => ⟨_, _, rfl, ⟨rfl, h z List.mem_cons_self⟩, th_strs fun z hz => h z (List.mem_cons_of_mem _ hz)⟩
def NotL (K : PySem.W.Frag) (H : Hp) (v : V) : Prop := ∃ ty, TyOf K H v ty ∧ PySem.W.kitOne K ty (.type "list") = some false
section
variable {P : Program} {w : World} {K : PySem.W.Frag} {mg : Str → Option Value} {base : Heap} {f : Addr} {fd : FuncData}
def sp_tinit (C : Addr) : Sp := fun vs H Q _ => ∃ (x : Addr) (v : V), vs = [.ref x, v] ∧ H x = some (ExN x C none) ∧ ∀ dx, H dx = none → dx ≠ x → Q .non (upd (upd H dx (.xd [("row", v)])) x (ExN x C (some dx)))
theorem sc_tinit : FnScope ["self", "row"] ["self", "row"] (defScope s_tinit) := ⟨rfl, rfl, rfl, by decide +kernel, rfl, by decide +kernel, by decide +kernel⟩
theorem ok_tinit {C : Addr} (F : Fun K "__init__" "NoText.__init__" s_tinit f fd) (xs : XSet K C "row") : FnOk P w K mg base CX0 1 f fd ["self", "row"] (sp_tinit C) := by
  refine F.ok sc_tinit (fun vs H Q E h => ?_) (fun cdv A outer s H vs Q E hr h => ?_)
  · obtain ⟨x, v, rfl, _⟩ := h
    rfl
  obtain ⟨x, v, rfl, hx, q⟩ := h
  refine ⟨_, (pss_one (ps_xfld (pv 0) (pv 1) rfl)), ?_⟩
  exact ⟨_, rfl, _, rfl, x, C, rfl, hx, xs, fun dx nd ne => q dx nd ne⟩
def rowsB (ts : List Th) : Bool := decide (1 ≤ ts.length) && decide (ts.length ≤ 6) && ts.all isS
def sp_arowsG (K : PySem.W.Frag) : Sp := fun vs H Q _ => ∃ v, vs = [v] ∧ ((NotL K H v ∧ ∀ H', Same H H' → Q (.bl false) H') ∨ ∃ (l : Addr) (xs : List V) (ts : List Th), v = .ref l ∧ H l = some (.lst xs) ∧ ThsAt H ts xs ∧ xs.length ≤ 1000 ∧ ∀ H', Same H H' → Q (.bl (rowsB ts)) H')
theorem ok_arowsG {tO : Tok} (F : Fun K "are_rows" "are_rows" s_are_rows f fd) (B : Blt mg) (mO : mg "MOST_BELLS" = some (.int 6 tO)) : FnOk P w K mg base CX0 1 f fd ["thing"] (sp_arowsG K) := by
  refine F.ok sc_arows (fun vs H Q E h => ?_) (fun cdv A outer s H vs Q E hr h => ?_)
  · obtain ⟨v, rfl, _⟩ := h
    rfl
  obtain ⟨v, rfl, h⟩ := h
  refine ⟨_, (pss_cons (ps_if (PW.pt (pw_or (pt_not (pt_val (pe_callB (call_isT "list") rfl B.isinstance_ PyProof.Rows.boot_isinstance (pa_cons (pv 0) (pa_cons (pe_bltn (v := .ty "list") rfl B.list_ PyProof.Rows.boot_list rfl) pa_nil))))) (pw_or1 (pt_not (pt_chain op_le op_le pe_int (pe_callB call_len_seq rfl B.len_ PySem.boot_len (pa_cons (pv 0) pa_nil)) (pe_glob (v := .int 6) rfl mO ⟨tO, rfl⟩))))))
    (pss_one (ps_ret pe_bl))
    pss_nil)
    (pss_one (ps_ret (pe_callB (call_all rfl) rfl B.all_ PyProof.Rows.boot_all (pa_cons (pe_comp ["row"] [] [] rfl (pi_list (pv 0)) (fun _ _ _ _ _ => (pg_name (i := 0) (show List.Nodup [("row" : Str)] by decide +kernel) rfl (Or.inl rfl))) (fun _ _ _ _ _ => pts_nil) (fun _ _ _ _ _ => (pe_callB (call_isTC (K := K) "str" rfl) rfl B.isinstance_ PyProof.Rows.boot_isinstance (pa_cons (pv 0) (pa_cons (pe_bltn (v := .ty "str") rfl B.str_ PyProof.Rows.boot_str rfl) pa_nil))))) pa_nil))))), ?_⟩
  rcases h with ⟨⟨ty, tyv, kt⟩, q⟩ | ⟨l, xs, ts, rfl, hl, hts, hx, q⟩
  · exact ⟨_, rfl, _, _, _, rfl, tyv, kt, _, rfl, iteT (iteT (q H (.refl H)))⟩
  have hlen := hts.len
  refine ⟨_, rfl, _, _, _, rfl, .lst hl, kit_ll K, _, rfl, iteF ?_⟩
  refine ⟨_, rfl, l, _, rfl, .inl (SqL.of hl), _, _, rfl, rfl, _, rfl, ?_⟩
  by_cases h1 : (1 : Int) ≤ ((xs.length : Nat) : Int)
  rotate_left
  · rw [decide_eq_false h1]
    have e : rowsB ts = false := by
      unfold rowsB
      rw [decide_eq_false (show ¬ 1 ≤ ts.length by omega)]
      rfl
    rw [e] at q
    exact iteF ⟨_, rfl, iteT (q H (.refl H))⟩
  rw [decide_eq_true h1]
  refine iteT ⟨_, _, rfl, rfl, _, rfl, ?_⟩
  by_cases h6 : ((xs.length : Nat) : Int) ≤ 6
  rotate_left
  · rw [decide_eq_false h6]
    have e : rowsB ts = false := by
      unfold rowsB
      rw [decide_eq_false (show ¬ ts.length ≤ 6 by omega), Bool.and_false]
      rfl
    rw [e] at q
    exact iteT (q H (.refl H))
  rw [decide_eq_true h6]
  refine iteF ?_
  have e : rowsB ts = ts.all isS := by
    unfold rowsB
    rw [decide_eq_true (show 1 ≤ ts.length by omega), decide_eq_true (show ts.length ≤ 6 by omega)]
    rfl
  rw [e] at q
  refine ⟨_, rfl, l, rfl, ⟨_, SqL.of hl⟩, fun D hD => ?_⟩
  refine comp_list (K := K) (a := l) (xs := xs) (fun i ys H3 => Same H H3 ∧ ys = ((ts.take i).map isS).map V.bl) ⟨same_new hD _, rfl⟩ (fun i ys H3 _ ⟨z, _⟩ => SqL.of (z _ _ hl)) ?_ ?_
  · rintro i x ys H3 hx' ⟨s3, rfl⟩ hD3
    have hi : i < ts.length := by
      have := (List.getElem?_eq_some_iff.mp hx').1
      omega
    have hti := List.getElem?_eq_getElem hi
    obtain ⟨x', h1', h2'⟩ := hts.at hti
    obtain rfl : x' = x := Option.some.inj (h1'.symm.trans hx')
    obtain ⟨ty, bi, bb, tyv, ks, _⟩ := ((ThAt.same s3 _ h2').kind (K := K)).ex
    refine ⟨rfl, tTrue_ite ?_⟩
    refine ⟨_, rfl, _, _, _, rfl, tyv, ks, _, hD3, ?_, _, ⟨s3.upd hD _, rfl⟩, ?_⟩
    · rw [List.length_map, List.length_map, List.length_take]
      exact small9000 (by omega)
    · rw [take_snoc hti, List.map_append, List.map_append]
      exact upd_same
  rintro ys H3 ⟨s3, rfl⟩ hD3
  rw [hlen, List.take_length] at hD3
  refine ⟨D, _, rfl, SqL.of hD3, ?_⟩
  rw [all_map]
  exact q H3 s3
def ReadQ (zs : List Str) (H : Hp) (R : V → Prop) (G : V → Hp → Prop) : Prop := (∀ k : Nat, (∀ i, i < k → GoodR15 zs i) → BadR15 zs k → R (.int k)) ∧ ((∀ i, GoodR15 zs i) → ∀ H' v, Same H H' → ThAt H' (.tup (zs.map (bellR (zs.map headR)))) v → G v H')
def Asked (K : PySem.W.Frag) (H : Hp) (v : V) (R : V → Prop) (G : V → Hp → Prop) : Prop := (NotL K H v ∧ R .non) ∨ ∃ (l : Addr) (xs : List V) (ts : List Th), v = .ref l ∧ H l = some (.lst xs) ∧ ThsAt H ts xs ∧ xs.length ≤ 1000 ∧
  ((rowsB ts = false ∧ R .non) ∨ ∃ zs : List Str, ts = zs.map Th.str ∧ 1 ≤ zs.length ∧ zs.length ≤ 6 ∧ (∀ z ∈ zs, z.length ≤ 1900) ∧ ReadQ zs H R G)
def sp_readX (K : PySem.W.Frag) (C : Addr) : Sp := fun vs H Q E => ∃ v, vs = [v] ∧ Asked K H v (fun x => Refused C x H E) Q
theorem rowsB_strs {zs : List Str} (h1 : 1 ≤ zs.length) (h6 : zs.length ≤ 6) : rowsB (zs.map Th.str) = true := by
  unfold rowsB
  rw [List.length_map, decide_eq_true h1, decide_eq_true h6, List.all_map]
  exact List.all_eq_true.mpr fun _ _ => rfl
theorem ok_readX {C fC : Addr} {dC : FuncData} (F : Fun K "read_choir" "read_choir" s_read_choir f fd) (B : Blt mg) (mC : mg "NoText" = some (.ref C)) (M : MkX K C fC) (GC : FnOk P w K mg base CX0 1 fC dC ["self", "row"] (sp_tinit C)) (bC : Binds K dC ["self", "row"] [])
    (C_arows : Cal P w K mg base 1 "are_rows" ["thing"] (sp_arowsG K)) (C_rbell : Cal P w K mg base 4 "read_bell" ["row", "names"] sp_rbell) (C_isbell : Cal P w K mg base 7 "is_bell" ["thing", "ahead", "bells"] sp_isbell) : FnOk P w K mg base (CXE P w) 8 f fd ["rows"] (sp_readX K C) := by
  refine F.okX sc_read (fun vs H Q E h => ?_) (fun cdv A outer s H vs Q E hr h => ?_)
  · obtain ⟨v, rfl, _⟩ := h
    rfl
  obtain ⟨v, rfl, h⟩ := h
  refine ⟨_, (pss_cons (ps_if (pt_not (pt_val (pe_fn C_arows hr (by decide) rfl (pa_cons (pv 0) pa_nil))))
    (pss_one (ps_raiseV startsD_cx rfl M (pe_xmake M GC (hr.mono (by decide)) rfl mC bC pass0 (pa_cons pe_non pa_nil))))
    pss_nil)
    (pss_cons (ps_setComp (i := 1) ["row"] [] [] rfl sc_read.nd rfl (Or.inl rfl) (pi_list (pv 0)) (fun _ _ _ _ _ => (pg_name (i := 0) (show List.Nodup [("row" : Str)] by decide +kernel) rfl (Or.inl rfl))) (fun _ _ _ _ _ => pts_nil) (fun _ _ _ _ _ => (pe_ix (ix_listC (K := K) rfl) (pe_bmC (K := K) rfl PySem.F.plainAttrs_str PySem.F.slot_str_split PySem.F.type_str_split mt_split (pv 0) (pa_cons pe_str pa_nil)) pe_int (fun _ _ => rfl))))
    (pss_cons (ps_set (i := 2) sc_read.nd rfl (Or.inl rfl) (pe_lst pa_nil))
    (pss_cons (ps_for PassesOwn.leaving rfl (pi_enum rfl B.enumerate_ (pa_cons (pv 0) pa_nil)) (pg_tup rfl (pgs_cons (pg_name (i := 3) sc_read.nd rfl (Or.inl rfl)) (pgs_cons (pg_name (i := 4) sc_read.nd rfl (Or.inl rfl)) pgs_nil)))
    (pss_cons (ps_set (i := 5) sc_read.nd rfl (Or.inl rfl) (pe_fn C_rbell hr (by decide) rfl (pa_cons (pv 4) (pa_cons (pv 1) pa_nil))))
    (pss_cons (ps_if (pt_not (pt_val (pe_fn C_isbell hr (by decide) rfl (pa_cons (pv 5) (pa_cons (pe_slice sl_list (pv 1) po_none (po_some (pv 3))) (pa_cons (pe_callB call_len_seq rfl B.len_ PySem.boot_len (pa_cons (pv 0) pa_nil)) pa_nil))))))
    (pss_one (ps_raiseV startsD_cx rfl M (pe_xmake M GC (hr.mono (by decide)) rfl mC bC pass0 (pa_cons (pv 3) pa_nil))))
    pss_nil)
    (pss_one (ps_expr (pe_bm PySem.F.plainAttrs_list PySem.F.slot_list_append PySem.F.type_list_append mt_append (pv 2) (pa_cons (pv 5) pa_nil)))))))
    (pss_one (ps_ret (pe_callTy call_tuple_of rfl B.tuple_ PyProof.Rows.boot_tuple (pa_cons (pv 2) pa_nil)))))))), ?_⟩
  have none_ : ∀ H1, Same H H1 → Refused C .non H E → (vs₀ : List V) → vs₀ = [.non] → vs₀.length ≤ sizeLine ∧ ∀ x, H1 x = none → sp_tinit C (.ref x :: vs₀) (upd H1 x (ExN x C none)) (fun v H2 => v = .non ∧ ∃ a d, V.ref x = .ref a ∧ H2 a = some (ExN a C d) ∧ H a = none ∧ E (.ref C) d (drop H2 a)) (fun _ _ _ => False) := fun H1 s1 qn vs₀ ev => by
    subst ev
    refine ⟨(by show 1 ≤ sizeLine; decide), fun x hx => ?_⟩
    refine ⟨x, .non, rfl, upd_same, fun dx n2 ne2 => ?_⟩
    rw [upd_ne ne2] at n2
    exact ⟨rfl, x, some dx, rfl, upd_same, s1.free hx, refused_at qn s1 hx n2 ne2⟩
  rcases h with ⟨nl, qn⟩ | ⟨l, xs, ts, rfl, hl, hts, hxl, h⟩
  · exact ⟨_, rfl, v, rfl, .inl ⟨nl, fun H1 s1 => ⟨_, rfl, iteT (none_ H1 s1 qn _ rfl)⟩⟩⟩
  rcases h with ⟨eR, qn⟩ | ⟨zs, rfl, z1, z6, hz, qB, qG⟩
  · refine ⟨_, rfl, .ref l, rfl, .inr ⟨l, xs, ts, rfl, hl, hts, hxl, fun H1 s1 => ⟨_, rfl, ?_⟩⟩⟩
    rw [eR]
    exact iteT (none_ H1 s1 qn _ rfl)
  obtain rfl := strs_th hts
  refine ⟨_, rfl, .ref l, rfl, .inr ⟨l, _, _, rfl, hl, hts, hxl, fun H1 s1 => ⟨_, rfl, ?_⟩⟩⟩
  rw [rowsB_strs z1 z6]
  refine iteF ?_
  have hl1 := s1 _ _ hl
  refine ⟨_, rfl, l, rfl, ⟨_, SqL.of hl1⟩, fun D hD => ?_⟩
  refine comp_list (K := K) (a := l) (xs := zs.map V.str) (fun i ys H3 => Same H1 H3 ∧ ys = ((zs.take i).map headR).map V.str) ⟨same_new hD _, rfl⟩ (fun i ys H3 _ ⟨z, _⟩ => SqL.of (z _ _ hl1)) ?_ ?_
  · rintro i x ys H3 hx ⟨s3, rfl⟩ hD3
    obtain ⟨a, ha, rfl⟩ : ∃ a, zs[i]? = some a ∧ V.str a = x := by
      rw [List.getElem?_map] at hx
      cases e : zs[i]? with
      | none => rw [e] at hx; cases hx
      | some a => rw [e] at hx; exact ⟨a, rfl, Option.some.inj hx⟩
    have hal := hz a (List.mem_of_getElem? ha)
    refine ⟨rfl, tTrue_ite ?_⟩
    have hp0 := PyProof.Rows.split_pos a " "
    refine ⟨_, rfl, rfl, a, " ", rfl, rfl, (by decide +kernel), by omega, fun p hp => ?_⟩
    have v1 := same_new hp (.lst ((Txt.split a " ").map V.str))
    refine ⟨p, _, _, _, rfl, rfl, SqL.of upd_same, atI_nat (j := 0) (getD_at (by omega)), _, v1 _ _ hD3, ?_, _, ⟨(s3.trans v1).upd hD _, rfl⟩, ?_⟩
    · rw [List.length_map, List.length_map, List.length_take]
      exact small9000 (by omega)
    · rw [take_snoc ha, List.map_append, List.map_append]
      exact upd_same
  rintro ys H2 ⟨s2, rfl⟩ hD2
  rw [List.length_map, List.take_length] at hD2
  have s02 := s1.trans s2
  have hlen : (zs.map headR).length = zs.length := List.length_map _
  refine ⟨(by show 0 ≤ sizeLine; decide), fun bl hbl => ?_⟩
  have v0 := same_new hbl (.lst [])
  refine ⟨_, rfl, l, rfl, ⟨_, SqL.of ((s02.trans v0) _ _ hl)⟩, for_enum (K := K) (a := l) (xs := zs.map V.str) (fun i σ H3 => ∃ (vs : List V) (o3 o4 o5 : Option V), σ = [some (.ref l), some (.ref D), some (.ref bl), o3, o4, o5] ∧ Same H2 H3 ∧ H3 bl = some (.lst vs) ∧ ThsAt H3 ((zs.take i).map (bellR (zs.map headR))) vs ∧ ∀ j, j < i → GoodR15 zs j)
    ⟨[], none, none, none, rfl, v0, upd_same, rfl, fun j hj => absurd hj (Nat.not_lt_zero j)⟩ (fun i σ H3 _ ⟨_, _, _, _, _, s3, _⟩ => SqL.of ((s02.trans s3) _ _ hl)) ?_ ?_⟩
  · rintro i x σ H3 T hx ⟨vs, o3, o4, o5, rfl, s3, hbl3, hv, gd⟩ hT
    obtain ⟨a, ha, rfl⟩ : ∃ a, zs[i]? = some a ∧ V.str a = x := by
      rw [List.getElem?_map] at hx
      cases e : zs[i]? with
      | none => rw [e] at hx; cases hx
      | some a => rw [e] at hx; exact ⟨a, rfl, Option.some.inj hx⟩
    have hal := hz a (List.mem_of_getElem? ha)
    have hil := (List.getElem?_eq_some_iff.mp ha).1
    have vT := same_new hT (.tup [.int (i : Int), .str a])
    refine ⟨T, _, rfl, SqT.of upd_same, rfl, _, _, rfl, _, _, rfl, rfl, ?_⟩
    have s4 := s3.trans vT
    refine ⟨_, rfl, _, rfl, a, D, zs.map headR, rfl, hal, s4 _ _ hD2, by omega, fun H5 bv s5 hbv => ?_⟩
    have s25 := s4.trans s5
    refine ⟨_, rfl, _, rfl, _, rfl, _, rfl, D, _, rfl, SqL.of (s25 _ _ hD2), fun p hp => ?_⟩
    rw [cut_upto (zs.map headR) i (by omega)]
    have v6 := same_new hp (.lst (((zs.map headR).take i).map V.str))
    refine ⟨_, rfl, l, _, rfl, .inl (SqL.of (v6 _ _ (s25 _ _ (s02 _ _ hl)))), bv, bellR (zs.map headR) a, p, (zs.map headR).take i, _, rfl, ThAt.same v6 _ hbv, upd_same, fun H7 s7 => ⟨_, rfl, ?_⟩⟩
    rw [List.length_map]
    have v57 := v6.trans s7
    have s27 := s25.trans v57
    cases e : bellB (bellR (zs.map headR) a) ((zs.map headR).take i) ((zs.length : Nat) : Int) with
    | false =>
      refine iteT ?_
      refine ⟨_, rfl, (by show 1 ≤ sizeLine; decide), fun x hx => ?_⟩
      refine ⟨x, .int i, rfl, upd_same, fun dx n2 ne2 => ?_⟩
      rw [upd_ne ne2] at n2
      have s07 := s02.trans s27
      exact ⟨rfl, x, some dx, rfl, upd_same, s07.free hx, refused_at (qB i gd ⟨a, ha, e⟩) s07 hx n2 ne2⟩
    | true =>
      refine iteF ?_
      have hbl7 := (vT.trans (s5.trans v57)) _ _ hbl3
      have hvl := hv.len
      rw [List.length_map, List.length_take] at hvl
      refine ⟨_, rfl, .inl ⟨rfl, _, SqL.of hbl7⟩, _, rfl, bl, vs, _, rfl, rfl, hbl7, small9000 (by omega), ?_⟩
      refine ⟨_, _, _, _, rfl, ?_, upd_same, ?_, fun j hj => ?_⟩
      · have hb2 : H2 bl = none := hbl
        exact s27.upd hb2 _
      · rw [take_snoc ha, List.map_append]
        exact ThsAt.snoc (ThsAt.kin ((Same.kin (vT.trans (s5.trans v57))).trans (kin_upd hbl7)) _ hv) (ThAt.kin ((Same.kin v57).trans (kin_upd hbl7)) _ hbv)
      · rcases Nat.lt_succ_iff_lt_or_eq.mp hj with hlt | rfl
        · exact gd j hlt
        · intro z' hz'
          rw [ha] at hz'
          cases hz'
          exact e
  rintro σ H3 ⟨vs, o3, o4, o5, rfl, s3, hbl3, hv, gd⟩
  rw [List.length_map, List.take_length] at hv
  refine ⟨_, rfl, bl, _, rfl, .inl ⟨SqL.of hbl3, fun t ht => ?_⟩⟩
  have v1 := same_new ht (.tup vs)
  refine qG (fun i z hzi => ?_) _ _ ((s02.trans s3).trans v1) (tup_th upd_same (ThsAt.same v1 _ hv))
  exact gd i (by rw [List.length_map]; exact (List.getElem?_eq_some_iff.mp hzi).1) z hzi
end
end K15
namespace K15
open PySem L2
/-! ### the ten refusals -/
structure Ten where
  (c0 c1 c2 c3 c4 c5 c6 c7 c8 c9 cB : Addr)
structure TenOk (mg : Str → Option Value) (t : Ten) : Prop where
  m0 : mg "NoRule" = some (.ref t.c0)
  m1 : mg "NoChoir" = some (.ref t.c1)
  m2 : mg "NoText" = some (.ref t.c2)
  m3 : mg "Waiting" = some (.ref t.c3)
  m4 : mg "Mixed" = some (.ref t.c4)
  m5 : mg "NoName" = some (.ref t.c5)
  m6 : mg "NoRound" = some (.ref t.c6)
  m7 : mg "NoListening" = some (.ref t.c7)
  m8 : mg "NoRow" = some (.ref t.c8)
  m9 : mg "NoStand" = some (.ref t.c9)
  mB : mg "BellError" = some (.ref t.cB)
def isAt (at_ : Int) (i : Nat) : Bool := decide (V.int (0 + (i : Int)) = V.int at_)
/-- the class at C is the one of that number and none of the others -/
structure OnlyF (K : PySem.W.Frag) (C : Addr) (at_ : Int) (t : Ten) : Prop where
  k0 : PySem.W.kitOne K (.ref C) (.ref t.c0) = some (isAt at_ 0)
  k1 : PySem.W.kitOne K (.ref C) (.ref t.c1) = some (isAt at_ 1)
  k2 : PySem.W.kitOne K (.ref C) (.ref t.c2) = some (isAt at_ 2)
  k3 : PySem.W.kitOne K (.ref C) (.ref t.c3) = some (isAt at_ 3)
  k4 : PySem.W.kitOne K (.ref C) (.ref t.c4) = some (isAt at_ 4)
  k5 : PySem.W.kitOne K (.ref C) (.ref t.c5) = some (isAt at_ 5)
  k6 : PySem.W.kitOne K (.ref C) (.ref t.c6) = some (isAt at_ 6)
  k7 : PySem.W.kitOne K (.ref C) (.ref t.c7) = some (isAt at_ 7)
  k8 : PySem.W.kitOne K (.ref C) (.ref t.c8) = some (isAt at_ 8)
  k9 : PySem.W.kitOne K (.ref C) (.ref t.c9) = some (isAt at_ 9)
  kB : PySem.W.kitOne K (.ref C) (.ref t.cB) = some true
  kV : PySem.W.kitOne K (.ref C) (.type "ValueError") = some true
  xc : XCls K C
theorem boot_VE : bootBuiltins "ValueError" = some (.type "ValueError") := by decide +kernel
theorem eqL_bls : ∀ l : List Bool, eqL (l.map V.bl) (l.map V.bl) = true
  | [] => rfl
  | b :: r => by
    show (eqV (.bl b) (.bl b) && eqL (r.map V.bl) (r.map V.bl)) = true
    rw [eqL_bls r]
    cases b <;> rfl
theorem flat_bls (l : List Bool) : (l.map V.bl).all flatV = true := by
  rw [List.all_eq_true]
  intro x hx
  obtain ⟨o, _, rfl⟩ := List.mem_map.mp hx
  rfl
theorem XDict.same {H H' : Hp} {d : Option Addr} (h : XDict H d) (s : Same H H') : XDict H' d := by
  rcases h with z | ⟨dx, fs, e, q⟩
  · exact .inl z
  · exact .inr ⟨dx, fs, e, s _ _ q⟩
section
variable {P : Program} {w : World} {K : PySem.W.Frag} {mg : Str → Option Value} {base : Heap} {f : Addr} {fd : FuncData}
def sp_only (C : Addr) (at_ : Int) : Sp := fun vs H Q _ => ∃ (a : Addr) (d : Option Addr), vs = [.ref a, .int at_] ∧ H a = some (ExO a C d) ∧ XDict H d ∧ ∀ H', Same H H' → Q (.bl true) H'
theorem sc_only : FnScope ["_law_error", "_law_at", "_law_some"] ["_law_error", "_law_at"] (defScope s_only) := ⟨rfl, rfl, rfl, by decide +kernel, rfl, by decide +kernel, by decide +kernel⟩
theorem ok_only {t : Ten} {C : Addr} {at_ : Int} (F : Fun K "_law_only" "_law_only" s_only f fd) (B : Blt mg) (T : TenOk mg t) (O : OnlyF K C at_ t) : FnOk P w K mg base CX0 1 f fd ["_law_error", "_law_at"] (sp_only C at_) := by
  refine F.ok sc_only (fun vs H Q E h => ?_) (fun cdv A outer s H vs Q E hr h => ?_)
  · obtain ⟨a, d, rfl, _⟩ := h
    rfl
  obtain ⟨a, d, rfl, ha, hd, q⟩ := h
  refine ⟨_, (pss_cons (ps_set (i := 2) sc_only.nd rfl (Or.inl rfl) (pe_lst (pa_cons (pe_callB call_isX rfl B.isinstance_ PyProof.Rows.boot_isinstance (pa_cons (pv 0) (pa_cons (pe_glob (v := .ref t.c0) rfl T.m0 rfl) pa_nil))) (pa_cons (pe_callB call_isX rfl B.isinstance_ PyProof.Rows.boot_isinstance (pa_cons (pv 0) (pa_cons (pe_glob (v := .ref t.c1) rfl T.m1 rfl) pa_nil))) (pa_cons (pe_callB call_isX rfl B.isinstance_ PyProof.Rows.boot_isinstance (pa_cons (pv 0) (pa_cons (pe_glob (v := .ref t.c2) rfl T.m2 rfl) pa_nil))) pa_nil)))))
    (pss_cons (ps_set (i := 2) sc_only.nd rfl (Or.inl rfl) (pe_op op_cat (pv 2) (pe_lst (pa_cons (pe_callB call_isX rfl B.isinstance_ PyProof.Rows.boot_isinstance (pa_cons (pv 0) (pa_cons (pe_glob (v := .ref t.c3) rfl T.m3 rfl) pa_nil))) (pa_cons (pe_callB call_isX rfl B.isinstance_ PyProof.Rows.boot_isinstance (pa_cons (pv 0) (pa_cons (pe_glob (v := .ref t.c4) rfl T.m4 rfl) pa_nil))) (pa_cons (pe_callB call_isX rfl B.isinstance_ PyProof.Rows.boot_isinstance (pa_cons (pv 0) (pa_cons (pe_glob (v := .ref t.c5) rfl T.m5 rfl) pa_nil))) pa_nil))))))
    (pss_cons (ps_set (i := 2) sc_only.nd rfl (Or.inl rfl) (pe_op op_cat (pv 2) (pe_lst (pa_cons (pe_callB call_isX rfl B.isinstance_ PyProof.Rows.boot_isinstance (pa_cons (pv 0) (pa_cons (pe_glob (v := .ref t.c6) rfl T.m6 rfl) pa_nil))) (pa_cons (pe_callB call_isX rfl B.isinstance_ PyProof.Rows.boot_isinstance (pa_cons (pv 0) (pa_cons (pe_glob (v := .ref t.c7) rfl T.m7 rfl) pa_nil))) (pa_cons (pe_callB call_isX rfl B.isinstance_ PyProof.Rows.boot_isinstance (pa_cons (pv 0) (pa_cons (pe_glob (v := .ref t.c8) rfl T.m8 rfl) pa_nil))) pa_nil))))))
    (pss_cons (ps_expr (pe_bm PySem.F.plainAttrs_list PySem.F.slot_list_append PySem.F.type_list_append mt_append (pv 2) (pa_cons (pe_callB call_isX rfl B.isinstance_ PyProof.Rows.boot_isinstance (pa_cons (pv 0) (pa_cons (pe_glob (v := .ref t.c9) rfl T.m9 rfl) pa_nil))) pa_nil)))
    (pss_cons (ps_if (PW.pt (pw_or (pt_not (pt_val (pe_callB call_isX rfl B.isinstance_ PyProof.Rows.boot_isinstance (pa_cons (pv 0) (pa_cons (pe_glob (v := .ref t.cB) rfl T.mB rfl) pa_nil))))) (pw_or1 (pt_not (pt_val (pe_callB call_isX rfl B.isinstance_ PyProof.Rows.boot_isinstance (pa_cons (pv 0) (pa_cons (pe_bltn (v := .ty "ValueError") rfl B.ValueError_ boot_VE rfl) pa_nil))))))))
    (pss_one (ps_ret pe_bl))
    pss_nil)
    (pss_one (ps_ret (pe_cmpR (op_eqL hr.units0) (pv 2) (pe_comp ["_law_k"] ["_law_at"] [1] rfl (pi_range1 rfl B.range_ (pa_cons pe_int pa_nil)) (fun _ _ _ _ _ => pg_name (i := 0) (show List.Nodup [("_law_k" : Str), ("_law_at" : Str)] by decide +kernel) rfl (Or.inl rfl)) (fun _ _ _ _ _ => pts_nil) (fun _ _ _ _ _ => pe_cmpR op_eq (pv 0) (pv 1) (nomark _))) (nomark _))))))))), ?_⟩
  refine ⟨_, rfl, a, C, d, _, _, _, rfl, ha, hd, O.xc, (fun _ z => z), O.k0, _, rfl, a, C, d, _, _, _, rfl, ha, hd, O.xc, (fun _ z => z), O.k1, _, rfl, a, C, d, _, _, _, rfl, ha, hd, O.xc, (fun _ z => z), O.k2, (by show 3 ≤ sizeLine; decide), fun l1 n1 => ?_⟩
  have s1 : Same H (upd H l1 (.lst [.bl (isAt at_ 0), .bl (isAt at_ 1), .bl (isAt at_ 2)])) := same_new n1 _
  have ha1 := s1 _ _ ha
  have hd1 := XDict.same hd s1
  refine ⟨_, rfl, _, rfl, a, C, d, _, _, _, rfl, ha1, hd1, O.xc, (fun _ z => z), O.k3, _, rfl, a, C, d, _, _, _, rfl, ha1, hd1, O.xc, (fun _ z => z), O.k4, _, rfl, a, C, d, _, _, _, rfl, ha1, hd1, O.xc, (fun _ z => z), O.k5, (by show 3 ≤ sizeLine; decide), fun l2 n2 => ?_⟩
  refine ⟨l1, l2, _, _, rfl, rfl, (same_new n2 _) _ _ upd_same, upd_same, (by show 3 + 3 ≤ sizeLine; decide), fun l3 n3 => ?_⟩
  have s2 := s1.trans ((same_new n2 (.lst [.bl (isAt at_ 3), .bl (isAt at_ 4), .bl (isAt at_ 5)])).trans (same_new n3 (.lst ([.bl (isAt at_ 0), .bl (isAt at_ 1), .bl (isAt at_ 2)] ++ [.bl (isAt at_ 3), .bl (isAt at_ 4), .bl (isAt at_ 5)]))))
  generalize hH3 : upd (upd (upd H l1 _) l2 _) l3 _ = H3 at s2 ⊢
  have h3 : H3 l3 = some (.lst ([.bl (isAt at_ 0), .bl (isAt at_ 1), .bl (isAt at_ 2)] ++ [.bl (isAt at_ 3), .bl (isAt at_ 4), .bl (isAt at_ 5)])) := by rw [← hH3]; exact upd_same
  clear hH3
  have ha3 := s2 _ _ ha
  have hd3 := XDict.same hd s2
  refine ⟨_, rfl, _, rfl, a, C, d, _, _, _, rfl, ha3, hd3, O.xc, (fun _ z => z), O.k6, _, rfl, a, C, d, _, _, _, rfl, ha3, hd3, O.xc, (fun _ z => z), O.k7, _, rfl, a, C, d, _, _, _, rfl, ha3, hd3, O.xc, (fun _ z => z), O.k8, (by show 3 ≤ sizeLine; decide), fun l4 n4 => ?_⟩
  refine ⟨l3, l4, _, _, rfl, rfl, (same_new n4 _) _ _ h3, upd_same, (by show 6 + 3 ≤ sizeLine; decide), fun l5 n5 => ?_⟩
  have s3 := s2.trans ((same_new n4 (.lst [.bl (isAt at_ 6), .bl (isAt at_ 7), .bl (isAt at_ 8)])).trans (same_new n5 (.lst (([.bl (isAt at_ 0), .bl (isAt at_ 1), .bl (isAt at_ 2)] ++ [.bl (isAt at_ 3), .bl (isAt at_ 4), .bl (isAt at_ 5)]) ++ [.bl (isAt at_ 6), .bl (isAt at_ 7), .bl (isAt at_ 8)]))))
  have nH5 : H l5 = none := (s2.trans (same_new n4 (.lst [.bl (isAt at_ 6), .bl (isAt at_ 7), .bl (isAt at_ 8)]))).free n5
  generalize hH5 : upd (upd H3 l4 _) l5 _ = H5 at s3 ⊢
  have h5 : H5 l5 = some (.lst (([.bl (isAt at_ 0), .bl (isAt at_ 1), .bl (isAt at_ 2)] ++ [.bl (isAt at_ 3), .bl (isAt at_ 4), .bl (isAt at_ 5)]) ++ [.bl (isAt at_ 6), .bl (isAt at_ 7), .bl (isAt at_ 8)])) := by rw [← hH5]; exact upd_same
  clear hH5
  have ha5 := s3 _ _ ha
  have hd5 := XDict.same hd s3
  refine ⟨_, rfl, .inl ⟨rfl, _, SqL.of h5⟩, _, rfl, a, C, d, _, _, _, rfl, ha5, hd5, O.xc, (fun _ z => z), O.k9, l5, _, _, rfl, rfl, h5, (by show 9 < sizeLine; decide), ?_⟩
  have s4 := s3.upd nH5 (.lst ((([.bl (isAt at_ 0), .bl (isAt at_ 1), .bl (isAt at_ 2)] ++ [.bl (isAt at_ 3), .bl (isAt at_ 4), .bl (isAt at_ 5)]) ++ [.bl (isAt at_ 6), .bl (isAt at_ 7), .bl (isAt at_ 8)]) ++ [.bl (isAt at_ 9)]))
  generalize hH6 : upd H5 l5 _ = H6 at s4 ⊢
  have h6 : H6 l5 = some (.lst (((List.range 10).map (isAt at_)).map V.bl)) := by rw [← hH6]; exact upd_same
  clear hH6
  have ha6 := s4 _ _ ha
  have hd6 := XDict.same hd s4
  refine ⟨_, rfl, a, C, d, _, _, _, rfl, ha6, hd6, O.xc, (fun _ z => z), O.kB, _, rfl, iteF ?_⟩
  refine ⟨_, rfl, a, C, d, _, _, _, rfl, ha6, hd6, O.xc, (fun _ z => z), O.kV, _, rfl, iteF ?_⟩
  refine ⟨_, rfl, 10, rfl, by decide, by decide, fun D hD => ?_⟩
  refine comp_range (fun i ys H2 => Same H6 H2 ∧ ys = ((List.range i).map (isAt at_)).map V.bl) ⟨same_new hD _, rfl⟩ ?_ ?_
  · rintro i ys H2 hi ⟨s7, rfl⟩ hD7
    refine ⟨rfl, tTrue_ite ?_⟩
    refine ⟨_, rfl, _, rfl, rfl, _, hD7, ?_, _, ⟨s7.upd hD _, rfl⟩, ?_⟩
    · rw [List.length_map, List.length_map, List.length_range]
      exact small9000 (by omega)
    · rw [List.range_succ, List.map_append, List.map_append]
      exact upd_same
  · rintro ys H2 ⟨s7, rfl⟩ hD7
    refine ⟨l5, D, _, _, rfl, rfl, SqL.of (s7 _ _ h6), SqL.of hD7, flat_bls _, flat_bls _, ?_⟩
    have e : eqL (((List.range 10).map (isAt at_)).map V.bl) (((List.range (Int.toNat 10)).map (isAt at_)).map V.bl) = true := eqL_bls _
    show Q (.bl (eqL _ _)) H2
    rw [e]
    exact q _ (s4.trans s7)
end
end K15

namespace K15
open PySem L2
/-! ### things alike; _law_told, _law_right -/
def plain : Nat → Th → Prop
  | _ + 1, .int _ => True
  | _ + 1, .str _ => True
  | n + 1, .tup ts => ts.length ≤ 6 ∧ ∀ t ∈ ts, plain n t
  | _, _ => False
theorem th_like {H : Hp} : ∀ {n : Nat} {t : Th} {v v' : V}, plain n t → ThAt H t v → ThAt H t v' → Lk n H v v'
  | 0, t, _, _, p, _, _ => by cases t <;> exact p.elim
  | n + 1, .int i, _, _, _, h, h' => by cases h; cases h'; exact lk_int _
  | n + 1, .str z, _, _, _, h, h' => by
    obtain ⟨rfl, _⟩ := h
    obtain ⟨rfl, _⟩ := h'
    exact lk_str _
  | n + 1, .tup ts, _, _, p, h, h' => by
    obtain ⟨a, vs, rfl, ha, hv⟩ := h
    obtain ⟨b, ws, rfl, hb, hw⟩ := h'
    have l1 := hv.len
    have l2 := hw.len
    refine .inr (.inr ⟨a, b, vs, ws, rfl, rfl, ha, hb, by omega, by rw [l2]; exact p.1, fun i u v h1 h2 => ?_⟩)
    have hi : i < ts.length := by
      have := (List.getElem?_eq_some_iff.mp h1).1
      omega
    have ht := List.getElem?_eq_getElem hi
    obtain ⟨u', g1, t1⟩ := hv.at ht
    obtain ⟨v', g2, t2⟩ := hw.at ht
    obtain rfl : u' = u := Option.some.inj (g1.symm.trans h1)
    obtain rfl : v' = v := Option.some.inj (g2.symm.trans h2)
    exact th_like (p.2 _ (List.getElem_mem hi)) t1 t2
  | n + 1, .bl _, _, _, p, _, _ => p.elim
  | n + 1, .non, _, _, p, _, _ => p.elim
  | n + 1, .lst, _, _, p, _, _ => p.elim
  | n + 1, .dic, _, _, p, _, _ => p.elim
theorem inT_plain {t : Th} {lo hi : Int} (n : Nat) (h : inT t lo hi = true) : plain (n + 1) t := by
  cases t with
  | int i => exact trivial
  | _ => cases h
theorem bell_plain {t : Th} {ahead : List Str} {m : Int} (h : bellB t ahead m = true) : plain 4 t := by
  obtain ⟨z, s, r, l, rfl⟩ := bellB_tup h
  have h' : (nameT (.str z) && !inA (.str z) ahead && inT s 0 1000 && (lissB l m && ruleT r (lenT l))) = true := h
  simp only [Bool.and_eq_true] at h'
  obtain ⟨⟨⟨_, _⟩, h3⟩, h4, h5⟩ := h'
  refine ⟨by show 4 ≤ 6; decide, fun t ht => ?_⟩
  simp only [List.mem_cons, List.not_mem_nil, or_false] at ht
  rcases ht with rfl | rfl | rfl | rfl
  · exact trivial
  · exact inT_plain _ h3
  · cases t with
    | str z => exact trivial
    | int n => exact trivial
    | _ => cases h5
  · cases t with
    | tup ls =>
      have h4' : (decide (1 ≤ ls.length) && decide (ls.length ≤ 6) && ls.all (fun t => lisB t m)) = true := h4
      simp only [Bool.and_eq_true] at h4'
      refine ⟨of_decide_eq_true h4'.1.2, fun x hx => ?_⟩
      have hb := List.all_eq_true.mp h4'.2 x hx
      unfold lisB at hb
      split at hb
      · rename_i a b c m'
        simp only [Bool.and_eq_true] at hb
        refine ⟨by show 3 ≤ 6; decide, fun y hy => ?_⟩
        simp only [List.mem_cons, List.not_mem_nil, or_false] at hy
        rcases hy with rfl | rfl | rfl
        · exact inT_plain _ hb.1
        · exact inT_plain _ hb.2.1
        · exact inT_plain _ hb.2.2
      · cases hb
    | _ => cases h4
theorem read_plain {zs : List Str} (z6 : zs.length ≤ 6) (g : ∀ i, GoodR15 zs i) : plain 5 (.tup (zs.map (bellR (zs.map headR)))) := by
  refine ⟨by rw [List.length_map]; exact z6, fun t ht => ?_⟩
  obtain ⟨z, hz, rfl⟩ := List.mem_map.mp ht
  obtain ⟨i, hi⟩ := List.getElem?_of_mem hz
  exact bell_plain (g i z hi)
theorem first_bad {zs : List Str} {k k' : Nat} (g : ∀ i, i < k → GoodR15 zs i) (b : BadR15 zs k) (g' : ∀ i, i < k' → GoodR15 zs i) (b' : BadR15 zs k') : k = k' := by
  rcases Nat.lt_trichotomy k k' with h | h | h
  · exact (good_bad (g' k h) b).elim
  · exact h
  · exact (good_bad (g k' h) b').elim
theorem Asked.mono {K : PySem.W.Frag} {H : Hp} {v : V} {R R' : V → Prop} {G G' : V → Hp → Prop} (r : ∀ x, R x → R' x) (g : ∀ v H', Same H H' → G v H' → G' v H') (h : Asked K H v R G) : Asked K H v R' G' := by
  rcases h with ⟨n, q⟩ | ⟨l, xs, ts, e, hl, ht, hx, h⟩
  · exact .inl ⟨n, r _ q⟩
  · refine .inr ⟨l, xs, ts, e, hl, ht, hx, ?_⟩
    rcases h with ⟨e, q⟩ | ⟨zs, e, z1, z6, hz, qB, qG⟩
    · exact .inl ⟨e, r _ q⟩
    · exact .inr ⟨zs, e, z1, z6, hz, fun k h1 h2 => r _ (qB k h1 h2), fun h H' v s t => g v H' s (qG h H' v s t)⟩
theorem eqL_nil : ∀ zs : List Str, zs ≠ [] → eqL (zs.map V.str) [] = false
  | [], h => absurd rfl h
  | _ :: _, _ => rfl
section
variable {P : Program} {w : World} {K : PySem.W.Frag} {mg : Str → Option Value} {base : Heap} {f : Addr} {fd : FuncData}
def RefQ (C : Addr) (x : V) (H : Hp) (Q : VK) : Prop := ∀ (H' : Hp) (p a dx : Addr), Same H H' → H' p = some (.tup [.non, .ref a]) → H' a = some (ExO a C (some dx)) → H' dx = some (.xd [("row", x)]) → Q (.ref p) H'
def sp_told (K : PySem.W.Frag) (C : Addr) : Sp := fun vs H Q _ => ∃ v, vs = [v] ∧ Asked K H v (fun x => RefQ C x H Q) (fun v' H' => ∀ p, H' p = none → Q (.ref p) (upd H' p (.tup [v', .non])))
theorem sc_told : FnScope ["_law_rows", "_law_answer", "_law_error", "e"] ["_law_rows"] (defScope s_told) := ⟨rfl, rfl, rfl, by decide +kernel, rfl, by decide +kernel, by decide +kernel⟩
theorem ok_told {C cB : Addr} (F : Fun K "_law_told" "_law_told" s_told f fd) (mB : mg "BellError" = some (.ref cB)) (xm : PySem.W.exmOne K (.ref C) (.ref cB) = some true) (C_read : CalX P w K mg base 8 "read_choir" ["rows"] (sp_readX K C)) : FnOk P w K mg base CX0 9 f fd ["_law_rows"] (sp_told K C) := by
  refine F.ok sc_told (fun vs H Q E h => ?_) (fun cdv A outer s H vs Q E hr h => ?_)
  · obtain ⟨v, rfl, _⟩ := h
    rfl
  obtain ⟨v, rfl, h⟩ := h
  refine ⟨_, (pss_cons (ps_set (i := 1) sc_told.nd rfl (Or.inl rfl) pe_non)
    (pss_cons (ps_set (i := 2) sc_told.nd rfl (Or.inl rfl) pe_non)
    (pss_cons (ps_tryAs rfl rfl sc_told.nd (i := 3) rfl rfl rfl mB (psx_set (i := 1) sc_told.nd rfl (Or.inl rfl) (px_fn C_read hr (by decide) rfl (pa_cons (pv 0) pa_nil))) (fun _ => (pss_one (ps_set (i := 2) sc_told.nd rfl (Or.inl rfl) (pv 3)))))
    (pss_one (ps_ret (pe_tup (pa_cons (pv 1) (pa_cons (pv 2) pa_nil)))))))), ?_⟩
  refine ⟨_, rfl, v, rfl, h.mono (fun x q0 H' dx s1 hdx => ?_) (fun v' H' s1 q => ?_)⟩
  · refine ⟨xm, fun a C' e na => ?_⟩
    cases e
    have nd : dx ≠ a := ne_of_none hdx na
    refine ⟨_, rfl, ?_⟩
    refine ⟨_, rfl, _, rfl, (by show 2 ≤ sizeLine; decide), fun t1 ht1 => ?_⟩
    have v1 := same_new na (ExO a C (some dx))
    have v2 := same_new ht1 (.tup [.non, .ref a])
    exact q0 _ t1 a dx (s1.trans (v1.trans v2)) upd_same (v2 _ _ upd_same) ((v1.trans v2) _ _ hdx)
  · exact ⟨_, rfl, _, rfl, (by show 2 ≤ sizeLine; decide), fun t1 ht1 => q t1 ht1⟩
def sp_right : Sp := fun vs H Q _ => ∃ (l : Addr) (zs : List Str), vs = [.ref l] ∧ H l = some (.lst (zs.map V.str)) ∧ zs.length ≤ 100 ∧ (∀ z ∈ zs, z.length ≤ 1900) ∧ ∀ H', Same H H' → Q (.bl true) H'
theorem sc_right : FnScope ["_law_rows", "_law_handed", "_law_due", "_law_answer", "_law_error"] ["_law_rows"] (defScope s_right) := ⟨rfl, rfl, rfl, by decide +kernel, rfl, by decide +kernel, by decide +kernel⟩
theorem ok_right {C : Addr} (F : Fun K "_law_right" "_law_right" s_right f fd) (B : Blt mg) (xc : XCls K C) (nB : PySem.W.findIn K (.ref C) "row" = some none) (C_told : Cal P w K mg base 9 "_law_told" ["_law_rows"] (sp_told K C)) (C_only : Cal P w K mg base 1 "_law_only" ["_law_error", "_law_at"] (sp_only C 2)) (C_same : Cal P w K mg base 6 "_law_same" ["_law_answer", "_law_due"] (sp_like 5)) (C_read : Cal P w K mg base 4 "_law_read" ["_law_rows"] sp_lread) :
    FnOk P w K mg base CX0 10 f fd ["_law_rows"] sp_right := by
  refine F.ok sc_right (fun vs H Q E h => ?_) (fun cdv A outer s H vs Q E hr h => ?_)
  · obtain ⟨l, zs, rfl, _⟩ := h
    rfl
  obtain ⟨l, zs, rfl, hl, hn, hz, q⟩ := h
  refine ⟨_, (pss_cons (ps_set (i := 1) sc_right.nd rfl (Or.inl rfl) (pe_callTy call_list_of rfl B.list_ PyProof.Rows.boot_list (pa_cons (pv 0) pa_nil)))
    (pss_cons (ps_asg (pe_fn C_told hr (by decide) rfl (pa_cons (pv 1) pa_nil)) (pg_tup rfl (pgs_cons (pg_name (i := 3) sc_right.nd rfl (Or.inl rfl)) (pgs_cons (pg_name (i := 4) sc_right.nd rfl (Or.inl rfl)) pgs_nil))))
    (pss_cons (ps_if (pt_cmpR (op_neL hr.units0) (pv 1) (pv 0) (nomark _))
    (pss_one (ps_ret pe_bl))
    pss_nil)
    (pss_cons (ps_if (PW.pt (pw_or (pt_cmpR (op_eqL hr.units0) (pv 0) (pe_lst pa_nil) (nomark _)) (pw_or1 (pt_cmpR op_gt (pe_callB call_len_seq rfl B.len_ PySem.boot_len (pa_cons (pv 0) pa_nil)) pe_int (nomark _)))))
    (pss_one (ps_ret (pe_and (pe_fn C_only hr (by decide) rfl (pa_cons (pv 4) (pa_cons pe_int pa_nil))) (pe_one (pe_cmpR op_isN (pe_xgetV (pv 4) rfl) pe_non (nomark _))))))
    pss_nil)
    (pss_cons (ps_set (i := 2) sc_right.nd rfl (Or.inl rfl) (pe_fn C_read hr (by decide) rfl (pa_cons (pv 0) pa_nil)))
    (pss_cons (ps_if (pt_val (pe_callB (call_isT "tuple") rfl B.isinstance_ PyProof.Rows.boot_isinstance (pa_cons (pv 2) (pa_cons (pe_bltn (v := .ty "tuple") rfl B.tuple_ PyProof.Rows.boot_tuple rfl) pa_nil))))
    (pss_one (ps_ret (pe_and (pe_cmpR op_isN (pv 4) pe_non (nomark _)) (pe_one (pe_fn C_same hr (by decide) rfl (pa_cons (pv 3) (pa_cons (pv 2) pa_nil)))))))
    pss_nil)
    (pss_one (ps_ret (pe_and (pe_fn C_only hr (by decide) rfl (pa_cons (pv 4) (pa_cons pe_int pa_nil))) (pe_one (pe_fn C_same hr (by decide) rfl (pa_cons (pe_xgetV (pv 4) rfl) (pa_cons (pv 2) pa_nil))))))))))))), ?_⟩
  refine ⟨_, rfl, l, _, rfl, .inl (SqL.of hl), fun l2 hl2 => ?_⟩
  have s1 := same_new hl2 (.lst (zs.map V.str))
  have ne : l2 ≠ l := fun e => by rw [e, hl] at hl2; cases hl2
  have hh : (upd H l2 (.lst (zs.map V.str))) l2 = some (.lst (zs.map V.str)) := upd_same
  generalize upd H l2 (.lst (zs.map V.str)) = H1 at s1 hh ⊢
  have hz' : ∀ z ∈ zs, z.length ≤ 2000 := fun z hzm => by have := hz z hzm; omega
  have ef : ∀ b : Bool, b = (if true = true then !eqL (zs.map V.str) (zs.map V.str) else eqL (zs.map V.str) (zs.map V.str)) → b = false := fun b h => by rw [h, eqL_str]; rfl
  refine ⟨_, rfl, .ref l2, rfl, .inr ⟨l2, _, zs.map Th.str, rfl, hh, th_strs hz', by rw [List.length_map]; omega, ?_⟩⟩
  by_cases hc : 1 ≤ zs.length ∧ zs.length ≤ 6
  rotate_left
  · have hrb : rowsB (zs.map Th.str) = false := by
      unfold rowsB
      rw [List.length_map, Bool.and_eq_false_iff, ← Bool.decide_and]
      exact .inl (decide_eq_false hc)
    refine .inl ⟨hrb, fun H2 p a dx s2 hp ha hdx => ?_⟩
    have s02 := s1.trans s2
    refine ⟨p, _, rfl, SqT.of hp, rfl, _, _, rfl, _, _, rfl, rfl, ?_⟩
    refine ⟨_, rfl, _, rfl, l2, l, _, _, rfl, rfl, SqL.of (s2 _ _ hh), SqL.of (s02 _ _ hl), strs_flat zs, strs_flat zs, _, rfl, ?_⟩
    rw [ef _ rfl]
    refine iteF ?_
    have fin : ∀ H3, Same H2 H3 → ∃ (a' : Addr) (d : Option Addr), [V.ref a, V.int 2] = [.ref a', .int 2] ∧ H3 a' = some (ExO a' C d) ∧ XDict H3 d := fun H3 s3 => ⟨a, some dx, rfl, s3 _ _ ha, .inr ⟨dx, _, rfl, s3 _ _ hdx⟩⟩
    refine ⟨_, rfl, (by show 0 ≤ sizeLine; decide), fun le hle => ?_⟩
    have s3 := same_new hle (.lst [])
    refine ⟨l, le, _, [], rfl, rfl, SqL.of ((s02.trans s3) _ _ hl), SqL.of upd_same, strs_flat zs, rfl, _, rfl, ?_⟩
    by_cases h0 : zs = []
    · rw [show (if false = true then !eqL (zs.map V.str) [] else eqL (zs.map V.str) []) = true by rw [h0]; rfl]
      refine iteT (iteT ?_)
      refine ⟨_, rfl, a, some dx, rfl, s3 _ _ ha, .inr ⟨dx, _, rfl, s3 _ _ hdx⟩, fun H4 s4 => ⟨_, rfl, iteT ?_⟩⟩
      have s34 := s3.trans s4
      exact ⟨_, rfl, a, C, dx, _, _, rfl, s34 _ _ ha, s34 _ _ hdx, xc, nB, rfl, rfl, q H4 (s02.trans s34)⟩
    · rw [show (if false = true then !eqL (zs.map V.str) [] else eqL (zs.map V.str) []) = false from eqL_nil zs h0]
      have hp0 : 1 ≤ zs.length := List.length_pos_iff.mpr h0
      refine iteF ⟨_, rfl, l, _, rfl, .inl (SqL.of ((s02.trans s3) _ _ hl)), _, _, rfl, rfl, _, rfl, ?_⟩
      rw [List.length_map, decide_eq_true (show (6 : Int) < ((zs.length : Nat) : Int) by omega)]
      refine iteT ?_
      refine ⟨_, rfl, a, some dx, rfl, s3 _ _ ha, .inr ⟨dx, _, rfl, s3 _ _ hdx⟩, fun H4 s4 => ⟨_, rfl, iteT ?_⟩⟩
      have s34 := s3.trans s4
      exact ⟨_, rfl, a, C, dx, _, _, rfl, s34 _ _ ha, s34 _ _ hdx, xc, nB, rfl, rfl, q H4 (s02.trans s34)⟩
  have h0 : zs ≠ [] := fun e => by rw [e] at hc; exact absurd hc.1 (by decide)
  -- from the second question on
  refine .inr ⟨zs, rfl, hc.1, hc.2, hz, fun k gd bd H2 p a dx s2 hp ha hdx => ?_, fun gd H2 v2 s2 hv2 p hp0 => ?_⟩
  · have s02 := s1.trans s2
    refine ⟨p, _, rfl, SqT.of hp, rfl, _, _, rfl, _, _, rfl, rfl, ?_⟩
    refine ⟨_, rfl, _, rfl, l2, l, _, _, rfl, rfl, SqL.of (s2 _ _ hh), SqL.of (s02 _ _ hl), strs_flat zs, strs_flat zs, _, rfl, ?_⟩
    rw [ef _ rfl]
    refine iteF ⟨_, rfl, (by show 0 ≤ sizeLine; decide), fun le hle => ?_⟩
    have s3 := same_new hle (.lst [])
    refine ⟨l, le, _, [], rfl, rfl, SqL.of ((s02.trans s3) _ _ hl), SqL.of upd_same, strs_flat zs, rfl, _, rfl, ?_⟩
    rw [show (if false = true then !eqL (zs.map V.str) [] else eqL (zs.map V.str) []) = false from eqL_nil zs h0]
    refine iteF ⟨_, rfl, l, _, rfl, .inl (SqL.of ((s02.trans s3) _ _ hl)), _, _, rfl, rfl, _, rfl, ?_⟩
    rw [List.length_map, decide_eq_false (show ¬ (6 : Int) < ((zs.length : Nat) : Int) by omega)]
    refine iteF ?_
    generalize upd H2 le (.lst []) = H3 at s3 ⊢
    have s03 := s02.trans s3
    refine ⟨_, rfl, l, zs, rfl, s03 _ _ hl, hc.2, hz, fun k' H4 gd' bd' s4 => ?_, fun all => (good_bad (all k) bd).elim⟩
    obtain rfl := first_bad gd bd gd' bd'
    have s34 := s3.trans s4
    refine ⟨_, rfl, _, _, _, rfl, .int _, kit_it K, _, rfl, iteF ?_⟩
    refine ⟨_, rfl, a, some dx, rfl, s34 _ _ ha, .inr ⟨dx, _, rfl, s34 _ _ hdx⟩, fun H5 s5 => ⟨_, rfl, iteT ?_⟩⟩
    have s35 := s34.trans s5
    exact ⟨_, rfl, a, C, dx, _, _, rfl, s35 _ _ ha, s35 _ _ hdx, xc, nB, rfl, _, rfl, _, _, rfl, lk_int _, fun H6 s6 => q H6 (s02.trans (s35.trans s6))⟩
  · have sp := same_new hp0 (.tup [v2, .non])
    have hp : (upd H2 p (.tup [v2, .non])) p = some (.tup [v2, .non]) := upd_same
    have hv2' := ThAt.same sp _ hv2
    have s02 := s1.trans (s2.trans sp)
    have hh2 := (s2.trans sp) _ _ hh
    generalize upd H2 p (.tup [v2, .non]) = H3 at sp hp hv2' s02 hh2 ⊢
    refine ⟨p, _, rfl, SqT.of hp, rfl, _, _, rfl, _, _, rfl, rfl, ?_⟩
    refine ⟨_, rfl, _, rfl, l2, l, _, _, rfl, rfl, SqL.of hh2, SqL.of (s02 _ _ hl), strs_flat zs, strs_flat zs, _, rfl, ?_⟩
    rw [ef _ rfl]
    refine iteF ⟨_, rfl, (by show 0 ≤ sizeLine; decide), fun le hle => ?_⟩
    have s3 := same_new hle (.lst [])
    refine ⟨l, le, _, [], rfl, rfl, SqL.of ((s02.trans s3) _ _ hl), SqL.of upd_same, strs_flat zs, rfl, _, rfl, ?_⟩
    rw [show (if false = true then !eqL (zs.map V.str) [] else eqL (zs.map V.str) []) = false from eqL_nil zs h0]
    refine iteF ⟨_, rfl, l, _, rfl, .inl (SqL.of ((s02.trans s3) _ _ hl)), _, _, rfl, rfl, _, rfl, ?_⟩
    rw [List.length_map, decide_eq_false (show ¬ (6 : Int) < ((zs.length : Nat) : Int) by omega)]
    refine iteF ?_
    generalize upd H3 le (.lst []) = H4 at s3 ⊢
    have s04 := s02.trans s3
    refine ⟨_, rfl, l, zs, rfl, s04 _ _ hl, hc.2, hz, fun k' H5 _ bd' _ => (good_bad (gd k') bd').elim, fun _ H5 v5 s5 hv5 => ?_⟩
    have hv25 := ThAt.same (s3.trans s5) _ hv2'
    obtain ⟨t5, w5, rfl, ht5, _⟩ := id hv5
    refine ⟨_, rfl, _, _, _, rfl, .tup ht5, kit_tt K, _, rfl, iteT ?_⟩
    refine ⟨_, rfl, rfl, _, rfl, iteT ?_⟩
    exact ⟨_, rfl, _, rfl, _, _, rfl, th_like (read_plain hc.2 gd) hv25 hv5, fun H6 s6 => q H6 (s04.trans (s5.trans s6))⟩
end
end K15
namespace L2
open PySem PySem.Spec PyProof.Rows
theorem pa_str {X : Cx} {x : Str} {j} {pos : Pos} {es : List Expr} {t : TA} (hr : PA X es t) : PA X (.Constant (.str x) j pos :: es) (tCons (tC (.str x)) t) := pa_cons pe_str hr
theorem pe_l5 {X : Cx} {x0 : Str} {j0} {p0 : Pos} {x1 : Str} {j1} {p1 : Pos} {x2 : Str} {j2} {p2 : Pos} {x3 : Str} {j3} {p3 : Pos} {x4 : Str} {j4} {p4 : Pos} {e : Expr} {te : TE} {pos : Pos} (he : PE X e te) (hs : starEach [e] X.env = (false, eval e X.env) :: starEach [] X.env) : PE X (.List [.Constant (.str x0) j0 p0, .Constant (.str x1) j1 p1, .Constant (.str x2) j2 p2, .Constant (.str x3) j3 p3, .Constant (.str x4) j4 p4, e] pos) (tLst (tCons (tC (.str x0)) (tCons (tC (.str x1)) (tCons (tC (.str x2)) (tCons (tC (.str x3)) (tCons (tC (.str x4)) (tCons te tNil))))))) := by
  refine pe_lst ?_
  refine pa_str ?_
  refine pa_str ?_
  refine pa_str ?_
  refine pa_str ?_
  refine pa_str ?_
  exact pa_cons he pa_nil hs
end L2
namespace K15
open PySem L2
/-! ### _law_changed_row, _law_changed -/
def signs1 : List Str := [" ", "+", "=", "0", "1", "7", "a", "z", "A", "-", "all", "any", " all ", " 2 ", "+5", "=5", "001", "1001"]
def signs2 (x : Str) : List Str := ["1000000000", " all+2", " B9+1", "\n", "\t", x]
theorem signs1_le : ∀ x ∈ signs1, x.length ≤ 10 := by decide +kernel
theorem signs2_le {y : Str} : ∀ x ∈ signs2 y, x.length ≤ 10 + y.length := by
  intro x hx
  unfold signs2 at hx
  have h5 : ∀ x ∈ (["1000000000", " all+2", " B9+1", "\n", "\t"] : List Str), x.length ≤ 10 := by decide +kernel
  have hx' : x ∈ (["1000000000", " all+2", " B9+1", "\n", "\t"] : List Str) ++ [y] := hx
  rcases List.mem_append.mp hx' with h | h
  · have := h5 x h
    omega
  · rw [List.mem_singleton.mp h]
    omega
theorem mod_at {xs : List Str} {n : Int} {m : Nat} (h : xs.length = m) (h0 : 1 ≤ m) : ∃ x, x ∈ xs ∧ atI (xs.map V.str) (n % (m : Int)) = some (.str x) := by
  have g0 := Int.emod_nonneg n (show (m : Int) ≠ 0 by omega)
  have g1 := Int.emod_lt_of_pos n (show (0 : Int) < m by omega)
  obtain ⟨k, hk⟩ : ∃ k : Nat, n % (m : Int) = k := ⟨(n % (m : Int)).toNat, by omega⟩
  have hk' : k < xs.length := by omega
  refine ⟨xs[k], List.getElem_mem hk', ?_⟩
  rw [hk]
  exact atI_nat (by rw [List.getElem?_map, List.getElem?_eq_getElem hk']; rfl)
theorem slice_to_le (z : Str) (k : Nat) : (Txt.slice z none (some (k : Int))).length ≤ k := by
  rw [← tx_len, slice_txt]
  unfold cutN
  rw [HT.sIx_none, HT.sIx_nat, List.length_take]
  omega
theorem slice_from_le (z : Str) (k : Nat) : (Txt.slice z (some (k : Int)) none).length ≤ z.length - k := by
  rw [← tx_len, ← tx_len, slice_txt]
  unfold cutN
  rw [HT.sIx_none, HT.sIx_nat, List.length_take, List.length_drop]
  omega
section
variable {P : Program} {w : World} {K : PySem.W.Frag} {mg : Str → Option Value} {base : Heap} {f : Addr} {fd : FuncData}
def sp_chrow : Sp := fun vs H Q _ => ∃ (z : Str) (spot pick style : Int), vs = [.str z, .int spot, .int pick, .int style] ∧ z.length ≤ 1900 ∧ 0 ≤ style ∧ style < 3 ∧ ∀ (z' : Str) (H' : Hp), z'.length ≤ 2 * z.length + 11 → Same H H' → Q (.str z') H'
theorem sc_chrow : FnScope ["_law_row", "_law_spot", "_law_pick", "_law_style", "_law_signs", "_law_at"] ["_law_row", "_law_spot", "_law_pick", "_law_style"] (defScope s_changed_row) := ⟨rfl, rfl, rfl, by decide +kernel, rfl, by decide +kernel, by decide +kernel⟩
theorem ok_chrow (F : Fun K "_law_changed_row" "_law_changed_row" s_changed_row f fd) (B : Blt mg) : FnOk P w K mg base CX0 1 f fd ["_law_row", "_law_spot", "_law_pick", "_law_style"] sp_chrow := by
  refine F.ok sc_chrow (fun vs H Q E h => ?_) (fun cdv A outer s H vs Q E hr h => ?_)
  · obtain ⟨z, spot, pick, style, rfl, _⟩ := h
    rfl
  obtain ⟨z, spot, pick, style, rfl, hz, st0, st3, q⟩ := h
  refine' ⟨_, ?ht, ?hr⟩
  case ht =>
    refine' pss_cons ?g1 ?g2
    case g1 =>
      refine' ps_set (i := 4) (x := "_law_signs") ?h1 ?h2 ?h3 ?a1 ?hs ?hf
      case h1 => exact sc_chrow.nd
      case h2 => rfl
      case h3 => exact Or.inl rfl
      case hs => kernel_rfl
      case hf => exact Or.inl rfl
      case a1 =>
        refine' pe_lst ?a2
        case a2 =>
          refine' pa_str ?c0
          case c0 =>
           refine' pa_str ?c1
           case c1 =>
            refine' pa_str ?c2
            case c2 =>
             refine' pa_str ?c3
             case c3 =>
              refine' pa_str ?c4
              case c4 =>
               refine' pa_str ?c5
               case c5 =>
                refine' pa_str ?c6
                case c6 =>
                 refine' pa_str ?c7
                 case c7 =>
                  refine' pa_str ?c8
                  case c8 =>
                   refine' pa_str ?c9
                   case c9 =>
                    refine' pa_str ?c10
                    case c10 =>
                     refine' pa_str ?c11
                     case c11 =>
                      refine' pa_str ?c12
                      case c12 =>
                       refine' pa_str ?c13
                       case c13 =>
                        refine' pa_str ?c14
                        case c14 =>
                         refine' pa_str ?c15
                         case c15 =>
                          refine' pa_str ?c16
                          case c16 =>
                           refine' pa_str ?c17
                           case c17 =>
                            exact pa_nil
    case g2 =>
      refine' pss_cons ?g3 ?g4
      case g3 =>
        refine' ps_set (i := 4) (x := "_law_signs") ?h1 ?h2 ?h3 ?b1 ?hs ?hf
        case h1 => exact sc_chrow.nd
        case h2 => rfl
        case h3 => exact Or.inl rfl
        case hs => kernel_rfl
        case hf => exact Or.inl rfl
        case b1 => exact (pe_op op_cat (pv 4) (pe_l5 (pe_op op_add_str pe_str (pe_ix ix_tup (pe_bm PySem.F.plainAttrs_str PySem.F.slot_str_rpartition PySem.F.type_str_rpartition mt_rpartition (pv 0) (pa_cons pe_str pa_nil)) pe_int (fun _ _ => rfl))) rfl))
      case g4 =>
        refine' pss_cons ?g5 ?g6
        case g5 => exact (ps_set (i := 5) sc_chrow.nd rfl (Or.inl rfl) (pe_op op_mod (pv 1) (pe_op op_add (pe_callB call_len_str rfl B.len_ PySem.boot_len (pa_cons (pv 0) pa_nil)) pe_int)))
        case g6 => exact (pss_one (ps_ret (pe_op op_add_str (pe_op op_add_str (pe_slice sl_str (pv 0) po_none (po_some (pv 5))) (pe_ix ix_list (pe_lst (pa_cons (pe_ix ix_list (pv 4) (pe_op op_mod (pv 2) pe_int) (fun _ _ => rfl)) (pa_cons (pe_ix ix_list (pv 4) (pe_op op_mod (pv 2) pe_int) (fun _ _ => rfl)) (pa_cons pe_str pa_nil)))) (pv 3) (fun _ _ => rfl))) (pe_slice sl_str (pv 0) (po_some (pe_op op_add (pv 5) (pe_ix ix_list (pe_lst (pa_cons pe_int (pa_cons pe_int (pa_cons pe_int pa_nil)))) (pv 3) (fun _ _ => rfl)))) po_none))))
  case hr =>
    obtain ⟨pl1, pl2⟩ := rpartition_le z " "
    refine ⟨(by show 18 ≤ sizeLine; decide), fun l1 hl1 => ?_⟩
    have s1 : Same H (upd H l1 (.lst (signs1.map V.str))) := same_new hl1 _
    have h1 : (upd H l1 (.lst (signs1.map V.str))) l1 = some (.lst (signs1.map V.str)) := upd_same
    have lg : (" " : Str).length = 1 := by decide +kernel
    refine ⟨_, rfl, _, rfl, rfl, z, " ", rfl, rfl, (by decide +kernel), by omega, fun p hp => ?_⟩
    have s2 := same_new hp (.tup [.str (Txt.rpartition z " ").1, .str (Txt.rpartition z " ").2.1, .str (Txt.rpartition z " ").2.2])
    refine ⟨p, _, _, _, rfl, rfl, SqT.of upd_same, atI_nat (j := 2) rfl, _, _, rfl, rfl, (by rw [sizeLine_eq]; omega), (by show 6 ≤ sizeLine; decide), fun l2 hl2 => ?_⟩
    have la := str_app_len " " (Txt.rpartition z " ").2.2
    generalize (" " : Str) ++ (Txt.rpartition z " ").2.2 = sg at la ⊢
    have s3 : Same _ (upd _ l2 (.lst ((signs2 sg).map V.str))) := same_new hl2 _
    have s13 := s2.trans s3
    refine ⟨l1, l2, signs1.map V.str, (signs2 sg).map V.str, rfl, rfl, s13 _ _ h1, upd_same, (by show 18 + 6 ≤ sizeLine; decide), fun l3 hl3 => ?_⟩
    rw [← List.map_append]
    have s4 := same_new hl3 (.lst ((signs1 ++ signs2 sg).map V.str))
    have s04 := s1.trans (s13.trans s4)
    obtain ⟨sn, hsn, hsa⟩ := mod_at (xs := signs1 ++ signs2 sg) (n := pick) (m := 24) rfl (by decide)
    have hsl : sn.length ≤ 10 + sg.length := by
      rcases List.mem_append.mp hsn with h | h
      · have := signs1_le sn h
        omega
      · exact signs2_le sn h
    have c3 : style = 0 ∨ style = 1 ∨ style = 2 := by omega
    obtain ⟨wd, hwd, hwa⟩ : ∃ wd : Str, wd.length ≤ 10 + sg.length ∧ atI [V.str sn, V.str sn, V.str ""] style = some (.str wd) := by
      rcases c3 with rfl | rfl | rfl
      · exact ⟨sn, hsl, at_zero _ _⟩
      · exact ⟨sn, hsl, atI_nat (j := 1) rfl⟩
      · exact ⟨"", Nat.zero_le _, atI_nat (j := 2) rfl⟩
    obtain ⟨sk, hska⟩ : ∃ sk : Nat, atI [V.int 0, V.int 1, V.int 1] style = some (.int sk) := by
      rcases c3 with rfl | rfl | rfl
      · exact ⟨0, at_zero _ _⟩
      · exact ⟨1, atI_nat (j := 1) rfl⟩
      · exact ⟨1, atI_nat (j := 2) rfl⟩
    refine ⟨_, rfl, _, rfl, _, rfl, (by rw [sizeLine_eq]; omega), _, _, rfl, rfl, _, _, rfl, rfl, (show (0 : Int) < (z.length : Int) + 1 by omega), ?_⟩
    dsimp only
    obtain ⟨ak, hak, hal⟩ : ∃ ak : Nat, spot % ((z.length : Int) + 1) = (ak : Int) ∧ ak ≤ z.length := by
      have g0 := Int.emod_nonneg spot (show (z.length : Int) + 1 ≠ 0 by omega)
      have g1 := Int.emod_lt_of_pos spot (show (0 : Int) < (z.length : Int) + 1 by omega)
      exact ⟨(spot % ((z.length : Int) + 1)).toNat, by omega, by omega⟩
    generalize spot % ((z.length : Int) + 1) = at_ at hak ⊢
    subst hak
    have k1 := slice_le z none (some (ak : Int))
    have k2 := slice_le z (some ((ak : Int) + sk)) none
    have k3 := str_app_len (Txt.slice z none (some (ak : Int))) wd
    refine ⟨_, rfl, _, rfl, _, rfl, z, rfl, (by rw [sizeLine_eq]; omega), _, rfl, _, rfl, _, _, rfl, rfl, (show (0 : Int) < 24 by decide), l3, _, _, _, rfl, rfl, SqL.of upd_same, hsa, _, rfl, _, rfl, _, _, rfl, rfl, (show (0 : Int) < 24 by decide), l3, _, _, _, rfl, rfl, SqL.of upd_same, hsa, (by show 3 ≤ sizeLine; decide), fun l4 hl4 => ?_⟩
    have s5 := same_new hl4 (.lst [.str sn, .str sn, .str ""])
    refine ⟨_, rfl, l4, _, _, _, rfl, rfl, SqL.of upd_same, hwa, _, _, rfl, rfl, (by rw [sizeLine_eq]; omega), _, rfl, _, rfl, (by show 3 ≤ sizeLine; decide), fun l5 hl5 => ?_⟩
    have s6 := same_new hl5 (.lst [.int 0, .int 1, .int 1])
    refine ⟨_, rfl, l5, _, _, _, rfl, rfl, SqL.of upd_same, hska, _, _, rfl, rfl, _, rfl, z, rfl, (by rw [sizeLine_eq]; omega), _, _, rfl, rfl, (by rw [sizeLine_eq]; omega), ?_⟩
    refine q _ _ ?_ (s04.trans (s5.trans s6))
    rw [str_app_len, str_app_len]
    have cut2 : (Txt.slice z none (some (ak : Int))).length + (Txt.slice z (some ((ak : Int) + sk)) none).length ≤ z.length := by
      have e1 := slice_to_le z ak
      have e2 := slice_from_le z (ak + sk)
      rw [Int.natCast_add] at e2
      omega
    omega
end
end K15
namespace K15
open PySem L2
def oddsR : List Str := ["", " ", "bob", "bob 0 all", "bob 5 any bob+1 ", "bob 0 1 bob+3=", "all 0 any all+1", "B9 0 any B9+1"]
theorem oddsR_le : ∀ x ∈ oddsR, x.length ≤ 16 := by decide +kernel
theorem cutS_from {zs : List Str} {k : Nat} (h : k ≤ zs.length) : cutV (zs.map V.str) (some (k : Int)) none = (zs.drop k).map V.str := by
  unfold cutV
  rw [HT.sIx_none, HT.sIx_nat, List.length_map, Nat.min_eq_left h, List.map_drop]
  exact List.take_of_length_le (by rw [List.length_drop, List.length_map]; omega)
theorem cutS_to {zs : List Str} {k : Nat} (h : k ≤ zs.length) : cutV (zs.map V.str) none (some (k : Int)) = (zs.take k).map V.str := by
  unfold cutV
  rw [HT.sIx_none, HT.sIx_nat, List.length_map, Nat.min_eq_left h, List.drop_zero, Nat.sub_zero, List.map_take]
section
variable {P : Program} {w : World} {K : PySem.W.Frag} {mg : Str → Option Value} {base : Heap} {f : Addr} {fd : FuncData}
def sp_changed : Sp := fun vs H Q _ => ∃ (l nl : Addr) (zs : List Str) (a style spot pick : Int) (B : Nat), vs = [.ref l, .ref nl] ∧ H l = some (.lst (zs.map V.str)) ∧ H nl = some (.lst [.int a, .int style, .int spot, .int pick]) ∧ zs.length ≤ 20 ∧ B ≤ 800 ∧ (∀ z ∈ zs, z.length ≤ B) ∧ 0 ≤ style ∧ style ≤ 6 ∧
  ∀ (H' : Hp) (p : Addr) (zs' : List Str), Same H H' → H' p = some (.lst (zs'.map V.str)) → zs'.length ≤ zs.length + 1 → (∀ z ∈ zs', z.length ≤ 2 * B + 16) → Q (.ref p) H'
theorem sc_changed : FnScope ["_law_rows", "_law_numbers", "_law_odd", "_law_at", "_law_style", "_law_spot", "_law_pick"] ["_law_rows", "_law_numbers"] (defScope s_changed) := ⟨rfl, rfl, rfl, by decide +kernel, rfl, by decide +kernel, by decide +kernel⟩
theorem ok_changed (F : Fun K "_law_changed" "_law_changed" s_changed f fd) (B : Blt mg) (C_chrow : Cal P w K mg base 1 "_law_changed_row" ["_law_row", "_law_spot", "_law_pick", "_law_style"] sp_chrow) : FnOk P w K mg base CX0 2 f fd ["_law_rows", "_law_numbers"] sp_changed := by
  refine F.ok sc_changed (fun vs H Q E h => ?_) (fun cdv A outer s H vs Q E hr h => ?_)
  · obtain ⟨l, nl, zs, a, style, spot, pick, Bd, rfl, _⟩ := h
    rfl
  obtain ⟨l, nl, zs, a, style, spot, pick, Bd, rfl, hl, hnl, hn, hB, hz, st0, st6, q⟩ := h
  refine' ⟨_, ?ht, ?hr⟩
  case ht =>
    refine' pss_cons ?g1 ?g2
    case g1 => exact (ps_asg (pv 1) (pg_tupL rfl (pgs_cons (pg_name (i := 3) sc_changed.nd rfl (Or.inl rfl)) (pgs_cons (pg_name (i := 4) sc_changed.nd rfl (Or.inl rfl)) (pgs_cons (pg_name (i := 5) sc_changed.nd rfl (Or.inl rfl)) (pgs_cons (pg_name (i := 6) sc_changed.nd rfl (Or.inl rfl)) pgs_nil))))))
    case g2 =>
      refine' pss_cons ?g3 ?g4
      case g3 =>
        refine' ps_set (i := 2) (x := "_law_odd") ?h1 ?h2 ?h3 ?a1 ?hs ?hf
        case h1 => exact sc_changed.nd
        case h2 => rfl
        case h3 => exact Or.inl rfl
        case hs => kernel_rfl
        case hf => exact Or.inl rfl
        case a1 =>
          refine' pe_lst ?a2
          case a2 =>
            refine' pa_str ?c0
            case c0 =>
             refine' pa_str ?c1
             case c1 =>
              refine' pa_str ?c2
              case c2 =>
               refine' pa_str ?c3
               case c3 =>
                refine' pa_str ?c4
                case c4 =>
                 refine' pa_str ?c5
                 case c5 =>
                  refine' pa_str ?c6
                  case c6 =>
                   refine' pa_str ?c7
                   case c7 =>
                    exact pa_nil
      case g4 =>
        refine' pss_cons ?g5 ?g6
        case g5 => exact (ps_if (PW.pt (pw_or (pt_cmpR (op_eqL hr.units0) (pv 0) (pe_lst pa_nil) (nomark _)) (pw_or1 (pt_cmpR op_eq (pv 4) pe_int (nomark _)))))
          (pss_one (ps_ret (pe_op op_cat (pv 0) (pe_lst (pa_cons (pe_ix ix_list (pv 2) (pe_op op_mod (pv 6) pe_int) (fun _ _ => rfl)) pa_nil)))))
          pss_nil)
        case g6 =>
          refine' pss_cons ?g7 ?g8
          case g7 => exact (ps_set (i := 3) sc_changed.nd rfl (Or.inl rfl) (pe_op op_mod (pv 3) (pe_callB call_len_seq rfl B.len_ PySem.boot_len (pa_cons (pv 0) pa_nil))))
          case g8 =>
            refine' pss_cons ?g9 ?g10
            case g9 => exact (ps_if (pt_cmpR op_lt (pv 4) pe_int (nomark _))
              (pss_one (ps_ret (pe_op op_cat (pe_op op_cat (pe_slice sl_list (pv 0) po_none (po_some (pv 3))) (pe_lst (pa_cons (pe_fn C_chrow hr (by decide) rfl (pa_cons (pe_ix ix_list (pv 0) (pv 3) (fun _ _ => rfl)) (pa_cons (pv 5) (pa_cons (pv 6) (pa_cons (pv 4) pa_nil))))) pa_nil))) (pe_slice sl_list (pv 0) (po_some (pe_op op_add (pv 3) pe_int)) po_none))))
              pss_nil)
            case g10 => exact (pss_one (ps_ret (pe_ix ix_list (pe_lst (pa_cons (pe_op op_cat (pe_slice sl_list (pv 0) po_none (po_some (pv 3))) (pe_slice sl_list (pv 0) (po_some (pe_op op_add (pv 3) pe_int)) po_none)) (pa_cons (pe_op op_cat (pe_slice sl_list (pv 0) po_none (po_some (pe_op op_add (pv 3) pe_int))) (pe_slice sl_list (pv 0) (po_some (pv 3)) po_none)) (pa_cons (pe_op op_cat (pe_op op_cat (pe_slice sl_list (pv 0) po_none (po_some (pv 3))) (pe_slice sl_list (pv 0) (po_some (pe_op op_add (pv 3) pe_int)) po_none)) (pe_lst (pa_cons (pe_ix ix_list (pv 0) (pv 3) (fun _ _ => rfl)) pa_nil))) pa_nil)))) (pe_op op_sub (pv 4) pe_int) (fun _ _ => rfl))))
  case hr =>
    refine ⟨_, rfl, nl, _, rfl, SqL.of hnl, rfl, _, _, rfl, _, _, rfl, _, _, rfl, _, _, rfl, rfl, ?_⟩
    refine ⟨(by show 8 ≤ sizeLine; decide), fun lo hlo => ?_⟩
    have hb16 : ∀ z ∈ zs, z.length ≤ 2 * Bd + 16 := fun z hzm => by have := hz z hzm; omega
    have s1 : Same H (upd H lo (.lst [V.str "", V.str " ", V.str "bob", V.str "bob 0 all", V.str "bob 5 any bob+1 ", V.str "bob 0 1 bob+3=", V.str "all 0 any all+1", V.str "B9 0 any B9+1"])) := same_new hlo _
    have h1 : (upd H lo (.lst [V.str "", V.str " ", V.str "bob", V.str "bob 0 all", V.str "bob 5 any bob+1 ", V.str "bob 0 1 bob+3=", V.str "all 0 any all+1", V.str "B9 0 any B9+1"])) lo = some (.lst (oddsR.map V.str)) := upd_same
    refine ⟨_, rfl, (by show 0 ≤ sizeLine; decide), fun le hle => ?_⟩
    have s2 := same_new hle (.lst [])
    have s02 := s1.trans s2
    have h2 := s2 _ _ h1
    have hle2 : (upd (upd H lo (.lst [V.str "", V.str " ", V.str "bob", V.str "bob 0 all", V.str "bob 5 any bob+1 ", V.str "bob 0 1 bob+3=", V.str "all 0 any all+1", V.str "B9 0 any B9+1"])) le (.lst [])) le = some (.lst []) := upd_same
    generalize upd (upd H lo (.lst [V.str "", V.str " ", V.str "bob", V.str "bob 0 all", V.str "bob 5 any bob+1 ", V.str "bob 0 1 bob+3=", V.str "all 0 any all+1", V.str "B9 0 any B9+1"])) le (.lst []) = H2 at s02 h2 hle2 ⊢
    clear s1 h1 s2 hle hlo
    obtain ⟨od, hod, hoa⟩ := mod_at (xs := oddsR) (n := pick) (m := 8) rfl (by decide)
    have hl2 := s02 _ _ hl
    refine ⟨l, le, _, [], rfl, rfl, SqL.of hl2, SqL.of hle2, strs_flat zs, rfl, _, rfl, ?_⟩
    have fin : ∀ H3, Same H H3 → ∀ p : Addr, H3 p = none → Q (.ref p) (upd H3 p (.lst (zs.map V.str ++ [.str od]))) := fun H3 s3 p hp => by
      refine q _ p (zs ++ [od]) (s3.trans (same_new hp _)) (by rw [List.map_append]; exact upd_same) (by rw [List.length_append]; exact Nat.le_refl _) fun z hzm => ?_
      rcases List.mem_append.mp hzm with h | h
      · exact hb16 z h
      · rw [List.mem_singleton.mp h]
        have := oddsR_le od hod
        omega
    by_cases h0 : zs = []
    · rw [show (if false = true then !eqL (zs.map V.str) [] else eqL (zs.map V.str) []) = true by rw [h0]; rfl]
      refine iteT (iteT ?_)
      refine ⟨_, rfl, _, rfl, _, rfl, _, _, rfl, rfl, (show (0 : Int) < 8 by decide), lo, _, _, _, rfl, rfl, SqL.of h2, hoa, (by show 1 ≤ sizeLine; decide), fun t ht => ?_⟩
      have st := same_new ht (.lst [.str od])
      exact ⟨l, t, _, _, rfl, rfl, st _ _ hl2, upd_same, (by rw [List.length_map]; exact Nat.le_of_lt (small9000 (by show zs.length + 1 ≤ _; omega))), fun p hp => fin _ (s02.trans st) p hp⟩
    rw [show (if false = true then !eqL (zs.map V.str) [] else eqL (zs.map V.str) []) = false from eqL_nil zs h0]
    refine iteF ⟨_, rfl, rfl, _, rfl, ?_⟩
    by_cases hs6 : style = 6
    · rw [decide_eq_true (congrArg V.int hs6)]
      refine iteT ?_
      refine ⟨_, rfl, _, rfl, _, rfl, _, _, rfl, rfl, (show (0 : Int) < 8 by decide), lo, _, _, _, rfl, rfl, SqL.of h2, hoa, (by show 1 ≤ sizeLine; decide), fun t ht => ?_⟩
      have st := same_new ht (.lst [.str od])
      exact ⟨l, t, _, _, rfl, rfl, st _ _ hl2, upd_same, (by rw [List.length_map]; exact Nat.le_of_lt (small9000 (by show zs.length + 1 ≤ _; omega))), fun p hp => fin _ (s02.trans st) p hp⟩
    rw [decide_eq_false (fun e => hs6 (V.int.inj e))]
    refine iteF ?_
    have hp0 : 1 ≤ zs.length := List.length_pos_iff.mpr h0
    refine ⟨_, rfl, _, rfl, l, _, rfl, .inl (SqL.of hl2), _, _, rfl, rfl, (by rw [List.length_map]; show (0 : Int) < _; omega), ?_⟩
    obtain ⟨k, hk, hkl⟩ : ∃ k : Nat, a % (((zs.map V.str).length : Nat) : Int) = (k : Int) ∧ k < zs.length := by
      rw [List.length_map]
      have g0 := Int.emod_nonneg a (show ((zs.length : Nat) : Int) ≠ 0 by omega)
      have g1 := Int.emod_lt_of_pos a (show (0 : Int) < ((zs.length : Nat) : Int) by omega)
      exact ⟨(a % ((zs.length : Nat) : Int)).toNat, by omega, by omega⟩
    dsimp only
    rw [hk]
    have hat : (zs.map V.str)[k]? = some (.str zs[k]) := by rw [List.getElem?_map, List.getElem?_eq_getElem hkl]; rfl
    have hzk := hz _ (List.getElem_mem hkl)
    have e1 : ((k : Int) + 1) = ((k + 1 : Nat) : Int) := by omega
    have sz : ∀ n : Nat, n ≤ 900 → n ≤ sizeLine := fun n h => Nat.le_of_lt (small9000 (by omega))
    refine ⟨_, rfl, _, _, rfl, rfl, _, rfl, ite2 (fun g => ?_) (fun g => ?_)⟩
    · have st3 : style < 3 := of_decide_eq_true g
      refine ⟨_, rfl, _, rfl, _, rfl, l, _, rfl, SqL.of hl2, fun p1 hp1 => ?_⟩
      rw [cutS_to (Nat.le_of_lt hkl)]
      have u1 := same_new hp1 (.lst ((zs.take k).map V.str))
      have y1 : (upd H2 p1 (.lst ((zs.take k).map V.str))) p1 = some (.lst ((zs.take k).map V.str)) := upd_same
      generalize upd H2 p1 (.lst ((zs.take k).map V.str)) = H3 at u1 y1 ⊢
      refine ⟨_, rfl, _, rfl, l, _, _, _, rfl, rfl, SqL.of (u1 _ _ hl2), atI_nat hat, _, rfl, _, rfl, _, rfl, zs[k], spot, pick, style, rfl, by omega, st0, st3, fun z' H4 hz' u2 => ?_⟩
      refine ⟨(by show 1 ≤ sizeLine; decide), fun p2 hp2 => ?_⟩
      have u3 := same_new hp2 (.lst [.str z'])
      have y2 : (upd H4 p2 (.lst [.str z'])) p2 = some (.lst [.str z']) := upd_same
      generalize upd H4 p2 (.lst [.str z']) = H5 at u3 y2 ⊢
      refine ⟨p1, p2, _, _, rfl, rfl, (u2.trans u3) _ _ y1, y2, sz _ (by rw [List.length_map, List.length_take]; show _ + 1 ≤ _; omega), fun p3 hp3 => ?_⟩
      have u4 := same_new hp3 (.lst ((zs.take k).map V.str ++ [.str z']))
      have y3 : (upd H5 p3 (.lst ((zs.take k).map V.str ++ [.str z']))) p3 = some (.lst ((zs.take k).map V.str ++ [.str z'])) := upd_same
      generalize upd H5 p3 (.lst ((zs.take k).map V.str ++ [.str z'])) = H6 at u4 y3 ⊢
      have u26 := u1.trans (u2.trans (u3.trans u4))
      refine ⟨_, rfl, _, rfl, _, _, rfl, rfl, _, rfl, l, _, rfl, SqL.of (u26 _ _ hl2), fun p4 hp4 => ?_⟩
      dsimp only
      rw [e1, cutS_from (show k + 1 ≤ zs.length by omega)]
      have u5 := same_new hp4 (.lst ((zs.drop (k + 1)).map V.str))
      refine ⟨p3, p4, _, _, rfl, rfl, u5 _ _ y3, upd_same, sz _ (by rw [List.length_append, List.length_map, List.length_take, List.length_map, List.length_drop]; show _ + 1 + _ ≤ _; omega), fun p5 hp5 => ?_⟩
      refine q _ p5 ((zs.take k ++ [z']) ++ zs.drop (k + 1)) (s02.trans (u26.trans (u5.trans (same_new hp5 _)))) (by rw [List.map_append, List.map_append]; exact upd_same) (by rw [List.length_append, List.length_append, List.length_take, List.length_drop]; show _ + 1 + _ ≤ _; omega) fun z hzm => ?_
      rcases List.mem_append.mp hzm with h | h
      · rcases List.mem_append.mp h with h | h
        · exact hb16 z (List.mem_of_mem_take h)
        · rw [List.mem_singleton.mp h]
          omega
      · exact hb16 z (List.mem_of_mem_drop h)
    · have g3 : ¬ style < 3 := fun h => g (decide_eq_true h)
      refine ⟨_, rfl, _, rfl, _, rfl, l, _, rfl, SqL.of hl2, fun p1 hp1 => ?_⟩
      rw [cutS_to (Nat.le_of_lt hkl)]
      have v1 := same_new hp1 (.lst ((zs.take k).map V.str))
      have w1 : (upd H2 p1 (.lst ((zs.take k).map V.str))) p1 = some (.lst ((zs.take k).map V.str)) := upd_same
      generalize upd H2 p1 (.lst ((zs.take k).map V.str)) = H3 at v1 w1 ⊢
      have m3 := v1 _ _ hl2
      refine ⟨_, rfl, _, rfl, _, _, rfl, rfl, _, rfl, l, _, rfl, SqL.of m3, fun p2 hp2 => ?_⟩
      dsimp only
      rw [e1, cutS_from (show k + 1 ≤ zs.length by omega)]
      have v2 := same_new hp2 (.lst ((zs.drop (k + 1)).map V.str))
      have w2 : (upd H3 p2 (.lst ((zs.drop (k + 1)).map V.str))) p2 = some (.lst ((zs.drop (k + 1)).map V.str)) := upd_same
      generalize upd H3 p2 (.lst ((zs.drop (k + 1)).map V.str)) = H4 at v2 w2 ⊢
      refine ⟨p1, p2, _, _, rfl, rfl, v2 _ _ w1, w2, sz _ (by rw [List.length_map, List.length_take, List.length_map, List.length_drop]; omega), fun p3 hp3 => ?_⟩
      rw [← List.map_append]
      have v3 := same_new hp3 (.lst ((zs.take k ++ zs.drop (k + 1)).map V.str))
      have w3 : (upd H4 p3 (.lst ((zs.take k ++ zs.drop (k + 1)).map V.str))) p3 = some (.lst ((zs.take k ++ zs.drop (k + 1)).map V.str)) := upd_same
      generalize upd H4 p3 (.lst ((zs.take k ++ zs.drop (k + 1)).map V.str)) = H5 at v3 w3 ⊢
      have m5 := (v2.trans v3) _ _ m3
      refine ⟨_, rfl, _, rfl, _, _, rfl, rfl, _, rfl, l, _, rfl, SqL.of m5, fun p4 hp4 => ?_⟩
      dsimp only
      rw [e1, cutS_to (show k + 1 ≤ zs.length by omega)]
      have v4 := same_new hp4 (.lst ((zs.take (k + 1)).map V.str))
      have w4 : (upd H5 p4 (.lst ((zs.take (k + 1)).map V.str))) p4 = some (.lst ((zs.take (k + 1)).map V.str)) := upd_same
      generalize upd H5 p4 (.lst ((zs.take (k + 1)).map V.str)) = H6 at v4 w4 ⊢
      have m6 := v4 _ _ m5
      refine ⟨_, rfl, _, rfl, _, rfl, l, _, rfl, SqL.of m6, fun p5 hp5 => ?_⟩
      rw [cutS_from (Nat.le_of_lt hkl)]
      have v5 := same_new hp5 (.lst ((zs.drop k).map V.str))
      have w5 : (upd H6 p5 (.lst ((zs.drop k).map V.str))) p5 = some (.lst ((zs.drop k).map V.str)) := upd_same
      generalize upd H6 p5 (.lst ((zs.drop k).map V.str)) = H7 at v5 w5 ⊢
      refine ⟨p4, p5, _, _, rfl, rfl, v5 _ _ w4, w5, sz _ (by rw [List.length_map, List.length_take, List.length_map, List.length_drop]; omega), fun p6 hp6 => ?_⟩
      rw [← List.map_append]
      have v6 := same_new hp6 (.lst ((zs.take (k + 1) ++ zs.drop k).map V.str))
      have w6 : (upd H7 p6 (.lst ((zs.take (k + 1) ++ zs.drop k).map V.str))) p6 = some (.lst ((zs.take (k + 1) ++ zs.drop k).map V.str)) := upd_same
      generalize upd H7 p6 (.lst ((zs.take (k + 1) ++ zs.drop k).map V.str)) = H8 at v6 w6 ⊢
      have m8 := (v5.trans v6) _ _ m6
      refine ⟨_, rfl, _, rfl, _, rfl, l, _, rfl, SqL.of m8, fun p7 hp7 => ?_⟩
      rw [cutS_to (Nat.le_of_lt hkl)]
      have v7 := same_new hp7 (.lst ((zs.take k).map V.str))
      have w7 : (upd H8 p7 (.lst ((zs.take k).map V.str))) p7 = some (.lst ((zs.take k).map V.str)) := upd_same
      generalize upd H8 p7 (.lst ((zs.take k).map V.str)) = H9 at v7 w7 ⊢
      have m9 := v7 _ _ m8
      refine ⟨_, rfl, _, rfl, _, _, rfl, rfl, _, rfl, l, _, rfl, SqL.of m9, fun p8 hp8 => ?_⟩
      dsimp only
      rw [e1, cutS_from (show k + 1 ≤ zs.length by omega)]
      have v8 := same_new hp8 (.lst ((zs.drop (k + 1)).map V.str))
      have w8 : (upd H9 p8 (.lst ((zs.drop (k + 1)).map V.str))) p8 = some (.lst ((zs.drop (k + 1)).map V.str)) := upd_same
      generalize upd H9 p8 (.lst ((zs.drop (k + 1)).map V.str)) = H10 at v8 w8 ⊢
      refine ⟨p7, p8, _, _, rfl, rfl, v8 _ _ w7, w8, sz _ (by rw [List.length_map, List.length_take, List.length_map, List.length_drop]; omega), fun p9 hp9 => ?_⟩
      rw [← List.map_append]
      have v9 := same_new hp9 (.lst ((zs.take k ++ zs.drop (k + 1)).map V.str))
      have w9 : (upd H10 p9 (.lst ((zs.take k ++ zs.drop (k + 1)).map V.str))) p9 = some (.lst ((zs.take k ++ zs.drop (k + 1)).map V.str)) := upd_same
      generalize upd H10 p9 (.lst ((zs.take k ++ zs.drop (k + 1)).map V.str)) = H11 at v9 w9 ⊢
      have m11 := (v8.trans v9) _ _ m9
      refine ⟨_, rfl, _, rfl, l, _, _, _, rfl, rfl, SqL.of m11, atI_nat hat, (by show 1 ≤ sizeLine; decide), fun p10 hp10 => ?_⟩
      have v10 := same_new hp10 (.lst [V.str zs[k]])
      have w10 : (upd H11 p10 (.lst [V.str zs[k]])) p10 = some (.lst [V.str zs[k]]) := upd_same
      generalize upd H11 p10 (.lst [V.str zs[k]]) = H12 at v10 w10 ⊢
      refine ⟨p9, p10, _, _, rfl, rfl, v10 _ _ w9, w10, sz _ (by rw [List.length_map, List.length_append, List.length_take, List.length_drop]; show _ + 1 ≤ _; omega), fun p11 hp11 => ?_⟩
      rw [show [V.str zs[k]] = [zs[k]].map V.str from rfl, ← List.map_append]
      have v11 := same_new hp11 (.lst (((zs.take k ++ zs.drop (k + 1)) ++ [zs[k]]).map V.str))
      have w11 : (upd H12 p11 (.lst (((zs.take k ++ zs.drop (k + 1)) ++ [zs[k]]).map V.str))) p11 = some (.lst (((zs.take k ++ zs.drop (k + 1)) ++ [zs[k]]).map V.str)) := upd_same
      generalize upd H12 p11 (.lst (((zs.take k ++ zs.drop (k + 1)) ++ [zs[k]]).map V.str)) = H13 at v11 w11 ⊢
      refine ⟨(by show 3 ≤ sizeLine; decide), fun p12 hp12 => ?_⟩
      have v12 := same_new hp12 (.lst [.ref p3, .ref p6, .ref p11])
      have t6 := v7.trans (v8.trans (v9.trans (v10.trans (v11.trans v12))))
      have t3 := v4.trans (v5.trans (v6.trans t6))
      have t0 := v1.trans (v2.trans (v3.trans t3))
      have c3 : style = 3 ∨ style = 4 ∨ style = 5 := by omega
      rcases c3 with rfl | rfl | rfl
      · refine ⟨_, rfl, _, _, rfl, rfl, p12, _, _, _, rfl, rfl, SqL.of upd_same, at_zero _ _, ?_⟩
        refine q _ p3 (zs.take k ++ zs.drop (k + 1)) (s02.trans t0) (t3 _ _ w3) (by simp only [List.length_append, List.length_take, List.length_drop, List.length_cons, List.length_nil]; omega) fun z hzm => hb16 z ?_
        rcases List.mem_append.mp hzm with h | h
        · exact List.mem_of_mem_take h
        · exact List.mem_of_mem_drop h
      · refine ⟨_, rfl, _, _, rfl, rfl, p12, _, _, _, rfl, rfl, SqL.of upd_same, atI_nat (j := 1) rfl, ?_⟩
        refine q _ p6 (zs.take (k + 1) ++ zs.drop k) (s02.trans t0) (t6 _ _ w6) (by simp only [List.length_append, List.length_take, List.length_drop, List.length_cons, List.length_nil]; omega) fun z hzm => hb16 z ?_
        rcases List.mem_append.mp hzm with h | h
        · exact List.mem_of_mem_take h
        · exact List.mem_of_mem_drop h
      · refine ⟨_, rfl, _, _, rfl, rfl, p12, _, _, _, rfl, rfl, SqL.of upd_same, atI_nat (j := 2) rfl, ?_⟩
        refine q _ p11 ((zs.take k ++ zs.drop (k + 1)) ++ [zs[k]]) (s02.trans t0) (v12 _ _ w11) (by simp only [List.length_append, List.length_take, List.length_drop, List.length_cons, List.length_nil]; omega) fun z hzm => hb16 z ?_
        rcases List.mem_append.mp hzm with h | h
        · rcases List.mem_append.mp h with h | h
          · exact List.mem_of_mem_take h
          · exact List.mem_of_mem_drop h
        · rw [List.mem_singleton.mp h]
          exact List.getElem_mem hkl
end
end K15
namespace L2
open PySem PySem.Spec PyProof.Rows
theorem call_str_rw {X : Cx} : CallR X (.type "str") (fun xs H Q => (∃ z, xs = [.str z] ∧ Q (.str z) H) ∨ ∃ i : Int, xs = [.int i] ∧ i.natAbs.log2 < 1920 ∧ Q (.str (toString i)) H) := by
  intro pins s σ H xs us Q I r h
  rcases h with ⟨z, rfl, q⟩ | ⟨i, rfl, hz, q⟩
  · obtain ⟨u, rfl, t, rfl⟩ := vals1 r
    exact PySem.P.str_of_str ⟨.str _, H, I, ⟨_, rfl⟩, q⟩
  · obtain ⟨u, rfl, t, rfl⟩ := vals1 r
    exact PySem.P.str_of_int hz ⟨.str _, H, I.tok _, ⟨_, rfl⟩, q⟩
end L2
namespace K15
open PySem L2
/-! ### the law -/
theorem kit_nl (K : PySem.W.Frag) : PySem.W.kitOne K (.type "NoneType") (.type "list") = some false := by kernel_rfl
theorem kit_il (K : PySem.W.Frag) : PySem.W.kitOne K (.type "int") (.type "list") = some false := by kernel_rfl
theorem kit_sl (K : PySem.W.Frag) : PySem.W.kitOne K (.type "str") (.type "list") = some false := by kernel_rfl
theorem kit_tl (K : PySem.W.Frag) : PySem.W.kitOne K (.type "tuple") (.type "list") = some false := by kernel_rfl
theorem kit_dl (K : PySem.W.Frag) : PySem.W.kitOne K (.type "dict") (.type "list") = some false := by kernel_rfl
theorem rowX_140 {names : List Str} {m : Nat} {b : Bell} {w : Str} (hw : w.length ≤ 4) (g : GoodB m 0 true b) (hm : m ≤ names.length) (h8 : ∀ x ∈ names, x.length ≤ 8) (hb : b.name.length ≤ 8) : (rowX names b w).length ≤ 140 := by
  have h1 : ∀ y ∈ [b.name, numS b.start, w] ++ b.lis.map (lisS names), y.length ≤ 14 := by
    intro y hy
    rcases List.mem_append.mp hy with h | h
    · rcases List.mem_cons.mp h with rfl | h
      · omega
      rcases List.mem_cons.mp h with rfl | h
      · have := (numS_le g.s0 g.s1).2
        omega
      · rw [List.mem_singleton.mp h]
        omega
    · obtain ⟨l, hl, rfl⟩ := List.mem_map.mp h
      obtain ⟨g1, g2, g3, _⟩ := g.l l hl
      exact lisS_le h8 g2 g3 (by omega)
  have h2 := StrLaws.sumLen_le _ h1
  have h3 : ([b.name, numS b.start, w] ++ b.lis.map (lisS names)).length ≤ 9 := by
    rw [List.length_append, List.length_map]
    have := g.n6
    show 3 + b.lis.length ≤ 9
    omega
  have h4 := StrLaws.join_length_le " " ([b.name, numS b.start, w] ++ b.lis.map (lisS names))
  have e1 : (" " : Str).length = 1 := by decide +kernel
  have e2 : rowX names b w = Str.join " " ([b.name, numS b.start, w] ++ b.lis.map (lisS names)) := StrLaws.glued_eq_join _ _
  rw [e2]
  rw [e1] at h4
  omega
def rngs : List Int := [3, 6, 7, 400, 24, 6, 7, 400, 24, 6, 7, 400, 24]
theorem rngs_ok : ∀ m ∈ rngs, 1 ≤ m ∧ Big m := by
  unfold Big
  decide +kernel
theorem rng2_ok : ∀ m ∈ [(3 : Int), 8], 1 ≤ m ∧ Big m := by
  unfold Big
  decide +kernel
/-- the four numbers of a turn -/
theorem four_at {ns : List Int} (h : InR ns rngs) {t : Nat} (ht : t < 3) : ∃ a st sp pk : Int, cutV (ns.map V.int) (some (1 + 4 * (t : Int))) (some (5 + 4 * (t : Int))) = [.int a, .int st, .int sp, .int pk] ∧ 0 ≤ st ∧ st ≤ 6 := by
  cases h with
  | cons _ _ h =>
  cases h with
  | cons _ _ h =>
  cases h with
  | cons b0 b1 h =>
  cases h with
  | cons _ _ h =>
  cases h with
  | cons _ _ h =>
  cases h with
  | cons _ _ h =>
  cases h with
  | cons c0 c1 h =>
  cases h with
  | cons _ _ h =>
  cases h with
  | cons _ _ h =>
  cases h with
  | cons _ _ h =>
  cases h with
  | cons d0 d1 h =>
  cases h with
  | cons _ _ h =>
  cases h with
  | cons _ _ h =>
  cases h
  match t, ht with
  | 0, _ => exact ⟨_, _, _, _, rfl, b0, by omega⟩
  | 1, _ => exact ⟨_, _, _, _, rfl, c0, by omega⟩
  | 2, _ => exact ⟨_, _, _, _, rfl, d0, by omega⟩
def Bt : Nat → Nat
  | 0 => 140
  | n + 1 => 2 * Bt n + 16
theorem Bt_le {t : Nat} (h : t ≤ 3) : Bt t ≤ 1300 ∧ (t ≤ 2 → Bt t ≤ 800) := by
  match t, h with
  | 0, _ => exact ⟨by decide, fun _ => by decide⟩
  | 1, _ => exact ⟨by decide, fun _ => by decide⟩
  | 2, _ => exact ⟨by decide, fun _ => by decide⟩
  | 3, _ => exact ⟨by decide, fun h => absurd h (by decide)⟩
theorem rep_th {H : Hp} {ts : List Th} {vs : List V} (h : ThsAt H ts vs) : ∀ n : Nat, ThsAt H (List.replicate n ts).flatten (List.replicate n vs).flatten
  | 0 => rfl
  | n + 1 => by
    rw [List.replicate_succ, List.replicate_succ, List.flatten_cons, List.flatten_cons]
    exact h.app (rep_th h n)
theorem not_strs {ts us : List Th} {t : Th} (h : isS t = false) : rowsB (ts ++ t :: us) = false := by
  unfold rowsB
  rw [Bool.and_eq_false_iff]
  refine .inr ?_
  rw [List.all_append, List.all_cons, h, Bool.false_and, Bool.and_false]
section
variable {P : Program} {w : World} {K : PySem.W.Frag} {mg : Str → Option Value} {base : Heap} {f : Addr} {fd : FuncData}
def sp_law (K : PySem.W.Frag) : Sp := fun vs H Q _ => ∃ (a : Addr) (ns : List Int), vs = [.ref a] ∧ SqL K H a (ns.map V.int) ∧ ns.length ≤ 63 ∧ ∀ H', Q (.bl true) H'
theorem sc_law : FnScope ["_law_script", "_law_names_here", "_law_choir_here", "_law_rows", "_law_k", "_law_odd", "_law_numbers", "_law_some", "_law_turn", "_law_answer", "_law_error"] ["_law_script"] (defScope s_law) := ⟨rfl, rfl, rfl, by decide +kernel, rfl, by decide +kernel, by decide +kernel⟩
theorem ok_law {C : Addr} (F : Fun K "law" "law" s_law f fd) (B : Blt mg) (xc : XCls K C) (nB : PySem.W.findIn K (.ref C) "row" = some none) (C_part : Cal P w K mg base 2 "_law_part" ["_law_script", "_law_k", "_law_ranges"] (sp_part K)) (C_names : Cal P w K mg base 3 "_law_names" ["_law_script", "_law_at", "_law_ahead"] (sp_names K)) (C_choir : Cal P w K mg base 3 "_law_choir" ["_law_script", "_law_at", "_law_names_here"] (sp_choir K))
    (C_written : Cal P w K mg base 1 "_law_written" ["_law_names_here", "_law_bell_here", "_law_word"] sp_written) (C_changed : Cal P w K mg base 2 "_law_changed" ["_law_rows", "_law_numbers"] sp_changed) (C_right : Cal P w K mg base 10 "_law_right" ["_law_rows"] sp_right) (C_told : Cal P w K mg base 9 "_law_told" ["_law_rows"] (sp_told K C)) (C_only : Cal P w K mg base 1 "_law_only" ["_law_error", "_law_at"] (sp_only C 2)) :
    FnOk P w K mg base CX0 11 f fd ["_law_script"] (sp_law K) := by
  refine F.ok sc_law (fun vs H Q E h => ?_) (fun cdv A outer s H vs Q E hr h => ?_)
  · obtain ⟨a, ns, rfl, _⟩ := h
    rfl
  obtain ⟨a, ns, rfl, hS, h63, q⟩ := h
  refine' ⟨_, ?ht, ?hr⟩
  case ht =>
    refine' pss_cons ?g1 ?g2
    case g1 => exact (ps_set (i := 1) sc_law.nd rfl (Or.inr rfl) (pe_fn C_names hr (by decide) rfl (pa_cons (pv 0) (pa_cons pe_int (pa_cons (pe_lst pa_nil) pa_nil)))))
    case g2 =>
    refine' pss_cons ?g3 ?g4
    case g3 => exact (ps_set (i := 2) sc_law.nd rfl (Or.inl rfl) (pe_fn C_choir hr (by decide) rfl (pa_cons (pv 0) (pa_cons pe_int (pa_cons (pv 1) pa_nil)))))
    case g4 =>
    refine' pss_cons ?g5 ?g6
    case g5 => exact (ps_setComp (i := 3) ["_law_bell_here"] ["_law_names_here"] [1] rfl sc_law.nd rfl (Or.inl rfl) (pi_tup (pv 2)) (fun _ _ _ _ _ => (pg_name (i := 0) (show List.Nodup [("_law_bell_here" : Str), ("_law_names_here" : Str)] by decide +kernel) rfl (Or.inl rfl))) (fun _ _ _ _ _ => pts_nil) (fun _ _ _ _ _ => (pe_fn C_written hr (by decide) rfl (pa_cons (pv 1) (pa_cons (pv 0) (pa_cons (pe_callTy call_str_rw rfl B.str_ PyProof.Rows.boot_str (pa_cons (pe_ix (ix_tupC (K := K) rfl) (pv 0) pe_int (fun _ _ => rfl)) pa_nil)) pa_nil))))))
    case g6 =>
    refine' pss_cons ?g7 ?g8
    case g7 => exact (ps_for PassesOwn.never rfl (pi_range2 rfl B.range_ (pa_cons pe_int (pa_cons (pe_callB (call_max2 rfl) rfl B.max_ PyProof.Rows.boot_max (pa_cons pe_int (pa_cons (pe_callB (call_min2 rfl) rfl B.min_ PyProof.Rows.boot_min (pa_cons pe_int (pa_cons (pe_callB call_len_seq rfl B.len_ PySem.boot_len (pa_cons (pv 0) pa_nil)) pa_nil))) pa_nil))) pa_nil))) (pg_name (i := 4) sc_law.nd rfl (Or.inl rfl))
      (pss_cons (ps_set (i := 6) sc_law.nd rfl (Or.inl rfl) (pe_fn C_part hr (by decide) rfl (pa_cons (pv 0) (pa_cons (pv 4) (pa_cons (pe_op op_cat (pe_lst (pa_cons pe_int pa_nil)) (pe_op op_rep (pe_lst (pa_cons pe_int (pa_cons pe_int (pa_cons pe_int (pa_cons pe_int pa_nil))))) pe_int)) pa_nil)))))
      (pss_cons (ps_set (i := 7) sc_law.nd rfl (Or.inl rfl) (pe_callTy call_list_of rfl B.list_ PyProof.Rows.boot_list (pa_cons (pv 3) pa_nil)))
      (pss_cons (ps_for PassesOwn.never rfl (pi_range1 rfl B.range_ (pa_cons (pe_op op_add pe_int (pe_ix ix_list (pv 6) pe_int (fun _ _ => rfl))) pa_nil)) (pg_name (i := 8) sc_law.nd rfl (Or.inl rfl))
      (pss_one (ps_set (i := 7) sc_law.nd rfl (Or.inl rfl) (pe_fn C_changed hr (by decide) rfl (pa_cons (pv 7) (pa_cons (pe_slice sl_list (pv 6) (po_some (pe_op op_add pe_int (pe_op op_mul pe_int (pv 8)))) (po_some (pe_op op_add pe_int (pe_op op_mul pe_int (pv 8))))) pa_nil))))))
      (pss_one (ps_if (pt_not (pt_val (pe_fn C_right hr (by decide) rfl (pa_cons (pv 7) pa_nil))))
      (pss_one (ps_ret pe_bl))
      pss_nil))))))
    case g8 =>
    refine' pss_cons ?g9 ?g10
    case g9 =>
      refine' ps_set (i := 5) (x := "_law_odd") ?h1 ?h2 ?h3 ?a1 ?hs ?hf
      case h1 => exact sc_law.nd
      case h2 => rfl
      case h3 => exact Or.inl rfl
      case hs => kernel_rfl
      case hf => exact Or.inl rfl
      case a1 =>
        refine' pe_lst ?a2
        case a2 =>
          refine' pa_cons pe_non ?c1
          case c1 =>
          refine' pa_cons pe_int ?c2
          case c2 =>
          refine' pa_cons pe_str ?c3
          case c3 =>
          refine' pa_cons ?e4 ?c4
          case e4 => exact (pe_callTy call_tuple_of rfl B.tuple_ PyProof.Rows.boot_tuple (pa_cons (pv 3) pa_nil))
          case c4 =>
          refine' pa_cons pe_dnewK ?c5
          case c5 =>
          refine' pa_cons ?e6 ?c6
          case e6 => exact (pe_op op_cat (pv 3) (pe_lst (pa_cons pe_non pa_nil)))
          case c6 =>
          refine' pa_cons ?e7 ?c7
          case e7 => exact (pe_op op_cat (pe_lst (pa_cons pe_int pa_nil)) (pv 3))
          case c7 =>
          refine' pa_cons ?e8 ?c8
          case e8 => exact (pe_op op_rep (pv 3) pe_int)
          case c8 => exact pa_nil
    case g10 => exact (pss_cons (ps_asg (pe_fn C_told hr (by decide) rfl (pa_cons (pe_ix ix_list (pv 5) (pe_ix ix_list (pe_fn C_part hr (by decide) rfl (pa_cons (pv 0) (pa_cons pe_int (pa_cons (pe_lst (pa_cons pe_int (pa_cons pe_int pa_nil))) pa_nil)))) pe_int (fun _ _ => rfl)) (fun _ _ => rfl)) pa_nil)) (pg_tup rfl (pgs_cons (pg_name (i := 9) sc_law.nd rfl (Or.inl rfl)) (pgs_cons (pg_name (i := 10) sc_law.nd rfl (Or.inl rfl)) pgs_nil))))
      (pss_one (ps_ret (pe_and (pe_fn C_only hr (by decide) rfl (pa_cons (pv 10) (pa_cons pe_int pa_nil))) (pe_one (pe_cmpR op_isN (pe_xgetV (pv 10) rfl) pe_non (nomark _)))))))
  case hr =>
    refine ⟨_, rfl, (by show 0 ≤ sizeLine; decide), fun l hl => ?_⟩
    refine ⟨a, ns, 1, l, [], rfl, (same_new hl _).seq hS, by decide, upd_same, by decide, fun H1 p names s1 p0 hp1 n6 good => ?_⟩
    have s01 := (same_new hl (.lst [])).trans s1
    refine ⟨_, rfl, _, rfl, a, ns, 2, p, names, rfl, s01.seq hS, by decide, hp1, n6, fun H2 v c s2 hch c1 c6 hcn gb => ?_⟩
    have G := GoodC.of good c1 c6 hcn gb
    obtain ⟨ca, cv, rfl, hca, prc⟩ := hch
    have hcl := paired_len prc
    have hp2 := s2 _ _ hp1
    have s02 := s01.trans s2
    clear s1 hl s01 hp1 s2 p0
    have hrw : ∀ b ∈ c, (rwS b.rule).length ≤ 4 := fun b hb => rwS_le (G.gb b hb).r (by have := (G.gb b hb).n6; omega)
    refine ⟨_, rfl, ca, rfl, ⟨_, SqT.of hca⟩, fun D hD => ?_⟩
    refine comp_tup (K := K) (a := ca) (xs := cv) (fun j ys H3 => Same H2 H3 ∧ ys = ((c.take j).map fun b => rowX names b (rwS b.rule)).map V.str) ⟨same_new hD _, rfl⟩ (fun j ys H3 _ ⟨z, _⟩ => SqT.of (z _ _ hca)) ?_ ?_
    · rintro j y ys H3 hj ⟨s3, rfl⟩ hD3
      obtain ⟨b, hb, hby⟩ := paired_at prc hj
      have hbm := List.mem_of_getElem? hb
      obtain ⟨x, t, ls, rfl, hx, ht, prl⟩ := id hby
      have hj6 : j < c.length := (List.getElem?_eq_some_iff.mp hb).1
      refine ⟨rfl, tTrue_ite ?_⟩
      refine ⟨_, rfl, _, rfl, _, rfl, x, _, _, _, rfl, rfl, SqT.of (s3 _ _ hx), rfl, ?_⟩
      have key : (∃ z, [rwV b.rule] = [V.str z] ∧ z = rwS b.rule) ∨ ∃ i : Int, [rwV b.rule] = [V.int i] ∧ i.natAbs.log2 < 1920 ∧ toString i = rwS b.rule := by
        have gr := (G.gb b hbm).r
        have n6 := (G.gb b hbm).n6
        cases e : b.rule with
        | all => exact .inl ⟨_, rfl, rfl⟩
        | any => exact .inl ⟨_, rfl, rfl⟩
        | num i =>
          rw [e] at gr
          have g' : 1 ≤ i ∧ i ≤ (b.lis.length : Int) := gr
          exact .inr ⟨i, rfl, small_log (by omega) (by omega), rfl⟩
      rcases key with ⟨z, e1, e2⟩ | ⟨i, e1, e2, e3⟩
      · refine .inl ⟨z, e1, ?_⟩
        rw [e2]
        refine ⟨.ref x, b, p, names, c.length, rwS b.rule, rfl, hrw b hbm, BellAt.mono (Same.tup s3) hby, s3 _ _ hp2, fun x hx => (good.ln x hx).2, G.gb b hbm, by omega, G.len b hbm, fun H4 s4 => ?_⟩
        refine ⟨_, s4 _ _ hD3, ?_, _, ⟨(s3.trans s4).upd hD _, rfl⟩, ?_⟩
        · rw [List.length_map, List.length_map, List.length_take]
          exact small9000 (by omega)
        · rw [take_snoc hb, List.map_append, List.map_append]
          exact upd_same
      · refine .inr ⟨i, e1, e2, ?_⟩
        rw [e3]
        refine ⟨.ref x, b, p, names, c.length, rwS b.rule, rfl, hrw b hbm, BellAt.mono (Same.tup s3) hby, s3 _ _ hp2, fun x hx => (good.ln x hx).2, G.gb b hbm, by omega, G.len b hbm, fun H4 s4 => ?_⟩
        refine ⟨_, s4 _ _ hD3, ?_, _, ⟨(s3.trans s4).upd hD _, rfl⟩, ?_⟩
        · rw [List.length_map, List.length_map, List.length_take]
          exact small9000 (by omega)
        · rw [take_snoc hb, List.map_append, List.map_append]
          exact upd_same
    rintro ys H3 ⟨s3, rfl⟩ hD3
    rw [hcl, List.take_length] at hD3
    have s03 := s02.trans s3
    clear s3 hca hp2 hD prc
    obtain ⟨zs, hzs⟩ : ∃ zs, zs = c.map fun b => rowX names b (rwS b.rule) := ⟨_, rfl⟩
    have hzl : zs.length = c.length := by rw [hzs, List.length_map]
    rw [← hzs] at hD3
    have hz140 : ∀ z ∈ zs, z.length ≤ 140 := fun z hzm => by
      rw [hzs] at hzm
      obtain ⟨b, hb, rfl⟩ := List.mem_map.mp hzm
      exact rowX_140 (hrw b hb) (G.gb b hb) (by omega) (fun x hx => (good.ln x hx).2) (G.len b hb)
    have hzT : ∀ H', ThsAt H' (zs.map Th.str) (zs.map V.str) := fun H' => th_strs fun z hzm => by have := hz140 z hzm; omega
    refine ⟨_, rfl, a, _, rfl, .inl (s03.seq hS), _, _, rfl, _, _, rfl, _, _, rfl, ?_, ?_⟩
    · rw [List.length_map]
      refine ⟨by decide, by decide, ?_, ?_⟩ <;> (split <;> (try split) <;> omega)
    generalize ehi : (if (if (((ns.map V.int).length : Nat) : Int) < 63 then (((ns.map V.int).length : Nat) : Int) else 63) > 10 then (if (((ns.map V.int).length : Nat) : Int) < 63 then (((ns.map V.int).length : Nat) : Int) else 63) else 10) = hi
    have hhi : hi ≤ 63 := by
      rw [← ehi]
      split <;> (try split) <;> omega
    refine for_range (lo := 9) (n := (hi - 9).toNat) (fun i σ H4 => ∃ (o4 o5 o6 o7 o8 o9 o10 : Option V), σ = [some (.ref a), some (.ref p), some (.ref ca), some (.ref D), o4, o5, o6, o7, o8, o9, o10] ∧ Same H3 H4)
      ⟨none, none, none, none, none, none, none, rfl, .refl H3⟩ ?_ ?_
    · rintro i σ H4 hi' ⟨o4, o5, o6, o7, o8, o9, o10, rfl, s4⟩
      have hi63 : i < 63 := by omega
      refine ⟨_, rfl, _, rfl, (by show 1 ≤ sizeLine; decide), fun l1 hl1 => ?_⟩
      have u1 := same_new hl1 (.lst [.int 3])
      refine ⟨(by show 4 ≤ sizeLine; decide), fun l2 hl2 => ?_⟩
      have u2 := same_new hl2 (.lst [.int 6, .int 7, .int 400, .int 24])
      refine ⟨l2, 3, _, rfl, rfl, upd_same, by decide, by decide, (by show 4 * 3 ≤ sizeLine; decide), fun l3 hl3 => ?_⟩
      have u3 := same_new hl3 (.lst (List.replicate (3 : Int).toNat [V.int 6, V.int 7, V.int 400, V.int 24]).flatten)
      refine ⟨l1, l3, _, _, rfl, rfl, (u2.trans u3) _ _ upd_same, upd_same, (by show 1 + 12 ≤ sizeLine; decide), fun l4 hl4 => ?_⟩
      have u4 := same_new hl4 (.lst (rngs.map V.int))
      have u14 := u1.trans (u2.trans (u3.trans u4))
      refine ⟨a, ns, 9 + i, l4, rngs, ?_, (s03.trans (s4.trans u14)).seq hS, by omega, SqL.of upd_same, by decide, rngs_ok, fun r H5 nums _ s5 hr5 hin => ?_⟩
      · rw [Int.natCast_add]
        rfl
      have s35 := s4.trans (u14.trans s5)
      obtain ⟨n0, hn0, n00, n03⟩ := hin.at (i := 0) (m := 3) (by decide)
      clear u1 u2 u3 u4 u14 hl1 hl2 hl3 hl4 s4 s5
      refine ⟨_, rfl, D, _, rfl, .inl (SqL.of (s35 _ _ hD3)), fun p0 hp0 => ?_⟩
      have u5 := same_new hp0 (.lst (zs.map V.str))
      have y5 : (upd H5 p0 (.lst (zs.map V.str))) p0 = some (.lst (zs.map V.str)) := upd_same
      generalize upd H5 p0 (.lst (zs.map V.str)) = H6 at u5 y5 ⊢
      have hr6 := u5 _ _ hr5
      refine ⟨_, rfl, r, _, _, _, rfl, rfl, SqL.of hr6, at_map hn0, _, _, rfl, rfl, 1 + n0, rfl, by omega, by omega, ?_⟩
      refine for_range (lo := 0) (n := (1 + n0).toNat) (fun t σ H7 => ∃ (pp : Addr) (zs' : List Str) (o8 : Option V), σ = [some (.ref a), some (.ref p), some (.ref ca), some (.ref D), some (.int (9 + (i : Int))), o5, some (.ref r), some (.ref pp), o8, o9, o10] ∧ Same H6 H7 ∧ H7 pp = some (.lst (zs'.map V.str)) ∧ zs'.length ≤ 6 + t ∧ ∀ z ∈ zs', z.length ≤ Bt t)
        ⟨p0, zs, _, rfl, .refl H6, y5, by omega, hz140⟩ ?_ ?_
      · rintro t σ H7 ht ⟨pp, zs', o8, rfl, s7, hpp, hzl', hzb⟩
        have ht3 : t < 3 := by omega
        rw [Int.zero_add]
        obtain ⟨ai, st, sp, pk, ecut, st0, st6⟩ := four_at hin ht3
        refine ⟨_, rfl, _, rfl, _, rfl, _, _, rfl, rfl, .inl ⟨by decide, by decide⟩, _, _, rfl, rfl, _, rfl, _, rfl, _, _, rfl, rfl, .inl ⟨by decide, by decide⟩, _, _, rfl, rfl, _, rfl, r, _, rfl, SqL.of (s7 _ _ hr6), fun pn hpn => ?_⟩
        dsimp only
        rw [ecut]
        have un := same_new hpn (.lst [.int ai, .int st, .int sp, .int pk])
        refine ⟨pp, pn, zs', ai, st, sp, pk, Bt t, rfl, un _ _ hpp, upd_same, by omega, (Bt_le (by omega)).2 (by omega), hzb, st0, st6, fun H8 p8 zs8 s8 hp8 hl8 hb8 => ?_⟩
        exact ⟨p8, zs8, _, rfl, s7.trans (un.trans s8), hp8, by omega, hb8⟩
      rintro σ H7 ⟨pp, zs', o8, rfl, s7, hpp, hzl', hzb⟩
      have hbt := (Bt_le (t := (1 + n0).toNat) (by omega)).1
      refine ⟨_, rfl, pp, zs', rfl, hpp, by omega, (fun z hzm => by have := hzb z hzm; omega), fun H8 s8 => ⟨_, rfl, iteF ?_⟩⟩
      exact ⟨_, _, _, _, _, _, _, rfl, s35.trans (u5.trans (s7.trans s8))⟩
    rintro σ H4 ⟨o4, o5, o6, o7, o8, o9, o10, rfl, s4⟩
    have hD4 := s4 _ _ hD3
    refine ⟨_, rfl, D, _, rfl, .inl ⟨SqL.of hD4, fun e0 he0 => ?_⟩⟩
    have u0 := same_new he0 (.tup (zs.map V.str))
    have y0 : (upd H4 e0 (.tup (zs.map V.str))) e0 = some (.tup (zs.map V.str)) := upd_same
    generalize upd H4 e0 (.tup (zs.map V.str)) = H5 at u0 y0 ⊢
    refine fun d1 hd1 => ?_
    have u1 := same_new hd1 (.dK [])
    have y1 : (upd H5 d1 (.dK [])) d1 = some (.dK []) := upd_same
    generalize upd H5 d1 (.dK []) = H6 at u1 y1 ⊢
    have hD6 := (u0.trans u1) _ _ hD4
    refine ⟨_, rfl, (by show 1 ≤ sizeLine; decide), fun e1 he1 => ?_⟩
    have u2 := same_new he1 (.lst [.non])
    have y2 : (upd H6 e1 (.lst [.non])) e1 = some (.lst [.non]) := upd_same
    generalize upd H6 e1 (.lst [.non]) = H7 at u2 y2 ⊢
    refine ⟨D, e1, _, _, rfl, rfl, u2 _ _ hD6, y2, (by rw [List.length_map]; exact Nat.le_of_lt (small9000 (by show zs.length + 1 ≤ _; omega))), fun e2 he2 => ?_⟩
    have u3 := same_new he2 (.lst (zs.map V.str ++ [.non]))
    have y3 : (upd H7 e2 (.lst (zs.map V.str ++ [.non]))) e2 = some (.lst (zs.map V.str ++ [.non])) := upd_same
    generalize upd H7 e2 (.lst (zs.map V.str ++ [.non])) = H8 at u3 y3 ⊢
    refine ⟨(by show 1 ≤ sizeLine; decide), fun e3 he3 => ?_⟩
    have u4 := same_new he3 (.lst [.int 7])
    have y4 : (upd H8 e3 (.lst [.int 7])) e3 = some (.lst [.int 7]) := upd_same
    generalize upd H8 e3 (.lst [.int 7]) = H9 at u4 y4 ⊢
    have hD9 := (u2.trans (u3.trans u4)) _ _ hD6
    refine ⟨_, rfl, e3, D, _, _, rfl, rfl, y4, hD9, (by rw [List.length_map]; exact Nat.le_of_lt (small9000 (by show 1 + zs.length ≤ _; omega))), fun e4 he4 => ?_⟩
    have u5 := same_new he4 (.lst ([.int 7] ++ zs.map V.str))
    have y5 : (upd H9 e4 (.lst ([.int 7] ++ zs.map V.str))) e4 = some (.lst ([.int 7] ++ zs.map V.str)) := upd_same
    generalize upd H9 e4 (.lst ([.int 7] ++ zs.map V.str)) = H10 at u5 y5 ⊢
    refine ⟨_, rfl, D, 7, _, rfl, rfl, u5 _ _ hD9, by decide, by decide, (by rw [List.length_map]; show zs.length * 7 ≤ _; exact Nat.le_of_lt (small9000 (by omega))), fun e5 he5 => ?_⟩
    have u6 := same_new he5 (.lst (List.replicate (7 : Int).toNat (zs.map V.str)).flatten)
    have y6 : (upd H10 e5 (.lst (List.replicate (7 : Int).toNat (zs.map V.str)).flatten)) e5 = some (.lst (List.replicate (7 : Int).toNat (zs.map V.str)).flatten) := upd_same
    generalize upd H10 e5 (.lst (List.replicate (7 : Int).toNat (zs.map V.str)).flatten) = H11 at u6 y6 ⊢
    refine ⟨(by show 8 ≤ sizeLine; decide), fun l8 hl8 => ?_⟩
    have u7 := same_new hl8 (.lst [.non, .int 5, .str "ann 0 all ann+1", .ref e0, .ref d1, .ref e2, .ref e4, .ref e5])
    have y7 : (upd H11 l8 (.lst [.non, .int 5, .str "ann 0 all ann+1", .ref e0, .ref d1, .ref e2, .ref e4, .ref e5])) l8 = some (.lst [.non, .int 5, .str "ann 0 all ann+1", .ref e0, .ref d1, .ref e2, .ref e4, .ref e5]) := upd_same
    generalize upd H11 l8 (.lst [.non, .int 5, .str "ann 0 all ann+1", .ref e0, .ref d1, .ref e2, .ref e4, .ref e5]) = H12 at u7 y7 ⊢
    have u67 := u6.trans u7
    have u37 := u4.trans (u5.trans u67)
    have u17 := u2.trans (u3.trans u37)
    have u07 := u1.trans u17
    refine ⟨_, rfl, _, rfl, (by show 2 ≤ sizeLine; decide), fun l2 hl2 => ?_⟩
    have u8 := same_new hl2 (.lst [.int 3, .int 8])
    refine ⟨a, ns, 9, l2, [3, 8], rfl, (s03.trans (s4.trans (u0.trans (u07.trans u8)))).seq hS, by decide, SqL.of upd_same, by decide, rng2_ok, fun r H13 nums _ s13 hr13 hin => ?_⟩
    have u9 := u8.trans s13
    obtain ⟨n1, hn1, n10, n18⟩ := hin.at (i := 1) (m := 8) (by decide)
    have A8 : ∃ v, atI [V.non, .int 5, .str "ann 0 all ann+1", .ref e0, .ref d1, .ref e2, .ref e4, .ref e5] n1 = some v ∧ (NotL K H13 v ∨ ∃ (l : Addr) (xs : List V) (ts : List Th), v = .ref l ∧ H13 l = some (.lst xs) ∧ ThsAt H13 ts xs ∧ xs.length ≤ 1000 ∧ rowsB ts = false) := by
      have hc : n1 = 0 ∨ n1 = 1 ∨ n1 = 2 ∨ n1 = 3 ∨ n1 = 4 ∨ n1 = 5 ∨ n1 = 6 ∨ n1 = 7 := by omega
      rcases hc with rfl | rfl | rfl | rfl | rfl | rfl | rfl | rfl
      · exact ⟨_, at_zero _ _, .inl ⟨_, .non, kit_nl K⟩⟩
      · exact ⟨_, atI_nat (j := 1) rfl, .inl ⟨_, .int 5, kit_il K⟩⟩
      · exact ⟨_, atI_nat (j := 2) rfl, .inl ⟨_, .str _, kit_sl K⟩⟩
      · exact ⟨_, atI_nat (j := 3) rfl, .inl ⟨_, .tup ((u07.trans u9) _ _ y0), kit_tl K⟩⟩
      · exact ⟨_, atI_nat (j := 4) rfl, .inl ⟨_, .dK ((u17.trans u9) _ _ y1), kit_dl K⟩⟩
      · exact ⟨_, atI_nat (j := 5) rfl, .inr ⟨e2, _, zs.map Th.str ++ [.non], rfl, (u37.trans u9) _ _ y3, ThsAt.app (hzT _) (show ThsAt H13 [.non] [.non] from ⟨_, _, rfl, rfl, rfl⟩), by rw [List.length_append, List.length_map]; show zs.length + 1 ≤ _; omega, not_strs rfl⟩⟩
      · exact ⟨_, atI_nat (j := 6) rfl, .inr ⟨e4, _, .int 7 :: zs.map Th.str, rfl, (u67.trans u9) _ _ y5, (show ThsAt H13 (.int 7 :: zs.map Th.str) (.int 7 :: zs.map V.str) from ⟨_, _, rfl, rfl, hzT _⟩), by rw [List.length_append, List.length_map]; show 1 + zs.length ≤ _; omega, not_strs (ts := []) rfl⟩⟩
      · refine ⟨_, atI_nat (j := 7) rfl, .inr ⟨e5, _, (List.replicate 7 (zs.map Th.str)).flatten, rfl, (u7.trans u9) _ _ y6, rep_th (hzT _) 7, ?_, ?_⟩⟩
        · rw [len_rep, List.length_map]
          show 7 * zs.length ≤ _
          omega
        · unfold rowsB
          rw [len_rep, List.length_map, decide_eq_false (show ¬ 7 * zs.length ≤ 6 by omega), Bool.and_false]
          rfl
    obtain ⟨v, hat, ask⟩ := A8
    refine ⟨r, _, _, _, rfl, rfl, SqL.of hr13, at_map hn1, l8, _, _, _, rfl, rfl, SqL.of (u9 _ _ y7), hat, v, rfl, ?_⟩
    have fin : ∀ (H' : Hp) (p a' dx : Addr), Same H13 H' → H' p = some (.tup [.non, .ref a']) → H' a' = some (ExO a' C (some dx)) → H' dx = some (.xd [("row", .non)]) → True := fun _ _ _ _ _ _ _ _ => trivial
    rcases ask with nl | ⟨lx, xs, ts, ev, hlx, hts, hxl, erb⟩
    · refine .inl ⟨nl, fun H14 pt a' dx s14 hpt ha hdx => ?_⟩
      refine ⟨pt, _, rfl, SqT.of hpt, rfl, _, _, rfl, _, _, rfl, rfl, ?_⟩
      refine ⟨_, rfl, a', some dx, rfl, ha, .inr ⟨dx, _, rfl, hdx⟩, fun H15 s15 => ⟨_, rfl, iteT ?_⟩⟩
      exact ⟨_, rfl, a', C, dx, _, _, rfl, s15 _ _ ha, s15 _ _ hdx, xc, nB, rfl, rfl, q H15⟩
    · refine .inr ⟨lx, xs, ts, ev, hlx, hts, hxl, .inl ⟨erb, fun H14 pt a' dx s14 hpt ha hdx => ?_⟩⟩
      refine ⟨pt, _, rfl, SqT.of hpt, rfl, _, _, rfl, _, _, rfl, rfl, ?_⟩
      refine ⟨_, rfl, a', some dx, rfl, ha, .inr ⟨dx, _, rfl, hdx⟩, fun H15 s15 => ⟨_, rfl, iteT ?_⟩⟩
      exact ⟨_, rfl, a', C, dx, _, _, rfl, s15 _ _ ha, s15 _ _ hdx, xc, nB, rfl, rfl, q H15⟩
end
end K15
namespace K15
open PySem L2
theorem xcls_mk {K : PySem.W.Frag} {C : Addr} (h1 : PySem.W.findIn K (.ref C) "__getattribute__" = some (some (.builtin "BaseException.__getattribute__"))) (h2 : PySem.W.findIn K (.ref C) "__getattr__" = some none) (h3 : PySem.W.subIn K (.ref C) (.type "BaseException") = some true) (h4 : PySem.W.hasDictIn K C = true)
    (h5 : PySem.W.findIn K (.ref C) "__class__" = some (some (.builtin "object.__class__"))) (h6 : PySem.W.specialIn K (.builtin "object.__class__") "__get__" = some (some (.builtin "getset_descriptor.__get__"))) (h7 : PySem.W.takesIn K (.builtin "object.__class__") = some true) (h8 : PySem.W.mroIn K C (.type "object") = some true) : XCls K C := ⟨h1, h2, h3, h4, h5, h6, h7, h8⟩
theorem excC_mk {K : PySem.W.Frag} {C : Addr} (h : PySem.W.excIn K C [.type "ValueError", .type "Exception", .type "BaseException", .type "object"] "ValueError.__new__" = true) : ExcC K C := h
theorem ten_mk {K : PySem.W.Frag} {h : Heap} {mg : Str → Option Value} {a0 a1 a2 a3 a4 a5 a6 a7 a8 a9 aB : Addr} (X : K.In h) (G : h.Ns mainGlobals mg) (z0 : PySem.W.nsIn K mainGlobals "NoRule" = some (some (.ref a0))) (z1 : PySem.W.nsIn K mainGlobals "NoChoir" = some (some (.ref a1))) (z2 : PySem.W.nsIn K mainGlobals "NoText" = some (some (.ref a2)))
    (z3 : PySem.W.nsIn K mainGlobals "Waiting" = some (some (.ref a3))) (z4 : PySem.W.nsIn K mainGlobals "Mixed" = some (some (.ref a4))) (z5 : PySem.W.nsIn K mainGlobals "NoName" = some (some (.ref a5))) (z6 : PySem.W.nsIn K mainGlobals "NoRound" = some (some (.ref a6))) (z7 : PySem.W.nsIn K mainGlobals "NoListening" = some (some (.ref a7)))
    (z8 : PySem.W.nsIn K mainGlobals "NoRow" = some (some (.ref a8))) (z9 : PySem.W.nsIn K mainGlobals "NoStand" = some (some (.ref a9))) (zB : PySem.W.nsIn K mainGlobals "BellError" = some (some (.ref aB))) : TenOk mg ⟨a0, a1, a2, a3, a4, a5, a6, a7, a8, a9, aB⟩ :=
  ⟨PySem.W.mg_of X G z0, PySem.W.mg_of X G z1, PySem.W.mg_of X G z2, PySem.W.mg_of X G z3, PySem.W.mg_of X G z4, PySem.W.mg_of X G z5, PySem.W.mg_of X G z6, PySem.W.mg_of X G z7, PySem.W.mg_of X G z8, PySem.W.mg_of X G z9, PySem.W.mg_of X G zB⟩
theorem only_mk {K : PySem.W.Frag} {C : Addr} {at_ : Int} {a0 a1 a2 a3 a4 a5 a6 a7 a8 a9 aB : Addr} {b0 b1 b2 b3 b4 b5 b6 b7 b8 b9 : Bool} (k0 : PySem.W.kitOne K (.ref C) (.ref a0) = some b0) (k1 : PySem.W.kitOne K (.ref C) (.ref a1) = some b1) (k2 : PySem.W.kitOne K (.ref C) (.ref a2) = some b2) (k3 : PySem.W.kitOne K (.ref C) (.ref a3) = some b3)
    (k4 : PySem.W.kitOne K (.ref C) (.ref a4) = some b4) (k5 : PySem.W.kitOne K (.ref C) (.ref a5) = some b5) (k6 : PySem.W.kitOne K (.ref C) (.ref a6) = some b6) (k7 : PySem.W.kitOne K (.ref C) (.ref a7) = some b7) (k8 : PySem.W.kitOne K (.ref C) (.ref a8) = some b8) (k9 : PySem.W.kitOne K (.ref C) (.ref a9) = some b9)
    (kB : PySem.W.kitOne K (.ref C) (.ref aB) = some true) (kV : PySem.W.kitOne K (.ref C) (.type "ValueError") = some true) (xc : XCls K C) (e : [b0, b1, b2, b3, b4, b5, b6, b7, b8, b9] = (List.range 10).map (isAt at_)) : OnlyF K C at_ ⟨a0, a1, a2, a3, a4, a5, a6, a7, a8, a9, aB⟩ := by
  have e' : [b0, b1, b2, b3, b4, b5, b6, b7, b8, b9] = [isAt at_ 0, isAt at_ 1, isAt at_ 2, isAt at_ 3, isAt at_ 4, isAt at_ 5, isAt at_ 6, isAt at_ 7, isAt at_ 8, isAt at_ 9] := e
  injection e' with e0 e'
  injection e' with e1 e'
  injection e' with e2 e'
  injection e' with e3 e'
  injection e' with e4 e'
  injection e' with e5 e'
  injection e' with e6 e'
  injection e' with e7 e'
  injection e' with e8 e'
  injection e' with e9 e'
  exact ⟨e0 ▸ k0, e1 ▸ k1, e2 ▸ k2, e3 ▸ k3, e4 ▸ k4, e5 ▸ k5, e6 ▸ k6, e7 ▸ k7, e8 ▸ k8, e9 ▸ k9, kB, kV, xc⟩
end K15

namespace K15
open PySem L2
theorem mkx_mk {K : PySem.W.Frag} {C f : Addr} (i : PySem.W.findIn K (.ref C) "__init__" = some (some (.ref f))) (ex : excInF K C f = true) (fn : PySem.W.isFn K (.ref f) = true) (kp : PySem.W.keepIn K (.ref C) = true) : MkX K C f := ⟨ex, fn, kp⟩
theorem xset_mk {K : PySem.W.Frag} {C : Addr} {y : Str} (sa : PySem.W.findIn K (.ref C) "__setattr__" = some (some (.builtin "object.__setattr__"))) (po : overX K C = true) (tk : PySem.W.takerIn K C y = some none) (hd : PySem.W.hasDictIn K C = true) : XSet K C y := ⟨sa, po, tk, hd⟩
def tupIs (K : PySem.W.Frag) (a : Addr) (zs : List Str) : Bool := match K.lookup a with
  | some ⟨.type "tuple", _, .seq its _, _⟩ => decide (its.size ≤ sizeLine) && decide (its.toList.map absV = zs.map fun z => some (V.str z))
  | _ => false
theorem rel_abs {z : Str} {u : Value} (h : absV u = some (V.str z)) : RelV (.str z) u := by
  cases u with
  | str x t =>
    have e : x = z := V.str.inj (Option.some.inj h)
    subst e
    exact ⟨t, rfl⟩
  | _ => first | cases h | (unfold absV at h; cases h)
theorem vals_abs : ∀ {zs : List Str} {us : List Value}, us.map absV = zs.map (fun z => some (V.str z)) → Vals (zs.map V.str) us
  | [], [], _ => .nil
  | [], _ :: _, h => by cases h
  | _ :: _, [], h => by cases h
  | z :: zs, u :: us, h => .cons (rel_abs (List.cons.inj h).1) (vals_abs (List.cons.inj h).2)
theorem sqt_is {K : PySem.W.Frag} {a : Addr} {zs : List Str} (h : tupIs K a zs = true) : ∀ H, SqT K H a (zs.map V.str) := fun H => by
  unfold tupIs at h
  split at h
  · rename_i dd its n sl ho
    rw [Bool.and_eq_true] at h
    exact .inr ⟨_, its, n, ho, rfl, rfl, of_decide_eq_true h.1, vals_abs (of_decide_eq_true h.2)⟩
  · cases h
theorem all {t : Ten} {fT : Addr} {t_mI : Tok} {t_mM : Tok} {t_mL : Tok} {t_mS : Tok} {t_mO : Tok} {t_mG : Tok} {tF : Tok} {R A Y S fR fA fY fS aN : Addr} {tJ : Tok} {P : Program} {w : World} {K : PySem.W.Frag} {h : Heap} {mg : Str → Option Value} {fa : Addr} (X : K.In h) (G : h.Ns mainGlobals mg) (hfa : mg "law" = some (.ref fa)) (B : Blt mg)
    (T : TenOk mg t) (MT : MkX K t.c2 fT) (xs : XSet K t.c2 "row") (O : OnlyF K t.c2 2 t) (nN : PySem.W.findIn K (.ref t.c2) "row" = some none) (xm : PySem.W.exmOne K (.ref t.c2) (.ref t.cB) = some true) (FI : ∃ fd, Fun K "__init__" "NoText.__init__" s_tinit fT fd) (mI : mg "MOST_LETTERS" = some (.int 8 t_mI)) (mM : mg "MOST_BEATS" = some (.int 1000 t_mM)) (mL : mg "MOST_LISTENINGS" = some (.int 6 t_mL)) (mS : mg "MOST_START" = some (.int 1000 t_mS)) (mO : mg "MOST_BELLS" = some (.int 6 t_mO)) (mG : mg "MOST_FIGURES" = some (.int 9 t_mG)) (mF : mg "FIGURES" = some (.str figuresT tF))
    (aR : PySem.W.nsIn K mainGlobals "Rule" = some (some (.ref R))) (aA : PySem.W.nsIn K mainGlobals "All" = some (some (.ref A))) (aY : PySem.W.nsIn K mainGlobals "Any" = some (some (.ref Y))) (aS : PySem.W.nsIn K mainGlobals "Some" = some (some (.ref S)))
    (cR : ClsFn K R "__init__" fR) (oA : Own K A fA) (oY : Own K Y fY) (oS : Own K S fS) (xR : ExcC K t.c0) (xm0 : PySem.W.exmOne K (.ref t.c0) (.ref t.c0) = some true)
    (FR : ∃ fd, Fun K "__init__" "Rule.__init__" s_Rinit fR fd) (FA : ∃ fd, Fun K "__init__" "All.__init__" s_Ainit fA fd) (FY : ∃ fd, Fun K "__init__" "Any.__init__" s_Yinit fY fd) (FS : ∃ fd, Fun K "__init__" "Some.__init__" s_Sinit fS fd)
    (mJ : mg "LETTERS" = some (.str lettersT tJ)) (mN : mg "NO_NAMES" = some (.ref aN)) (hN : ∀ H, SqT K H aN (fourT.map V.str))
    (F__law_cell : FunAt K "_law_cell" s_cell) (F__law_blended : FunAt K "_law_blended" s_blended) (F__law_figures : FunAt K "_law_figures" s_figures) (F__law_part : FunAt K "_law_part" s_part) (F__law_names : FunAt K "_law_names" s_names) (F__law_bell : FunAt K "_law_bell" s_bell) (F__law_choir : FunAt K "_law_choir" s_choir) (F__law_written : FunAt K "_law_written" s_written) (F__law_changed_row : FunAt K "_law_changed_row" s_changed_row) (F__law_changed : FunAt K "_law_changed" s_changed) (F_are_rows : FunAt K "are_rows" s_are_rows) (F_is_written_whole : FunAt K "is_written_whole" s_is_written_whole) (F_read_number : FunAt K "read_number" s_read_number) (F_read_rule : FunAt K "read_rule" s_read_rule) (F_is_word : FunAt K "is_word" s_is_word) (F_is_name : FunAt K "is_name" s_is_name) (F_read_listening : FunAt K "read_listening" s_read_listening) (F_read_bell : FunAt K "read_bell" s_read_bell) (F_is_whole : FunAt K "is_whole" s_is_whole) (F_is_whole_within : FunAt K "is_whole_within" s_is_whole_within) (F_is_listening : FunAt K "is_listening" s_is_listening) (F_are_listenings : FunAt K "are_listenings" s_are_listenings) (F_rule_of_text : FunAt K "rule_of_text" s_text) (F_rule_of : FunAt K "rule_of" s_rule_of) (F_is_rule : FunAt K "is_rule" s_is_rule) (F_is_bell : FunAt K "is_bell" s_is_bell) (F_read_choir : FunAt K "read_choir" s_read_choir) (F__law_told : FunAt K "_law_told" s_told) (F__law_only : FunAt K "_law_only" s_only) (F__law_same : FunAt K "_law_same" s_same) (F__law_number_in : FunAt K "_law_number_in" s_number_in) (F__law_is_name : FunAt K "_law_is_name" s_lis_name) (F__law_listening_in : FunAt K "_law_listening_in" s_listening_in) (F__law_bell_in : FunAt K "_law_bell_in" s_bell_in) (F__law_read : FunAt K "_law_read" s_read) (F__law_right : FunAt K "_law_right" s_right) (F_law : FunAt K "law" s_law) :
    ∃ fd : FuncData, (∀ (s : Shared) (u : Value), BindsTo s fd ⟨[u], []⟩ [("_law_script", u)]) ∧ ∀ base : Heap, K.In base → base.Ns mainGlobals mg → FnOk P w K mg base CX0 11 fa fd ["_law_script"] (sp_law K) := by
  refine F_law.law X G hfa (fun _ _ _ _ _ _ _ => rfl) fun base _ _ f fd F => ?_
  obtain ⟨dI, FI⟩ := FI
  have GT : FnOk P w K mg base CX0 1 fT dI ["self", "row"] (sp_tinit t.c2) := ok_tinit FI xs
  have bT : Binds K dI ["self", "row"] [] := FI.binds (ps := ["self", "row"]) fun _ _ _ _ _ _ us hl => by obtain ⟨a, b, rfl⟩ := len2 hl; rfl
  obtain ⟨dR, FR⟩ := FR; obtain ⟨dA, FA⟩ := FA; obtain ⟨dY, FY⟩ := FY; obtain ⟨dS, FS⟩ := FS
  have mR := PySem.W.mg_of X G aR
  have GR : FnOk P w K mg base CX0 1 fR dR ["self", "need"] (sp_init K) := ok_Rinit FR
  have bR : Binds K dR ["self", "need"] [] := FR.binds (ps := ["self", "need"]) fun _ _ _ _ _ _ us hl => by obtain ⟨a, b, rfl⟩ := len2 hl; rfl
  have GA : FnOk P w K mg base CX0 2 fA dA ["self", "many"] (sp_init K) := ok_Ainit FA mR cR GR bR
  have bA : Binds K dA ["self", "many"] [] := FA.binds (ps := ["self", "many"]) fun _ _ _ _ _ _ us hl => by obtain ⟨a, b, rfl⟩ := len2 hl; rfl
  have GY : FnOk P w K mg base CX0 2 fY dY ["self"] (sp_init1 K) := ok_Yinit FY mR cR GR bR
  have bY : Binds K dY ["self"] [] := FY.binds (ps := ["self"]) fun _ _ _ _ _ _ us hl => by obtain ⟨a, rfl⟩ := len1 hl; rfl
  have GS : FnOk P w K mg base CX0 2 fS dS ["self", "need"] (sp_init K) := ok_Sinit FS mR cR GR bR
  have bS : Binds K dS ["self", "need"] [] := FS.binds (ps := ["self", "need"]) fun _ _ _ _ _ _ us hl => by obtain ⟨a, b, rfl⟩ := len2 hl; rfl
  have C__law_cell : Cal P w K mg base 1 "_law_cell" ["_law_script", "_law_k"] (sp_cell K) := F__law_cell.cal X G (fun _ _ _ _ _ _ us hl => by obtain ⟨a, b, rfl⟩ := len2 hl; rfl) fun f fd F => ok_cell F B
  have C__law_blended : Cal P w K mg base 1 "_law_blended" ["_law_cell_here", "_law_ranges"] (sp_blended K) := F__law_blended.cal X G (fun _ _ _ _ _ _ us hl => by obtain ⟨a, b, rfl⟩ := len2 hl; rfl) fun f fd F => ok_blended F B
  have C__law_figures : Cal P w K mg base 1 "_law_figures" ["_law_cell_here", "_law_ranges", "_law_spare"] (sp_figures K) := F__law_figures.cal X G (fun _ _ _ _ _ _ us hl => by obtain ⟨a, b, c, rfl⟩ := len3 hl; rfl) fun f fd F => ok_figures F B
  have C__law_part : Cal P w K mg base 2 "_law_part" ["_law_script", "_law_k", "_law_ranges"] (sp_part K) := F__law_part.cal X G (fun _ _ _ _ _ _ us hl => by obtain ⟨a, b, c, rfl⟩ := len3 hl; rfl) fun f fd F => ok_part F C__law_cell C__law_blended C__law_figures
  have C__law_names : Cal P w K mg base 3 "_law_names" ["_law_script", "_law_at", "_law_ahead"] (sp_names K) := F__law_names.cal X G (fun _ _ _ _ _ _ us hl => by obtain ⟨a, b, c, rfl⟩ := len3 hl; rfl) fun f fd F => ok_names F B C__law_cell C__law_blended C__law_part
  have C__law_bell : Cal P w K mg base 1 "_law_bell" ["_law_numbers", "_law_name", "_law_many", "_law_scale"] sp_bell := F__law_bell.cal X G (fun _ _ _ _ _ _ us hl => by obtain ⟨a, b, c, d, rfl⟩ := len4 hl; rfl) fun f fd F => ok_bell F B
  have C__law_choir : Cal P w K mg base 3 "_law_choir" ["_law_script", "_law_at", "_law_names_here"] (sp_choir K) := F__law_choir.cal X G (fun _ _ _ _ _ _ us hl => by obtain ⟨a, b, c, rfl⟩ := len3 hl; rfl) fun f fd F => ok_choir F B C__law_cell C__law_part C__law_bell
  have C__law_written : Cal P w K mg base 1 "_law_written" ["_law_names_here", "_law_bell_here", "_law_word"] sp_written := F__law_written.cal X G (fun _ _ _ _ _ _ us hl => by obtain ⟨a, b, c, rfl⟩ := len3 hl; rfl) fun f fd F => ok_written F B
  have C__law_changed_row : Cal P w K mg base 1 "_law_changed_row" ["_law_row", "_law_spot", "_law_pick", "_law_style"] sp_chrow := F__law_changed_row.cal X G (fun _ _ _ _ _ _ us hl => by obtain ⟨a, b, c, d, rfl⟩ := len4 hl; rfl) fun f fd F => ok_chrow F B
  have C__law_changed : Cal P w K mg base 2 "_law_changed" ["_law_rows", "_law_numbers"] sp_changed := F__law_changed.cal X G (fun _ _ _ _ _ _ us hl => by obtain ⟨a, b, rfl⟩ := len2 hl; rfl) fun f fd F => ok_changed F B C__law_changed_row
  have C_are_rows : Cal P w K mg base 1 "are_rows" ["thing"] (sp_arowsG K) := F_are_rows.cal X G (fun _ _ _ _ _ _ us hl => by obtain ⟨a, rfl⟩ := len1 hl; rfl) fun f fd F => ok_arowsG F B mO
  have C_is_written_whole : Cal P w K mg base 1 "is_written_whole" ["text", "most_figures"] sp_writ := F_is_written_whole.cal X G (fun _ _ _ _ _ _ us hl => by obtain ⟨a, b, rfl⟩ := len2 hl; rfl) fun f fd F => ok_writ F B mF
  have C_read_number : Cal P w K mg base 2 "read_number" ["text"] sp_rnum := F_read_number.cal X G (fun _ _ _ _ _ _ us hl => by obtain ⟨a, rfl⟩ := len1 hl; rfl) fun f fd F => ok_rnum F B mG C_is_written_whole
  have C_read_rule : Cal P w K mg base 3 "read_rule" ["text"] sp_rrule := F_read_rule.cal X G (fun _ _ _ _ _ _ us hl => by obtain ⟨a, rfl⟩ := len1 hl; rfl) fun f fd F => ok_rrule F C_read_number
  have C_is_word : Cal P w K mg base 1 "is_word" ["thing"] sp_word := F_is_word.cal X G (fun _ _ _ _ _ _ us hl => by obtain ⟨a, rfl⟩ := len1 hl; rfl) fun f fd F => ok_word F B mI mJ
  have C_is_name : Cal P w K mg base 2 "is_name" ["thing"] sp_name := F_is_name.cal X G (fun _ _ _ _ _ _ us hl => by obtain ⟨a, rfl⟩ := len1 hl; rfl) fun f fd F => ok_name F mN hN C_is_word
  have C_read_listening : Cal P w K mg base 3 "read_listening" ["text", "names"] sp_rlis := F_read_listening.cal X G (fun _ _ _ _ _ _ us hl => by obtain ⟨a, b, rfl⟩ := len2 hl; rfl) fun f fd F => ok_rlis F C_is_name C_read_number
  have C_read_bell : Cal P w K mg base 4 "read_bell" ["row", "names"] sp_rbell := F_read_bell.cal X G (fun _ _ _ _ _ _ us hl => by obtain ⟨a, b, rfl⟩ := len2 hl; rfl) fun f fd F => ok_rbell F B C_read_number C_read_rule C_read_listening
  have C_is_whole : Cal P w K mg base 1 "is_whole" ["thing"] (sp_whole K) := F_is_whole.cal X G (fun _ _ _ _ _ _ us hl => by obtain ⟨a, rfl⟩ := len1 hl; rfl) fun f fd F => ok_is_whole F B
  have C_is_whole_within : Cal P w K mg base 2 "is_whole_within" ["thing", "least", "most"] sp_within := F_is_whole_within.cal X G (fun _ _ _ _ _ _ us hl => by obtain ⟨a, b, c, rfl⟩ := len3 hl; rfl) fun f fd F => ok_within F C_is_whole
  have C_is_listening : Cal P w K mg base 3 "is_listening" ["thing", "bells"] sp_islis := F_is_listening.cal X G (fun _ _ _ _ _ _ us hl => by obtain ⟨a, b, rfl⟩ := len2 hl; rfl) fun f fd F => ok_islis F B mM C_is_whole_within
  have C_are_listenings : Cal P w K mg base 4 "are_listenings" ["thing", "bells"] sp_arelis := F_are_listenings.cal X G (fun _ _ _ _ _ _ us hl => by obtain ⟨a, b, rfl⟩ := len2 hl; rfl) fun f fd F => ok_arelis F B mL C_is_listening
  have C_rule_of_text : CalX P w K mg base 4 "rule_of_text" ["text", "many"] (sp_text A Y t.c0) := F_rule_of_text.calX X G (fun _ _ _ _ _ _ us hl => by obtain ⟨a, b, rfl⟩ := len2 hl; rfl) fun f fd F => ok_text F (PySem.W.mg_of X G aA) (PySem.W.mg_of X G aY) T.m0 xR oA oY GA bA GY bY
  have C_rule_of : CalX P w K mg base 5 "rule_of" ["word", "many"] (sp_rule K A Y S t.c0) := F_rule_of.calX X G (fun _ _ _ _ _ _ us hl => by obtain ⟨a, b, rfl⟩ := len2 hl; rfl) fun f fd F => ok_rule_of F B (PySem.W.mg_of X G aS) T.m0 xR oS GS bS C_rule_of_text C_is_whole
  have C_is_rule : Cal P w K mg base 6 "is_rule" ["thing", "many"] sp_isrule := F_is_rule.cal X G (fun _ _ _ _ _ _ us hl => by obtain ⟨a, b, rfl⟩ := len2 hl; rfl) fun f fd F => ok_isrule F T.m0 xm0 C_rule_of
  have C_is_bell : Cal P w K mg base 7 "is_bell" ["thing", "ahead", "bells"] sp_isbell := F_is_bell.cal X G (fun _ _ _ _ _ _ us hl => by obtain ⟨a, b, c, rfl⟩ := len3 hl; rfl) fun f fd F => ok_isbell F B mS C_is_whole_within C_is_name C_are_listenings C_is_rule
  have C_read_choir : CalX P w K mg base 8 "read_choir" ["rows"] (sp_readX K t.c2) := F_read_choir.calX X G (fun _ _ _ _ _ _ us hl => by obtain ⟨a, rfl⟩ := len1 hl; rfl) fun f fd F => ok_readX F B T.m2 MT GT bT C_are_rows C_read_bell C_is_bell
  have C__law_told : Cal P w K mg base 9 "_law_told" ["_law_rows"] (sp_told K t.c2) := F__law_told.cal X G (fun _ _ _ _ _ _ us hl => by obtain ⟨a, rfl⟩ := len1 hl; rfl) fun f fd F => ok_told F T.mB xm C_read_choir
  have C__law_only : Cal P w K mg base 1 "_law_only" ["_law_error", "_law_at"] (sp_only t.c2 2) := F__law_only.cal X G (fun _ _ _ _ _ _ us hl => by obtain ⟨a, b, rfl⟩ := len2 hl; rfl) fun f fd F => ok_only F B T O
  have C__law_same_0 : Cal P w K mg base 1 "_law_same" ["_law_answer", "_law_due"] (sp_like 0) := F__law_same.cal X G (fun _ _ _ _ _ _ us hl => by obtain ⟨a, b, rfl⟩ := len2 hl; rfl) fun f fd F => ok_like0 F
  have C__law_same_1 : Cal P w K mg base 2 "_law_same" ["_law_answer", "_law_due"] (sp_like 1) := F__law_same.cal X G (fun _ _ _ _ _ _ us hl => by obtain ⟨a, b, rfl⟩ := len2 hl; rfl) fun f fd F => ok_like F B C__law_same_0
  have C__law_same_2 : Cal P w K mg base 3 "_law_same" ["_law_answer", "_law_due"] (sp_like 2) := F__law_same.cal X G (fun _ _ _ _ _ _ us hl => by obtain ⟨a, b, rfl⟩ := len2 hl; rfl) fun f fd F => ok_like F B C__law_same_1
  have C__law_same_3 : Cal P w K mg base 4 "_law_same" ["_law_answer", "_law_due"] (sp_like 3) := F__law_same.cal X G (fun _ _ _ _ _ _ us hl => by obtain ⟨a, b, rfl⟩ := len2 hl; rfl) fun f fd F => ok_like F B C__law_same_2
  have C__law_same_4 : Cal P w K mg base 5 "_law_same" ["_law_answer", "_law_due"] (sp_like 4) := F__law_same.cal X G (fun _ _ _ _ _ _ us hl => by obtain ⟨a, b, rfl⟩ := len2 hl; rfl) fun f fd F => ok_like F B C__law_same_3
  have C__law_same_5 : Cal P w K mg base 6 "_law_same" ["_law_answer", "_law_due"] (sp_like 5) := F__law_same.cal X G (fun _ _ _ _ _ _ us hl => by obtain ⟨a, b, rfl⟩ := len2 hl; rfl) fun f fd F => ok_like F B C__law_same_4
  have C__law_number_in : Cal P w K mg base 1 "_law_number_in" ["_law_word"] sp_lnum := F__law_number_in.cal X G (fun _ _ _ _ _ _ us hl => by obtain ⟨a, rfl⟩ := len1 hl; rfl) fun f fd F => ok_lnum F B
  have C__law_is_name : Cal P w K mg base 1 "_law_is_name" ["_law_name"] sp_lname := F__law_is_name.cal X G (fun _ _ _ _ _ _ us hl => by obtain ⟨a, rfl⟩ := len1 hl; rfl) fun f fd F => ok_lname F B
  have C__law_listening_in : Cal P w K mg base 2 "_law_listening_in" ["_law_word", "_law_known"] sp_llis := F__law_listening_in.cal X G (fun _ _ _ _ _ _ us hl => by obtain ⟨a, b, rfl⟩ := len2 hl; rfl) fun f fd F => ok_llis F B C__law_number_in C__law_is_name
  have C__law_bell_in : Cal P w K mg base 3 "_law_bell_in" ["_law_row", "_law_known", "_law_k"] sp_lbell := F__law_bell_in.cal X G (fun _ _ _ _ _ _ us hl => by obtain ⟨a, b, c, rfl⟩ := len3 hl; rfl) fun f fd F => ok_lbell F B C__law_number_in C__law_is_name C__law_listening_in
  have C__law_read : Cal P w K mg base 4 "_law_read" ["_law_rows"] sp_lread := F__law_read.cal X G (fun _ _ _ _ _ _ us hl => by obtain ⟨a, rfl⟩ := len1 hl; rfl) fun f fd F => ok_lread F B C__law_bell_in
  have C__law_right : Cal P w K mg base 10 "_law_right" ["_law_rows"] sp_right := F__law_right.cal X G (fun _ _ _ _ _ _ us hl => by obtain ⟨a, rfl⟩ := len1 hl; rfl) fun f fd F => ok_right F B O.xc nN C__law_told C__law_only C__law_same_5 C__law_read
  exact ok_law F B O.xc nN C__law_part C__law_names C__law_choir C__law_written C__law_changed C__law_right C__law_told C__law_only
end K15
def PySem.W.Fast.tw13893444327008295643 : Nat := 0
def PySem.W.Fast.tw2443018588613211843 : Nat := 0
def PySem.W.Fast.tw7842753726863462036 : Nat := 0
def PySem.W.Fast.tw2104762143014136996 : Nat := 0
def PySem.W.Fast.tw10814069847179147112 : Nat := 0
def PySem.W.Fast.tw7623865938885151780 : Nat := 0
def PySem.W.Fast.tw14578103938760892435 : Nat := 0
def PySem.W.Fast.tw12826169122138712577 : Nat := 0
def PySem.W.Fast.tw12553585954506676503 : Nat := 0
def PySem.W.Fast.tw14605556958849113394 : Nat := 0
def PySem.W.Fast.tw13651339729100445638 : Nat := 0
def PySem.W.Fast.tw2868677274258203248 : Nat := 0
def PySem.W.Fast.tw9991693883098481024 : Nat := 0
def PySem.W.Fast.tw17910911280347551548 : Nat := 0
def PySem.W.Fast.tw18324879764252842303 : Nat := 0
def PySem.W.Fast.tw10842816156567409126 : Nat := 0
def PySem.W.Fast.tw8635217362187578321 : Nat := 0
def PySem.W.Fast.tw17176370832321753466 : Nat := 0
def PySem.W.Fast.tw10884203978632539798 : Nat := 0
def PySem.W.Fast.tw13319761331040240736 : Nat := 0
def PySem.W.Fast.tw6014306788423375591 : Nat := 0
def PySem.W.Fast.tw16493631393173921586 : Nat := 0
def PySem.W.Fast.tw7011602767069007606 : Nat := 0
open PySem PySem.W PyProof.Rows
set_option maxRecDepth 100000 in
set_option maxHeartbeats 0 in
theorem PySem.Challenge.cw_earbells_k15_rows_refused_holds : PySem.Challenge.rw_earbells_k15_rows_refused.Holds := by
  w_on; o_law; k_head; (case hw => w_witness2)
  k_fill
  refine L2.walk_ofK (l := PySem.Challenge.rw_earbells_k15_rows_refused) (n := 63) (k := 11) (x := "_law_script") (CX := L2.CX0) (sp := K15.sp_law) rfl (by decide) rfl ⟨rfl, by decide, by decide⟩ (fun w h Y => PySem.W.kIn_of Y) ?F (fun K H a ns hl hO hS => ⟨a, ns, rfl, hS, hl, fun _ => rfl⟩) (fun _ _ _ _ z => z)
  case F =>
    intro w mg fa h KX G hmg
    refine' K15.all KX G hmg ?B ?T ?MX ?xs ?O ?nN ?xm ?FI ?mI ?mM ?mL ?mS ?mO ?mG ?mF ?aR ?aA ?aY ?aS ?cR ?oA ?oY ?oS ?xR ?xm0 ?FR ?FA ?FY ?FS ?mJ ?mN ?hN ?F__law_cell ?F__law_blended ?F__law_figures ?F__law_part ?F__law_names ?F__law_bell ?F__law_choir ?F__law_written ?F__law_changed_row ?F__law_changed ?F_are_rows ?F_is_written_whole ?F_read_number ?F_read_rule ?F_is_word ?F_is_name ?F_read_listening ?F_read_bell ?F_is_whole ?F_is_whole_within ?F_is_listening ?F_are_listenings ?F_rule_of_text ?F_rule_of ?F_is_rule ?F_is_bell ?F_read_choir ?F__law_told ?F__law_only ?F__law_same ?F__law_number_in ?F__law_is_name ?F__law_listening_in ?F__law_bell_in ?F__law_read ?F__law_right ?F_law
    case B =>
      refine' K15.blt_mk KX G ?z1 ?z2 ?z3 ?z4 ?z5 ?z6 ?z7 ?z8 ?z9 ?z10 ?z11 ?z12 ?z13 ?z14 ?z15 ?z16 ?z17 ?z18 ?z19 ?z20
      all_goals k_is
    (case T => refine' K15.ten_mk KX G ?y0 ?y1 ?y2 ?y3 ?y4 ?y5 ?y6 ?y7 ?y8 ?y9 ?yB; (case y0 => k_is); (case y1 => k_is); (case y2 => k_is); (case y3 => k_is); (case y4 => k_is); (case y5 => k_is); (case y6 => k_is); (case y7 => k_is); (case y8 => k_is); (case y9 => k_is); (case yB => k_is))
    (case MX => refine' K15.mkx_mk ?Ma ?Mb ?Mc ?Md; (case Ma => k_is); (case Mb => kernel_rfl); (case Mc => k_is); (case Md => k_is))
    (case xs => refine' K15.xset_mk ?Xa ?Xb ?Xc ?Xd; (case Xb => kernel_rfl); all_goals k_is)
    (case O => refine' K15.only_mk ?Oa ?Ob ?Oc ?Od ?Oe ?Of ?Og ?Oh ?Oi ?Oj ?Ok ?Ol ?Om ?On; (case Om => (refine' K15.xcls_mk ?qa ?qb ?qc ?qd ?qe ?qf ?qg ?qh; all_goals k_is)); (case On => rfl); all_goals kit_is)
    (case nN => k_is)
    (case xm => kts_exm)
    (case FI => refine' L2.fun_ex ?Wl ?Wc ?Wk; (case Wl => k_is); (case Wc => k_is); (case Wk => k_is))
    (case aR => k_is); (case aA => k_is); (case aY => k_is); (case aS => k_is)
    (case cR => refine' K15.clsfn_mk ?cRa ?cRb ?cRc ?cRd; (case cRa => k_is); (case cRb => k_is); (case cRc => k_is); (case cRd => k_is))
    (case oA => refine' K15.own_mk ?oAa ?oAb ?oAc ?oAd ?oAe ?oAf ?oAg ?oAh ?oAi; (case oAa => k_is); all_goals k_is)
    (case oY => refine' K15.own_mk ?oYa ?oYb ?oYc ?oYd ?oYe ?oYf ?oYg ?oYh ?oYi; (case oYa => k_is); all_goals k_is)
    (case oS => refine' K15.own_mk ?oSa ?oSb ?oSc ?oSd ?oSe ?oSf ?oSg ?oSh ?oSi; (case oSa => k_is); all_goals k_is)
    (case xR => refine' K15.excC_mk ?xRa; (case xRa => k_exc))
    (case xm0 => kts_exm)
    (case FR => refine' L2.fun_ex ?FRl ?FRc ?FRk; (case FRl => k_is); (case FRc => k_is); (case FRk => k_is))
    (case FA => refine' L2.fun_ex ?FAl ?FAc ?FAk; (case FAl => k_is); (case FAc => k_is); (case FAk => k_is))
    (case FY => refine' L2.fun_ex ?FYl ?FYc ?FYk; (case FYl => k_is); (case FYc => k_is); (case FYk => k_is))
    (case FS => refine' L2.fun_ex ?FSl ?FSc ?FSk; (case FSl => k_is); (case FSc => k_is); (case FSk => k_is))
    (case mJ => refine' PySem.W.mg_of KX G ?imJ; (case imJ => k_is))
    (case mN => refine' PySem.W.mg_of KX G ?imN; (case imN => k_is))
    (case hN => refine' K15.sqt_is ?hNa; (case hNa => kernel_rfl))
    (case mF => refine' PySem.W.mg_of KX G ?imF; (case imF => k_is))
    (case mI => refine' PySem.W.mg_of KX G ?imI; (case imI => k_is))
    (case mM => refine' PySem.W.mg_of KX G ?imM; (case imM => k_is))
    (case mL => refine' PySem.W.mg_of KX G ?imL; (case imL => k_is))
    (case mS => refine' PySem.W.mg_of KX G ?imS; (case imS => k_is))
    (case mO => refine' PySem.W.mg_of KX G ?imO; (case imO => k_is))
    (case mG => refine' PySem.W.mg_of KX G ?imG; (case imG => k_is))
    all_goals (refine' L2.funAt_mk ?a ?l ?c ?k; (case a => k_is); (case l => k_is); (case c => k_is); (case k => k_is))
#print axioms PySem.Challenge.cw_earbells_k15_rows_refused_holds
