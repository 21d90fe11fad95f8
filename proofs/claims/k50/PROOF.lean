import PyProof.Rows.All
import Wide.All
import OpenK.AllK
import Wide.FinOn
import Lean
import PyProof.EqAt
import PyProof.EqKinds
import PyProof.TupleCall
import PySem.Challenge.RW_noteworth_k50_refusals_kin
set_option Elab.async false
set_option linter.all false
set_option maxRecDepth 100000
/-! THE HAND LAYER, for ints, bools, texts, own classes, LISTS and tuples (index, slices, in, append, pop ..), calls, loops. Paste it whole ahead of your own text; what your proof does not reach may be deleted. -/
namespace L2
open PySem PySem.Spec PyProof.Rows

/-- a key: an int or a str -/
abbrev Key := Sum Int Str
def keyIs : Key → Value → Bool
  | .inl k, v => Value.isInt k v
  | .inr x, v => Value.isStrOf x v
def keyH (w : World) : Key → Int
  | .inl k => hashInt k
  | .inr x => hashStr w x
theorem keyIs_shape : ∀ {k : Key} {v : Value}, keyIs k v = true → (∃ i t, k = Sum.inl i ∧ v = Value.int i t) ∨ (∃ x t, k = Sum.inr x ∧ v = Value.str x t)
  | .inl i, v, h => by
    obtain ⟨t, e⟩ := Value.isInt_shape (k := i) (v := v) h
    exact .inl ⟨i, t, rfl, e⟩
  | .inr x, v, h => by
    obtain ⟨t, e⟩ := Value.isStrOf_shape (x := x) (v := v) h
    exact .inr ⟨x, t, rfl, e⟩
theorem key_ll (a b : Int) : decide ((Sum.inl a : Key) = Sum.inl b) = (a == b) := by
  by_cases e : a = b
  · subst e; simp
  · have h : ¬ (Sum.inl a : Key) = Sum.inl b := fun q => e (Sum.inl.inj q)
    rw [decide_eq_false h]
    exact (beq_eq_false_iff_ne.mpr e).symm
theorem key_rr (a b : Str) : decide ((Sum.inr a : Key) = Sum.inr b) = decide (a = b) := by
  by_cases e : a = b
  · subst e; simp
  · have h : ¬ (Sum.inr a : Key) = Sum.inr b := fun q => e (Sum.inr.inj q)
    rw [decide_eq_false h, decide_eq_false e]
theorem key_lr (a : Int) (b : Str) : decide ((Sum.inl a : Key) = Sum.inr b) = false := decide_eq_false (fun q => nomatch q)
theorem key_rl (a : Str) (b : Int) : decide ((Sum.inr a : Key) = Sum.inl b) = false := decide_eq_false (fun q => nomatch q)

def mixKind (prog : Program) (w : World) : PySem.KeyKind prog w Key where
  is := keyIs
  hash := keyH w
  inj := fun v a b ha hb => by
    rcases keyIs_shape ha with ⟨i, t, rfl, rfl⟩ | ⟨x, t, rfl, rfl⟩
    · rcases keyIs_shape hb with ⟨j, u, rfl, e⟩ | ⟨y, u, rfl, e⟩
      · injection e with e1 _; rw [e1]
      · exact nomatch e
    · rcases keyIs_shape hb with ⟨j, u, rfl, e⟩ | ⟨y, u, rfl, e⟩
      · exact nomatch e
      · injection e with e1 _; rw [e1]
  byValue := fun k v h => by
    rcases keyIs_shape h with ⟨i, t, rfl, rfl⟩ | ⟨x, t, rfl, rfl⟩ <;> rfl
  pyHash := fun hv h => by
    rcases keyIs_shape hv with ⟨i, t, rfl, rfl⟩ | ⟨x, t, rfl, rfl⟩
    · exact wpAny_pyHash_int h
    · exact wpAny_pyHash_str h
  eqBool := fun hu hv h => by
    rcases keyIs_shape hu with ⟨i, t, rfl, rfl⟩ | ⟨x, t, rfl, rfl⟩
    · rcases keyIs_shape hv with ⟨j, u, rfl, rfl⟩ | ⟨y, u, rfl, rfl⟩
      · rw [key_ll] at h; exact wpAny_eqBool_int h
      · rw [key_lr] at h; exact SeqAt.EqAt.int_str i t y u _ _ _ _ h
    · rcases keyIs_shape hv with ⟨j, u, rfl, rfl⟩ | ⟨y, u, rfl, rfl⟩
      · rw [key_rl] at h; exact SeqAt.EqAt.str_int x t j u _ _ _ _ h
      · rw [key_rr] at h; exact wpAny_eqBool_str h
  «strs» := fun k x t v h => by
    rcases keyIs_shape h with ⟨i, u, rfl, e⟩ | ⟨y, u, rfl, e⟩
    · exact nomatch e
    · injection e with e1 _
      subst e1
      cases v <;> rfl

end L2

namespace L2
open PySem PySem.Spec PyProof.Rows

/-- a value, without the heap -/
inductive V where
  | non | bl (b : Bool) | int (i : Int) | str (x : Str) | byt (b : Array UInt8) | flt (b : UInt64) | ref (a : Addr) | ty (n : String)
  deriving DecidableEq

def RelV : V → Value → Prop
  | .non, u => u = Value.none
  | .bl b, u => u = Value.bool b
  | .int i, u => ∃ t, u = Value.int i t
  | .str x, u => ∃ t, u = Value.str x t
  | .byt b, u => ∃ t, u = Value.bytes b t
  | .flt b, u => ∃ t, u = Value.float b t
  | .ref a, u => u = Value.ref a
  | .ty n, u => u = Value.type n

abbrev Vals : List V → List Value → Prop := Paired RelV
theorem Vals.length {xs : List V} {us : List Value} (r : Vals xs us) : xs.length = us.length := Paired.length r
theorem Vals.get : ∀ {xs : List V} {us : List Value} {i : Nat} {x : V}, Vals xs us → xs[i]? = some x → ∃ u, us[i]? = some u ∧ RelV x u
  | _, _, _, _, .nil, e => by simp at e
  | _, _, 0, _, .cons r _, e => by simp at e; subst e; exact ⟨_, rfl, r⟩
  | _, _, i + 1, x, .cons _ t, e => by
    obtain ⟨u, h1, h2⟩ := Vals.get (i := i) (x := x) t (by simpa using e)
    exact ⟨u, by simpa using h1, h2⟩
theorem Vals.append : ∀ {xs ys : List V} {us ws : List Value}, Vals xs us → Vals ys ws → Vals (xs ++ ys) (us ++ ws)
  | _, _, _, _, .nil, s => s
  | _, _, _, _, .cons r t, s => .cons r (Vals.append t s)
theorem Vals.take : ∀ {xs : List V} {us : List Value} (n : Nat), Vals xs us → Vals (xs.take n) (us.take n)
  | _, _, 0, _ => .nil
  | _, _, _ + 1, .nil => .nil
  | _, _, n + 1, .cons r t => .cons r (Vals.take n t)
theorem Vals.drop : ∀ {xs : List V} {us : List Value} (n : Nat), Vals xs us → Vals (xs.drop n) (us.drop n)
  | _, _, 0, r => r
  | _, _, _ + 1, .nil => .nil
  | _, _, n + 1, .cons _ t => Vals.drop n t
def RelO : Option V → Option Value → Prop
  | some v, some u => RelV v u
  | none, none => True
  | _, _ => False
def KV {κ : Type} : List (κ × V) → List (κ × Value) → Prop := Paired fun (p : κ × V) (q : κ × Value) => p.1 = q.1 ∧ RelV p.2 q.2

/-- a key of a dict (00_mix): an int or a text -/
def kV : Key → V
  | .inl i => .int i
  | .inr x => .str x

/-- what stands at a tracked address -/
inductive HO where
  /-- a list -/
  | lst (xs : List V)
  /-- a tuple (never changes) -/
  | tup (xs : List V)
  /-- a dict whose keys are ints and texts; one whose keys are tuples of ints and texts (the empty one is both) -/
  | dK (kvs : List (Key × V)) | dT (kvs : List (List Key × V))
  /-- a set of ints: its members, its size -/
  | set (S : Int → Bool) (n : Nat)
  /-- an instance of the class at C, its dict at dx, its attributes -/
  | ins (C dx : Addr) (fs : List (Str × V))
  /-- the dict of the instance at x -/
  | own (x : Addr)
  /-- the dict of an exception -/
  | xd (fs : List (Str × V))
  /-- a bound method, f of x -/
  | met (f x : Addr)
  /-- a range object lo, lo + 1, .. below hi -/
  | rng (lo hi : Int)
  /-- a thing that is known to the object (the script; a dict while a loop walks it): read, never written while it is so -/
  | frz (o : Obj) (u : HO)
  /-- a code object's table -/
  | tbl (ps : Array Value)
  /-- any other thing, by what is true of its one object (a def of one's own: SetO a S n := HO.ext fun h => ..) -/
  | ext (φ : Heap → Prop)

abbrev Hp := Addr → Option HO
def upd (H : Hp) (a : Addr) (o : HO) : Hp := fun b => if b = a then some o else H b
theorem upd_same {H : Hp} {a : Addr} {o : HO} : upd H a o a = some o := by unfold upd; rw [if_pos rfl]
theorem upd_ne {H : Hp} {a b : Addr} {o : HO} (h : b ≠ a) : upd H a o b = H b := by unfold upd; rw [if_neg h]
theorem upd_upd {H : Hp} {a : Addr} {o u : HO} : upd (upd H a o) a u = upd H a u := by
  funext b; unfold upd; split <;> rfl
/-- two objects of different content stand apart -/
theorem ne_of {H : Hp} {a b : Addr} {o u : HO} (h : H a = some o) (h' : H b = some u) (d : o ≠ u) : a ≠ b := by
  intro e; subst e; rw [h] at h'; exact d (Option.some.inj h')
theorem ne_of_none {H : Hp} {a b : Addr} {o : HO} (h : H a = some o) (h' : H b = none) : a ≠ b := by
  intro e; subst e; rw [h] at h'; cases h'

section
variable (P : Program) (w : World)
def ObjOk (H : Hp) (h : Heap) (a : Addr) : HO → Prop
  | .lst xs => xs.length ≤ sizeLine ∧ ∃ (its : List Value) (n : Nat), Vals xs its ∧ h.get? a = some { cls := .type "list", data := .seq its.toArray n }
  | .tup xs => xs.length ≤ sizeLine ∧ ∃ its : List Value, Vals xs its ∧ IsTup h a its.toArray
  | .dK kvs => kvs.length ≤ sizeLine ∧ (a == sysModules) = false ∧ ∃ vs, KV kvs vs ∧ h.DictOf (mixKind P w) a vs
  | .dT kvs => kvs.length ≤ sizeLine ∧ (a == sysModules) = false ∧ ∃ xs : List (List Key × Addr × Value),
      Paired (fun (p : List Key × V) (q : List Key × Addr × Value) => p.1 = q.1 ∧ H q.2.1 = some (.tup (p.1.map kV)) ∧ RelV p.2 q.2.2) kvs xs ∧
      ∃ o es ep, h.get? a = some o ∧ o.ExactDict ∧ o.data = .dict es ep ∧ es.toList = xs.map (entryOfKey (tupleKind (mixKind P w))) ∧ (xs.map (·.1)).Nodup
  | .set S n => h.SetOf (intKind P w) a S n
  | .ins C dx fs => H dx = some (.own a) ∧ fs.length ≤ 1000 ∧ dx ≠ a ∧ h.get? a = some (PySem.W.instObj C dx) ∧
      ∃ mA, h.Ns1 dx mA ∧ (∀ f, RelO (fs.lookup f) (mA f)) ∧ PySem.Within mA (fs.map (·.1))
  | .own _ => ∃ o, h.get? a = some o
  | .xd fs => ∃ mA, h.Ns1 a mA ∧ ∀ f, RelO (fs.lookup f) (mA f)
  | .rng lo hi => ∃ t u v, h.get? a = some { cls := .type "range", data := .fields #[.int lo t, .int hi u, .int 1 v] }
  | .frz o u => h.get? a = some o ∧ ObjOk H h a u
  | .tbl ps => h.get? a = some { cls := .none, data := .fields ps }
  | .met f x => h.get? a = some (PySem.W.methodObj (.ref f) (.ref x))
  | .ext φ => φ h ∧ (∃ o, h.get? a = some o) ∧ ∀ h1 h2 : Heap, φ h1 → (∀ o, h1.get? a = some o → h2.get? a = some o) → φ h2
/-- the abstract heap is held -/
def HOk (H : Hp) (h : Heap) : Prop := ∀ a o, H a = some o → ObjOk P w H h a o
end

section
variable {P : Program} {w : World} {H H' : Hp} {h h' : Heap} {a : Addr} {o : HO}
theorem ObjOk.lt (x : ObjOk P w H h a o) : a < h.objs.size := by
  cases o with
  | lst xs => obtain ⟨_, _, _, _, e⟩ := x; exact Heap.lt_size e
  | tup xs => obtain ⟨_, _, _, p⟩ := x; exact p.lt
  | dK kvs => obtain ⟨_, _, _, _, o, _, _, e, _⟩ := x; exact Heap.lt_size e
  | dT kvs => obtain ⟨_, _, _, _, o, _, _, e, _⟩ := x; exact Heap.lt_size e
  | set S n => obtain ⟨o, _, _, _, e, _⟩ := x; exact Heap.lt_size e
  | ins C dx fs => obtain ⟨_, _, _, e, _⟩ := x; exact Heap.lt_size e
  | own y => obtain ⟨_, e⟩ := x; exact Heap.lt_size e
  | xd fs => obtain ⟨_, ⟨_, _, _, e, _⟩, _⟩ := x; exact Heap.lt_size e
  | rng lo hi => obtain ⟨_, _, _, e⟩ := x; exact Heap.lt_size e
  | frz ob u => obtain ⟨e, _⟩ := x; exact Heap.lt_size e
  | tbl ps => exact Heap.lt_size (show h.get? a = some _ from x)
  | met f y => exact Heap.lt_size (show h.get? a = some _ from x)
  | ext φ => obtain ⟨_, ⟨_, e⟩, _⟩ := x; exact Heap.lt_size e
theorem Paired.mapP {α β : Type} {F G : α → β → Prop} : ∀ {l₁ : List α} {l₂ : List β}, Paired F l₁ l₂ → (∀ a b, F a b → G a b) → Paired G l₁ l₂
  | _, _, .nil, _ => .nil
  | _, _, .cons r t, f => .cons (f _ _ r) (Paired.mapP t f)
/-- what an object's description leans on: its own object, its own dict, the tuples -/
theorem ObjOk.stay (x : ObjOk P w H h a o) (k : ∀ b u, (b = a ∨ H b = some (.own a)) → h.get? b = some u → h'.get? b = some u)
    (ho : ∀ b, H b = some (.own a) → H' b = some (.own a)) (ht : ∀ b xs, H b = some (.tup xs) → H' b = some (.tup xs)) : ObjOk P w H' h' a o := by
  induction o with
  | lst xs => obtain ⟨z, its, n, r, e⟩ := x; exact ⟨z, its, n, r, k _ _ (.inl rfl) e⟩
  | tup xs => obtain ⟨z, its, r, ob, e, c⟩ := x; exact ⟨z, its, r, ob, k _ _ (.inl rfl) e, c⟩
  | dK kvs => obtain ⟨z, y, vs, r, ob, es, ep, e, c⟩ := x; exact ⟨z, y, vs, r, ob, es, ep, k _ _ (.inl rfl) e, c⟩
  | dT kvs =>
    obtain ⟨z, y, xs, r, ob, es, ep, e, c⟩ := x
    exact ⟨z, y, xs, Paired.mapP r fun p q z => ⟨z.1, ht _ _ z.2.1, z.2.2⟩, ob, es, ep, k _ _ (.inl rfl) e, c⟩
  | set S n => obtain ⟨ob, es, ep, t, e, c⟩ := x; exact ⟨ob, es, ep, t, k _ _ (.inl rfl) e, c⟩
  | ins C dx fs =>
    obtain ⟨d, z, ne, e, mA, ⟨od, es, ep, e2, c⟩, r⟩ := x
    exact ⟨ho _ d, z, ne, k _ _ (.inl rfl) e, mA, ⟨od, es, ep, k _ _ (.inr d) e2, c⟩, r⟩
  | own y => obtain ⟨ob, e⟩ := x; exact ⟨ob, k _ _ (.inl rfl) e⟩
  | xd fs => obtain ⟨mA, ⟨od, es, ep, e, c⟩, r⟩ := x; exact ⟨mA, ⟨od, es, ep, k _ _ (.inl rfl) e, c⟩, r⟩
  | rng lo hi => obtain ⟨t, u, v, e⟩ := x; exact ⟨t, u, v, k _ _ (.inl rfl) e⟩
  | frz ob u ih => obtain ⟨e, q⟩ := x; exact ⟨k _ _ (.inl rfl) e, ih q⟩
  | tbl ps =>
    have e : h.get? a = some { cls := .none, data := .fields ps } := x
    show h'.get? a = some { cls := .none, data := .fields ps }
    exact k a _ (.inl rfl) e
  | met f y =>
    have e : h.get? a = some (PySem.W.methodObj (.ref f) (.ref y)) := x
    show h'.get? a = some (PySem.W.methodObj (.ref f) (.ref y))
    exact k a _ (.inl rfl) e
  | ext φ => obtain ⟨p, ⟨o, e⟩, st⟩ := x; exact ⟨st _ _ p fun o q => k _ _ (.inl rfl) q, ⟨o, k _ _ (.inl rfl) e⟩, st⟩
theorem HOk.lt (x : HOk P w H h) (e : H a = some o) : a < h.objs.size := (x a o e).lt
theorem HOk.fresh (x : HOk P w H h) (e : h.objs.size ≤ a) : H a = none := by
  cases q : H a with
  | none => rfl
  | some u => exact absurd (Nat.lt_of_lt_of_le (x.lt q) e) (Nat.lt_irrefl _)
/-- every object of the heap is kept -/
theorem HOk.kept (x : HOk P w H h) (k : ∀ b u, h.get? b = some u → h'.get? b = some u) : HOk P w H h' := fun a o e =>
  (x a o e).stay (fun b u _ q => k b u q) (fun _ q => q) fun _ _ q => q
/-- a new object is laid and tracked -/
theorem HOk.laid (x : HOk P w H h) (k : ∀ b u, h.get? b = some u → h'.get? b = some u) (hp : h.objs.size ≤ a) (new : ObjOk P w (upd H a o) h' a o) : HOk P w (upd H a o) h' := fun b u e => by
  have hn := x.fresh hp
  by_cases hb : b = a
  · subst hb; rw [upd_same] at e; cases e; exact new
  · rw [upd_ne hb] at e
    exact (x b u e).stay (fun c v _ q => k c v q) (fun c q => by rw [upd_ne (ne_of_none q hn)]; exact q) fun c xs q => by rw [upd_ne (ne_of_none q hn)]; exact q
end

/-- what may be read as u: it is u, or a known u -/
def Rd (H : Hp) (a : Addr) (u : HO) : Prop := H a = some u ∨ ∃ o, H a = some (.frz o u)
theorem Rd.ok {P : Program} {w : World} {H : Hp} {h : Heap} {a : Addr} {u : HO} (r : Rd H a u) (x : HOk P w H h) : ObjOk P w H h a u := by
  rcases r with r | ⟨o, r⟩
  · exact x a u r
  · obtain ⟨_, q⟩ := x a _ r
    exact q
/-- what may be written -/
def Mut : Option HO → Prop
  | some (.lst _) => True
  | some (.dK _) => True
  | some (.dT _) => True
  | some (.set _ _) => True
  | some (.ins _ _ _) => True
  | some (.ext _) => True
  | _ => False
section
variable {P : Program} {w : World} {H : Hp} {h h' : Heap} {x e : Addr} {o' : HO}
/-- the object at e is changed: x itself, or the dict of the instance x -/
theorem HOk.write (ok : HOk P w H h) (mu : Mut (H x)) (he : e = x ∨ H e = some (.own x)) (k : ∀ b u, b ≠ e → h.get? b = some u → h'.get? b = some u) (heo : ∃ u, h'.get? e = some u)
    (new : ObjOk P w (upd H x o') h' x o') : HOk P w (upd H x o') h' := fun b u q => by
  have nown : ∀ c y, H c = some (.own y) → c ≠ x := fun c y r z => by subst z; rw [r] at mu; exact mu
  have ntup : ∀ c xs, H c = some (.tup xs) → c ≠ x := fun c xs r z => by subst z; rw [r] at mu; exact mu
  by_cases hb : b = x
  · subst hb; rw [upd_same] at q; cases q; exact new
  · rw [upd_ne hb] at q
    by_cases hbe : b = e
    · have q' : H b = some (.own x) := by
        rcases he with z | z
        · exact absurd (hbe.trans z) hb
        · rw [hbe]; exact z
      rw [q] at q'; cases q'
      obtain ⟨v, hv⟩ := heo
      exact ⟨v, by rw [hbe]; exact hv⟩
    · refine (ok b u q).stay (fun c v hc r => k c v ?_ r) (fun c r => by rw [upd_ne (nown c b r)]; exact r) fun c xs r => by rw [upd_ne (ntup c xs r)]; exact r
      rcases hc with rfl | hc
      · exact hbe
      · rintro rfl
        rcases he with z | z
        · exact nown c b hc z
        · rw [hc] at z; cases z; exact hb rfl
end

/-! ### kept unless tracked; of the frames at fs (the callers') the slots may change (an exception that passes writes there); of the records at ex (iterators) nothing is said -/
structure Un (fs ex : List Addr) (H H' : Hp) (h h' : Heap) : Prop where
  keep : ∀ b o, h.get? b = some o → H b = none → b ∉ fs → b ∉ ex → h'.get? b = some o
  slot : ∀ b o, h.get? b = some o → H b = none → b ∈ fs → b ∉ ex → ∃ sl, h'.get? b = some { o with slots := sl }
  free : ∀ b o, h.get? b = some o → H b = none → b ∉ ex → H' b = none
  there : ∀ b o, h.get? b = some o → b ∉ ex → ∃ o', h'.get? b = some o'
  tups : ∀ b xs, H b = some (.tup xs) → H' b = some (.tup xs)
  frzs : ∀ b o u, H b = some (.frz o u) → H' b = some (.frz o u)
  tbls : ∀ b ps, H b = some (.tbl ps) → ∃ more, H' b = some (.tbl (ps ++ more))
section
variable {fs fs' ex ex' : List Addr} {H H1 H2 : Hp} {h h1 h2 h' : Heap} {a x e : Addr} {o : HO}
theorem Un.any (u : Un fs ex H H1 h h1) {b : Addr} {ob : Obj} (q : h.get? b = some ob) (n : H b = none) (hx : b ∉ ex) : ∃ sl, h1.get? b = some { ob with slots := sl } := by
  by_cases hb : b ∈ fs
  · exact u.slot b ob q n hb hx
  · exact ⟨ob.slots, u.keep b ob q n hb hx⟩
theorem Un.kept (k : ∀ b u, h.get? b = some u → h'.get? b = some u) : Un fs ex H H h h' :=
  ⟨fun b ob q _ _ _ => k b ob q, fun b ob q _ _ _ => ⟨ob.slots, k b ob q⟩, fun _ _ _ n _ => n, fun b ob q _ => ⟨ob, k b ob q⟩, fun _ _ q => q, fun _ _ _ q => q, fun _ ps q => ⟨#[], by rw [q]; simp⟩⟩
theorem Un.refl : Un fs ex H H h h := Un.kept fun _ _ q => q
theorem Un.laid (k : ∀ b u, h.get? b = some u → h'.get? b = some u) (hp : h.objs.size ≤ a) (hn : H a = none) : Un fs ex H (upd H a o) h h' where
  keep := fun b u q _ _ _ => k b u q
  slot := fun b u q _ _ _ => ⟨u.slots, k b u q⟩
  free := fun b u q n _ => by rw [upd_ne (Nat.ne_of_lt (Nat.lt_of_lt_of_le (Heap.lt_size q) hp))]; exact n
  there := fun b u q _ => ⟨u, k b u q⟩
  tups := fun b xs q => by rw [upd_ne (ne_of_none q hn)]; exact q
  frzs := fun b u xs q => by rw [upd_ne (ne_of_none q hn)]; exact q
  tbls := fun b ps q => ⟨#[], by rw [upd_ne (ne_of_none q hn), q]; simp⟩
theorem Un.write (mu : Mut (H x)) (he : e = x ∨ H e = some (.own x)) (k : ∀ b u, b ≠ e → h.get? b = some u → h'.get? b = some u) (heo : ∃ u, h'.get? e = some u) : Un fs ex H (upd H x o) h h' := by
  have hx : ∀ b, H b = none → b ≠ x := fun b n z => by subst z; rw [n] at mu; exact mu
  have hb : ∀ b, H b = none → b ≠ e := fun b n z => by
    subst z
    rcases he with r | r
    · exact hx b n r
    · rw [n] at r; cases r
  have hm : ∀ b u, H b = some u → ¬ Mut (some u) → b ≠ x := fun b u q nm z => by subst z; rw [q] at mu; exact nm mu
  refine ⟨fun b u q n _ _ => k b u (hb b n) q, fun b u q n _ _ => ⟨u.slots, k b u (hb b n) q⟩, fun b u q n _ => by rw [upd_ne (hx b n)]; exact n, fun b u q _ => ?_,
    fun b xs q => by rw [upd_ne (hm b _ q fun z => z)]; exact q, fun b u xs q => by rw [upd_ne (hm b _ q fun z => z)]; exact q, fun b ps q => ⟨#[], by rw [upd_ne (hm b _ q fun z => z), q]; simp⟩⟩
  by_cases hbe : b = e
  · subst hbe; exact heo
  · exact ⟨u, k b u hbe q⟩
end

/-! ### the heap without what is tracked -/
def trk (h : Heap) (H : Hp) : List Addr := (List.range h.objs.size).filter fun a => (H a).isSome
def hidT (h : Heap) (H : Hp) : Heap := PySem.W.hideAll h (trk h H)
theorem hidT_size (h : Heap) (H : Hp) : (hidT h H).objs.size = h.objs.size := PySem.W.hideAll_size _ _
theorem hidT_get {h : Heap} {H : Hp} {b : Addr} {o : Obj} (e : h.get? b = some o) (n : H b = none) : (hidT h H).get? b = some o :=
  PySem.W.hideAll_get _ e fun hm => by
    have q : (H b).isSome = true := (List.mem_filter.mp hm).2
    rw [n] at q; simp at q
theorem of_hidT {h : Heap} {H : Hp} {b : Addr} {o : Obj} (e : (hidT h H).get? b = some o) : h.get? b = some o ∧ H b = none := by
  have e' : h.get? b = some o := PySem.W.of_hideAll (trk h H) e
  refine ⟨e', ?_⟩
  cases q : H b with
  | none => rfl
  | some x =>
    have hm : b ∈ trk h H := List.mem_filter.mpr ⟨List.mem_range.mpr (Heap.lt_size e'), by simp [q]⟩
    have z : (hidT h H).get? b = none := PySem.W.hideAll_none (trk h H) hm
    rw [z] at e; cases e

/-! ### OpenK's ledger, filled with every new object but one -/
def allNews (g h : Heap) (L : Addr) : List (Addr × Obj) := (List.range h.objs.size).filterMap fun a => if a = L ∨ (g.get? a).isSome = true then none else (h.get? a).map fun o => (a, o)
def rest (g h : Heap) (L d : Addr) : List (Addr × Obj) := (allNews g h L).filter fun p => decide (p.1 ≠ d)
end L2

namespace L2
open PySem PySem.Spec PyProof.Rows

/-- the module's facts, over the base: the heap at the law's entry without what is tracked there -/
structure Mod (K : PySem.W.Frag) (mg : Str → Option Value) (base : Heap) : Prop where
  kin : K.In base
  glob : base.Ns mainGlobals mg
  blt : ∃ mb, base.Ns builtinsNs mb ∧ ∀ x : Str, x ≠ "__name__" → mb x = bootBuiltins x
  nolimit : base.NoLimit

/-- the context: a def's body (or a comprehension's block) running. base: fixed through the whole law; s₀, H₀: the entry; outer: the frames whose slots others may change (a def's callers); stack: all frames that run;
   ex: iterators that were made ahead of the entry and are walked here (a comprehension's); fn: the names whose cells were made at the entry (a def: all; a comprehension's block: its own); calm: not within an except suite; pn: pins that every state bears; xe: what is wanted of an exception that leaves the code -/
structure Cx where
  prog : Program
  w : World
  K : PySem.W.Frag
  mg : Str → Option Value
  base : Heap
  A : Around
  N : List Str
  s₀ : Shared
  H₀ : Hp
  env : Env
  outer : List Env
  stack : List Env
  ex : List Addr
  fn : Str → Bool
  calm : Bool
  pn : List (Addr × Obj)
  xe : Value → Shared → Prop
/-- the callers' frames -/
def frs (l : List Env) : List Addr := l.filterMap (·.frame)
abbrev Cx.fs (X : Cx) : List Addr := frs X.outer

def Vis (sc : Scope) (x : Str) : Prop := sc.names.lookup x = some .local ∨ sc.names.lookup x = some .cell ∨ sc.names.lookup x = some .free
def Loc (sc : Scope) (x : Str) : Prop := sc.names.lookup x = some .local ∨ sc.names.lookup x = some .cell
def Look (env : Env) (h : Heap) (m : Str → Option Value) (x : Str) (u : Value) : Prop :=
  (env.kindOf x = some .local ∧ m x = some u) ∨ ((env.kindOf x = some .cell ∨ env.kindOf x = some .free) ∧ ∃ c, env.cells.lookup x = some c ∧ h.IsCell c (some u))

structure Cx.Ok (X : Cx) : Prop where
  mod : Mod X.K X.mg X.base
  kind : X.env.scope.kind = .function
  glob : X.env.globals = mainGlobals
  blt : X.env.builtins = builtinsNs
  above : X.s₀.heap.objs.size ≤ X.env.locals
  inj : ∀ x y c, X.env.cells.lookup x = some c → X.env.cells.lookup y = some c → x = y
  has : ∀ x, (X.env.kindOf x = some .cell ∨ X.env.kindOf x = some .free) → ∃ c, X.env.cells.lookup x = some c
  cab : ∀ x c, X.fn x = true → X.env.cells.lookup x = some c → X.s₀.heap.objs.size ≤ c
  hd : X.calm = true → X.A.handled = none
  frames : X.A.frames = some X.stack
  stk : X.stack = X.outer ∨ (X.stack = X.env :: X.outer ∧ X.env.frame = some X.env.locals)
  exf : ∀ b ∈ X.ex, b ≠ X.env.locals ∧ ∀ x c, X.env.cells.lookup x = some c → c ≠ b
  bs : ∀ b o, X.base.get? b = some o → X.s₀.heap.get? b = some o ∧ X.H₀ b = none
  bsz : X.base.objs.size ≤ X.s₀.heap.objs.size
  noex : ∀ b o, X.base.get? b = some o → b ∉ X.ex
  exfs : ∀ b ∈ X.ex, b ∉ X.fs
  funs : X.s₀.heap.FunFrames X.base X.outer
  frf : ∀ b ∈ X.fs, X.H₀ b = none

structure Inv (X : Cx) (pins : List (Addr × Obj)) (σ : List (Option V)) (H : Hp) (s : Shared) : Prop where
  ok : X.Ok
  os : s.os = X.s₀.os
  bare : AllBare s.gens
  base : Un X.fs X.ex X.H₀ H X.s₀.heap s.heap
  loc : ∃ m, s.heap.Ns X.env.locals m ∧ ∀ (i : Nat) (x : Str) (v : V), X.N[i]? = some x → σ[i]? = some (some v) → Vis X.env.scope x → ∃ u, RelV v u ∧ Look X.env s.heap m x u
  cell : ∀ x c, X.env.cells.lookup x = some c → ∃ v, s.heap.IsCell c v
  free : H X.env.locals = none
  freeC : ∀ x c, X.env.cells.lookup x = some c → H c = none
  pin : ∀ p ∈ X.pn ++ pins, s.heap.get? p.1 = some p.2 ∧ H p.1 = none ∧ p.1 ≠ X.env.locals ∧ p.1 ∉ X.fs ∧ ∀ v, p.2.data ≠ .cell v
  hok : HOk X.prog X.w H s.heap
  len : σ.length = X.N.length

section
variable {X : Cx} {pins : List (Addr × Obj)} {σ : List (Option V)} {H H' : Hp} {s : Shared} {h' : Heap}

theorem Cx.Ok.nofr (ok : X.Ok) {b : Addr} {o : Obj} (e : X.base.get? b = some o) : b ∉ X.fs := fun hb => by
  have := (ok.funs.mem hb).1
  rw [e] at this; cases this
theorem Inv.bs (I : Inv X pins σ H s) : ∀ b o, X.base.get? b = some o → s.heap.get? b = some o ∧ H b = none := fun b o e =>
  ⟨I.base.keep b o (I.ok.bs b o e).1 (I.ok.bs b o e).2 (I.ok.nofr e) (I.ok.noex b o e), I.base.free b o (I.ok.bs b o e).1 (I.ok.bs b o e).2 (I.ok.noex b o e)⟩
theorem Inv.bk (I : Inv X pins σ H s) : ∀ b o, X.base.get? b = some o → s.heap.get? b = some o := fun b o e => (I.bs b o e).1
theorem Inv.mod (I : Inv X pins σ H s) : Mod X.K X.mg X.base := I.ok.mod
theorem Inv.kIn (I : Inv X pins σ H s) : X.K.In s.heap := I.ok.mod.kin.keeps I.bk
theorem Inv.lt (I : Inv X pins σ H s) : X.env.locals < s.heap.objs.size := let ⟨_, hn, _⟩ := I.loc; hn.lt
theorem Inv.sz (I : Inv X pins σ H s) : X.s₀.heap.objs.size ≤ s.heap.objs.size := Nat.le_trans I.ok.above (Nat.le_of_lt I.lt)
theorem Inv.nofs (I : Inv X pins σ H s) {a : Addr} (h : s.heap.objs.size ≤ a) : a ∉ X.fs := fun hb => by
  obtain ⟨_, o, ho, _⟩ := I.ok.funs.mem hb
  exact absurd (Nat.lt_of_lt_of_le (Heap.lt_size ho) (Nat.le_trans I.sz h)) (Nat.lt_irrefl _)
theorem Inv.cne (I : Inv X pins σ H s) : ∀ x c, X.env.cells.lookup x = some c → c ≠ X.env.locals := fun x c e z => by
  obtain ⟨v, o, ho, hd⟩ := I.cell x c e
  obtain ⟨m, ⟨o', es, ep, ho', hd', _⟩, _⟩ := I.loc
  rw [z, ho'] at ho; cases ho; rw [hd'] at hd; cases hd
theorem Inv.funs (I : Inv X pins σ H s) : s.heap.FunFrames X.base X.outer := by
  have all : ∀ (l : List Env), (∀ b ∈ frs l, b ∈ X.fs) → X.s₀.heap.FunFrames X.base l → s.heap.FunFrames X.base l := by
    intro l
    induction l with
    | nil => intro _ _; trivial
    | cons env r ih =>
      intro hs hl
      obtain ⟨hk, ⟨L, o, hf, hn, ho, hd⟩, hr⟩ := hl
      have hL : L ∈ X.fs := hs L (by unfold frs; rw [List.filterMap_cons, hf]; exact List.mem_cons_self)
      obtain ⟨sl, e⟩ := I.base.slot L o ho (I.ok.frf L hL) hL fun z => I.ok.exfs L z hL
      exact ⟨hk, ⟨L, _, hf, hn, e, hd⟩, ih (fun b hb => hs b (by unfold frs; rw [List.filterMap_cons, hf]; exact List.mem_cons_of_mem _ hb)) hr⟩
  exact all X.outer (fun _ hb => hb) I.ok.funs

/-- the frames that run, for a call -/
theorem Inv.stack (I : Inv X pins σ H s) : s.heap.FunFrames X.base X.stack := by
  rcases I.ok.stk with e | ⟨e, hf⟩
  · rw [e]; exact I.funs
  · rw [e]
    obtain ⟨m, hn, _⟩ := I.loc
    refine .cons (by rw [I.ok.kind]; decide) hf hn ?_ I.funs
    exact Heap.get?_none_of_le (Nat.le_trans I.ok.bsz I.ok.above)
theorem Inv.stkSub (I : Inv X pins σ H s) : ∀ b ∈ frs X.stack, b ∈ X.env.locals :: X.fs := fun b hb => by
  rcases I.ok.stk with e | ⟨e, hf⟩
  · rw [e] at hb; exact List.mem_cons_of_mem _ hb
  · rw [e] at hb
    unfold frs at hb
    rw [List.filterMap_cons, hf] at hb
    exact hb
theorem Inv.stkFree (I : Inv X pins σ H s) : ∀ b ∈ frs X.stack, H b = none := fun b hb => by
  rcases List.mem_cons.mp (I.stkSub b hb) with e | hb
  · rw [e]; exact I.free
  · obtain ⟨_, o, ho, _⟩ := I.ok.funs.mem hb
    exact I.base.free b o ho (I.ok.frf b hb) fun z => I.ok.exfs b z hb

/-- THE STEP: the untracked objects but the frame and the records at ch are kept (the callers' frames up to slots), the frame's map is kept, the new abstract heap is held -/
theorem Inv.step {g' : Array GenState} {t' : Nat} {d' : Drawn} {ch : List Addr} (I : Inv X pins σ H s)
    (hch : ∀ b ∈ ch, (b ∈ X.ex ∨ X.s₀.heap.objs.size ≤ b) ∧ b ≠ X.env.locals ∧ (∀ x c, X.env.cells.lookup x = some c → c ≠ b) ∧ ∀ p ∈ X.pn ++ pins, p.1 ≠ b)
    (keep : ∀ b o, b ≠ X.env.locals → b ∉ X.fs → b ∉ ch → s.heap.get? b = some o → H b = none → h'.get? b = some o)
    (slot : ∀ b o, b ≠ X.env.locals → b ∈ X.fs → b ∉ ch → s.heap.get? b = some o → H b = none → ∃ sl, h'.get? b = some { o with slots := sl }) (free : ∀ b o, b ∉ ch → s.heap.get? b = some o → H b = none → H' b = none)
    (there : ∀ b o, b ∉ ch → s.heap.get? b = some o → ∃ o', h'.get? b = some o')
    (tups : ∀ b xs, H b = some (.tup xs) → H' b = some (.tup xs)) (frzs : ∀ b o u, H b = some (.frz o u) → H' b = some (.frz o u)) (tbls : ∀ b ps, H b = some (.tbl ps) → ∃ more, H' b = some (.tbl (ps ++ more)))
    (ns : ∀ m, s.heap.Ns X.env.locals m → h'.Ns X.env.locals m) (hok : HOk X.prog X.w H' h') (hg : AllBare g') :
    Inv X pins σ H' { s with heap := h', gens := g', drawn := d', toks := t' } := by
  have neL : ∀ b o, X.s₀.heap.get? b = some o → b ≠ X.env.locals := fun b o e => Nat.ne_of_lt (Nat.lt_of_lt_of_le (Heap.lt_size e) I.ok.above)
  have neC : ∀ b o, X.s₀.heap.get? b = some o → b ∉ X.ex → b ∉ ch := fun b o e hx hb => by
    rcases (hch b hb).1 with z | z
    · exact hx z
    · exact absurd (Nat.lt_of_lt_of_le (Heap.lt_size e) z) (Nat.lt_irrefl _)
  have cellK : ∀ x c, X.env.cells.lookup x = some c → ∀ v, s.heap.IsCell c v → h'.IsCell c v := fun x c e v ⟨o, ho, hd⟩ => by
    have nch : c ∉ ch := fun z => (hch c z).2.2.1 x c e rfl
    by_cases hc : c ∈ X.fs
    · obtain ⟨sl, q⟩ := slot c o (I.cne x c e) hc nch ho (I.freeC x c e)
      exact ⟨_, q, hd⟩
    · exact ⟨o, keep c o (I.cne x c e) hc nch ho (I.freeC x c e), hd⟩
  refine ⟨I.ok, I.os, hg, ⟨fun b o e n hb hx => ?_, fun b o e n hb hx => ?_, fun b o e n hx => ?_, fun b o e hx => ?_, fun b xs e => tups b xs (I.base.tups b xs e), fun b o xs e => frzs b o xs (I.base.frzs b o xs e), fun b ps e => ?_⟩, ?_, fun x c e => ?_, ?_, fun x c e => ?_, fun p hp => ?_, hok, I.len⟩
  · exact keep b o (neL b o e) hb (neC b o e hx) (I.base.keep b o e n hb hx) (I.base.free b o e n hx)
  · obtain ⟨sl, e1⟩ := I.base.slot b o e n hb hx
    obtain ⟨sl', e2⟩ := slot b _ (neL b o e) hb (neC b o e hx) e1 (I.base.free b o e n hx)
    exact ⟨sl', e2⟩
  · obtain ⟨o', e1⟩ := I.base.there b o e hx
    exact free b o' (neC b o e hx) e1 (I.base.free b o e n hx)
  · obtain ⟨o', e1⟩ := I.base.there b o e hx
    exact there b o' (neC b o e hx) e1
  · obtain ⟨m1, e1⟩ := I.base.tbls b ps e
    obtain ⟨m2, e2⟩ := tbls b _ e1
    exact ⟨m1 ++ m2, by rw [e2, Array.append_assoc]⟩
  · obtain ⟨m, hn, hl⟩ := I.loc
    refine ⟨m, ns m hn, fun i x v e1 e2 e3 => ?_⟩
    obtain ⟨u, r, l⟩ := hl i x v e1 e2 e3
    refine ⟨u, r, ?_⟩
    rcases l with l | ⟨k, c, e, z⟩
    · exact .inl l
    · exact .inr ⟨k, c, e, cellK x c e _ z⟩
  · obtain ⟨v, z⟩ := I.cell x c e
    exact ⟨v, cellK x c e v z⟩
  · obtain ⟨m, ⟨o, _, _, ho, _⟩, _⟩ := I.loc
    exact free _ o (fun z => (hch _ z).2.1 rfl) ho I.free
  · obtain ⟨v, o, ho, hd⟩ := I.cell x c e
    exact free c o (fun z => (hch c z).2.2.1 x c e rfl) ho (I.freeC x c e)
  · obtain ⟨e, n, ne, nf, d⟩ := I.pin p hp
    have nch : p.1 ∉ ch := fun z => (hch p.1 z).2.2.2 p hp rfl
    exact ⟨keep p.1 p.2 ne nf nch e n, free p.1 p.2 nch e n, ne, nf, d⟩
/-- .. where the frame's own object is kept too -/
theorem Inv.un {t' : Nat} (I : Inv X pins σ H s) (u : Un X.fs [] H H' s.heap h') (hok : HOk X.prog X.w H' h') : Inv X pins σ H' { s with heap := h', toks := t' } := by
  obtain ⟨m, ⟨o, es, ep, ho, r⟩, _⟩ := id I.loc
  obtain ⟨sl, hL⟩ := u.any ho I.free (by simp)
  exact I.step (g' := s.gens) (d' := s.drawn) (ch := []) (fun _ z => nomatch z) (fun b o _ hb _ e n => u.keep b o e n hb (by simp)) (fun b o _ hb _ e n => u.slot b o e n hb (by simp)) (fun b o _ e n => u.free b o e n (by simp)) (fun b o _ e => u.there b o e (by simp)) u.tups u.frzs u.tbls (fun m' hm => by
    obtain ⟨o', es', ep', ho', r'⟩ := hm
    rw [ho] at ho'; cases ho'
    exact ⟨_, es', ep', hL, r'⟩) hok I.bare
/-- behind a call (or a comprehension's block): the slots of this frame may have changed too, the records at ch may have turned -/
theorem Inv.call {g' : Array GenState} {t' : Nat} {d' : Drawn} {ch : List Addr} (I : Inv X pins σ H s) (u : Un (frs X.stack) ch H H' s.heap h') (hok : HOk X.prog X.w H' h') (hg : AllBare g')
    (hch : ∀ b ∈ ch, (b ∈ X.ex ∨ X.s₀.heap.objs.size ≤ b) ∧ b ≠ X.env.locals ∧ (∀ x c, X.env.cells.lookup x = some c → c ≠ b) ∧ ∀ p ∈ X.pn ++ pins, p.1 ≠ b) :
    Inv X pins σ H' { s with heap := h', gens := g', drawn := d', toks := t' } := by
  obtain ⟨m, ⟨o, es, ep, ho, r⟩, _⟩ := id I.loc
  obtain ⟨sl, hL⟩ := u.any ho I.free fun z => (hch _ z).2.1 rfl
  exact I.step (ch := ch) hch (fun b o hL hb hc e n => u.keep b o e n (fun z => (List.mem_cons.mp (I.stkSub b z)).elim hL hb) hc) (fun b o _ _ hc e n => u.any e n hc) (fun b o hc e n => u.free b o e n hc) (fun b o hc e => u.there b o e hc) u.tups u.frzs u.tbls (fun m' hm => by
    obtain ⟨o', es', ep', ho', r'⟩ := hm
    rw [ho] at ho'; cases ho'
    exact ⟨_, es', ep', hL, r'⟩) hok hg
/-- an untracked record of ours (an iterator) has turned -/
theorem Inv.turned {t' : Nat} {it : Addr} (I : Inv X pins σ H s) (k : ∀ b o, b ≠ it → s.heap.get? b = some o → h'.get? b = some o) (hn : H it = none) (hL : it ≠ X.env.locals)
    (h1 : it ∈ X.ex ∨ X.s₀.heap.objs.size ≤ it) (h2 : ∀ x c, X.env.cells.lookup x = some c → c ≠ it) (h3 : ∀ p ∈ X.pn ++ pins, p.1 ≠ it) : Inv X pins σ H { s with heap := h', toks := t' } := by
  have nit : ∀ b u, H b = some u → b ≠ it := fun b u e z => by rw [z, hn] at e; cases e
  refine I.step (g' := s.gens) (d' := s.drawn) (ch := [it]) (fun b hb => ?_) (fun b o _ _ hc e _ => k b o (fun z => hc (by simp [z])) e) (fun b o _ _ hc e _ => ⟨o.slots, k b o (fun z => hc (by simp [z])) e⟩) (fun _ _ _ _ n => n)
    (fun b o hc e => ⟨o, k b o (fun z => hc (by simp [z])) e⟩) (fun _ _ e => e) (fun _ _ _ e => e) (fun b ps e => ⟨#[], by rw [e]; simp⟩) (fun m hm => ?_) (fun b u e => ?_) I.bare
  · have e : b = it := by simpa using hb
    subst e
    exact ⟨h1, hL, h2, h3⟩
  · obtain ⟨o, es, ep, ho, r⟩ := hm
    exact ⟨o, es, ep, k _ o (Ne.symm hL) ho, r⟩
  · refine (I.hok b u e).stay (fun c v hc q => k c v ?_ q) (fun _ q => q) fun _ _ q => q
    rcases hc with z | z
    · rw [z]; exact nit b u e
    · exact nit c _ z
theorem Inv.tok (I : Inv X pins σ H s) (t : Nat) : Inv X pins σ H { s with toks := t } := I.un (h' := s.heap) (t' := t) Un.refl I.hok
/-- all objects kept -/
theorem Inv.kept {t' : Nat} (I : Inv X pins σ H s) (k : ∀ b u, s.heap.get? b = some u → h'.get? b = some u) : Inv X pins σ H { s with heap := h', toks := t' } := I.un (Un.kept k) (I.hok.kept k)
/-- a new object laid and tracked -/
theorem Inv.laid {a : Addr} {o : HO} {t' : Nat} (I : Inv X pins σ H s) (k : ∀ b u, s.heap.get? b = some u → h'.get? b = some u) (hp : s.heap.objs.size ≤ a) (new : ObjOk X.prog X.w (upd H a o) h' a o) :
    Inv X pins σ (upd H a o) { s with heap := h', toks := t' } := I.un (Un.laid k hp (I.hok.fresh hp)) (I.hok.laid k hp new)
/-- an object written -/
theorem Inv.write {x e : Addr} {o : HO} {t' : Nat} (I : Inv X pins σ H s) (mu : Mut (H x)) (he : e = x ∨ H e = some (.own x)) (k : ∀ b u, b ≠ e → s.heap.get? b = some u → h'.get? b = some u) (heo : ∃ u, h'.get? e = some u)
    (new : ObjOk X.prog X.w (upd H x o) h' x o) : Inv X pins σ (upd H x o) { s with heap := h', toks := t' } := I.un (Un.write mu he k heo) (I.hok.write mu he k heo new)
theorem Inv.pins_of {pins' : List (Addr × Obj)} (I : Inv X pins σ H s) (h : ∀ p ∈ pins', s.heap.get? p.1 = some p.2 ∧ H p.1 = none ∧ p.1 ≠ X.env.locals ∧ p.1 ∉ X.fs ∧ ∀ v, p.2.data ≠ .cell v) : Inv X pins' σ H s :=
  ⟨I.ok, I.os, I.bare, I.base, I.loc, I.cell, I.free, I.freeC, fun p hp => (List.mem_append.mp hp).elim (fun z => I.pin p (List.mem_append_left _ z)) (h p), I.hok, I.len⟩

theorem nodup_ix {N : List Str} (hN : N.Nodup) {i j : Nat} {x : Str} (a : N[i]? = some x) (b : N[j]? = some x) : i = j := by
  obtain ⟨h1, e1⟩ := List.getElem?_eq_some_iff.mp a
  obtain ⟨h2, e2⟩ := List.getElem?_eq_some_iff.mp b
  exact (List.getElem_inj hN).mp (e1.trans e2.symm)

/-- a name is stored; what changed -/
theorem store_ok2 {M : Model} {A : Around} {E : Value → Shared → Prop} {i : Nat} {x : Str} {v : V} {u : Value} {Q : Unit → Shared → Prop} (I : Inv X pins σ H s) (hN : X.N.Nodup) (hi : X.N[i]? = some x) (hx : Loc X.env.scope x) (r : RelV v u)
    (h : ∀ s', Inv X pins (σ.set i (some v)) H s' → (∃ a, Heap.SameBut a s.heap s'.heap ∧ (a = X.env.locals ∨ X.env.cells.lookup x = some a)) → Q () s') (hf : X.fn x = true ∨ X.env.scope.names.lookup x = some .local := by first | exact .inl rfl | exact .inr rfl | assumption) : wpAny M A (storeName X.env x u) Q E s := by
  obtain ⟨m, hn, hl⟩ := id I.loc
  have hcls : (X.env.scope.kind == .class || (X.env.scope.kind == .module && X.env.locals != X.env.globals)) = false := by rw [I.ok.kind]; rfl
  have hiσ : i < σ.length := by rw [I.len]; exact (List.getElem?_eq_some_iff.mp hi).1
  have cne := I.cne
  have tracked : ∀ {a : Addr} {h' : Heap}, (∃ o, s.heap.get? a = some o ∧ H a = none) → Heap.SameBut a s.heap h' → HOk X.prog X.w H h' := fun {a h'} ha hs b ob e => by
    obtain ⟨_, _, hfree⟩ := ha
    refine (I.hok b ob e).stay (fun c w' hc q => (hs.2 c ?_).trans q) (fun _ q => q) fun _ _ q => q
    rintro rfl
    rcases hc with rfl | hc
    · rw [hfree] at e; cases e
    · rw [hfree] at hc; cases hc
  rcases hx with hk | hk
  · refine wpAny_storeName_local hk hn (fun h' hn' hs => ?_) hcls
    obtain ⟨oL, _, _, hoL, _⟩ := id hn
    refine h _ ⟨I.ok, I.os, I.bare, ⟨fun b o e n hb hx => ?_, fun b o e n hb hx => ?_, I.base.free, fun b o e hx => ?_, I.base.tups, I.base.frzs, I.base.tbls⟩, ⟨_, hn', fun j y v' e1 e2 e3 => ?_⟩, fun y c e => ?_, I.free, I.freeC, fun p hp => ?_, tracked ⟨oL, hoL, I.free⟩ hs, by simpa using I.len⟩ ⟨_, hs, .inl rfl⟩
    · exact (hs.2 b (Nat.ne_of_lt (Nat.lt_of_lt_of_le (Heap.lt_size e) I.ok.above))).trans (I.base.keep b o e n hb hx)
    · obtain ⟨sl, e1⟩ := I.base.slot b o e n hb hx
      exact ⟨sl, (hs.2 b (Nat.ne_of_lt (Nat.lt_of_lt_of_le (Heap.lt_size e) I.ok.above))).trans e1⟩
    · obtain ⟨o', e1⟩ := I.base.there b o e hx
      exact ⟨o', (hs.2 b (Nat.ne_of_lt (Nat.lt_of_lt_of_le (Heap.lt_size e) I.ok.above))).trans e1⟩
    · by_cases hj : j = i
      · subst hj
        rw [hi] at e1; cases e1
        rw [List.getElem?_set_self hiσ] at e2
        cases e2
        exact ⟨u, r, .inl ⟨hk, by simp⟩⟩
      · rw [List.getElem?_set_ne (Ne.symm hj)] at e2
        obtain ⟨u', r', q⟩ := hl j y v' e1 e2 e3
        refine ⟨u', r', ?_⟩
        rcases q with ⟨k, e⟩ | ⟨k, c, e, z⟩
        · refine .inl ⟨k, ?_⟩
          have : y ≠ x := fun e => hj (nodup_ix hN e1 (e ▸ hi))
          simp [this, e]
        · exact .inr ⟨k, c, e, z.sameBut hs (cne y c e)⟩
    · obtain ⟨w', z⟩ := I.cell y c e
      exact ⟨w', z.sameBut hs (cne y c e)⟩
    · obtain ⟨e, n, ne, nf, d⟩ := I.pin p hp
      exact ⟨(hs.2 p.1 ne).trans e, n, ne, nf, d⟩
  · have hfn : X.fn x = true := by
      rcases hf with z | z
      · exact z
      · rw [z] at hk; cases hk
    obtain ⟨c, hc⟩ := I.ok.has x (.inl hk)
    obtain ⟨w', z⟩ := I.cell x c hc
    refine wpAny_storeName_cell I.ok.kind hk hc z (fun h' hc' hs => ?_)
    obtain ⟨oc, hoc, hocd⟩ := id z
    refine h { s with heap := h' } ⟨I.ok, I.os, I.bare, ⟨fun b o e n hb hx => ?_, fun b o e n hb hx => ?_, I.base.free, fun b o e hx => ?_, I.base.tups, I.base.frzs, I.base.tbls⟩, ⟨m, hn.sameBut hs (Ne.symm (cne x c hc)), fun j y v' e1 e2 e3 => ?_⟩, fun y c' e => ?_, I.free, I.freeC, fun p hp => ?_, tracked ⟨oc, hoc, I.freeC x c hc⟩ hs, by simpa using I.len⟩ ⟨c, hs, .inr hc⟩
    · exact (hs.2 b (Nat.ne_of_lt (Nat.lt_of_lt_of_le (Heap.lt_size e) (I.ok.cab x c hfn hc)))).trans (I.base.keep b o e n hb hx)
    · obtain ⟨sl, e1⟩ := I.base.slot b o e n hb hx
      exact ⟨sl, (hs.2 b (Nat.ne_of_lt (Nat.lt_of_lt_of_le (Heap.lt_size e) (I.ok.cab x c hfn hc)))).trans e1⟩
    · obtain ⟨o', e1⟩ := I.base.there b o e hx
      exact ⟨o', (hs.2 b (Nat.ne_of_lt (Nat.lt_of_lt_of_le (Heap.lt_size e) (I.ok.cab x c hfn hc)))).trans e1⟩
    · by_cases hj : j = i
      · subst hj
        rw [hi] at e1; cases e1
        rw [List.getElem?_set_self hiσ] at e2
        cases e2
        exact ⟨u, r, .inr ⟨.inl hk, c, hc, hc'⟩⟩
      · rw [List.getElem?_set_ne (Ne.symm hj)] at e2
        obtain ⟨u', r', q⟩ := hl j y v' e1 e2 e3
        refine ⟨u', r', ?_⟩
        rcases q with q | ⟨k, c', e, z'⟩
        · exact .inl q
        · refine .inr ⟨k, c', e, z'.sameBut hs ?_⟩
          rintro rfl
          exact hj (nodup_ix hN e1 (I.ok.inj _ _ _ e hc ▸ hi))
    · by_cases hcc : c' = c
      · subst hcc; exact ⟨_, hc'⟩
      · obtain ⟨w2, z2⟩ := I.cell y c' e
        exact ⟨w2, z2.sameBut hs hcc⟩
    · obtain ⟨e, n, ne, nf, d⟩ := I.pin p hp
      refine ⟨(hs.2 p.1 ?_).trans e, n, ne, nf, d⟩
      intro q
      rw [q, hoc] at e
      have q' : oc = p.2 := Option.some.inj e
      exact d w' (by rw [← q']; exact hocd)
theorem store_ok {M : Model} {A : Around} {E : Value → Shared → Prop} {i : Nat} {x : Str} {v : V} {u : Value} {Q : Unit → Shared → Prop} (I : Inv X pins σ H s) (hN : X.N.Nodup) (hi : X.N[i]? = some x) (hx : Loc X.env.scope x) (r : RelV v u)
    (h : ∀ s', Inv X pins (σ.set i (some v)) H s' → Q () s') (hf : X.fn x = true ∨ X.env.scope.names.lookup x = some .local := by first | exact .inl rfl | exact .inr rfl | assumption) : wpAny M A (storeName X.env x u) Q E s :=
  store_ok2 I hN hi hx r (fun s' I' _ => h s' I') hf
/-- behind a call or a block, the state as it is -/
theorem Inv.call' {s' : Shared} {ch : List Addr} (I : Inv X pins σ H s) (ho : s'.os = s.os) (u : Un (frs X.stack) ch H H' s.heap s'.heap) (hok : HOk X.prog X.w H' s'.heap) (hg : AllBare s'.gens)
    (hch : ∀ b ∈ ch, (b ∈ X.ex ∨ X.s₀.heap.objs.size ≤ b) ∧ b ≠ X.env.locals ∧ (∀ x c, X.env.cells.lookup x = some c → c ≠ b) ∧ ∀ p ∈ X.pn ++ pins, p.1 ≠ b) : Inv X pins σ H' s' := by
  obtain ⟨h', g', d', t', o'⟩ := s'
  have e : o' = s.os := ho
  subst e
  exact I.call (g' := g') (t' := t') (d' := d') u hok hg hch
end

/-! ### the judgements -/
/-- an exception: its class, its own dict's address (where it has one), the abstract heap behind it -/
abbrev XK := Value → Option Addr → Hp → Prop
abbrev St := List (Option V)
abbrev VK := V → Hp → Prop
/-- an expression's reading; a test's; an argument list's -/
abbrev TE := St → Hp → VK → Prop
abbrev TT := St → Hp → (Bool → Hp → Prop) → Prop
abbrev TA := St → Hp → (List V → Hp → Prop) → Prop
/-- what is wanted behind a statement -/
structure Ends where
  nx : St → Hp → Prop
  rt : VK
  bk : St → Hp → Prop := fun _ _ => False
  ct : St → Hp → Prop := fun _ _ => False
abbrev TS := Ends → St → Hp → Prop

def EP (X : Cx) (pins : List (Addr × Obj)) (σ : St) (Q : VK) (u : Value) (s' : Shared) : Prop := ∃ v H', Inv X pins σ H' s' ∧ RelV v u ∧ Q v H'
def TP (X : Cx) (pins : List (Addr × Obj)) (σ : St) (Q : Bool → Hp → Prop) (b : Bool) (s' : Shared) : Prop := ∃ H', Inv X pins σ H' s' ∧ Q b H'
def AP (X : Cx) (pins : List (Addr × Obj)) (σ : St) (Q : List V → Hp → Prop) (us : List Value) (s' : Shared) : Prop := ∃ vs H', Inv X pins σ H' s' ∧ Vals vs us ∧ Q vs H'
def SP (X : Cx) (pins : List (Addr × Obj)) (D : Ends) (f : Flow) (s' : Shared) : Prop :=
  match f with
  | .next => ∃ σ' H', Inv X pins σ' H' s' ∧ D.nx σ' H'
  | .brk => ∃ σ' H', Inv X pins σ' H' s' ∧ D.bk σ' H'
  | .cont => ∃ σ' H', Inv X pins σ' H' s' ∧ D.ct σ' H'
  | .ret u => ∃ v σ' H', Inv X pins σ' H' s' ∧ RelV v u ∧ D.rt v H'

def PE (X : Cx) (e : Expr) (t : TE) : Prop :=
  ∀ (pins : List (Addr × Obj)) (s : Shared) (σ : St) (H : Hp) (Q : VK), Inv X pins σ H s → t σ H Q → wpAny (model X.prog X.w) X.A (eval e X.env) (EP X pins σ Q) X.xe s
def PT (X : Cx) (e : Expr) (t : TT) : Prop :=
  ∀ (pins : List (Addr × Obj)) (s : Shared) (σ : St) (H : Hp) (Q : Bool → Hp → Prop), Inv X pins σ H s → t σ H Q → wpAny (model X.prog X.w) X.A (isTrue e X.env (eval e X.env)) (TP X pins σ Q) X.xe s
/-- a test whatever its 'whole' is (and, or) -/
def PW (X : Cx) (e : Expr) (t : TT) : Prop :=
  ∀ (whole : Sem Value) (pins : List (Addr × Obj)) (s : Shared) (σ : St) (H : Hp) (Q : Bool → Hp → Prop), Inv X pins σ H s → t σ H Q → wpAny (model X.prog X.w) X.A (isTrue e X.env whole) (TP X pins σ Q) X.xe s
theorem PW.pt {X : Cx} {e : Expr} {t : TT} (h : PW X e t) : PT X e t := h _
/-- an argument list (no star), from the left -/
def PA (X : Cx) (es : List Expr) (t : TA) : Prop :=
  ∀ (pos : Pos) (pins : List (Addr × Obj)) (s : Shared) (σ : St) (H : Hp) (Q : List V → Hp → Prop), Inv X pins σ H s → t σ H Q → wpAny (model X.prog X.w) X.A (spliced (backTo pos (starEach es X.env))) (AP X pins σ Q) X.xe s
def PS (X : Cx) (st : Stmt) (t : TS) : Prop :=
  ∀ (pins : List (Addr × Obj)) (s : Shared) (σ : St) (H : Hp) (D : Ends), Inv X pins σ H s → t D σ H → wpAny (model X.prog X.w) X.A (exec st X.env) (SP X pins D) X.xe s
def PSs (X : Cx) (st : List Stmt) (t : TS) : Prop :=
  ∀ (pins : List (Addr × Obj)) (s : Shared) (σ : St) (H : Hp) (D : Ends), Inv X pins σ H s → t D σ H → wpAny (model X.prog X.w) X.A (execs st X.env) (SP X pins D) X.xe s
/-- weaken the end -/
theorem thn {α : Type} {t : Sem α} {Q Q' : α → Shared → Prop} {M : Model} {A : Around} {E : Value → Shared → Prop} {s : Shared} (h : wpAny M A t Q E s) (hQ : ∀ a s, Q a s → Q' a s) : wpAny M A t Q' E s := wpAny_mono h hQ fun _ _ x => x
end L2

namespace L2
open PySem PySem.Spec PyProof.Rows
section
variable {X : Cx}

/-! ### names and constants -/
inductive tVarI (i : Nat) (σ : St) (H : Hp) (Q : VK) : Prop
  | mk (v : _) (h0_ : σ[i]? = some (some v)) (h1_ : Q v H) : tVarI i σ H Q
def tVar (i : Nat) : TE := fun σ H Q => tVarI i σ H Q
def tC (v : V) : TE := fun _ H Q => Q v H
theorem pe_var {i : Nat} {x : Str} {pos : Pos} (hN : X.N[i]? = some x) (hv : Vis X.env.scope x) (hd : (x == ("__debug__" : Str)) = false := by decide) (hcd : (x == ("__classdict__" : Str)) = false := by decide) : PE X (.Name x pos) (tVar i) := by
  intro pins s σ H Q I h
  obtain ⟨v, e, h⟩ := h
  obtain ⟨m, hn, hl⟩ := I.loc
  obtain ⟨u, r, l⟩ := hl i x v hN e hv
  have fin : EP X pins σ Q u s := ⟨v, H, I, r, h⟩
  rcases l with ⟨hk, hm⟩ | ⟨hk, c, hc, hcell⟩
  · exact wpAny_Name (wpAny_loadName_local I.ok.kind hk hn hm fin) hd
  · rcases hk with hk | hk
    · exact wpAny_Name (wpAny_loadName_cell I.ok.kind hk hc hcell fin) hd
    · exact wpAny_Name (wpAny_loadName_free I.ok.kind hk hc hcell fin hcd) hd
theorem pe_int {i j pos} : PE X (.Constant (.int i) j pos) (tC (.int i)) := fun _ _ _ H _ I h => wpAny_Constant_int ⟨.int i, H, I.tok _, ⟨_, rfl⟩, h⟩
theorem pe_bl {b j pos} : PE X (.Constant (.bool b) j pos) (tC (.bl b)) := fun _ _ _ H _ I h => Constant_bool ⟨.bl b, H, I, rfl, h⟩
theorem pe_non {j pos} : PE X (.Constant .none j pos) (tC .non) := fun _ _ _ H _ I h => Constant_none ⟨.non, H, I, rfl, h⟩
theorem pe_str {x j pos} : PE X (.Constant (.str x) j pos) (tC (.str x)) := fun _ _ _ H _ I h => Calls.Constant_str ⟨.str x, H, I.tok _, ⟨_, rfl⟩, h⟩

/-- a global name of the def -/
def Gl (X : Cx) (x : Str) : Prop := X.env.kindOf x = some .globalImplicit
theorem ld_glob {E : Value → Shared → Prop} {pins : List (Addr × Obj)} {s : Shared} {σ : St} {H : Hp} {x : Str} {u : Value} {pos : Pos} {Q : Value → Shared → Prop} (I : Inv X pins σ H s) (hg : Gl X x) (hm : X.mg x = some u) (h : Q u s)
    (hd : (x == ("__debug__" : Str)) = false := by decide) : wpAny (model X.prog X.w) X.A (eval (.Name x pos) X.env) Q E s :=
  Calls.Name_function_global I.ok.kind hg (Calls.loadGlobal_global (by rw [I.ok.glob]; exact I.mod.glob.keeps I.bk) hm h) hd
theorem ld_blt {E : Value → Shared → Prop} {pins : List (Addr × Obj)} {s : Shared} {σ : St} {H : Hp} {x : Str} {u : Value} {pos : Pos} {Q : Value → Shared → Prop} (I : Inv X pins σ H s) (hg : Gl X x) (hm : X.mg x = none) (hv : bootBuiltins x = some u) (h : Q u s)
    (hn : x ≠ "__name__" := by decide) (hd : (x == ("__debug__" : Str)) = false := by decide) : wpAny (model X.prog X.w) X.A (eval (.Name x pos) X.env) Q E s := by
  obtain ⟨mb, h1, h2⟩ := I.mod.blt
  exact Calls.Name_function_global I.ok.kind hg (Calls.loadGlobal_builtin (by rw [I.ok.glob]; exact I.mod.glob.keeps I.bk) hm (by rw [I.ok.blt]; exact h1.keeps I.bk) ((h2 x hn).trans hv) h) hd
/-- a module's constant, a class, a function, as a value -/
theorem pe_glob {x : Str} {v : V} {u : Value} {pos : Pos} (hg : Gl X x) (hm : X.mg x = some u) (r : RelV v u) (hd : (x == ("__debug__" : Str)) = false := by decide) : PE X (.Name x pos) (tC v) :=
  fun _ _ _ H _ I h => ld_glob I hg hm ⟨v, H, I, r, h⟩ hd
theorem pe_bltn {x : Str} {v : V} {u : Value} {pos : Pos} (hg : Gl X x) (hm : X.mg x = none) (hv : bootBuiltins x = some u) (r : RelV v u) (hn : x ≠ "__name__" := by decide) (hd : (x == ("__debug__" : Str)) = false := by decide) : PE X (.Name x pos) (tC v) :=
  fun _ _ _ H _ I h => ld_blt I hg hm hv ⟨v, H, I, r, h⟩ hn hd

/-! ### arithmetic -/
/-- two ints -/
def t2I (ta tb : TE) (k : Int → Int → Hp → Prop) : St → Hp → Prop := fun σ H => ta σ H fun x H1 => tb σ H1 fun y H2 => ∃ i j, x = .int i ∧ y = .int j ∧ k i j H2
def tAdd (ta tb : TE) : TE := fun σ H Q => t2I ta tb (fun i j H2 => Q (.int (i + j)) H2) σ H
def tSub (ta tb : TE) : TE := fun σ H Q => t2I ta tb (fun i j H2 => Q (.int (i - j)) H2) σ H
/-- the left factor below 2^64 -/
def tMul (ta tb : TE) : TE := fun σ H Q => t2I ta tb (fun i j H2 => (-(2 ^ 64) < i ∧ i < 2 ^ 64) ∧ Q (.int (i * j)) H2) σ H
variable {a b : Expr} {ta tb : TE} {pos : Pos}
/-! ### comparisons -/
def PC (X : Cx) (op : CmpOp) (a b : Expr) (t : TE) : Prop :=
  ∀ (pins : List (Addr × Obj)) (s : Shared) (σ : St) (H : Hp) (Q : VK), Inv X pins σ H s → t σ H Q →
    wpAny (model X.prog X.w) X.A (eval a X.env) (fun v s₁ => wpAny (model X.prog X.w) X.A (eval b X.env) (fun u s₂ => wpAny (model X.prog X.w) X.A (compareOp op v u) (EP X pins σ Q) X.xe s₂) X.xe s₁) X.xe s
def tCmp (p : Int → Int → Bool) (ta tb : TE) : TE := fun σ H Q => t2I ta tb (fun i j H2 => Q (.bl (p i j)) H2) σ H
abbrev tLt : TE → TE → TE := tCmp fun i j => decide (i < j)
abbrev tLe : TE → TE → TE := tCmp fun i j => decide (i ≤ j)
abbrev tGt : TE → TE → TE := tCmp fun i j => decide (j < i)
abbrev tGe : TE → TE → TE := tCmp fun i j => decide (j ≤ i)
abbrev tEqI : TE → TE → TE := tCmp fun i j => decide (i = j)
abbrev tNeI : TE → TE → TE := tCmp fun i j => !decide (i = j)
/-- is None -/
def tIsN (ta : TE) : TE := fun σ H Q => ta σ H fun x H1 => Q (.bl (decide (x = .non))) H1
def tNotN (ta : TE) : TE := fun σ H Q => ta σ H fun x H1 => Q (.bl (!decide (x = .non))) H1
/-- a comparison as a value, as a test -/
def tB (t : TE) : TT := fun σ H Q => t σ H fun x H1 => ∃ c, x = .bl c ∧ Q c H1
/-- an expression whose value is a bool, as a test -/
theorem pt_val {e : Expr} {t : TE} (h : PE X e t) (he : ∀ whole, isTrue e X.env whole = (do let v ← whole; standAt e.pos; holding [v] (truthy v)) := by intro _; rfl) : PT X e (tB t) := by
  intro pins s σ H Q I hw
  refine isTrue_plain (thn (h pins s σ H _ I hw) fun v s1 ⟨x, H1, I1, r1, q1⟩ => ?_) (he _)
  obtain ⟨d, rfl, q⟩ := q1
  cases r1
  exact wpAny_truthy_bool ⟨H1, I1, q⟩

/-! ### and, or, not -/
variable {tA tB' : TT} {rest : List Expr}
def tAnd (t u : TT) : TT := fun σ H Q => t σ H fun c H1 => if c = true then u σ H1 Q else Q false H1
def tOr (t u : TT) : TT := fun σ H Q => t σ H fun c H1 => if c = true then Q true H1 else u σ H1 Q
def tNot (t : TT) : TT := fun σ H Q => t σ H fun c H1 => Q (!c) H1
theorem pw_and1 (ha : PT X a tA) : PW X (.BoolOp .And [a] pos) tA := by
  intro wh pins s σ H Q I h
  refine isTrue_and (thn (ha pins s σ H Q I h) fun c s1 e => ?_)
  cases c with
  | true => exact isTrue_and_nil e
  | false => exact e
theorem pw_or1 (ha : PT X a tA) : PW X (.BoolOp .Or [a] pos) tA := by
  intro wh pins s σ H Q I h
  refine isTrue_or (thn (ha pins s σ H Q I h) fun c s1 e => ?_)
  cases c with
  | false => exact isTrue_or_nil e
  | true => exact e
theorem pw_and (ha : PT X a tA) (hb : PW X (.BoolOp .And (b :: rest) pos) tB') : PW X (.BoolOp .And (a :: b :: rest) pos) (tAnd tA tB') := by
  intro wh pins s σ H Q I h
  refine isTrue_and (thn (ha pins s σ H _ I h) fun c s1 ⟨H1, I1, q1⟩ => ?_)
  cases c with
  | true => exact hb wh pins s1 σ H1 Q I1 q1
  | false => exact ⟨H1, I1, q1⟩
theorem pw_or (ha : PT X a tA) (hb : PW X (.BoolOp .Or (b :: rest) pos) tB') : PW X (.BoolOp .Or (a :: b :: rest) pos) (tOr tA tB') := by
  intro wh pins s σ H Q I h
  refine isTrue_or (thn (ha pins s σ H _ I h) fun c s1 ⟨H1, I1, q1⟩ => ?_)
  cases c with
  | true => exact ⟨H1, I1, q1⟩
  | false => exact hb wh pins s1 σ H1 Q I1 q1
theorem pt_not (ha : PT X a tA) : PT X (.UnaryOp .Not a pos) (tNot tA) := by
  intro pins s σ H Q I h
  exact isTrue_not (ha pins s σ H (fun c H1 => Q (!c) H1) I h)
/-- .. as values (bools) -/
def tAndV (ta tb : TE) : TE := fun σ H Q => ta σ H fun x H1 => ∃ c, x = .bl c ∧ if c = true then tb σ H1 Q else Q (.bl false) H1
def tOrV (ta tb : TE) : TE := fun σ H Q => ta σ H fun x H1 => ∃ c, x = .bl c ∧ if c = true then Q (.bl true) H1 else tb σ H1 Q
def tNotV (ta : TE) : TE := fun σ H Q => ta σ H fun x H1 => ∃ c, x = .bl c ∧ Q (.bl (!c)) H1
theorem pe_one {op} {t : TE} (h : PE X a t) : PE X (.BoolOp op [a] pos) t := fun pins s σ H Q I hw => BoolOp_one (h pins s σ H Q I hw)
theorem pe_and (ha : PE X a ta) (hb : PE X (.BoolOp .And (b :: rest) pos) tb) : PE X (.BoolOp .And (a :: b :: rest) pos) (tAndV ta tb) := by
  intro pins s σ H Q I h
  refine BoolOp_and (thn (ha pins s σ H _ I h) fun v s1 ⟨x, H1, I1, r1, q1⟩ => ?_)
  obtain ⟨c, rfl, q1⟩ := q1
  cases r1
  refine wpAny_truthy_bool ?_
  cases c with
  | true => exact hb pins s1 σ H1 Q I1 q1
  | false => exact ⟨.bl false, H1, I1, rfl, q1⟩
theorem pe_or (ha : PE X a ta) (hb : PE X (.BoolOp .Or (b :: rest) pos) tb) : PE X (.BoolOp .Or (a :: b :: rest) pos) (tOrV ta tb) := by
  intro pins s σ H Q I h
  refine BoolOp_or (thn (ha pins s σ H _ I h) fun v s1 ⟨x, H1, I1, r1, q1⟩ => ?_)
  obtain ⟨c, rfl, q1⟩ := q1
  cases r1
  refine wpAny_truthy_bool ?_
  cases c with
  | false => exact hb pins s1 σ H1 Q I1 q1
  | true => exact ⟨.bl true, H1, I1, rfl, q1⟩
/-- a if t else b -/
def tIf (t : TT) (ta tb : TE) : TE := fun σ H Q => t σ H fun c H1 => if c = true then ta σ H1 Q else tb σ H1 Q
end
end L2

namespace L2
open PySem PySem.Spec PyProof.Rows

/-! ### a list, a tuple that is read: tracked, frozen, or an object of the module -/
def SqL (K : PySem.W.Frag) (H : Hp) (a : Addr) (xs : List V) : Prop :=
  Rd H a (.lst xs) ∨
    ∃ (o : Obj) (its : Array Value) (n : Nat), K.lookup a = some o ∧ o.cls = .type "list" ∧ o.dict = none ∧ o.data = .seq its n ∧ its.size ≤ sizeLine ∧ Vals xs its.toList
def SqT (K : PySem.W.Frag) (H : Hp) (a : Addr) (xs : List V) : Prop :=
  Rd H a (.tup xs) ∨
    ∃ (o : Obj) (its : Array Value) (n : Nat), K.lookup a = some o ∧ o.cls = .type "tuple" ∧ o.data = .seq its n ∧ its.size ≤ sizeLine ∧ Vals xs its.toList
def absV : Value → Option V
  | .none => some .non
  | .bool b => some (.bl b)
  | .int i _ => some (.int i)
  | .str x _ => some (.str x)
  | .bytes b _ => some (.byt b)
  | .float b _ => some (.flt b)
  | .ref a => some (.ref a)
  | .type n => some (.ty n)
  | _ => none
theorem RelV.abs {x : V} {u : Value} (r : RelV x u) : absV u = some x := by
  cases x with
  | non => cases r; rfl
  | bl _ => cases r; rfl
  | int _ => obtain ⟨t, rfl⟩ := r; rfl
  | str _ => obtain ⟨t, rfl⟩ := r; rfl
  | byt _ => obtain ⟨t, rfl⟩ := r; rfl
  | flt _ => obtain ⟨t, rfl⟩ := r; rfl
  | ref _ => cases r; rfl
  | ty _ => cases r; rfl
theorem RelV.inj {x y : V} {u : Value} (r : RelV x u) (q : RelV y u) : x = y := Option.some.inj (r.abs.symm.trans q.abs)
theorem Vals.inj : ∀ {xs ys : List V} {us : List Value}, Vals xs us → Vals ys us → xs = ys
  | _, _, _, .nil, .nil => rfl
  | _, _, _, .cons r t, .cons r' t' => by rw [r.inj r', Vals.inj t t']
section
variable {X : Cx} {pins : List (Addr × Obj)} {σ : St} {H : Hp} {s : Shared} {a : Addr} {xs ys : List V}
theorem SqL.of {K : PySem.W.Frag} (h : H a = some (.lst xs)) : SqL K H a xs := .inl (.inl h)
theorem SqT.of {K : PySem.W.Frag} (h : H a = some (.tup xs)) : SqT K H a xs := .inl (.inl h)
theorem Inv.list (I : Inv X pins σ H s) (h : SqL X.K H a xs) : ∃ its : List Value, Vals xs its ∧ PlainL s.heap a its.toArray ∧ xs.length ≤ sizeLine := by
  rcases h with h | ⟨o, its, n, hk, hc, hd, hs, hz, r⟩
  · obtain ⟨z, its, n, r, e⟩ := h.ok I.hok
    exact ⟨its, r, ⟨_, n, e, rfl, rfl, rfl⟩, z⟩
  · refine ⟨its.toList, r, ⟨o, n, I.kIn a o hk, hc, hd, by simpa using hs⟩, ?_⟩
    have e := r.length
    simp only [Array.length_toList] at e
    omega
theorem Inv.tuple (I : Inv X pins σ H s) (h : SqT X.K H a xs) : ∃ its : List Value, Vals xs its ∧ IsTup s.heap a its.toArray ∧ xs.length ≤ sizeLine := by
  rcases h with h | ⟨o, its, n, hk, hc, hs, hz, r⟩
  · obtain ⟨z, its, r, p⟩ := h.ok I.hok
    exact ⟨its, r, p, z⟩
  · refine ⟨its.toList, r, ⟨o, I.kIn a o hk, hc, n, by simpa using hs⟩, ?_⟩
    have e := r.length
    simp only [Array.length_toList] at e
    omega
theorem Inv.list_inj (I : Inv X pins σ H s) (h : SqL X.K H a xs) (h' : SqL X.K H a ys) : xs = ys := by
  obtain ⟨its, r, ⟨o, n, e, _, _, d⟩, _⟩ := I.list h
  obtain ⟨its', r', ⟨o', n', e', _, _, d'⟩, _⟩ := I.list h'
  rw [e] at e'; cases e'
  rw [d] at d'
  injection d' with d1 _
  have : its = its' := by simpa using congrArg Array.toList d1
  subst this
  exact r.inj r'
end

/-! ### another wish about exceptions -/
abbrev Cx.wish (X : Cx) (E : Value → Shared → Prop) : Cx := { X with xe := E }
/-- no exception leaves -/
abbrev Cx.nox (X : Cx) : Cx := X.wish fun _ _ => False
theorem Cx.Ok.wish {X : Cx} (ok : X.Ok) (E : Value → Shared → Prop) : (X.wish E).Ok :=
  ⟨ok.mod, ok.kind, ok.glob, ok.blt, ok.above, ok.inj, ok.has, ok.cab, ok.hd, ok.frames, ok.stk, ok.exf, ok.bs, ok.bsz, ok.noex, ok.exfs, ok.funs, ok.frf⟩
theorem Cx.Ok.unwish {X : Cx} {E : Value → Shared → Prop} (ok : (X.wish E).Ok) : X.Ok :=
  ⟨ok.mod, ok.kind, ok.glob, ok.blt, ok.above, ok.inj, ok.has, ok.cab, ok.hd, ok.frames, ok.stk, ok.exf, ok.bs, ok.bsz, ok.noex, ok.exfs, ok.funs, ok.frf⟩
section
variable {X : Cx} {pins : List (Addr × Obj)} {σ : St} {H : Hp} {s : Shared} {E : Value → Shared → Prop}
theorem Inv.wish (I : Inv X pins σ H s) (E : Value → Shared → Prop) : Inv (X.wish E) pins σ H s := ⟨I.ok.wish E, I.os, I.bare, I.base, I.loc, I.cell, I.free, I.freeC, I.pin, I.hok, I.len⟩
theorem Inv.unwish (I : Inv (X.wish E) pins σ H s) : Inv X pins σ H s := ⟨I.ok.unwish, I.os, I.bare, I.base, I.loc, I.cell, I.free, I.freeC, I.pin, I.hok, I.len⟩
theorem SP.unwish {D : Ends} {f : Flow} {s' : Shared} (h : SP (X.wish E) pins D f s') : SP X pins D f s' := by
  cases f with
  | next => obtain ⟨σ', H', I, q⟩ := h; exact ⟨σ', H', I.unwish, q⟩
  | brk => obtain ⟨σ', H', I, q⟩ := h; exact ⟨σ', H', I.unwish, q⟩
  | cont => obtain ⟨σ', H', I, q⟩ := h; exact ⟨σ', H', I.unwish, q⟩
  | ret u => obtain ⟨v, σ', H', I, r, q⟩ := h; exact ⟨v, σ', H', I.unwish, r, q⟩
theorem PSs.nox {st : List Stmt} {t : TS} (h : PSs X.nox st t) : PSs X st t := fun pins s σ H D I hw =>
  wpAny_mono (h pins s σ H D (I.wish _) hw) (fun _ _ q => q.unwish) fun _ _ z => False.elim z
end

/-! ### blocks and small statements -/
section
variable {X : Cx} {st : Stmt} {rest : List Stmt} {t u : TS} {e : Expr} {te : TE} {pos : Pos}
def tNext : TS := fun D σ H => D.nx σ H
def tSeq (t u : TS) : TS := fun D σ H => t { D with nx := u D } σ H
theorem pss_nil : PSs X [] tNext := fun _ _ σ H _ I h => wpAny_execs_nil ⟨σ, H, I, h⟩
theorem pss_cons (h1 : PS X st t) (h2 : PSs X rest u) : PSs X (st :: rest) (tSeq t u) := by
  intro pins s σ H D I h
  refine wpAny_execs_cons (thn (h1 pins s σ H { D with nx := u D } I h) fun f s1 q => ?_)
  cases f with
  | next =>
    obtain ⟨σ', H', I', q⟩ := q
    exact h2 pins s1 σ' H' D I' q
  | ret v => exact q
  | brk => exact q
  | cont => exact q
theorem pss_one (h1 : PS X st t) : PSs X [st] t := by
  intro pins s σ H D I h
  refine wpAny_execs_cons (thn (h1 pins s σ H D I h) fun f s1 q => ?_)
  cases f with
  | next => exact wpAny_execs_nil q
  | ret v => exact q
  | brk => exact q
  | cont => exact q
def tBreak : TS := fun D σ H => D.bk σ H
def tCont : TS := fun D σ H => D.ct σ H
/-- in a def's body nothing is shown -/
theorem Inv.quiet {pins : List (Addr × Obj)} {σ : St} {H : Hp} {s : Shared} (I : Inv X pins σ H s) : interactive X.env = false := by simp [interactive, I.ok.kind]
/-- an expression whose value is dropped -/
def tDrop (te : TE) : TS := fun D σ H => te σ H fun _ H1 => D.nx σ H1
theorem ps_expr (he : PE X e te) (hs : swapsWith e none pos.line X.env = pure false := by rfl) : PS X (.Expr e pos) (tDrop te) := by
  intro pins s σ H D I h
  exact wpAny_Expr_any (thn (he pins s σ H _ I h) fun v s1 ⟨x, H1, I1, r1, q1⟩ => ⟨σ, H1, I1, q1⟩) I.quiet hs
def tRet (te : TE) : TS := fun D σ H => te σ H D.rt
theorem ps_ret (he : PE X e te) : PS X (.Return (some e) pos) (tRet te) := by
  intro pins s σ H D I h
  exact wpAny_Return_some (thn (he pins s σ H _ I h) fun v s1 ⟨x, H1, I1, r1, q1⟩ => ⟨x, σ, H1, I1, r1, q1⟩)
def tRetN : TS := fun D _ H => D.rt .non H
def tIfS (c : TT) (t u : TS) : TS := fun D σ H => c σ H fun b H1 => if b = true then t D σ H1 else u D σ H1
theorem ps_if {c : Expr} {a b : List Stmt} {tc : TT} (hc : PT X c tc) (ha : PSs X a t) (hb : PSs X b u) : PS X (.If c a b pos) (tIfS tc t u) := by
  intro pins s σ H D I h
  refine wpAny_If (thn (hc pins s σ H _ I h) fun d s1 ⟨H1, I1, q1⟩ => ?_)
  cases d with
  | true => exact ha pins s1 σ H1 D I1 q1
  | false => exact hb pins s1 σ H1 D I1 q1
/-- code that the proof never comes to -/
def tNever : TS := fun _ _ _ => False
theorem ps_never : PS X st tNever := fun _ _ _ _ _ _ h => h.elim
end

/-! ### targets -/
abbrev TG := V → St → Hp → (St → Hp → Prop) → Prop
abbrev TGs := List V → St → Hp → (St → Hp → Prop) → Prop
def PG (X : Cx) (target : Expr) (t : TG) : Prop :=
  ∀ (pins : List (Addr × Obj)) (s : Shared) (σ : St) (H : Hp) (v : V) (u : Value) (Q : St → Hp → Prop), Inv X pins σ H s → RelV v u → t v σ H Q →
    wpAny (model X.prog X.w) X.A (assign target X.env u) (fun _ s' => ∃ σ' H', Inv X pins σ' H' s' ∧ Q σ' H') X.xe s
/-- several targets, one after another -/
def PGs (X : Cx) (ts : List Expr) (t : TGs) : Prop :=
  ∀ (pins : List (Addr × Obj)) (s : Shared) (σ : St) (H : Hp) (vs : List V) (us : List Value) (Q : St → Hp → Prop), Inv X pins σ H s → Vals vs us → t vs σ H Q →
    wpAny (model X.prog X.w) X.A (assignInOrder ((assignEach ts X.env).map (·.2)) us) (fun _ s' => ∃ σ' H', Inv X pins σ' H' s' ∧ Q σ' H') X.xe s
/-- o[i] = v, by values -/
abbrev TSet := V → V → V → Hp → (Hp → Prop) → Prop
def PSet (X : Cx) (t : TSet) : Prop :=
  ∀ (pins : List (Addr × Obj)) (s : Shared) (σ : St) (H : Hp) (o i v : V) (ov iv u : Value) (Q : Hp → Prop), Inv X pins σ H s → RelV o ov → RelV i iv → RelV v u → t o i v H Q →
    wpAny (model X.prog X.w) X.A (setItem ov iv u) (fun _ s' => ∃ H', Inv X pins σ H' s' ∧ Q H') X.xe s
/-- a op= b, by values -/
abbrev TIp := V → V → Hp → VK → Prop
def PIp (X : Cx) (op : Operator) (t : TIp) : Prop :=
  ∀ (pins : List (Addr × Obj)) (s : Shared) (σ : St) (H : Hp) (x y : V) (v u : Value) (Q : VK), Inv X pins σ H s → RelV x v → RelV y u → t x y H Q →
    wpAny (model X.prog X.w) X.A (inplaceOp op v u) (EP X pins σ Q) X.xe s
section
variable {X : Cx} {pos : Pos}
def gName (i : Nat) : TG := fun v σ H Q => Q (σ.set i (some v)) H
theorem pg_name {i : Nat} {x : Str} (hN : X.N.Nodup) (hi : X.N[i]? = some x) (hx : Loc X.env.scope x) (hf : X.fn x = true ∨ X.env.scope.names.lookup x = some .local := by first | exact .inl rfl | exact .inr rfl | assumption) : PG X (.Name x pos) (gName i) := by
  intro pins s σ H v u Q I r h
  exact wpAny_assign_Name (store_ok I hN hi hx r (fun s' I' => ⟨_, H, I', h⟩) hf)
def gNil : TGs := fun vs σ H Q => vs = [] ∧ Q σ H
inductive gConsI (t : TG) (u : TGs) (vs : List V) (σ : St) (H : Hp) (Q : (St → Hp → Prop)) : Prop
  | mk (v : _) (r : _) (h0_ : vs = v :: r) (h1_ : t v σ H fun σ' H' => u r σ' H' Q) : gConsI t u vs σ H Q
def gCons (t : TG) (u : TGs) : TGs := fun vs σ H Q => gConsI t u vs σ H Q
theorem pgs_nil : PGs X [] gNil := by
  intro pins s σ H vs us Q I r h
  obtain ⟨e, h⟩ := h
  subst e
  cases r
  exact assignInOrder_nil ⟨σ, H, I, h⟩
theorem pgs_cons {e : Expr} {es : List Expr} {t : TG} {u : TGs} (h1 : PG X e t) (h2 : PGs X es u)
    (hs : (assignEach (e :: es) X.env).map (·.2) = assign e X.env :: (assignEach es X.env).map (·.2) := by rfl) : PGs X (e :: es) (gCons t u) := by
  intro pins s σ H vs us Q I r h
  obtain ⟨v, vr, e1, h⟩ := h
  subst e1
  cases r with
  | cons r rr =>
    rw [hs]
    refine assignInOrder_cons (thn (h1 pins s σ H _ _ _ I r h) fun _ s1 ⟨σ1, H1, I1, q1⟩ => ?_)
    exact h2 pins s1 σ1 H1 _ _ Q I1 rr q1
/-- (a, b, ..) = a tuple of that length -/
inductive gTupI (K : PySem.W.Frag) (n : Nat) (t : TGs) (v : V) (σ : St) (H : Hp) (Q : (St → Hp → Prop)) : Prop
  | mk (a : _) (xs : _) (h0_ : v = .ref a) (h1_ : SqT K H a xs) (h2_ : xs.length = n) (h3_ : t xs σ H Q) : gTupI K n t v σ H Q
def gTup (K : PySem.W.Frag) (n : Nat) (t : TGs) : TG := fun v σ H Q => gTupI K n t v σ H Q
theorem pg_tup {es : List Expr} {k : Nat} {t : TGs} {n : Nat} (hc : X.calm = true) (h : PGs X es t)
    (hn : (assignEach es X.env).length = n := by rfl) (hst : (assignEach es X.env).findIdx? (·.1) = none := by rfl) : PG X (.Tuple es k pos) (gTup X.K n t) := by
  intro pins s σ H v u Q I r hw
  obtain ⟨a, xs, e1, hq, hl, hw⟩ := hw
  subst e1
  cases r
  obtain ⟨its, rv, ht, hz⟩ := I.tuple hq
  refine assign_Tuple_tuple (I.ok.hd hc) ht (by simp [hn, ← hl, rv.length]) hst fun h' hx => ?_
  have I1 : Inv X pins σ H { s with heap := h' } := I.kept (t' := s.toks) fun b o e => hx b o (Nat.ne_of_lt (Heap.lt_size e)) e
  exact h pins _ σ H xs _ Q I1 (by simpa using rv) hw
/-- o[i] = .. -/
def gSub (to ti : TE) (t : TSet) : TG := fun v σ H Q => to σ H fun o H1 => ti σ H1 fun i H2 => t o i v H2 fun H3 => Q σ H3
/-- target = value -/
def tAsg (te : TE) (g : TG) : TS := fun D σ H => te σ H fun x H1 => g x σ H1 D.nx
theorem ps_asg {tg e : Expr} {te : TE} {g : TG} (he : PE X e te) (hg : PG X tg g) (hs : swapsWithSole [tg] e pos.line X.env = pure false := by rfl) (hw : swappedStores [tg] e X.env = pure none := by rfl)
    (h1 : (assignEach [tg] X.env).map (·.2) = [assign tg X.env] := by rfl) : PS X (.Assign [tg] e pos) (tAsg te g) := by
  intro pins s σ H D I h
  refine wpAny_Assign_stores (thn (he pins s σ H _ I h) fun v s1 ⟨x, H1, I1, r1, q1⟩ => ?_) hs hw
  rw [h1]
  exact thn (hg pins s1 σ H1 x v _ I1 r1 q1) fun _ s2 q => q
/-- name = value -/
theorem ps_set {i : Nat} {x : Str} {e : Expr} {te : TE} {pos' : Pos} (hN : X.N.Nodup) (hi : X.N[i]? = some x) (hx : Loc X.env.scope x) (he : PE X e te) (hs : swapsWith e (some (.Name x pos')) pos.line X.env = pure false := by rfl) (hf : X.fn x = true ∨ X.env.scope.names.lookup x = some .local := by first | exact .inl rfl | exact .inr rfl | assumption) :
    PS X (.Assign [.Name x pos'] e pos) (tAsg te (gName i)) := by
  intro pins s σ H D I h
  refine wpAny_Assign_Name (thn (he pins s σ H _ I h) fun v s1 ⟨y, H1, I1, r1, q1⟩ => ?_) hs
  exact store_ok I1 hN hi hx r1 (fun s2 I2 => ⟨_, H1, I2, q1⟩) hf
/-- a, b = x, y with plain local names: stored from the right; the pair itself is not tracked (the opening rows as in PyProof/Rows/TupAssign.lean:23) -/
def tPar (i j : Nat) (ta : TA) : TS := fun D σ H => ta σ H fun vs H1 => ∃ v w, vs = [v, w] ∧ D.nx ((σ.set i (some v)).set j (some w)) H1
/-- name op= e -/
def tAug (i : Nat) (te : TE) (ti : TIp) : TS := fun D σ H => ∃ x, σ[i]? = some (some x) ∧ te σ H fun y H1 => ti x y H1 fun z H2 => D.nx (σ.set i (some z)) H2
/-- o[i] op= e -/
def tAugS (to ti te : TE) (tget : V → V → Hp → VK → Prop) (tip : TIp) (tset : TSet) : TS := fun D σ H => to σ H fun o H1 => ti σ H1 fun i H2 => tget o i H2 fun x H3 => te σ H3 fun y H4 => tip x y H4 fun z H5 => tset o i z H5 fun H6 => D.nx σ H6
/-- o[i], by values -/
def PGet (X : Cx) (t : V → V → Hp → VK → Prop) : Prop :=
  ∀ (pins : List (Addr × Obj)) (s : Shared) (σ : St) (H : Hp) (o i : V) (ov iv : Value) (Q : VK), Inv X pins σ H s → RelV o ov → RelV i iv → t o i H Q →
    wpAny (model X.prog X.w) X.A (getItem ov iv) (EP X pins σ Q) X.xe s
/-- ints -/
def ipI (f : Int → Int → Int) : TIp := fun x y H Q => ∃ i j, x = .int i ∧ y = .int j ∧ Q (.int (f i j)) H
end

/-! ### while -/
section
variable {X : Cx} {pos : Pos}
/-- the invariant W with its measure -/
def tWhile (c : TT) (tb : TS) : TS := fun D σ H => ∃ W : Nat → St → Hp → Prop, (∃ m, W m σ H) ∧ ∀ m σ H, W m σ H →
  c σ H fun b H1 => if b = true then ∃ N : St → Hp → Prop, (∀ σ' H', N σ' H' → ∃ m', m' < m ∧ W m' σ' H') ∧ tb { D with nx := N, ct := N, bk := D.nx } σ H1 else D.nx σ H1
end

/-! ### what a loop or a comprehension walks -/
/-- at turn i: it yields x (the heap may grow), or it stops -/
structure It where
  go : Nat → Hp → Prop
  yld : Nat → Hp → V → Hp → Prop
  stop : Nat → Hp → Prop
/-- the iterator's own objects may turn: they are not the frame's, not pinned, younger than the entry (or a comprehension's own) -/
def FpOk (X : Cx) (pins : List (Addr × Obj)) (H : Hp) (b : Addr) : Prop :=
  H b = none ∧ b ≠ X.env.locals ∧ b ∉ X.fs ∧ (b ∈ X.ex ∨ X.s₀.heap.objs.size ≤ b) ∧ (∀ x c, X.env.cells.lookup x = some c → c ≠ b) ∧ ∀ p ∈ X.pn ++ pins, p.1 ≠ b
theorem Inv.fpOk {X : Cx} {pins : List (Addr × Obj)} {σ : St} {H H' : Hp} {s : Shared} {b : Addr} (I : Inv X pins σ H s) (hb : s.heap.objs.size ≤ b) (hn : H' b = none) : FpOk X pins H' b := by
  refine ⟨hn, Nat.ne_of_gt (Nat.lt_of_lt_of_le I.lt hb), I.nofs hb, .inr (Nat.le_trans I.sz hb), fun x c e z => ?_, fun p hp z => ?_⟩
  · obtain ⟨v, q⟩ := I.cell x c e
    exact absurd (Nat.lt_of_lt_of_le q.lt (by rw [z]; exact hb)) (Nat.lt_irrefl _)
  · exact absurd (Nat.lt_of_lt_of_le (Heap.lt_size (I.pin p hp).1) (by rw [z]; exact hb)) (Nat.lt_irrefl _)
structure Turn (P : Program) (w : World) (K : PySem.W.Frag) (tg : Expr) (J : It) (fp : List Addr) (it : Addr) (tn : Nat → Heap → Prop) : Prop where
  mem : it ∈ fp
  obj : ∀ i h, tn i h → ∀ b ∈ fp, ∃ o, h.get? b = some o ∧ ∀ v, o.data ≠ .cell v
  keep : ∀ i h h', tn i h → (∀ b ∈ fp, ∀ o, h.get? b = some o → h'.get? b = some o) → tn i h'
  item : ∀ (X : Cx), X.prog = P → X.w = w → X.K = K → X.calm = true → ∀ (i : Nat) (pins : List (Addr × Obj)) (s : Shared) (σ : St) (H : Hp) (E : Value → Shared → Prop), Inv X pins σ H s → (∀ b ∈ fp, FpOk X pins H b) → tn i s.heap → J.go i H →
    wpAny (model P w) X.A (pyNext (.ref it)) (fun r s1 => ∃ u, r = some u ∧
      wpAny (model P w) X.A (letOwnedTupleGo tg (.ref it) u) (fun _ s2 => ∃ x H', Inv X pins σ H' s2 ∧ RelV x u ∧ J.yld i H x H' ∧ tn (i + 1) s2.heap ∧ ∀ b ∈ fp, H' b = none) E s1) E s
  done : ∀ (X : Cx), X.prog = P → X.w = w → X.K = K → X.calm = true → ∀ (i : Nat) (pins : List (Addr × Obj)) (s : Shared) (σ : St) (H : Hp) (E : Value → Shared → Prop), Inv X pins σ H s → (∀ b ∈ fp, FpOk X pins H b) → tn i s.heap → J.stop i H →
    wpAny (model P w) X.A (pyNext (.ref it)) (fun r s1 => r = none ∧ Inv X pins σ H s1) E s
  self : ∀ (A : Around) (i : Nat) (s : Shared) (Q : Value → Shared → Prop) (E : Value → Shared → Prop), tn i s.heap → Q (.ref it) s → wpAny (model P w) A (pyIter (.ref it)) Q E s
abbrev TI := St → Hp → (It → Hp → Prop) → Prop
/-- an iterator has come -/
def PIE (X : Cx) (pins : List (Addr × Obj)) (σ : St) (tg : Expr) (R : It → Hp → Prop) (itv : Value) (s2 : Shared) : Prop :=
  ∃ (it : Addr) (fp : List Addr) (tn : Nat → Heap → Prop) (J : It) (H' : Hp), itv = .ref it ∧ Inv X pins σ H' s2 ∧ Turn X.prog X.w X.K tg J fp it tn ∧ tn 0 s2.heap ∧ (∀ b ∈ fp, FpOk X pins H' b) ∧ R J H'
def PI (X : Cx) (tg iter : Expr) (wi : TI) : Prop :=
  ∀ (pins : List (Addr × Obj)) (s : Shared) (σ : St) (H : Hp) (R : It → Hp → Prop), Inv X pins σ H s → wi σ H R →
    wpAny (model X.prog X.w) X.A (eval iter X.env) (fun v s1 => wpAny (model X.prog X.w) X.A (pyIter v) (PIE X pins σ tg R) X.xe s1) X.xe s

/-- the step ahead of the store is nothing for an iterator that keeps no tuple -/
theorem go_of {M : Model} {A : Around} {E : Value → Shared → Prop} {s : Shared} {tg : Expr} {it : Addr} {u : Value} {o : Obj} {n : String} {vs : Array Value} {Q : Unit → Shared → Prop} (ho : s.heap.get? it = some o) (hc : o.cls = .type n) (hd : o.data = .fields vs)
    (hn : ["enumerate", "zip", "dict_itemiterator", "dict_reverseitemiterator", "odict_iterator", "itertools.zip_longest", "itertools.pairwise"].contains n = false) (hQ : Q () s) : wpAny M A (letOwnedTupleGo tg (.ref it) u) Q E s := by
  unfold letOwnedTupleGo
  cases tg <;> first
    | exact wpAny_pure hQ
    | (cases u <;> first
        | exact wpAny_pure hQ
        | (refine wpAny_bind (wpAny_load ho ?_)
           rw [hc, hd]
           show wpAny M A (if (["enumerate", "zip", "dict_itemiterator", "dict_reverseitemiterator", "odict_iterator", "itertools.zip_longest", "itertools.pairwise"].contains n && vs[0]? == some (rawInt _)) = true then _ else _) Q E s
           rw [if_neg (by intro h; rw [hn, Bool.false_and] at h; cases h)]
           exact wpAny_pure hQ))

/-- the list at a, as it stands at each turn (a loop may append to it) -/
def Itl (K : PySem.W.Frag) (a : Addr) : It :=
  ⟨fun i H => ∃ xs x, SqL K H a xs ∧ xs[i]? = some x, fun i H x H' => H' = H ∧ ∀ xs, SqL K H a xs → xs[i]? = some x, fun i H => ∃ xs, SqL K H a xs ∧ xs.length ≤ i⟩
def Itt (K : PySem.W.Frag) (a : Addr) : It :=
  ⟨fun i H => ∃ xs x, SqT K H a xs ∧ xs[i]? = some x, fun i H x H' => H' = H ∧ ∀ xs, SqT K H a xs → xs[i]? = some x, fun i H => ∃ xs, SqT K H a xs ∧ xs.length ≤ i⟩
/-- lo, lo + 1, .. (n of them) -/
def Itr (lo : Int) (n : Nat) : It := ⟨fun i _ => i < n, fun i H x H' => H' = H ∧ x = .int (lo + i), fun i _ => n ≤ i⟩
theorem turn_list {P : Program} {w : World} {K : PySem.W.Frag} {tg : Expr} (a it : Addr) : Turn P w K tg (Itl K a) [it] it (fun i h => h.IsListIter it a i) where
  mem := by simp
  obj := fun i h st b hb => by
    have e : b = it := by simpa using hb
    subst e
    obtain ⟨o, e, c, d⟩ := st
    exact ⟨o, e, fun v z => by rw [d] at z; cases z⟩
  keep := fun i h h' st k => st.at fun o e => k it (by simp) o e
  item := by
    intro X hP hw hK hc i pins s σ H E I hf st hg
    subst hP hw hK
    obtain ⟨xs, x, hq, hx⟩ := hg
    obtain ⟨its, rv, p, hz⟩ := I.list hq
    obtain ⟨u, hu, ru⟩ := rv.get hx
    obtain ⟨f0, f1, f2, f3, f4, f5⟩ := hf it (by simp)
    refine wpAny_pyNext_list_item st p.isList (x := u) (by simpa using hu) fun h' st' sb => ?_
    have I1 : Inv X pins σ H { s with heap := h' } := I.turned (t' := s.toks) (fun b o hb e => (sb.2 b hb).trans e) f0 f1 f3 f4 f5
    obtain ⟨o, e, c, d⟩ := id st'
    exact ⟨u, rfl, go_of (s := { s with heap := h' }) e c d (by decide) ⟨x, H, I1, ru, ⟨rfl, fun ys hy => by rw [I.list_inj hy hq]; exact hx⟩, st', fun b hb => (hf b hb).1⟩⟩
  done := by
    intro X hP hw hK hc i pins s σ H E I hf st hg
    subst hP hw hK
    obtain ⟨xs, hq, hx⟩ := hg
    obtain ⟨its, rv, p, hz⟩ := I.list hq
    obtain ⟨f0, f1, f2, f3, f4, f5⟩ := hf it (by simp)
    have hl := rv.length
    exact wpAny_pyNext_list_end (I.ok.hd hc) st p.isList (by simp; omega) fun h' eb => ⟨rfl, I.turned (t' := s.toks) (fun b o hb e => eb b o hb e) f0 f1 f3 f4 f5⟩
  self := fun _ _ _ _ _ st h => wpAny_pyIter_listiter st h
theorem turn_range {P : Program} {w : World} {K : PySem.W.Frag} {tg : Expr} (it : Addr) (lo : Int) (n : Nat) : Turn P w K tg (Itr lo n) [it] it (fun i h => IsRangeIter h it (lo + (i : Nat) * 1) ((n : Int) - (i : Nat)) 1) where
  mem := by simp
  obj := fun i h st b hb => by
    have e : b = it := by simpa using hb
    subst e
    exact ⟨_, st, fun v z => by
      have z' : Data.fields _ = Data.cell v := z
      cases z'⟩
  keep := fun i h h' st k => k it (by simp) _ st
  item := by
    intro X hP hw hK hc i pins s σ H E I hf st hg
    subst hP hw hK
    obtain ⟨f0, f1, f2, f3, f4, f5⟩ := hf it (by simp)
    have W := Walks.range (prog := X.prog) (w := X.w) (I.ok.hd hc) it lo 1 n
    refine W.item i s _ _ hg st fun v h' tk hv st' kk => ?_
    obtain ⟨t, rfl⟩ := hv
    have I1 : Inv X pins σ H { s with heap := h', toks := tk } := I.turned (fun b o hb e => kk b o (by simpa using hb) e) f0 f1 f3 f4 f5
    refine ⟨_, rfl, go_of (s := { s with heap := h', toks := tk }) (n := "range_iterator") st' rfl rfl (by decide) ⟨.int (lo + i), H, I1, ⟨t, ?_⟩, ⟨rfl, rfl⟩, st', fun b hb => (hf b hb).1⟩⟩
    rw [Int.mul_one]
  done := by
    intro X hP hw hK hc i pins s σ H E I hf st hg
    subst hP hw hK
    obtain ⟨f0, f1, f2, f3, f4, f5⟩ := hf it (by simp)
    exact wpAny_pyNext_range_end (I.ok.hd hc) st (by have : n ≤ i := hg; omega) fun h' eb => ⟨rfl, I.turned (t' := s.toks) (fun b o hb e => eb b o hb e) f0 f1 f3 f4 f5⟩
  self := fun _ _ _ _ _ st h => wpAny_pyIter_rangeiter st h
end L2

namespace L2
open PySem PySem.Spec PyProof.Rows
section
variable {X : Cx} {tg : Expr}
inductive iListI (K : PySem.W.Frag) (R : (It → Hp → Prop)) (x : V) (H1 : Hp) : Prop
  | mk (a : _) (h0_ : x = .ref a) (h1_ : (∃ xs, SqL K H1 a xs) ∧ R (Itl K a) H1) : iListI K R x H1
def iList (K : PySem.W.Frag) (tl : TE) : TI := fun σ H R => tl σ H fun x H1 => iListI K R x H1
inductive iTupI (K : PySem.W.Frag) (R : (It → Hp → Prop)) (x : V) (H1 : Hp) : Prop
  | mk (a : _) (h0_ : x = .ref a) (h1_ : (∃ xs, SqT K H1 a xs) ∧ R (Itt K a) H1) : iTupI K R x H1
def iTup (K : PySem.W.Frag) (tl : TE) : TI := fun σ H R => tl σ H fun x H1 => iTupI K R x H1
theorem pi_list {l : Expr} {tl : TE} (hl : PE X l tl) : PI X tg l (iList X.K tl) := by
  intro pins s σ H R I h
  refine thn (hl pins s σ H _ I h) fun v s1 ⟨x, H1, I1, r1, q1⟩ => ?_
  obtain ⟨a, e, ⟨xs, hq⟩, q⟩ := q1
  subst e
  cases r1
  obtain ⟨its, rv, p, hz⟩ := I1.list hq
  refine wpAny_pyIter_list p.isList ?_
  refine ⟨s1.heap.objs.size, [s1.heap.objs.size], _, _, H1, rfl, I1.kept (t' := s1.toks) fun b o e => Heap.get?_push_of_some _ e, turn_list a _, ⟨_, Heap.get?_push_size _ rfl, rfl, rfl⟩, fun b hb => ?_, q⟩
  have e : b = s1.heap.objs.size := by simpa using hb
  subst e
  exact I1.fpOk (Nat.le_refl _) (I1.hok.fresh (Nat.le_refl _))
/-- a range object just made, walked -/
theorem range_it {pins : List (Addr × Obj)} {σ : St} {H : Hp} {s : Shared} {R : It → Hp → Prop} {E : Value → Shared → Prop} {lo hi : Int} {t u v : Tok} {tk : Nat} (I : Inv X pins σ H s) (h1 : -(2 ^ 62) ≤ lo) (h2 : lo < 2 ^ 62) (h3 : -(2 ^ 62) ≤ hi) (h4 : hi < 2 ^ 62)
    (q : R (Itr lo (hi - lo).toNat) H) : wpAny (model X.prog X.w) X.A (pyIter (.ref s.heap.objs.size)) (PIE X pins σ tg R) E { s with heap := s.heap.push { cls := .type "range", data := .fields #[.int lo t, .int hi u, .int 1 v] }, toks := tk } := by
  refine wpAny_pyIter_range (IsRange.new ..) (small_one h1 h2 h3 h4) ?_
  have I1 : Inv X pins σ H { s with heap := s.heap.push { cls := .type "range", data := .fields #[.int lo t, .int hi u, .int 1 v] }, toks := tk } := I.kept fun b o e => Heap.get?_push_of_some _ e
  refine ⟨(s.heap.push { cls := .type "range", data := .fields #[.int lo t, .int hi u, .int 1 v] }).objs.size, [(s.heap.push { cls := .type "range", data := .fields #[.int lo t, .int hi u, .int 1 v] }).objs.size], _, _, H, rfl,
    I1.kept (t' := tk) fun b o e => Heap.get?_push_of_some _ e, turn_range _ lo (hi - lo).toNat, ?_, fun b hb => ?_, q⟩
  · have e1 : lo + ((0 : Nat) : Int) * 1 = lo := by simp
    have e2 : (((hi - lo).toNat : Nat) : Int) - ((0 : Nat) : Int) = Builtin.Range.rangeSize lo hi 1 := by rw [rangeSize_one]; split <;> omega
    show IsRangeIter _ _ (lo + ((0 : Nat) : Int) * 1) ((((hi - lo).toNat : Nat) : Int) - ((0 : Nat) : Int)) 1
    rw [e1, e2]
    exact Heap.get?_push_size _ rfl
  · have e : b = (s.heap.push { cls := .type "range", data := .fields #[.int lo t, .int hi u, .int 1 v] }).objs.size := by simpa using hb
    subst e
    exact I1.fpOk (Nat.le_refl _) (I1.hok.fresh (Nat.le_refl _))
inductive iRng1I (R : (It → Hp → Prop)) (vs : List V) (H1 : Hp) : Prop
  | mk (j : Int) (h0_ : vs = [.int j]) (h1_ : -(2 ^ 62) ≤ j ∧ j < 2 ^ 62 ∧ R (Itr 0 j.toNat) H1) : iRng1I R vs H1
def iRng1 (ta : TA) : TI := fun σ H R => ta σ H fun vs H1 => iRng1I R vs H1
inductive iRng2I (R : (It → Hp → Prop)) (vs : List V) (H1 : Hp) : Prop
  | mk (i j : Int) (h0_ : vs = [.int i, .int j]) (h1_ : (-(2 ^ 62) ≤ i ∧ i < 2 ^ 62 ∧ -(2 ^ 62) ≤ j ∧ j < 2 ^ 62)) (h2_ : R (Itr i (j - i).toNat) H1) : iRng2I R vs H1
def iRng2 (ta : TA) : TI := fun σ H R => ta σ H fun vs H1 => iRng2I R vs H1
theorem pi_range1 {a : Expr} {ta : TA} {p pos : Pos} (hg : Gl X "range") (hm : X.mg "range" = none) (ha : PA X [a] ta) (hs : starEach [a] X.env = [(false, eval a X.env)] := by rfl) : PI X tg (.Call (.Name "range" p) [a] [] pos) (iRng1 ta) := by
  intro pins s σ H R I h
  refine Call_ (ld_blt I hg hm boot_range (PyProof.Rows.callWith_type1 (thn (ha pos pins s σ H _ I h) fun us s1 ⟨vs, H1, I1, r1, q1⟩ => ?_) hs rfl))
  obtain ⟨j, e, q1, q2, q⟩ := q1
  subst e
  cases r1 with
  | cons r rr =>
    cases rr
    obtain ⟨t, rfl⟩ := r
    exact call_range_1 (range_it I1 (by omega) (by omega) q1 q2 (by simpa using q))
/-! ### for -/
/-- W: the invariant by the turn and a measure; N: what the body is to reach -/
def tFor (wi : TI) (g : TG) (tb : TS) : TS := fun D σ H => wi σ H fun J H1 => ∃ W : Nat → Nat → St → Hp → Prop, (∃ m, W 0 m σ H1) ∧ ∀ i m σ H, W i m σ H →
  (J.stop i H ∧ D.nx σ H) ∨ (J.go i H ∧ ∃ N : St → Hp → Prop, (∀ σ' H', N σ' H' → ∃ m', m' < m ∧ W (i + 1) m' σ' H') ∧ ∀ x H', J.yld i H x H' → g x σ H' fun σ2 H2 => tb { D with nx := N, ct := N, bk := D.nx } σ2 H2)
/-- the records at fp as they stand -/
def pinsAt (fp : List Addr) (h : Heap) : List (Addr × Obj) := fp.filterMap fun b => (h.get? b).map fun o => (b, o)
theorem mem_pinsAt {fp : List Addr} {h : Heap} {b : Addr} {o : Obj} (hb : b ∈ fp) (e : h.get? b = some o) : (b, o) ∈ pinsAt fp h := List.mem_filterMap.mpr ⟨b, hb, by rw [e]; rfl⟩
theorem of_pinsAt {fp : List Addr} {h : Heap} {p : Addr × Obj} (hp : p ∈ pinsAt fp h) : p.1 ∈ fp ∧ h.get? p.1 = some p.2 := by
  obtain ⟨b, hb, e⟩ := List.mem_filterMap.mp hp
  cases q : h.get? b with
  | none => rw [q] at e; cases e
  | some o =>
    rw [q] at e
    have e' : (b, o) = p := Option.some.inj e
    subst e'
    exact ⟨hb, q⟩
theorem Inv.pinned {pins : List (Addr × Obj)} {σ : St} {H : Hp} {s : Shared} {fp : List Addr} (I : Inv X pins σ H s) (hf : ∀ b ∈ fp, FpOk X pins H b) (ho : ∀ b ∈ fp, ∃ o, s.heap.get? b = some o ∧ ∀ v, o.data ≠ .cell v) : Inv X (pins ++ pinsAt fp s.heap) σ H s :=
  I.pins_of fun p hp => (List.mem_append.mp hp).elim (fun z => I.pin p (List.mem_append_right _ z)) fun z => by
    obtain ⟨hb, e⟩ := of_pinsAt z
    obtain ⟨f0, f1, f2, _⟩ := hf p.1 hb
    obtain ⟨o, e', d⟩ := ho p.1 hb
    rw [e] at e'; cases e'
    exact ⟨e, f0, f1, f2, d⟩
theorem Inv.unpinned {pins pl : List (Addr × Obj)} {σ : St} {H : Hp} {s : Shared} (I : Inv X (pins ++ pl) σ H s) : Inv X pins σ H s := I.pins_of fun p hp => I.pin p (List.mem_append_right _ (List.mem_append_left _ hp))
theorem ps_for {iter : Expr} {body : List Stmt} {wi : TI} {g : TG} {tb : TS} {pos : Pos} (hp : PassesOwn (model X.prog X.w) X.A X.env X.xe) (hc : X.calm = true) (hi : PI X tg iter wi) (hg : PG X tg g) (hb : PSs X body tb)
    (hs : ∀ x, foldedSetIterable iter X.env x = pure x := by intro _; rfl) : PS X (.For tg iter body [] pos) (tFor wi g tb) := by
  intro pins s σ H D I h
  refine wpAny_For (thn (hi pins s σ H _ I h) fun v s1 h1 => thn h1 fun itv s2 h2 => ?_) hs
  obtain ⟨it, fp, tn, J, H2, e, I2, T, st2, f2, W, ⟨m0, w0⟩, turn⟩ := h2
  subst e
  -- what stays true of the iterator's objects through the loop
  have stat : ∀ {H' : Hp}, (∀ b ∈ fp, H' b = none) → ∀ b ∈ fp, FpOk X pins H' b := fun hn b hb => ⟨hn b hb, (f2 b hb).2⟩
  refine codeAny_forLoop_any (fun n s' => ∃ i σ' H', Inv X pins σ' H' s' ∧ tn i s'.heap ∧ (∀ b ∈ fp, H' b = none) ∧ W i n σ' H') ?_ m0 ⟨0, σ, H2, I2, st2, fun b hb => (f2 b hb).1, w0⟩
  rintro n s3 ⟨i, σ3, H3, I3, st3, fr3, w3⟩
  rcases turn i n σ3 H3 w3 with ⟨stop, qn⟩ | ⟨go, N, hN, step⟩
  · refine wpAny_passesOwn hp (thn (T.done X rfl rfl rfl hc i pins s3 σ3 H3 X.xe I3 (stat fr3) st3 stop) fun r s4 ⟨hr, I4⟩ => ?_)
    subst hr
    exact wpAny_execs_nil ⟨σ3, H3, I4, qn⟩
  · refine wpAny_passesOwn hp (thn (T.item X rfl rfl rfl hc i pins s3 σ3 H3 X.xe I3 (stat fr3) st3 go) fun r s4 ⟨u, hr, h4⟩ => ?_)
    subst hr
    refine wpAny_passesOwn hp (thn h4 fun _ s5 ⟨x, H5, I5, r5, y5, st5, fr5⟩ => ?_)
    have I5' := I5.pinned (stat fr5) (T.obj _ _ st5)
    refine wpAny_passesOwn hp (thn (hg _ s5 σ3 H5 x u _ I5' r5 (step x H5 y5)) fun _ s6 ⟨σ6, H6, I6, q6⟩ => ?_)
    refine wpAny_passesOwn hp (thn (hb _ s6 σ6 H6 _ I6 q6) fun f s7 q7 => ?_)
    have again : ∀ {σ7 : St} {H7 : Hp}, Inv X (pins ++ pinsAt fp s5.heap) σ7 H7 s7 → N σ7 H7 → ∃ m, m < n ∧ ∃ i σ' H', Inv X pins σ' H' s7 ∧ tn i s7.heap ∧ (∀ b ∈ fp, H' b = none) ∧ W i m σ' H' := fun {σ7 H7} I7 n7 => by
      obtain ⟨m', hm, w7⟩ := hN σ7 H7 n7
      refine ⟨m', hm, i + 1, σ7, H7, I7.unpinned, T.keep _ _ _ st5 fun b hb o e => (I7.pin (b, o) (List.mem_append_right _ (List.mem_append_right _ (mem_pinsAt hb e)))).1, fun b hb => ?_, w7⟩
      obtain ⟨o, e, d⟩ := T.obj _ _ st5 b hb
      exact (I7.pin (b, o) (List.mem_append_right _ (List.mem_append_right _ (mem_pinsAt hb e)))).2.1
    cases f with
    | next => obtain ⟨σ7, H7, I7, n7⟩ := q7; exact again I7 n7
    | cont => obtain ⟨σ7, H7, I7, n7⟩ := q7; exact again I7 n7
    | brk => obtain ⟨σ7, H7, I7, q7⟩ := q7; exact ⟨σ7, H7, I7.unpinned, q7⟩
    | ret v => obtain ⟨x7, σ7, H7, I7, r7, q7⟩ := q7; exact ⟨x7, σ7, H7, I7.unpinned, r7, q7⟩
end

/-! ### the forms one uses -/
/-- over a list that the body leaves as it is -/
theorem for_list {K : PySem.W.Frag} {a : Addr} {xs : List V} {g : TG} {tb : TS} {D : Ends} {σ : St} {H : Hp} (Pv : Nat → St → Hp → Prop) (h0 : Pv 0 σ H) (hl : ∀ i σ H, i ≤ xs.length → Pv i σ H → SqL K H a xs)
    (hs : ∀ i x σ H, xs[i]? = some x → Pv i σ H → g x σ H fun σ2 H2 => tb { D with nx := Pv (i + 1), ct := Pv (i + 1), bk := D.nx } σ2 H2) (hd : ∀ σ H, Pv xs.length σ H → D.nx σ H) :
    ∃ W : Nat → Nat → St → Hp → Prop, (∃ m, W 0 m σ H) ∧ ∀ i m σ H, W i m σ H →
      ((Itl K a).stop i H ∧ D.nx σ H) ∨ ((Itl K a).go i H ∧ ∃ N : St → Hp → Prop, (∀ σ' H', N σ' H' → ∃ m', m' < m ∧ W (i + 1) m' σ' H') ∧ ∀ x H', (Itl K a).yld i H x H' → g x σ H' fun σ2 H2 => tb { D with nx := N, ct := N, bk := D.nx } σ2 H2) := by
  refine ⟨fun i m σ H => m = xs.length - i ∧ i ≤ xs.length ∧ Pv i σ H, ⟨xs.length, by simp, Nat.zero_le _, h0⟩, ?_⟩
  rintro i m σ H ⟨rfl, hi, p⟩
  have q := hl i σ H hi p
  by_cases hlt : i < xs.length
  · refine .inr ⟨⟨xs, xs[i], q, by simp [hlt]⟩, Pv (i + 1), fun σ' H' p' => ⟨xs.length - (i + 1), by omega, rfl, hlt, p'⟩, fun x H' y => ?_⟩
    obtain ⟨e, y⟩ := y
    subst e
    exact hs i x σ _ (y xs q) p
  · have e : i = xs.length := by omega
    subst e
    exact .inl ⟨⟨xs, q, Nat.le_refl _⟩, hd σ H p⟩
theorem for_range {lo : Int} {n : Nat} {g : TG} {tb : TS} {D : Ends} {σ : St} {H : Hp} (Pv : Nat → St → Hp → Prop) (h0 : Pv 0 σ H)
    (hs : ∀ i σ H, i < n → Pv i σ H → g (.int (lo + i)) σ H fun σ2 H2 => tb { D with nx := Pv (i + 1), ct := Pv (i + 1), bk := D.nx } σ2 H2) (hd : ∀ σ H, Pv n σ H → D.nx σ H) :
    ∃ W : Nat → Nat → St → Hp → Prop, (∃ m, W 0 m σ H) ∧ ∀ i m σ H, W i m σ H →
      ((Itr lo n).stop i H ∧ D.nx σ H) ∨ ((Itr lo n).go i H ∧ ∃ N : St → Hp → Prop, (∀ σ' H', N σ' H' → ∃ m', m' < m ∧ W (i + 1) m' σ' H') ∧ ∀ x H', (Itr lo n).yld i H x H' → g x σ H' fun σ2 H2 => tb { D with nx := N, ct := N, bk := D.nx } σ2 H2) := by
  refine ⟨fun i m σ H => m = n - i ∧ i ≤ n ∧ Pv i σ H, ⟨n, by simp, Nat.zero_le _, h0⟩, ?_⟩
  rintro i m σ H ⟨rfl, hi, p⟩
  by_cases hlt : i < n
  · refine .inr ⟨hlt, Pv (i + 1), fun σ' H' p' => ⟨n - (i + 1), by omega, rfl, hlt, p'⟩, fun x H' y => ?_⟩
    obtain ⟨e, y⟩ := y
    subst e y
    exact hs i σ _ hlt p
  · have e : i = n := by omega
    subst e
    exact .inl ⟨Nat.le_refl _, hd σ H p⟩
end L2

namespace L2
open PySem PySem.Spec PyProof.Rows

abbrev R2 := V → V → Hp → VK → Prop
/-- a two-place operation on values: f is binaryOp op, inplaceOp op or compareOp op -/
def OpR (X : Cx) (f : Value → Value → Sem Value) (r : R2) : Prop :=
  ∀ (pins : List (Addr × Obj)) (s : Shared) (σ : St) (H : Hp) (x y : V) (v u : Value) (Q : VK), Inv X pins σ H s → RelV x v → RelV y u → r x y H Q →
    wpAny (model X.prog X.w) X.A (f v u) (EP X pins σ Q) X.xe s
/-- a one-place operation -/
def UnR (X : Cx) (f : Value → Sem Value) (r : V → Hp → VK → Prop) : Prop :=
  ∀ (pins : List (Addr × Obj)) (s : Shared) (σ : St) (H : Hp) (x : V) (v : Value) (Q : VK), Inv X pins σ H s → RelV x v → r x H Q →
    wpAny (model X.prog X.w) X.A (f v) (EP X pins σ Q) X.xe s
/-- a call of a value that is known (a builtin, a type) with values -/
def CallR (X : Cx) (f : Value) (r : List V → Hp → VK → Prop) : Prop :=
  ∀ (pins : List (Addr × Obj)) (s : Shared) (σ : St) (H : Hp) (xs : List V) (us : List Value) (Q : VK), Inv X pins σ H s → Vals xs us → r xs H Q →
    wpAny (model X.prog X.w) X.A (call f us) (EP X pins σ Q) X.xe s
/-- a value's truth -/
def TruR (X : Cx) (r : V → Hp → (Bool → Hp → Prop) → Prop) : Prop :=
  ∀ (pins : List (Addr × Obj)) (s : Shared) (σ : St) (H : Hp) (x : V) (v : Value) (Q : Bool → Hp → Prop), Inv X pins σ H s → RelV x v → r x H Q →
    wpAny (model X.prog X.w) X.A (truthy v) (TP X pins σ Q) X.xe s

def tOp (r : R2) (ta tb : TE) : TE := fun σ H Q => ta σ H fun x H1 => tb σ H1 fun y H2 => r x y H2 Q
def tUn (r : V → Hp → VK → Prop) (ta : TE) : TE := fun σ H Q => ta σ H fun x H1 => r x H1 Q
/-- ints in, under C, and a value out -/
inductive rII (C : Int → Int → Prop) (g : Int → Int → V) (x : V) (y : V) (H : Hp) (Q : VK) : Prop
  | mk (i : _) (j : _) (h0_ : x = .int i) (h1_ : y = .int j) (h2_ : C i j ∧ Q (g i j) H) : rII C g x y H Q
def rI (C : Int → Int → Prop) (g : Int → Int → V) : R2 := fun x y H Q => rII C g x y H Q
inductive rI0I (g : Int → Int → V) (x : V) (y : V) (H : Hp) (Q : VK) : Prop
  | mk (i : _) (j : _) (h0_ : x = .int i) (h1_ : y = .int j) (h2_ : Q (g i j) H) : rI0I g x y H Q
def rI0 (g : Int → Int → V) : R2 := fun x y H Q => rI0I g x y H Q
def rU (g : Int → V) : V → Hp → VK → Prop := fun x H Q => ∃ i, x = .int i ∧ Q (g i) H

section
variable {X : Cx} {a b c : Expr} {ta tb tc : TE} {pos : Pos}

theorem binT (ha : PE X a ta) (hb : PE X b tb) {pins : List (Addr × Obj)} {s : Shared} {σ : St} {H : Hp} {R : V → V → Hp → Prop} (I : Inv X pins σ H s)
    (h : ta σ H fun x H1 => tb σ H1 fun y H2 => R x y H2) {Q : Value → Shared → Prop} {f : Value → Value → Sem Value}
    (hf : ∀ v u s2 x y H2, Inv X pins σ H2 s2 → RelV x v → RelV y u → R x y H2 → wpAny (model X.prog X.w) X.A (f v u) Q X.xe s2) :
    wpAny (model X.prog X.w) X.A (eval a X.env) (fun v s₁ => wpAny (model X.prog X.w) X.A (eval b X.env) (fun u s₂ => wpAny (model X.prog X.w) X.A (f v u) Q X.xe s₂) X.xe s₁) X.xe s := by
  refine thn (ha pins s σ H _ I h) fun v s1 ⟨x, H1, I1, r1, q1⟩ => ?_
  refine thn (hb pins s1 σ H1 _ I1 q1) fun u s2 ⟨y, H2, I2, r2, q2⟩ => ?_
  exact hf v u s2 x y H2 I2 r1 r2 q2

theorem pe_op {op : Operator} {r : R2} (ho : OpR X (binaryOp op) r) (ha : PE X a ta) (hb : PE X b tb) : PE X (.BinOp a op b pos) (tOp r ta tb) := by
  intro pins s σ H Q I h
  exact wpAny_BinOp (binT ha hb I h fun v u s2 x y H2 I2 rx ry q => ho pins s2 σ H2 x y v u Q I2 rx ry q)
/-! ### ints -/
theorem opI {f : Value → Value → Sem Value} {C : Int → Int → Prop} {g : Int → Int → Int}
    (rule : ∀ (i j : Int) (t u : Tok) (s : Shared) (Q : Value → Shared → Prop) (E : Value → Shared → Prop), C i j → Q (.int (g i j) s.toks) { s with toks := s.toks + 1 } → wpAny (model X.prog X.w) X.A (f (.int i t) (.int j u)) Q E s) :
    OpR X f (rI C fun i j => .int (g i j)) := by
  intro pins s σ H x y v u Q I rx ry h
  obtain ⟨i, j, rfl, rfl, hc, q⟩ := h
  obtain ⟨t, rfl⟩ := rx
  obtain ⟨t', rfl⟩ := ry
  exact rule i j t t' s _ _ hc ⟨.int (g i j), H, I.tok _, ⟨_, rfl⟩, q⟩
theorem opI0 {f : Value → Value → Sem Value} {g : Int → Int → Int}
    (rule : ∀ (i j : Int) (t u : Tok) (s : Shared) (Q : Value → Shared → Prop) (E : Value → Shared → Prop), Q (.int (g i j) s.toks) { s with toks := s.toks + 1 } → wpAny (model X.prog X.w) X.A (f (.int i t) (.int j u)) Q E s) :
    OpR X f (rI0 fun i j => .int (g i j)) := by
  intro pins s σ H x y v u Q I rx ry h
  obtain ⟨i, j, rfl, rfl, q⟩ := h
  obtain ⟨t, rfl⟩ := rx
  obtain ⟨t', rfl⟩ := ry
  exact rule i j t t' s _ _ ⟨.int (g i j), H, I.tok _, ⟨_, rfl⟩, q⟩
theorem opB0 {f : Value → Value → Sem Value} {g : Int → Int → Bool}
    (rule : ∀ (i j : Int) (t u : Tok) (s : Shared) (Q : Value → Shared → Prop) (E : Value → Shared → Prop), Q (.bool (g i j)) s → wpAny (model X.prog X.w) X.A (f (.int i t) (.int j u)) Q E s) :
    OpR X f (rI0 fun i j => .bl (g i j)) := by
  intro pins s σ H x y v u Q I rx ry h
  obtain ⟨i, j, rfl, rfl, q⟩ := h
  obtain ⟨t, rfl⟩ := rx
  obtain ⟨t', rfl⟩ := ry
  exact rule i j t t' s _ _ ⟨.bl (g i j), H, I, rfl, q⟩

def CDiv (i j : Int) : Prop := 0 < j ∧ j < 1073741824
def CDivN (i j : Int) : Prop := j ≠ 0 ∧ j.natAbs < 1073741824
def CPow (i j : Int) : Prop := 0 ≤ j ∧ j ≤ 1000000 ∧ i.natAbs < 2 ^ 64
def CMul (i j : Int) : Prop := (-(2 ^ 64) < i ∧ i < 2 ^ 64) ∨ (-(2 ^ 64) < j ∧ j < 2 ^ 64)
theorem op_add : OpR X (binaryOp .Add) (rI0 fun i j => .int (i + j)) := opI0 fun _ _ _ _ _ _ _ q => add_int q
theorem op_sub : OpR X (binaryOp .Sub) (rI0 fun i j => .int (i - j)) := opI0 fun _ _ _ _ _ _ _ q => sub_int q
/-- % by a positive divisor of any size -/
theorem op_mod : OpR X (binaryOp .Mod) (rI (fun _ j => 0 < j) fun i j => .int (i % j)) := opI fun i j _ _ _ _ _ hc q => by
  have h1 : (0 : Int) < j := hc
  exact mod_int' (by omega) (by rw [Int.fmod_eq_emod_of_nonneg i (by omega)]; exact q)
/-! ### bools among ints: n += (a < b) -/
end

/-! ### comparisons -/
/-- the scalars that == tells apart as data does -/
def scal : V → V → Bool
  | .non, .non => true | .non, .int _ => true | .int _, .non => true | .non, .bl _ => true | .bl _, .non => true | .non, .str _ => true | .str _, .non => true
  | .int _, .int _ => true | .bl _, .bl _ => true | .str _, .str _ => true | .byt _, .byt _ => true
  | .int _, .str _ => true | .str _, .int _ => true | .bl _, .str _ => true | .str _, .bl _ => true
  | _, _ => false
def rEq : R2 := fun x y H Q => scal x y = true ∧ Q (.bl (decide (x = y))) H
def rNe : R2 := fun x y H Q => scal x y = true ∧ Q (.bl (!decide (x = y))) H

theorem dec_int {i j : Int} : decide (V.int i = V.int j) = (i == j) := by
  rw [Bool.eq_iff_iff]
  simp
theorem dec_bl {i j : Bool} : decide (V.bl i = V.bl j) = (i == j) := by
  rw [Bool.eq_iff_iff]
  simp
theorem dec_str {i j : Str} : decide (V.str i = V.str j) = (i == j) := by
  rw [Bool.eq_iff_iff]
  simp
theorem dec_byt {i j : Array UInt8} : decide (V.byt i = V.byt j) = (i.toList == j.toList) := by
  rw [Bool.eq_iff_iff]
  cases i
  cases j
  simp

section
variable {X : Cx} {a b c : Expr} {ta tb tc : TE} {pos : Pos}
theorem fin_bl {pins : List (Addr × Obj)} {σ : St} {H : Hp} {s : Shared} {Q : VK} {k k' : Bool} (I : Inv X pins σ H s) (q : Q (.bl k) H) (e : k = k') : EP X pins σ Q (.bool k') s := by
  subst e
  exact ⟨.bl k, H, I, rfl, q⟩
theorem op_eq : OpR X (compareOp .Eq) rEq := by
  intro pins s σ H x y v u Q I rx ry h
  obtain ⟨hs, q⟩ := h
  cases x with
  | non =>
    cases rx
    cases y with
    | non => cases ry; exact PySem.EqNone.eq_none_none (fin_bl I q (by simp))
    | bl j => cases ry; exact PySem.EqNone.eq_none_bool (fin_bl I q (by simp))
    | int j => obtain ⟨t', rfl⟩ := ry; exact PySem.EqNone.eq_none_int (fin_bl I q (by simp))
    | str j => obtain ⟨t', rfl⟩ := ry; exact PySem.EqNone.eq_none_str (fin_bl I q (by simp))
    | _ => exact absurd (show false = true from hs) Bool.false_ne_true
  | bl i =>
    cases rx
    cases y with
    | non => cases ry; exact PySem.EqNone.eq_bool_none (fin_bl I q (by simp))
    | bl j => cases ry; exact eq_bool (fin_bl I q dec_bl)
    | str j => obtain ⟨t', rfl⟩ := ry; exact PySem.EqMixed.eq_bool_str (fin_bl I q (by simp))
    | _ => exact absurd (show false = true from hs) Bool.false_ne_true
  | int i =>
    obtain ⟨t, rfl⟩ := rx
    cases y with
    | non => cases ry; exact PySem.EqNone.eq_int_none (fin_bl I q (by simp))
    | int j => obtain ⟨t', rfl⟩ := ry; exact eq_int (fin_bl I q dec_int)
    | str j => obtain ⟨t', rfl⟩ := ry; exact PySem.EqMixed.eq_int_str (fin_bl I q (by simp))
    | _ => exact absurd (show false = true from hs) Bool.false_ne_true
  | str i =>
    obtain ⟨t, rfl⟩ := rx
    cases y with
    | non => cases ry; exact PySem.EqNone.eq_str_none (fin_bl I q (by simp))
    | bl j => cases ry; exact PySem.EqMixed.eq_str_bool (fin_bl I q (by simp))
    | int j => obtain ⟨t', rfl⟩ := ry; exact PySem.EqMixed.eq_str_int (fin_bl I q (by simp))
    | str j => obtain ⟨t', rfl⟩ := ry; exact eq_str (fin_bl I q dec_str)
    | _ => exact absurd (show false = true from hs) Bool.false_ne_true
  | byt i =>
    obtain ⟨t, rfl⟩ := rx
    cases y with
    | byt j => obtain ⟨t', rfl⟩ := ry; exact PySem.W.eq_bytes (fin_bl I q dec_byt)
    | _ => exact absurd (show false = true from hs) Bool.false_ne_true
  | _ => cases y <;> exact absurd (show false = true from hs) Bool.false_ne_true
theorem op_lt : OpR X (compareOp .Lt) (rI0 fun i j => .bl (decide (i < j))) := opB0 fun _ _ _ _ _ _ _ q => lt_int q
theorem op_le : OpR X (compareOp .LtE) (rI0 fun i j => .bl (decide (i ≤ j))) := opB0 fun _ _ _ _ _ _ _ q => le_int q
theorem op_ge : OpR X (compareOp .GtE) (rI0 fun i j => .bl (decide (j ≤ i))) := opB0 fun _ _ _ _ _ _ _ q => ge_int q
/-- the one string within the other -/
theorem op_in_str : OpR X (compareOp .In) (fun x y H Q => ∃ i j, x = .str i ∧ y = .str j ∧ Q (.bl (!(Builtin.Str.occurrences j i 0 j.length 1).isEmpty)) H) := by
  intro pins s σ H x y v u Q I rx ry h
  obtain ⟨i, j, rfl, rfl, q⟩ := h
  obtain ⟨t, rfl⟩ := rx
  obtain ⟨t', rfl⟩ := ry
  exact in_str (fin_bl I q rfl)

/-- is None, is not None: the right side a value none -/
theorem op_isN : OpR X (compareOp .Is) (fun x y H Q => y = .non ∧ Q (.bl (decide (x = .non))) H) := by
  intro pins s σ H x y v u Q I rx ry h
  obtain ⟨rfl, q⟩ := h
  cases ry
  refine is_none_gen (fin_bl I q ?_)
  cases x <;> first
    | (cases rx; rfl)
    | (obtain ⟨t, rfl⟩ := rx; rfl)
theorem op_notN : OpR X (compareOp .IsNot) (fun x y H Q => y = .non ∧ Q (.bl (!decide (x = .non))) H) := by
  intro pins s σ H x y v u Q I rx ry h
  obtain ⟨rfl, q⟩ := h
  cases ry
  refine isnot_none_gen (fin_bl I q ?_)
  cases x <;> first
    | (cases rx; rfl)
    | (obtain ⟨t, rfl⟩ := rx; rfl)

/-- is, is not of two objects that are tracked lists or instances -/
def isObj : HO → Bool
  | .lst _ => true
  | .ins _ _ _ => true
  | _ => false
/-- two rules for one operation: by cases -/
theorem OpR.or {f : Value → Value → Sem Value} {r r' : R2} (h : OpR X f r) (h' : OpR X f r') : OpR X f (fun x y H Q => r x y H Q ∨ r' x y H Q) := by
  intro pins s σ H x y v u Q I rx ry q
  rcases q with q | q
  · exact h pins s σ H x y v u Q I rx ry q
  · exact h' pins s σ H x y v u Q I rx ry q

theorem nomark (b : Expr) {op : CmpOp} (h : op ≠ .In := by decide) (h2 : op ≠ .NotIn := by decide) : behindInMarks op b = false := by
  have e1 : (op == CmpOp.In) = false := by cases op <;> first | rfl | exact absurd rfl h
  have e2 : (op == CmpOp.NotIn) = false := by cases op <;> first | rfl | exact absurd rfl h2
  cases b <;> simp [behindInMarks, e1, e2]
/-- a comparison as a value; hm: nomark b, or (for in, not in) by with_unfolding_all rfl -/
theorem pe_cmpR {op : CmpOp} {r : R2} (ho : OpR X (compareOp op) r) (ha : PE X a ta) (hb : PE X b tb) (hm : behindInMarks op b = false) : PE X (.Compare a [op] [b] pos) (tOp r ta tb) := by
  intro pins s σ H Q I h
  exact wpAny_Compare1 (binT ha hb I h fun v u s2 x y H2 I2 rx ry q => ho pins s2 σ H2 x y v u Q I2 rx ry q) hm
/-- a reading of a value as a test -/
inductive tTestI (Q : (Bool → Hp → Prop)) (x : V) (H' : Hp) : Prop
  | mk (k : _) (h0_ : x = .bl k) (h1_ : Q k H') : tTestI Q x H'
def tTest (t : TE) : TT := fun σ H Q => t σ H fun x H' => tTestI Q x H'
theorem pt_cmpR {op : CmpOp} {r : R2} (ho : OpR X (compareOp op) r) (ha : PE X a ta) (hb : PE X b tb) (hm : behindInMarks op b = false) : PT X (.Compare a [op] [b] pos) (tTest (tOp r ta tb)) := by
  intro pins s σ H Q I h
  refine wpAny_isTrue_Compare1 (thn (ha pins s σ H _ I h) fun v s1 ⟨x, H1, I1, r1, q1⟩ => thn (hb pins s1 σ H1 _ I1 q1) fun u s2 ⟨y, H2, I2, r2, q2⟩ =>
    thn (ho pins s2 σ H2 x y v u _ I2 r1 r2 q2) fun c s3 ⟨z, H3, I3, r3, k, e, q3⟩ => ?_) hm
  subst e
  cases r3
  exact wpAny_truthy_bool ⟨H3, I3, q3⟩
/-- a op1 b op2 c -/
def tChain (r r' : R2) (ta tb tc : TE) : TE := fun σ H Q => ta σ H fun x H1 => tb σ H1 fun y H2 => r x y H2 fun z H3 => ∃ k, z = .bl k ∧
  (if k = true then tc σ H3 fun w' H4 => r' y w' H4 Q else Q (.bl false) H3)
theorem pe_chain {op op' : CmpOp} {r r' : R2} (ho : OpR X (compareOp op) r) (ho' : OpR X (compareOp op') r') (ha : PE X a ta) (hb : PE X b tb) (hc : PE X c tc)
    (hm : lastMarks [op, op'] [b, c] = false := by with_unfolding_all rfl) : PE X (.Compare a [op, op'] [b, c] pos) (tChain r r' ta tb tc) := by
  intro pins s σ H Q I h
  refine Compare_chain (thn (ha pins s σ H _ I h) fun v s1 ⟨x, H1, I1, r1, q1⟩ => chain_link (thn (hb pins s1 σ H1 _ I1 q1) fun u s2 ⟨y, H2, I2, r2, q2⟩ =>
    thn (ho pins s2 σ H2 x y v u _ I2 r1 r2 q2) fun d s3 ⟨z, H3, I3, r3, k, e, q3⟩ => ?_)) hm
  subst e
  cases r3
  refine wpAny_truthy_bool ?_
  cases k with
  | false => exact ite_ff ⟨.bl false, H3, I3, rfl, q3⟩
  | true => exact ite_tt (chain_last (thn (hc pins s3 σ H3 _ I3 q3) fun w' s4 ⟨z', H4, I4, r4, q4⟩ => ho' pins s4 σ H4 y z' u w' Q I4 r2 r4 q4))
theorem pt_chain {op op' : CmpOp} {r r' : R2} (ho : OpR X (compareOp op) r) (ho' : OpR X (compareOp op') r') (ha : PE X a ta) (hb : PE X b tb) (hc : PE X c tc)
    (hm : lastMarks [op, op'] [b, c] = false := by with_unfolding_all rfl) : PT X (.Compare a [op, op'] [b, c] pos) (tTest (tChain r r' ta tb tc)) := by
  intro pins s σ H Q I h
  refine isTrue_chain (thn (ha pins s σ H _ I h) fun v s1 ⟨x, H1, I1, r1, q1⟩ => test_link (thn (hb pins s1 σ H1 _ I1 q1) fun u s2 ⟨y, H2, I2, r2, q2⟩ =>
    thn (ho pins s2 σ H2 x y v u _ I2 r1 r2 q2) fun d s3 ⟨z, H3, I3, r3, k, e, q3⟩ => ?_)) hm
  subst e
  cases r3
  refine wpAny_truthy_bool ?_
  cases k with
  | false =>
    obtain ⟨k', e', q'⟩ := q3
    cases e'
    exact ite_ff ⟨H3, I3, q'⟩
  | true =>
    refine ite_tt (test_last (thn (hc pins s3 σ H3 _ I3 q3) fun w' s4 ⟨z', H4, I4, r4, q4⟩ => thn (ho' pins s4 σ H4 y z' u w' _ I4 r2 r4 q4) fun d' s5 ⟨z2, H5, I5, r5, k2, e2, q5⟩ => ?_))
    subst e2
    cases r5
    exact wpAny_truthy_bool ⟨H5, I5, q5⟩

/-! ### truth -/
/-- a value's truth by the abstract heap -/
def TruV (K : PySem.W.Frag) (x : V) (H : Hp) (k : Bool) : Prop :=
  match x with
  | .non => k = false
  | .bl b => k = b
  | .int i => k = (i != 0)
  | .str y => y.length ≤ sizeLine ∧ k = ((y.length : Int) != 0)
  | .byt y => y.size ≤ sizeLine ∧ k = ((y.size : Int) != 0)
  | .ref p => (∃ xs, SqL K H p xs ∧ k = !xs.isEmpty) ∨ (∃ xs, SqT K H p xs ∧ k = !xs.isEmpty) ∨ ∃ kvs, H p = some (.dK kvs) ∧ k = !kvs.isEmpty
  | _ => False
theorem line63 : (sizeLine : Nat) < 2 ^ 63 := by rw [sizeLine_eq]; decide
/-! ### strs and bytes -/
theorem op_add_str : OpR X (binaryOp .Add) (fun x y H Q => ∃ i j, x = .str i ∧ y = .str j ∧ i.length + j.length ≤ sizeLine ∧ Q (.str (i ++ j)) H) := by
  intro pins s σ H x y v u Q I rx ry h
  obtain ⟨i, j, rfl, rfl, hz, q⟩ := h
  obtain ⟨t, rfl⟩ := rx
  obtain ⟨t', rfl⟩ := ry
  exact add_str (fun t' tk => ⟨.str (i ++ j), H, I.tok _, ⟨_, rfl⟩, q⟩) hz
def PlainIxT (b : Expr) : Prop := ∀ o i, subscripted b false o i = operate [o, i] (getItem o i)
/-! ### scalar builtins, by CallR -/
theorem vals1 {x : V} {us : List Value} (r : Vals [x] us) : ∃ u, us = [u] ∧ RelV x u := by
  cases r with
  | cons r1 r2 => cases r2; exact ⟨_, rfl, r1⟩
theorem vals2 {x y : V} {us : List Value} (r : Vals [x, y] us) : ∃ u w', us = [u, w'] ∧ RelV x u ∧ RelV y w' := by
  cases r with
  | cons r1 r2 =>
    cases r2 with
    | cons r3 r4 => cases r4; exact ⟨_, _, rfl, r1, r3⟩
theorem call_min2 (hc : X.calm = true) : CallR X (.builtin "min") (fun xs H Q => ∃ i j, xs = [.int i, .int j] ∧ Q (.int (if j < i then j else i)) H) := by
  intro pins s σ H xs us Q I r h
  obtain ⟨i, j, rfl, q⟩ := h
  obtain ⟨u, w', rfl, ⟨t, rfl⟩, ⟨t', rfl⟩⟩ := vals2 r
  refine min_two_ints (I.ok.hd hc) fun h' tk k => ⟨_, H, I.kept k, ?_, q⟩
  by_cases hj : j < i
  · rw [if_pos hj, if_pos hj]; exact ⟨_, rfl⟩
  · rw [if_neg hj, if_neg hj]; exact ⟨_, rfl⟩
/-- len of a str, a bytes, a list, a tuple -/
def LenV (K : PySem.W.Frag) (x : V) (H : Hp) (n : Nat) : Prop :=
  match x with
  | .str y => y.length ≤ sizeLine ∧ n = y.length
  | .byt y => y.size ≤ sizeLine ∧ n = y.size
  | .ref p => (∃ xs, SqL K H p xs ∧ n = xs.length) ∨ ∃ xs, SqT K H p xs ∧ n = xs.length
  | _ => False
end
end L2

namespace L2
open PySem PySem.Spec PyProof.Rows

/-! ### an instance, its attributes a map -/
structure ObjM (h : Heap) (x dx C : Addr) (mA : Str → Option Value) : Prop where
  obj : h.get? x = some (PySem.W.instObj C dx)
  ns : h.Ns1 dx mA
  ne : dx ≠ x

theorem lookIn_ns {h : Heap} {dx : Addr} {mA : Str → Option Value} (n : h.Ns1 dx mA) : ∃ od, h.get? dx = some od ∧ ∀ name, PySem.W.lookIn name od = some (mA name) := by
  obtain ⟨o, es, ep, ho, hd, hk, _, hm⟩ := n
  refine ⟨o, ho, fun name => ?_⟩
  have e := hm name
  unfold nsFind findBy at e
  rw [← Array.find?_toList] at e
  unfold PySem.W.lookIn
  rw [hd]
  dsimp only
  split
  · rename_i y q
    rw [q] at e
    exact congrArg some e
  · rename_i q
    rw [q] at e
    have a : es.toList.any (·.refKey) = false := by
      rw [List.any_eq_false]
      intro y hy
      obtain ⟨z, t, hkey⟩ := hk y (Array.mem_toList_iff.mp hy)
      simp [DictEntry.refKey, hkey]
    have a' : ¬ es.toList.any (·.refKey) = true := by rw [a]; exact Bool.false_ne_true
    rw [if_neg a']
    exact congrArg some e

theorem ObjM.look {h : Heap} {x dx C : Addr} {mA : Str → Option Value} (I : ObjM h x dx C mA) : ∃ od, PySem.W.InstAt h x (PySem.W.instObj C dx) C (some od) ∧ ∀ name, PySem.W.lookIn name od = some (mA name) :=
  let ⟨od, ho, hl⟩ := lookIn_ns I.ns
  ⟨od, ⟨I.obj, rfl, rfl, ho⟩, hl⟩

section
variable {prog : Program} {w : World} {A : Around} {E : Value → Shared → Prop} {s : Shared} {K : PySem.W.Frag} {x dx C f : Addr} {mA : Str → Option Value} {name : Str} {v : Value}

theorem get_map {expr : Bool} {Q : Value → Shared → Prop} (X : K.In s.heap) (I : ObjM s.heap x dx C mA) (hg : PySem.W.plainGet K C name = true) (hh : PySem.W.hasDictIn K C = true)
    (ha : PySem.W.findIn K (.ref C) name = some none) (hv : mA name = some v) (hv' : PySem.W.handedIn v = true) (h : Q v { s with toks := s.toks + 1 }) :
    wpAny (model prog w) A (getAttr (.ref x) name expr) Q E s := by
  obtain ⟨od, J, hl⟩ := I.look
  exact PySem.W.get_value X J (PySem.W.plainGet_of hg).1 (PySem.W.findObj_own hh ha rfl (by rw [hl, hv])) hv' h

theorem get_meth {pl : Sem Bool} {Q : Value × List Value → Shared → Prop} (X : K.In s.heap) (I : ObjM s.heap x dx C mA) (hg : PySem.W.plainGet K C name = true)
    (hf : PySem.W.findIn K (.ref C) name = some (some (.ref f))) (ht : PySem.W.isFn K (.ref f) = true) (hv : mA name = none) (h : Q (.ref f, [.ref x]) s) :
    wpAny (model prog w) A (getMethod (.ref x) name pl) Q E s := by
  obtain ⟨od, J, hl⟩ := I.look
  exact PySem.W.method_fn X J (PySem.W.plainGet_of hg).1 (PySem.W.plainGet_of hg).2 hf (beq_iff_eq.mp ht) (by show (PySem.W.lookIn name od).map (·.isSome) = some false; rw [hl, hv]; rfl) h

theorem set_map {ns : List Str} {Q : Unit → Shared → Prop} (X : K.In s.heap) (I : ObjM s.heap x dx C mA)
    (hs : PySem.W.findIn K (.ref C) "__setattr__" = some (some (.builtin "object.__setattr__"))) (hp : PySem.W.plainOver K C = true) (ht : PySem.W.takerIn K C name = some none) (hh : PySem.W.hasDictIn K C = true)
    (hw : PySem.Within mA ns) (hsz : ns.length ≤ sizeLine)
    (h : ∀ h', ObjM h' x dx C (fun y => if y = name then some v else mA y) → Heap.SameBut dx s.heap h' → Q () { s with heap := h', toks := s.toks + 2 }) :
    wpAny (model prog w) A (setAttr (.ref x) name v) Q E s := by
  obtain ⟨od, J, hl⟩ := I.look
  refine PySem.W.set_plain X J hs (PySem.W.osa_open (s := { s with toks := s.toks + 1 }) (r := none) X J hp ht fun b => ?_)
  obtain ⟨cd, hc, hd'⟩ := PySem.W.any_some hh
  have hx : s.heap.get? x = some ⟨.ref C, some dx, .plain, #[]⟩ := I.obj
  refine wpAny_bind (wpAny_pure (wpAny_bind (wpAny_bind (wpAny_loadPart hx (wpAny_bind (PySem.W.Looks.here (s := { s with toks := s.toks + 1 }) (PySem.W.looks_clsIn X hc) ?_))))))
  rw [hd']
  refine wpAny_pure (a := some dx) (wpAny_bind (wpAny_pure (wpAny_bind ?_)))
  refine wpAny_nsSet1 (s := { s with toks := s.toks + 1 }) I.ns fun h' hn2 hs2 => ?_
  obtain ⟨oD, esD, epD, hoD, hdD, hcD⟩ := hn2.count (PySem.Within.cons name v hw)
  refine wpAny_bind (wpAny_lookBehind hoD (by rw [hdD]; exact pastItsLine_dict (Nat.le_trans hcD (by rw [List.length_cons]; omega))) ?_)
  exact wpAny_pure (h _ ⟨(hs2.2 _ (Ne.symm I.ne)).trans I.obj, hn2, I.ne⟩ hs2)

/-- C(..): the dict at the heap's end, the instance behind it; then its __init__ -/
theorem make_map {R : Result → Shared → Prop} {vs : List Value} {kw : List (Str × Value)} (X : K.In s.heap) (hm : PySem.W.makesIn K C = true)
    (hi : PySem.W.findIn K (.ref C) "__init__" = some (some (.ref f))) (hf : PySem.W.typeIn K (.ref f) = some (.type "function"))
    (h : codeAny (model prog w) (A.under (.builtin "type.__call__" ⟨.ref C :: vs, kw⟩)) (.call (.ref f) ⟨.ref (s.heap.objs.size + 1) :: vs, kw⟩) (PySem.W.InitBack (s.heap.objs.size + 1) R)
      { s with heap := (s.heap.push PySem.W.emptyDict).push (PySem.W.instObj C s.heap.objs.size) }) :
    codeAny (model prog w) A (.call (.ref C) ⟨vs, kw⟩) R s := by
  obtain ⟨hh, g, d, t, os⟩ := s
  exact PySem.W.make_core (PySem.W.makes_of X hm) (PySem.W.looks_findIn X hi) (fun self => PySem.W.bind_fn X self hf) (.inl rfl) h
end

/-! ### the attributes as a list of pairs -/
def putF (f : Str) (v : V) : List (Str × V) → List (Str × V)
  | [] => [(f, v)]
  | (g, x) :: r => if g = f then (g, v) :: r else (g, x) :: putF f v r
theorem lookup_putF (f g : Str) (v : V) : ∀ fs : List (Str × V), (putF f v fs).lookup g = if g = f then some v else fs.lookup g
  | [] => by
    show List.lookup g [(f, v)] = _
    by_cases h : g = f
    · have hb : (g == f) = true := beq_iff_eq.mpr h
      simp only [List.lookup, hb, if_pos h]
    · have hb : (g == f) = false := beq_eq_false_iff_ne.mpr h
      simp only [List.lookup, hb, if_neg h]
  | (k, x) :: r => by
    have ih := lookup_putF f g v r
    rw [show putF f v ((k, x) :: r) = (if k = f then (k, v) :: r else (k, x) :: putF f v r) from rfl]
    by_cases hk : k = f
    · rw [if_pos hk]
      by_cases h : g = k
      · have hb : (g == k) = true := beq_iff_eq.mpr h
        simp only [List.lookup, hb, if_pos (h.trans hk)]
      · have hb : (g == k) = false := beq_eq_false_iff_ne.mpr h
        simp only [List.lookup, hb, if_neg (fun e : g = f => h (e.trans hk.symm))]
    · rw [if_neg hk]
      by_cases h : g = k
      · have hb : (g == k) = true := beq_iff_eq.mpr h
        simp only [List.lookup, hb, if_neg (fun e : g = f => hk (h.symm.trans e))]
      · have hb : (g == k) = false := beq_eq_false_iff_ne.mpr h
        simp only [List.lookup, hb]
        exact ih
theorem keys_putF (f : Str) (v : V) : ∀ fs : List (Str × V), f ∈ (putF f v fs).map (·.1) ∧ ∀ g, g ∈ fs.map (·.1) → g ∈ (putF f v fs).map (·.1)
  | [] => ⟨by simp [putF], fun g h => by simp at h⟩
  | (k, x) :: r => by
    obtain ⟨i1, i2⟩ := keys_putF f v r
    rw [show putF f v ((k, x) :: r) = (if k = f then (k, v) :: r else (k, x) :: putF f v r) from rfl]
    by_cases hk : k = f
    · rw [if_pos hk]
      subst hk
      exact ⟨by simp, fun g h => by simpa using h⟩
    · rw [if_neg hk]
      refine ⟨?_, fun g h => ?_⟩
      · rw [List.map_cons]
        exact List.mem_cons_of_mem _ i1
      · rw [List.map_cons] at h ⊢
        rcases List.mem_cons.mp h with e | e
        · exact List.mem_cons.mpr (.inl e)
        · exact List.mem_cons_of_mem _ (i2 g e)
theorem length_putF (f : Str) (v : V) : ∀ fs : List (Str × V), (putF f v fs).length ≤ fs.length + 1
  | [] => by simp [putF]
  | (k, x) :: r => by
    have ih := length_putF f v r
    rw [show putF f v ((k, x) :: r) = (if k = f then (k, v) :: r else (k, x) :: putF f v r) from rfl]
    by_cases hk : k = f
    · rw [if_pos hk, List.length_cons, List.length_cons]; omega
    · rw [if_neg hk, List.length_cons, List.length_cons]; omega

theorem RelO.some_of {v : V} {o : Option Value} (r : RelO (some v) o) : ∃ u, o = some u ∧ RelV v u := by
  cases o with
  | none => exact (show False from r).elim
  | some u => exact ⟨u, rfl, r⟩
theorem RelO.none_of {o : Option Value} (r : RelO none o) : o = none := by
  cases o with
  | none => rfl
  | some u => exact (show False from r).elim
theorem handed_of {v : V} {u : Value} (r : RelV v u) : PySem.W.handedIn u = true := by
  cases v with
  | non => cases (show u = Value.none from r); rfl
  | bl b => cases (show u = Value.bool b from r); rfl
  | int i => obtain ⟨t, e⟩ := (show ∃ t, u = Value.int i t from r); cases e; rfl
  | str x => obtain ⟨t, e⟩ := (show ∃ t, u = Value.str x t from r); cases e; rfl
  | byt b => obtain ⟨t, e⟩ := (show ∃ t, u = Value.bytes b t from r); cases e; rfl
  | flt b => obtain ⟨t, e⟩ := (show ∃ t, u = Value.float b t from r); cases e; rfl
  | ref a => cases (show u = Value.ref a from r); rfl
  | ty n => cases (show u = Value.type n from r); rfl

section
variable {P : Program} {w : World} {H H' : Hp} {h h' : Heap} {a C dx : Addr} {fs fs' : List (Str × V)}
theorem ins_get (hok : HOk P w H h) (e : H a = some (.ins C dx fs)) : ∃ mA, ObjM h a dx C mA ∧ (∀ f, RelO (fs.lookup f) (mA f)) ∧ PySem.Within mA (fs.map (·.1)) ∧ fs.length ≤ 1000 ∧ H dx = some (.own a) := by
  obtain ⟨d, z, ne, ob, mA, n, r, q⟩ := (show ObjOk P w H h a (.ins C dx fs) from hok a _ e)
  exact ⟨mA, ⟨ob, n, ne⟩, r, q, z, d⟩
end

/-! ### what of the text a class must have -/
structure Cls (K : PySem.W.Frag) (C : Addr) : Prop where
  pg : PySem.W.plainGet K C Str.empty = true
  hd : PySem.W.hasDictIn K C = true
  po : PySem.W.plainOver K C = true
  sa : PySem.W.findIn K (.ref C) "__setattr__" = some (some (.builtin "object.__setattr__"))
theorem Cls.get {K : PySem.W.Frag} {C : Addr} (c : Cls K C) (f : Str) : PySem.W.plainGet K C f = true := c.pg
/-- no class of it has the name -/
def NoAttr (K : PySem.W.Frag) (C : Addr) (f : Str) : Prop := PySem.W.findIn K (.ref C) f = some none
theorem NoAttr.taker {K : PySem.W.Frag} {C : Addr} {f : Str} (n : NoAttr K C f) : PySem.W.takerIn K C f = some none := by
  unfold PySem.W.takerIn
  rw [show PySem.W.findIn K (.ref C) f = some none from n]
  rfl
/-- a constant of the class -/
structure Con (K : PySem.W.Frag) (C : Addr) (f : Str) (v : V) (u : Value) : Prop where
  at_ : PySem.W.findIn K (.ref C) f = some (some u)
  rel : RelV v u
  get : PySem.W.specialIn K u "__get__" = some none
  cp : PySem.W.copiedNames.contains f = false
/-- a method: a plain def of the class or of one above it -/
structure Meth (K : PySem.W.Frag) (C : Addr) (m : Str) (f : Addr) : Prop where
  at_ : PySem.W.findIn K (.ref C) m = some (some (.ref f))
  fn : PySem.W.isFn K (.ref f) = true
  kp : PySem.W.keepIn K (.ref f) = true

section
variable {X : Cx} {pins : List (Addr × Obj)} {σ : St} {H : Hp} {s : Shared} {a C dx : Addr} {fs : List (Str × V)} {f : Str} {v : V} {A : Around} {E : Value → Shared → Prop}

theorem getattr_ok {b : Bool} {Q : Value → Shared → Prop} (I : Inv X pins σ H s) (e : H a = some (.ins C dx fs)) (c : Cls X.K C) (n : NoAttr X.K C f) (l : fs.lookup f = some v)
    (h : ∀ u s', Inv X pins σ H s' → RelV v u → Q u s') : wpAny (model X.prog X.w) A (getAttr (.ref a) f b) Q E s := by
  obtain ⟨mA, O, r, _, _, _⟩ := ins_get I.hok e
  obtain ⟨u, hu, ru⟩ := RelO.some_of (v := v) (o := mA f) (by rw [← l]; exact r f)
  exact get_map I.kIn O (c.get f) c.hd n hu (handed_of ru) (h u _ (I.tok _) ru)

theorem getmeth_ok {m : Str} {g : Addr} {pl : Sem Bool} {Q : Value × List Value → Shared → Prop} (I : Inv X pins σ H s) (e : H a = some (.ins C dx fs)) (c : Cls X.K C) (k : Meth X.K C m g) (l : fs.lookup m = none)
    (h : Q (.ref g, [.ref a]) s) : wpAny (model X.prog X.w) A (getMethod (.ref a) m pl) Q E s := by
  obtain ⟨mA, O, r, _, _, _⟩ := ins_get I.hok e
  have hn : mA m = none := RelO.none_of (by rw [← l]; exact r m)
  exact get_meth I.kIn O (c.get m) k.at_ k.fn hn h

theorem setattr_ok {y : V} {u : Value} {Q : Unit → Shared → Prop} (I : Inv X pins σ H s) (e : H a = some (.ins C dx fs)) (c : Cls X.K C) (n : NoAttr X.K C f) (hl : fs.length < 1000) (ry : RelV y u)
    (h : ∀ s', Inv X pins σ (upd H a (.ins C dx (putF f y fs))) s' → Q () s') : wpAny (model X.prog X.w) A (setAttr (.ref a) f u) Q E s := by
  obtain ⟨mA, O, r, wi, _, ho⟩ := ins_get I.hok e
  have hz : (fs.map (·.1)).length ≤ sizeLine := by rw [List.length_map, sizeLine_eq]; omega
  refine set_map I.kIn O c.sa c.po n.taker c.hd wi hz fun h' O' sb => h _ ?_
  have hd : ∃ o, h'.get? dx = some o := let ⟨o, _, _, e', _⟩ := O'.ns; ⟨o, e'⟩
  refine I.write (x := a) (e := dx) (by rw [e]; exact True.intro) (.inr ho) (fun b q hb z => (sb.2 b hb).trans z) hd ?_
  refine ⟨by rw [upd_ne O.ne]; exact ho, ?_, O.ne, O'.obj, _, O'.ns, fun g => ?_, fun g hg => ?_⟩
  · have := length_putF f y fs; omega
  · show RelO ((putF f y fs).lookup g) (if g = f then some u else mA g)
    rw [lookup_putF]
    by_cases q : g = f
    · rw [if_pos q, if_pos q]; exact ry
    · rw [if_neg q, if_neg q]; exact r g
  · by_cases q : g = f
    · rw [q]; exact (keys_putF f y fs).1
    · refine (keys_putF f y fs).2 g (wi g fun z => hg ?_)
      show (if g = f then some u else mA g) = none
      rw [if_neg q]; exact z

/-- a new instance, tracked, without attributes -/
theorem Inv.made (I : Inv X pins σ H s) : Inv X pins σ (upd (upd H s.heap.objs.size (.own (s.heap.objs.size + 1))) (s.heap.objs.size + 1) (.ins C s.heap.objs.size []))
    { s with heap := (s.heap.push PySem.W.emptyDict).push (PySem.W.instObj C s.heap.objs.size) } := by
  have e1 : (s.heap.push PySem.W.emptyDict).get? s.heap.objs.size = some PySem.W.emptyDict := Heap.get?_push_size s.heap rfl
  have e2 : ((s.heap.push PySem.W.emptyDict).push (PySem.W.instObj C s.heap.objs.size)).get? (s.heap.objs.size + 1) = some (PySem.W.instObj C s.heap.objs.size) := by
    have := Heap.get?_push_size (s.heap.push PySem.W.emptyDict) (o := PySem.W.instObj C s.heap.objs.size) rfl
    rwa [Heap.size_push] at this
  have e3 : (s.heap.push PySem.W.emptyDict).Ns s.heap.objs.size (fun _ => none) := ⟨PySem.W.emptyDict, #[], _, e1, rfl, (fun e he => absurd he (by simp)), fun _ => rfl⟩
  have I1 := I.laid (a := s.heap.objs.size) (o := .own (s.heap.objs.size + 1)) (h' := s.heap.push PySem.W.emptyDict) (t' := s.toks) (fun b u q => Heap.get?_push_of_some _ q) (Nat.le_refl _) ⟨_, e1⟩
  refine I1.laid (a := s.heap.objs.size + 1) (o := .ins C s.heap.objs.size []) (t' := s.toks) (fun b u q => Heap.get?_push_of_some _ q) (Nat.le_of_eq (Heap.size_push _ _)) ?_
  have ne : s.heap.objs.size ≠ s.heap.objs.size + 1 := Nat.ne_of_lt (Nat.lt_succ_self _)
  refine ⟨by rw [upd_ne ne, upd_same], Nat.zero_le _, ne, e2, fun _ => none, (Heap.Ns1.of_empty e3).at fun o q => Heap.get?_push_of_some _ q, fun _ => True.intro, fun y hy => absurd rfl hy⟩

/-- e.f where nothing but the object is asked: through attributeBase (super) and the last hold -/
theorem attr_of {prog : Program} {w : World} {env : Env} {e : Expr} {f : Str} {pos : Pos} {s : Shared} {Q : Value → Shared → Prop} (hb : attributeBase e f env (eval e env) = eval e env)
    (h : wpAny (model prog w) A (eval e env) (fun o s₁ => wpAny (model prog w) A (getAttr o f true) Q E s₁) E s) : wpAny (model prog w) A (eval (.Attribute e f pos) env) Q E s :=
  Attribute_any_ h (by rw [arm_eval_Attribute, hb])
end

/-! ### readings and rules -/
/-- e.f, an attribute of the instance -/
inductive tFldI (K : PySem.W.Frag) (f : Str) (Q : VK) (x : V) (H1 : Hp) : Prop
  | mk (a : _) (C : _) (dx : _) (fs : _) (v : _) (h0_ : x = .ref a) (h1_ : H1 a = some (.ins C dx fs)) (h2_ : Cls K C) (h3_ : NoAttr K C f) (h4_ : fs.lookup f = some v) (h5_ : Q v H1) : tFldI K f Q x H1
def tFld (K : PySem.W.Frag) (ta : TE) (f : Str) : TE := fun σ H Q => ta σ H fun x H1 => tFldI K f Q x H1
/-- e.f, a constant of the class -/
def tCon (K : PySem.W.Frag) (ta : TE) (f : Str) : TE := fun σ H Q => ta σ H fun x H1 => ∃ a C dx fs v u, x = .ref a ∧ H1 a = some (.ins C dx fs) ∧ Cls K C ∧ Con K C f v u ∧ fs.lookup f = none ∧ Q v H1
/-- e.f = value -/
inductive sFldI (K : PySem.W.Frag) (f : Str) (D : Ends) (σ : St) (y : V) (x : V) (H2 : Hp) : Prop
  | mk (a : _) (C : _) (dx : _) (fs : _) (h0_ : x = .ref a) (h1_ : H2 a = some (.ins C dx fs)) (h2_ : Cls K C) (h3_ : NoAttr K C f) (h4_ : fs.length < 1000) (h5_ : D.nx σ (upd H2 a (.ins C dx (putF f y fs)))) : sFldI K f D σ y x H2
def sFld (K : PySem.W.Frag) (ta tv : TE) (f : Str) : TS := fun D σ H => tv σ H fun y H1 => ta σ H1 fun x H2 => sFldI K f D σ y x H2
/-- an augmented operator on two values -/
def InOp (X : Cx) (op : Operator) (rd : V → V → Hp → VK → Prop) : Prop :=
  ∀ (pins : List (Addr × Obj)) (s : Shared) (σ : St) (H : Hp) (x y : V) (u v : Value) (Q : VK), Inv X pins σ H s → RelV x u → RelV y v → rd x y H Q → wpAny (model X.prog X.w) X.A (inplaceOp op u v) (EP X pins σ Q) X.xe s
/-- e.f op= value -/
def sFldAug (K : PySem.W.Frag) (ta tv : TE) (rd : V → V → Hp → VK → Prop) (f : Str) : TS := fun D σ H => ta σ H fun x H1 => ∃ a C dx fs v, x = .ref a ∧ H1 a = some (.ins C dx fs) ∧ Cls K C ∧ NoAttr K C f ∧ fs.lookup f = some v ∧
  tv σ H1 fun y H2 => rd v y H2 fun z H3 => ∃ dx' fs', H3 a = some (.ins C dx' fs') ∧ fs'.length < 1000 ∧ D.nx σ (upd H3 a (.ins C dx' (putF f z fs')))

section
variable {X : Cx} {o e value : Expr} {f : Str} {pos pos' tpos : Pos} {ta tv : TE}
theorem pe_fld (he : PE X e ta) (hb : attributeBase e f X.env (eval e X.env) = eval e X.env) : PE X (.Attribute e f pos) (tFld X.K ta f) := by
  intro pins s σ H Q I h
  refine attr_of hb (thn (he pins s σ H _ I h) fun u s1 ⟨x, H1, I1, rx, a, C, dx, fs, v, ex, ea, c, n, l, q⟩ => ?_)
  subst ex
  obtain rfl : u = Value.ref a := rx
  exact getattr_ok I1 ea c n l fun u' s2 I2 ru => ⟨v, H1, I2, ru, q⟩
theorem ps_fld (ha : PE X o ta) (hv : PE X value tv) (hs : swapsWith value (some (.Attribute o f pos')) pos.line X.env = pure false) : PS X (.Assign [.Attribute o f pos'] value pos) (sFld X.K ta tv f) := by
  intro pins s σ H D I h
  refine plainObj_wpAny_Assign_Attribute (thn (hv pins s σ H _ I h) fun u s1 ⟨y, H1, I1, ry, q⟩ => thn (ha pins s1 σ H1 _ I1 q) fun ov s2 ⟨x, H2, I2, rx, a, C, dx, fs, ex, ea, c, n, l, q2⟩ => ?_) hs
  subst ex
  obtain rfl : ov = Value.ref a := rx
  exact setattr_ok I2 ea c n l ry fun s3 I3 => ⟨σ, _, I3, q2⟩
def rAdd : V → V → Hp → VK → Prop := fun x y H Q => ∃ i j, x = .int i ∧ y = .int j ∧ Q (.int (i + j)) H
def rSub : V → V → Hp → VK → Prop := fun x y H Q => ∃ i j, x = .int i ∧ y = .int j ∧ Q (.int (i - j)) H
end

/-! ### isinstance -/
section
variable {X : Cx} {pins : List (Addr × Obj)} {σ : St} {H : Hp} {s : Shared} {A : Around} {E : Value → Shared → Prop} {Q : Value → Shared → Prop} {c : Value} {b : Bool}
/-- the type of a value, as the fragment's deciders take it; for an instance its class -/
inductive TyOf (K : PySem.W.Frag) (H : Hp) : V → Value → Prop where
  | non : TyOf K H .non (.type "NoneType")
  | bl (x : Bool) : TyOf K H (.bl x) (.type "bool")
  | int (i : Int) : TyOf K H (.int i) (.type "int")
  | str (x : Str) : TyOf K H (.str x) (.type "str")
  | flt (x : UInt64) : TyOf K H (.flt x) (.type "float")
  | lst {a : Addr} {xs : List V} (e : H a = some (.lst xs)) : TyOf K H (.ref a) (.type "list")
  | frz {a : Addr} {o : Obj} {xs : List V} (e : H a = some (.frz o (.lst xs))) : TyOf K H (.ref a) (.type "list")
  | tup {a : Addr} {xs : List V} (e : H a = some (.tup xs)) : TyOf K H (.ref a) (.type "tuple")
  | dK {a : Addr} {kvs : List (Key × V)} (e : H a = some (.dK kvs)) : TyOf K H (.ref a) (.type "dict")
  | dT {a : Addr} {kvs : List (List Key × V)} (e : H a = some (.dT kvs)) : TyOf K H (.ref a) (.type "dict")
  | ins {a C dx : Addr} {fs : List (Str × V)} (e : H a = some (.ins C dx fs)) (cl : Cls K C) (ha : PySem.W.findIn K (.ref C) "__class__" = some (some (.builtin "object.__class__")))
      (hn : PySem.W.specialIn K (.builtin "object.__class__") "__get__" = some (some (.builtin "getset_descriptor.__get__"))) (htk : PySem.W.takesIn K (.builtin "object.__class__") = some true)
      (hm : PySem.W.mroIn K C (.type "object") = some true) : TyOf K H (.ref a) (.ref C)
/-- isinstance(x, c) for one class c, a built-in or an own one: kitOne's answer -/
theorem isinst_ok {x : V} {u t : Value} (I : Inv X pins σ H s) (rx : RelV x u) (ty : TyOf X.K H x t) (e : PySem.W.kitOne X.K t c = some b) (h : ∀ tk, Q (.bool b) { s with toks := tk }) :
    wpAny (model X.prog X.w) A (call (.builtin "isinstance") [u, c]) Q E s := by
  cases ty with
  | non => cases (show u = Value.none from rx); exact PySem.W.kia_one PySem.W.kitx_none I.kIn True.intro e (fun z => nomatch z) h
  | bl y => cases (show u = Value.bool y from rx); exact PySem.W.kia_one PySem.W.kitx_bool I.kIn True.intro e (fun z => nomatch z) h
  | int i => obtain ⟨t, q⟩ := (show ∃ t, u = Value.int i t from rx); cases q; exact PySem.W.kia_one PySem.W.kitx_int I.kIn True.intro e (fun z => nomatch z) h
  | str y => obtain ⟨t, q⟩ := (show ∃ t, u = Value.str y t from rx); cases q; exact PySem.W.kia_one PySem.W.kitx_str I.kIn True.intro e (fun z => nomatch z) h
  | flt y => obtain ⟨t, q⟩ := (show ∃ t, u = Value.float y t from rx); cases q; exact PySem.W.kia_one PySem.W.kitx_float I.kIn True.intro e (fun z => nomatch z) h
  | @lst a xs ea =>
    cases (show u = Value.ref a from rx)
    obtain ⟨_, _, n, _, h1⟩ := (show ObjOk X.prog X.w H s.heap a (.lst xs) from I.hok a _ ea)
    exact PySem.W.kia_one PySem.W.kitx_list I.kIn ⟨_, h1, rfl⟩ e (fun z => nomatch z) h
  | @frz a ob xs ea =>
    cases (show u = Value.ref a from rx)
    obtain ⟨_, _, _, n, _, h1⟩ := (show ObjOk X.prog X.w H s.heap a (.frz ob (.lst xs)) from I.hok a _ ea)
    exact PySem.W.kia_one PySem.W.kitx_list I.kIn ⟨_, h1, rfl⟩ e (fun z => nomatch z) h
  | @tup a xs ea =>
    cases (show u = Value.ref a from rx)
    obtain ⟨_, _, _, p⟩ := (show ObjOk X.prog X.w H s.heap a (.tup xs) from I.hok a _ ea)
    obtain ⟨o, h1, h2, _⟩ := p
    exact PySem.W.kia_one PySem.W.kitx_tuple I.kIn ⟨o, h1, h2⟩ e (fun z => nomatch z) h
  | @dK a kvs ea =>
    cases (show u = Value.ref a from rx)
    obtain ⟨_, _, vs, _, p⟩ := (show ObjOk X.prog X.w H s.heap a (.dK kvs) from I.hok a _ ea)
    obtain ⟨o, es, ep, h1, h2, _⟩ := p
    exact PySem.W.kia_one PySem.W.kitx_dict I.kIn ⟨o, h1, h2.1⟩ e (fun z => nomatch z) h
  | @dT a kvs ea =>
    cases (show u = Value.ref a from rx)
    obtain ⟨_, _, xs, _, o, es, ep, h1, h2, _⟩ := (show ObjOk X.prog X.w H s.heap a (.dT kvs) from I.hok a _ ea)
    exact PySem.W.kia_one PySem.W.kitx_dict I.kIn ⟨o, h1, h2.1⟩ e (fun z => nomatch z) h
  | @ins a C dx fs ea cl ha hn htk hm =>
    cases (show u = Value.ref a from rx)
    obtain ⟨mA, O, _⟩ := ins_get I.hok ea
    obtain ⟨od, J, _⟩ := O.look
    exact PySem.W.kia_one (PySem.W.kitx_own (cl.get _) cl.hd ha hn htk hm) I.kIn J e (fun z => nomatch z) h
end
end L2

namespace L2
open PySem PySem.Spec PyProof.Rows

/-! ### room -/
structure Room (k : Nat) (A : Around) : Prop where
  hd : A.handled = none
  dp : A.depth + 3 * k + 5 < recursionLimit
  un : A.units + 16 * k + 200 < cLine
theorem Room.mono {j k : Nat} {A : Around} (r : Room k A) (h : j ≤ k) : Room j A := ⟨r.hd, by have := r.dp; omega, by have := r.un; omega⟩
theorem Room.deeper {k : Nat} {A : Around} (r : Room (k + 1) A) (env : Env) : Room k (A.deeper env) :=
  ⟨r.hd, by have := r.dp; show A.depth + 1 + 3 * k + 5 < _; omega, by have := r.un; show A.units + 3 + 16 * k + 200 < _; omega⟩
theorem make_depth {A : Around} {C : Addr} {us : List Value} {kw : List (Str × Value)} : (A.under (.builtin "type.__call__" ⟨.ref C :: us, kw⟩)).depth = A.depth + 1 := by
  first | rfl | simp [Around.under, Code.weight, Code.isCreation, Code.isGuard, Code.isCaller, Code.frames, Code.isFrame, guardIds]
theorem make_units {A : Around} {C : Addr} {us : List Value} {kw : List (Str × Value)} : (A.under (.builtin "type.__call__" ⟨.ref C :: us, kw⟩)).units = A.units + 1 := by
  first | rfl | simp [Around.under, Code.cUnits, Code.frames, Code.isFrame]
theorem Room.make {k : Nat} {A : Around} (r : Room (k + 1) A) (C : Addr) (us : List Value) (kw : List (Str × Value)) : Room k (A.under (.builtin "type.__call__" ⟨.ref C :: us, kw⟩)) :=
  ⟨r.hd, by have := r.dp; rw [make_depth]; omega, by have := r.un; rw [make_units]; omega⟩
theorem Room.depth {k : Nat} {A : Around} (r : Room k A) : A.depth < recursionLimit := by have := r.dp; omega
theorem Room.units {k : Nat} {A : Around} (r : Room k A) : A.units + 64 < cLine := by have := r.un; omega
/-! ### argument lists and displays -/
def tNil : TA := fun _ H Q => Q [] H
def tCons (ta : TE) (tr : TA) : TA := fun σ H Q => ta σ H fun x H1 => tr σ H1 fun xs H2 => Q (x :: xs) H2
section
variable {X : Cx} {e : Expr} {es : List Expr} {te : TE} {t : TA} {pos : Pos}
theorem pa_nil : PA X [] tNil := fun _ _ _ _ H Q I h => Calls.spliced_nil ⟨[], H, I, .nil, h⟩
theorem pa_cons (ha : PE X e te) (hr : PA X es t) (hs : starEach (e :: es) X.env = (false, eval e X.env) :: starEach es X.env := by rfl) : PA X (e :: es) (tCons te t) := by
  intro pos pins s σ H Q I h
  rw [hs]
  show wpAny _ _ (spliced ((false, eval e X.env) :: backTo pos (starEach es X.env))) _ _ s
  refine Calls.spliced_cons (thn (ha pins s σ H _ I h) fun u s1 ⟨x, H1, I1, r1, q1⟩ => ?_)
  exact thn (hr pos pins s1 σ H1 _ I1 q1) fun us s2 ⟨xs, H2, I2, r2, q2⟩ => ⟨x :: xs, H2, I2, .cons r1 r2, q2⟩

/-- a tuple, a list of written items -/
def tTup (t : TA) : TE := fun σ H Q => t σ H fun xs H1 => xs.length ≤ sizeLine ∧ ∀ p, H1 p = none → Q (.ref p) (upd H1 p (.tup xs))
def tLst (t : TA) : TE := fun σ H Q => t σ H fun xs H1 => xs.length ≤ sizeLine ∧ ∀ p, H1 p = none → Q (.ref p) (upd H1 p (.lst xs))
theorem pe_tup {x1} (h : PA X es t) : PE X (.Tuple es x1 pos) (tTup t) := by
  intro pins s σ H Q I hq
  refine wpAny_Tuple_spliced (thn (h pos pins s σ H _ I hq) fun us s1 ⟨xs, H1, I1, r, z, q⟩ => ⟨by rw [← r.length]; exact z, ?_⟩)
  have hf : H1 s1.heap.objs.size = none := I1.hok.fresh (Nat.le_refl _)
  refine ⟨.ref s1.heap.objs.size, upd H1 s1.heap.objs.size (.tup xs), I1.laid (t' := s1.toks) (fun b u e => Heap.get?_push_of_some _ e) (Nat.le_refl _) ?_, rfl, q _ hf⟩
  exact ⟨z, us, r, ⟨_, Heap.get?_push_size _ rfl, rfl, _, rfl⟩⟩
theorem pe_lst (h : PA X es t) : PE X (.List es pos) (tLst t) := by
  intro pins s σ H Q I hq
  refine wpAny_List_spliced (thn (h pos pins s σ H _ I hq) fun us s1 ⟨xs, H1, I1, r, z, q⟩ => ⟨by rw [← r.length]; exact z, ?_⟩)
  have hf : H1 s1.heap.objs.size = none := I1.hok.fresh (Nat.le_refl _)
  refine ⟨.ref s1.heap.objs.size, upd H1 s1.heap.objs.size (.lst xs), I1.laid (t' := s1.toks) (fun b u e => Heap.get?_push_of_some _ e) (Nat.le_refl _) ?_, rfl, q _ hf⟩
  exact ⟨z, us, 0, r, Heap.get?_push_size _ rfl⟩
end

/-! ### what a def promises -/
/-- a def's promise: the bound arguments in the parameters' order, the heap, the wanted end, the wanted exception -/
abbrev Sp := List V → Hp → VK → XK → Prop
/-- how an exception lies behind a call (file 08 gives it): the callers' frames, abstract heap and state ahead of the call, the wish, the exception, the state -/
abbrev CXT := List Env → Hp → Shared → XK → Value → Shared → Prop

/-- the state at a call -/
structure Env0 (P : Program) (w : World) (K : PySem.W.Frag) (mg : Str → Option Value) (base : Heap) (A : Around) (outer : List Env) (s : Shared) (H : Hp) : Prop where
  frames : A.frames = some outer
  mod : Mod K mg base
  bs : ∀ b o, base.get? b = some o → s.heap.get? b = some o ∧ H b = none
  bsz : base.objs.size ≤ s.heap.objs.size
  funs : s.heap.FunFrames base outer
  frf : ∀ b ∈ frs outer, H b = none
  hok : HOk P w H s.heap
  bare : AllBare s.gens
/-- a call's end -/
def CE (outer : List Env) (P : Program) (w : World) (H : Hp) (s : Shared) (Q : VK) (u : Value) (s' : Shared) : Prop :=
  ∃ v H', s'.os = s.os ∧ AllBare s'.gens ∧ Un (frs outer) [] H H' s.heap s'.heap ∧ HOk P w H' s'.heap ∧ RelV v u ∧ Q v H'
def CR (CX : CXT) (outer : List Env) (P : Program) (w : World) (H : Hp) (s : Shared) (Q : VK) (E : XK) (r : Result) (s' : Shared) : Prop :=
  match r with
  | .ok (.ret u) => CE outer P w H s Q u s'
  | .ok _ => False
  | .error e => CX outer H s E e s'
structure FnOk (P : Program) (w : World) (K : PySem.W.Frag) (mg : Str → Option Value) (base : Heap) (CX : CXT) (k : Nat) (f : Addr) (fd : FuncData) (ps : List Str) (sp : Sp) : Prop where
  len : ∀ vs H Q E, sp vs H Q E → vs.length = ps.length
  run : ∀ (A : Around) (outer : List Env) (s : Shared) (H : Hp) (args : Args) (us : List Value) (vs : List V) (Q : VK) (E : XK), Room k A → Env0 P w K mg base A outer s H → BindsTo s fd args (ps.zip us) → Vals vs us → sp vs H Q E →
    codeAny (model P w) A (.call (.ref f) args) (CR CX outer P w H s Q E) s
theorem Env0.make {P : Program} {w : World} {K : PySem.W.Frag} {mg : Str → Option Value} {base : Heap} {A : Around} {outer : List Env} {s : Shared} {H : Hp} (e : Env0 P w K mg base A outer s H) (C : Addr) (us : List Value) (kw : List (Str × Value)) :
    Env0 P w K mg base (A.under (.builtin "type.__call__" ⟨.ref C :: us, kw⟩)) outer s H := ⟨by first | exact e.frames | (simpa [Around.under, Code.envs, Code.isFrame, pushEnvs] using e.frames), e.mod, e.bs, e.bsz, e.funs, e.frf, e.hok, e.bare⟩
section
variable {X : Cx} {pins : List (Addr × Obj)} {σ : St} {H : Hp} {s s' : Shared}
/-- from a body: what a callee wants -/
theorem Inv.env0 (I : Inv X pins σ H s) : Env0 X.prog X.w X.K X.mg X.base X.A X.stack s H :=
  ⟨I.ok.frames, I.ok.mod, I.bs, Nat.le_trans I.ok.bsz I.sz, I.stack, I.stkFree, I.hok, I.bare⟩
/-- behind a call -/
theorem Inv.after {Q : VK} {u : Value} (I : Inv X pins σ H s) (h : CE X.stack X.prog X.w H s Q u s') : EP X pins σ Q u s' := by
  obtain ⟨v, H', os, bare, un, hok, r, q⟩ := h
  obtain ⟨hh, g, d, t, os'⟩ := s'
  obtain rfl : os' = s.os := os
  exact ⟨v, H', I.call (h' := hh) (g' := g) (d' := d) (t' := t) (ch := []) un hok bare (fun b z => absurd z (by simp)), r, q⟩
end

/-! ### calls -/
/-- f(..): the written arguments, then the defaults dvs; E: what is wanted of an exception -/
def tCall (sp : Sp) (dvs : List V) (E : XK) (t : TA) : TE := fun σ H Q => t σ H fun vs H1 => sp (vs ++ dvs) H1 Q E
/-- o.m(..) of an instance of the class at C -/
inductive tMethI (C : Addr) (m : Str) (sp : Sp) (dvs : List V) (E : XK) (t : TA) (σ : St) (Q : VK) (x : V) (H1 : Hp) : Prop
  | mk (a : _) (dx : _) (fs : _) (h0_ : x = .ref a) (h1_ : H1 a = some (.ins C dx fs)) (h2_ : fs.lookup m = none) (h3_ : t σ H1 fun vs H2 => sp (x :: (vs ++ dvs)) H2 Q E) : tMethI C m sp dvs E t σ Q x H1
def tMeth (C : Addr) (m : Str) (sp : Sp) (dvs : List V) (E : XK) (ta : TE) (t : TA) : TE := fun σ H Q => ta σ H fun x H1 => tMethI C m sp dvs E t σ Q x H1
/-- C(..): a new instance and its dict, then __init__ -/
def tMake (C : Addr) (sp : Sp) (dvs : List V) (E : XK) (t : TA) : TE := fun σ H Q => t σ H fun vs H1 => ∀ x dx, H1 x = none → H1 dx = none → dx ≠ x →
  sp (.ref x :: (vs ++ dvs)) (upd (upd H1 dx (.own x)) x (.ins C dx [])) (fun v H2 => v = .non ∧ Q (.ref x) H2) E

/-- how the parameters are bound: us the positional arguments, kw the keywords' values by name, ds the defaults that fill up -/
def Binds (K : PySem.W.Frag) (fd : FuncData) (ps : List Str) (ds : List Value) : Prop :=
  ∀ (s : Shared) (us : List Value), K.In s.heap → (us ++ ds).length = ps.length → BindsTo s fd ⟨us, []⟩ (ps.zip (us ++ ds))
/-- every parameter is given -/
theorem Binds.all {K : PySem.W.Frag} {fd : FuncData} {ps : List Str} (h : ∀ us : List Value, us.length = ps.length → bindArgs fd ⟨us, []⟩ = pure (ps.zip us)) : Binds K fd ps [] := fun s us _ hl => by
  rw [List.append_nil] at hl ⊢
  exact .of_eq (h us hl)

/-- an exception of a callee reaches what this body wants of exceptions -/
def Passes (CX : CXT) (X : Cx) (E : XK) : Prop := ∀ (pins : List (Addr × Obj)) (σ : St) (H : Hp) (s : Shared) (e : Value) (s' : Shared), Inv X pins σ H s → CX X.stack H s E e s' → X.xe e s'

section
variable {X : Cx} {CX : CXT} {k : Nat} {f C : Addr} {fd : FuncData} {ps : List Str} {sp : Sp} {dvs : List V} {ds : List Value} {E : XK} {x m : Str} {p pos apos : Pos} {e o : Expr} {es : List Expr} {ta : TE} {t : TA}

/-- the callee runs -/
theorem run_fn {pins : List (Addr × Obj)} {σ : St} {H : Hp} {s : Shared} {Q : VK} {us : List Value} {vs : List V} (F : FnOk X.prog X.w X.K X.mg X.base CX k f fd ps sp) (hr : Room k X.A) (hb : Binds X.K fd ps ds) (hd : Vals dvs ds) (hx : Passes CX X E)
    (I : Inv X pins σ H s) (r : Vals vs us) (h : sp (vs ++ dvs) H Q E) : wpAny (model X.prog X.w) X.A (call (.ref f) us) (EP X pins σ Q) X.xe s := by
  have r2 : Vals (vs ++ dvs) (us ++ ds) := r.append hd
  have hl : (us ++ ds).length = ps.length := by rw [← r2.length]; exact F.len _ _ _ _ h
  refine wpAny_call (codeAny_mono (F.run X.A X.stack s H ⟨us, []⟩ (us ++ ds) (vs ++ dvs) Q E hr I.env0 (hb s us I.kIn hl) r2 h) fun r s' hq => ?_)
  cases r with
  | error e => exact hx pins σ H s e s' I hq
  | ok fl =>
    cases fl with
    | ret u => exact I.after hq
    | next => exact False.elim hq
    | brk => exact False.elim hq
    | cont => exact False.elim hq

theorem pe_call (F : FnOk X.prog X.w X.K X.mg X.base CX k f fd ps sp) (hr : Room k X.A) (hg : Gl X x) (hm : X.mg x = some (.ref f)) (hk : PySem.W.keepIn X.K (.ref f) = true) (hb : Binds X.K fd ps ds) (hd : Vals dvs ds) (hx : Passes CX X E)
    (ha : PA X (e :: es) t) (hdb : (x == ("__debug__" : Str)) = false := by decide) (he : starEach (e :: es) X.env = (false, eval e X.env) :: starEach es X.env := by rfl) (hpl : (backTo pos (starEach es X.env)).any (·.1) = false := by rfl) :
    PE X (.Call (.Name x p) (e :: es) [] pos) (tCall sp dvs E t) := by
  intro pins s σ H Q I h
  refine wpAny_Call_Name_kw (ld_glob I hg hm ?_ hdb)
  refine PySem.W.callWith_K (h₀ := X.base) I.ok.mod.kin hk (thn (ha pos pins s σ H _ I h) fun us s1 ⟨vs, H1, I1, r, q⟩ => ⟨I1.kIn, ?_⟩) he hpl
  exact run_fn F hr hb hd hx I1 r q
/-- o.m(e, ..) -/
theorem pe_meth {pl : Sem Bool} (he : PE X o ta) (c : Cls X.K C) (hm : Meth X.K C m f) (F : FnOk X.prog X.w X.K X.mg X.base CX k f fd ps sp) (hr : Room k X.A) (hb : Binds X.K fd ps ds) (hd : Vals dvs ds) (hx : Passes CX X E) (ha : PA X (e :: es) t)
    (hst : starEach (e :: es) X.env = (false, eval e X.env) :: starEach es X.env := by rfl) (hpl : (backTo pos (starEach es X.env)).any (·.1) = false := by rfl)
    (ht : eval (.Call (.Attribute o m apos) (e :: es) [] pos) X.env = (do
      let ov ← eval o X.env
      standAt apos.atName
      let (f, first) ← holding [ov] (getMethod ov m pl)
      callWith pos f first (backTo pos (starEach (e :: es) X.env)) (backToKw pos (keywordEach [] X.env))) := by rfl) :
    PE X (.Call (.Attribute o m apos) (e :: es) [] pos) (tMeth C m sp dvs E ta t) := by
  intro pins s σ H Q I h
  refine PySem.W.methodCall_KW (pl := pl) (thn (he pins s σ H _ I h) fun u s1 ⟨x, H1, I1, rx, a, dx, fs, ex, ea, l, q⟩ => ?_) ht
  subst ex
  obtain rfl : u = Value.ref a := rx
  refine getmeth_ok I1 ea c hm l ?_
  refine PySem.W.callWith_K (first := [.ref a]) (h₀ := X.base) I.ok.mod.kin hm.kp (thn (ha pos pins s1 σ H1 _ I1 q) fun us s2 ⟨vs, H2, I2, r, q2⟩ => ⟨I2.kIn, ?_⟩) hst hpl
  exact run_fn (us := .ref a :: us) (vs := .ref a :: vs) F hr hb hd hx I2 (.cons rfl r) q2
/-- o.m() -/
theorem pe_meth0 {pl : Sem Bool} (he : PE X o ta) (c : Cls X.K C) (hm : Meth X.K C m f) (F : FnOk X.prog X.w X.K X.mg X.base CX k f fd ps sp) (hr : Room k X.A) (hb : Binds X.K fd ps ds) (hd : Vals dvs ds) (hx : Passes CX X E)
    (ht : eval (.Call (.Attribute o m apos) [] [] pos) X.env = (do
      let ov ← eval o X.env
      standAt apos.atName
      let (f, first) ← holding [ov] (getMethod ov m pl)
      callWith pos f first (backTo pos (starEach [] X.env)) (backToKw pos (keywordEach [] X.env))) := by rfl) :
    PE X (.Call (.Attribute o m apos) [] [] pos) (tMeth C m sp dvs E ta tNil) := by
  intro pins s σ H Q I h
  refine PySem.W.methodCall_KW (pl := pl) (thn (he pins s σ H _ I h) fun u s1 ⟨x, H1, I1, rx, a, dx, fs, ex, ea, l, q⟩ => ?_) ht
  subst ex
  obtain rfl : u = Value.ref a := rx
  refine getmeth_ok I1 ea c hm l ?_
  exact PySem.W.callWith_K0 (first := [.ref a]) I1.kIn hm.kp (run_fn (us := [.ref a]) (vs := [.ref a]) F hr hb hd hx I1 (.cons rfl .nil) q)

/-- what a class must have to be made -/
structure Mk (K : PySem.W.Frag) (C f : Addr) : Prop where
  makes : PySem.W.makesIn K C = true
  init : PySem.W.findIn K (.ref C) "__init__" = some (some (.ref f))
  fn : PySem.W.isFn K (.ref f) = true
  kp : PySem.W.keepIn K (.ref C) = true

theorem run_make {pins : List (Addr × Obj)} {σ : St} {H : Hp} {s : Shared} {Q : VK} {us : List Value} {vs : List V} (M : Mk X.K C f) (F : FnOk X.prog X.w X.K X.mg X.base CX k f fd ps sp) (hr : Room (k + 1) X.A) (hb : Binds X.K fd ps ds) (hd : Vals dvs ds)
    (hx : Passes CX X E) (I : Inv X pins σ H s) (r : Vals vs us)
    (h : ∀ x dx, H x = none → H dx = none → dx ≠ x → sp (.ref x :: (vs ++ dvs)) (upd (upd H dx (.own x)) x (.ins C dx [])) (fun v H2 => v = .non ∧ Q (.ref x) H2) E) :
    wpAny (model X.prog X.w) X.A (call (.ref C) us) (EP X pins σ Q) X.xe s := by
  have hq := h (s.heap.objs.size + 1) s.heap.objs.size (I.hok.fresh (Nat.le_succ _)) (I.hok.fresh (Nat.le_refl _)) (Nat.ne_of_lt (Nat.lt_succ_self _))
  have I2 := Inv.made (C := C) I
  have r2 : Vals (V.ref (s.heap.objs.size + 1) :: (vs ++ dvs)) (Value.ref (s.heap.objs.size + 1) :: (us ++ ds)) := .cons rfl (r.append hd)
  have hl : (Value.ref (s.heap.objs.size + 1) :: us ++ ds).length = ps.length := by
    have e := r2.length
    rw [F.len _ _ _ _ hq] at e
    exact e.symm
  refine wpAny_call (make_map (f := f) I.kIn M.makes M.init (beq_iff_eq.mp M.fn) (codeAny_mono (F.run _ X.stack _ _ ⟨Value.ref (s.heap.objs.size + 1) :: us, []⟩ (Value.ref (s.heap.objs.size + 1) :: (us ++ ds)) _ _ E (hr.make C us [])
    (I2.env0.make C us []) (hb _ (Value.ref (s.heap.objs.size + 1) :: us) I2.kIn hl) r2 hq) fun r s' hq' => ?_))
  cases r with
  | error e => exact hx pins σ _ _ e s' I2 hq'
  | ok fl =>
    cases fl with
    | ret u =>
      obtain ⟨v, H', I3, rv, ev, q3⟩ := I2.after hq'
      subst ev
      exact ⟨rv, ⟨V.ref (s.heap.objs.size + 1), H', I3, rfl, q3⟩⟩
    | next => exact False.elim hq'
    | brk => exact False.elim hq'
    | cont => exact False.elim hq'
theorem pe_make (M : Mk X.K C f) (F : FnOk X.prog X.w X.K X.mg X.base CX k f fd ps sp) (hr : Room (k + 1) X.A) (hg : Gl X x) (hm : X.mg x = some (.ref C)) (hb : Binds X.K fd ps ds) (hd : Vals dvs ds) (hx : Passes CX X E)
    (ha : PA X (e :: es) t) (hdb : (x == ("__debug__" : Str)) = false := by decide) (he : starEach (e :: es) X.env = (false, eval e X.env) :: starEach es X.env := by rfl) (hpl : (backTo pos (starEach es X.env)).any (·.1) = false := by rfl) :
    PE X (.Call (.Name x p) (e :: es) [] pos) (tMake C sp dvs E t) := by
  intro pins s σ H Q I h
  refine wpAny_Call_Name_kw (ld_glob I hg hm ?_ hdb)
  refine PySem.W.callWith_K (h₀ := X.base) I.ok.mod.kin M.kp (thn (ha pos pins s σ H _ I h) fun us s1 ⟨vs, H1, I1, r, q⟩ => ⟨I1.kIn, ?_⟩) he hpl
  exact run_make M F hr hb hd hx I1 r q
theorem pe_make0 (M : Mk X.K C f) (F : FnOk X.prog X.w X.K X.mg X.base CX k f fd ps sp) (hr : Room (k + 1) X.A) (hg : Gl X x) (hm : X.mg x = some (.ref C)) (hb : Binds X.K fd ps ds) (hd : Vals dvs ds) (hx : Passes CX X E)
    (hdb : (x == ("__debug__" : Str)) = false := by decide) : PE X (.Call (.Name x p) [] [] pos) (tMake C sp dvs E tNil) := by
  intro pins s σ H Q I h
  refine wpAny_Call_Name_kw (ld_glob I hg hm ?_ hdb)
  exact PySem.W.callWith_K0 I.kIn M.kp (run_make (us := []) M F hr hb hd hx I .nil h)
end

/-! ### keywords -/
/-- the values of the keywords, from the left -/
def PK (X : Cx) (kws : List Keyword) (t : TA) : Prop :=
  ∀ (pos : Pos) (pins : List (Addr × Obj)) (s : Shared) (σ : St) (H : Hp) (Q : List V → Hp → Prop), Inv X pins σ H s → t σ H Q → wpAny (model X.prog X.w) X.A (evalAll ((backToKw pos (keywordEach kws X.env)).map (·.2))) (AP X pins σ Q) X.xe s
section
variable {X : Cx} {CX : CXT} {k : Nat} {f C : Addr} {fd : FuncData} {ps ks : List Str} {sp : Sp} {E : XK} {x m : Str} {p pos apos kpos : Pos} {e o : Expr} {es : List Expr} {kws : List Keyword} {te ta : TE} {t tk : TA} {nm : Option Str}
/-- how a call with keywords binds: g puts the positional values us and the keywords' values ws (names ks) in the parameters' order, defaults among them -/
structure KBinds (K : PySem.W.Frag) (fd : FuncData) (ps ks : List Str) (g : List Value → List Value → List Value) (gV : List V → List V → List V) : Prop where
  to : ∀ (s : Shared) (us ws : List Value), K.In s.heap → (g us ws).length = ps.length → BindsTo s fd ⟨us, ks.zip ws⟩ (ps.zip (g us ws))
  rel : ∀ {vs : List V} {us : List Value} {zs : List V} {ws : List Value}, Vals vs us → Vals zs ws → Vals (gV vs zs) (g us ws)
def tCallK (sp : Sp) (gV : List V → List V → List V) (E : XK) (t tk : TA) : TE := fun σ H Q => t σ H fun vs H1 => tk σ H1 fun zs H2 => sp (gV vs zs) H2 Q E
variable {g : List Value → List Value → List Value} {gV : List V → List V → List V}
end

/-! ### a def's body keeps its promise -/
/-- names: the parameters first -/
structure FnScope (N P : List Str) (sc : Scope) : Prop where
  kind : sc.kind = .function
  co : sc.isCoroutine = false
  gen : sc.isGenerator = false
  nd : N.Nodup
  pre : N.take P.length = P
  par : ∀ x ∈ P, sc.names.lookup x = some .local ∨ sc.names.lookup x = some .cell
  nofree : ∀ y ∈ sc.names, y.2 ≠ .free

theorem bindL_out {kindOf : Str → Option NameKind} {x : Str} : ∀ {binds : List (Str × Value)} {m : Str → Option Value}, (∀ v, (x, v) ∉ binds) → bindL kindOf binds m x = m x
  | [], _, _ => rfl
  | (n, v) :: r, m, h => by
    unfold bindL
    rw [bindL_out fun w hw => h w (List.mem_cons_of_mem _ hw)]
    split
    · have : x ≠ n := by rintro rfl; exact h v List.mem_cons_self
      simp [this]
    · rfl
theorem bindC_out {kindOf : Str → Option NameKind} {x : Str} : ∀ {binds : List (Str × Value)} {m : Str → Option Value}, (∀ v, (x, v) ∉ binds) → bindC kindOf binds m x = m x
  | [], _, _ => rfl
  | (n, v) :: r, m, h => by
    unfold bindC
    rw [bindC_out fun w hw => h w (List.mem_cons_of_mem _ hw)]
    split
    · rfl
    · have : x ≠ n := by rintro rfl; exact h v List.mem_cons_self
      simp [this]
theorem bindL_get {kindOf : Str → Option NameKind} {x : Str} {v : Value} : ∀ {P : List Str} {vs : List Value} {i : Nat} {m : Str → Option Value}, P.Nodup → P[i]? = some x → vs[i]? = some v → kindOf x = some .local →
    bindL kindOf (P.zip vs) m x = some v
  | [], _, _, _, _, h, _, _ => by simp at h
  | _ :: _, [], _, _, _, _, h, _ => by simp at h
  | p :: P, w :: vs, 0, m, nd, h1, h2, hk => by
    simp at h1 h2; subst h1; subst h2
    show bindL kindOf ((p, w) :: P.zip vs) m p = _
    unfold bindL
    rw [bindL_out fun v hv => (List.nodup_cons.mp nd).1 (List.of_mem_zip hv).1, if_pos hk]
    simp
  | p :: P, w :: vs, i + 1, m, nd, h1, h2, hk => by
    show bindL kindOf ((p, w) :: P.zip vs) m x = _
    unfold bindL
    exact bindL_get (i := i) (List.nodup_cons.mp nd).2 (by simpa using h1) (by simpa using h2) hk
theorem bindC_get {kindOf : Str → Option NameKind} {x : Str} {v : Value} : ∀ {P : List Str} {vs : List Value} {i : Nat} {m : Str → Option Value}, P.Nodup → P[i]? = some x → vs[i]? = some v → kindOf x ≠ some .local →
    bindC kindOf (P.zip vs) m x = some v
  | [], _, _, _, _, h, _, _ => by simp at h
  | _ :: _, [], _, _, _, _, h, _ => by simp at h
  | p :: P, w :: vs, 0, m, nd, h1, h2, hk => by
    simp at h1 h2; subst h1; subst h2
    show bindC kindOf ((p, w) :: P.zip vs) m p = _
    unfold bindC
    rw [bindC_out fun v hv => (List.nodup_cons.mp nd).1 (List.of_mem_zip hv).1, if_neg hk]
    simp
  | p :: P, w :: vs, i + 1, m, nd, h1, h2, hk => by
    show bindC kindOf ((p, w) :: P.zip vs) m x = _
    unfold bindC
    exact bindC_get (i := i) (List.nodup_cons.mp nd).2 (by simpa using h1) (by simpa using h2) hk

/-- the names' values at the entry -/
def start (N : List Str) (vs : List V) : St := vs.map some ++ List.replicate (N.length - vs.length) none

/-- the context of a def's body, at its entry; an exception leaves the frame, then lies as CX says -/
def cxOf (CX : CXT) (P : Program) (w : World) (K : PySem.W.Frag) (mg : Str → Option Value) (base : Heap) (N : List Str) (qual : Str) (scope : Scope) (f : Addr) (cd : Value) (A : Around) (outer : List Env) (s : Shared) (H : Hp) (E : XK) : Cx where
  prog := P
  w := w
  K := K
  mg := mg
  base := base
  A := A.deeper (envOfC qual scope s.heap.objs.size f cd)
  N := N
  s₀ := s
  H₀ := H
  env := envOfC qual scope s.heap.objs.size f cd
  outer := outer
  stack := envOfC qual scope s.heap.objs.size f cd :: outer
  ex := []
  calm := true
  fn := fun _ => true
  pn := []
  xe := fun e s' => wpAny (model P w) (A.deeper (envOfC qual scope s.heap.objs.size f cd)) (leaving (envOfC qual scope s.heap.objs.size f cd) e) (fun _ s'' => CX outer H s E e s'') (fun e' s'' => CX outer H s E e' s'') s'

theorem cell_has {sc : Scope} {n : Nat} {x : Str} (h : sc.names.lookup x = some .cell) : ∃ c, (cellsFrom n sc.names []).lookup x = some c := by
  have q := PySem.W.cellsFrom_some sc.names n [] (.inl h)
  exact Option.isSome_iff_exists.mp q

theorem inv_start {CX : CXT} {P : Program} {w : World} {K : PySem.W.Frag} {mg : Str → Option Value} {base : Heap} {N ps : List Str} {qual : Str} {scope : Scope} {f : Addr} {cd : Value} {A : Around} {outer : List Env} {s s1 : Shared} {H : Hp} {E : XK} {us : List Value} {vs : List V}
    (S : FnScope N ps scope) (hd : A.handled = none) (e0 : Env0 P w K mg base A outer s H) (hl : vs.length = ps.length) (r : Vals vs us)
    (x : InCallC s s.heap.objs.size (bindL (envOfC qual scope s.heap.objs.size f cd).kindOf (ps.zip us) fun _ => none) (cellsFrom (s.heap.objs.size + 1) scope.names []) (bindC (envOfC qual scope s.heap.objs.size f cd).kindOf (ps.zip us) fun _ => none) s1) :
    Inv (cxOf CX P w K mg base N qual scope f cd A outer s H E) [] (start N vs) H s1 := by
  have hpl : ps.length ≤ N.length := by have := congrArg List.length S.pre; rw [List.length_take] at this; omega
  obtain ⟨h1, tk, rfl, hk⟩ := x.done
  have noA : ∀ b : Addr, b ∉ (cxOf CX P w K mg base N qual scope f cd A outer s H E).ex := fun b z => absurd (show b ∈ ([] : List Addr) from z) (by simp)
  refine ⟨⟨e0.mod, S.kind, rfl, rfl, Nat.le_refl _, fun y z c h1 h2 => ?_, fun y hy => ?_, fun y c _ h => ?_, fun _ => hd, Around.frames_deeper e0.frames, .inr ⟨rfl, rfl⟩, fun b z => absurd z (noA b), e0.bs, e0.bsz, fun b _ _ => noA b, fun b z => absurd z (noA b), e0.funs, e0.frf⟩,
    rfl, e0.bare, Un.kept hk, ⟨_, x.toInCall.ns, fun i y v h1 h2 h3 => ?_⟩, fun y c h => ⟨_, x.cell y c h⟩, e0.hok.fresh (Nat.le_refl _), fun y c h => ?_, fun p hp => absurd (show p ∈ ([] : List (Addr × Obj)) from hp) (by simp), e0.hok.kept hk, ?_⟩
  · exact name_of_addr x.apart (PySem.mem_of_lookup h1) (PySem.mem_of_lookup h2)
  · have hy : scope.names.lookup y = some .cell ∨ scope.names.lookup y = some .free := hy
    rcases hy with hy | hy
    · exact cell_has hy
    · exact absurd rfl (S.nofree _ (PySem.mem_of_lookup hy))
  · exact Nat.le_of_lt (x.above y c (PySem.mem_of_lookup h))
  · have hi : i < vs.length := by
      unfold start at h2
      by_cases hi : i < vs.length
      · exact hi
      · rw [List.getElem?_append_right (by simpa using hi)] at h2
        rw [List.getElem?_replicate] at h2
        split at h2 <;> cases h2
    have ha : vs[i]? = some v := by
      unfold start at h2
      rw [List.getElem?_append_left (by simpa using hi), List.getElem?_map] at h2
      cases e : vs[i]? with
      | none => rw [e] at h2; cases h2
      | some a => rw [e] at h2; cases h2; rfl
    obtain ⟨u, hu, rv⟩ := r.get ha
    have hp : ps[i]? = some y := by
      rw [← S.pre, List.getElem?_take_of_lt (by omega)]; exact h1
    have ndP : ps.Nodup := by rw [← S.pre]; exact S.nd.sublist (List.take_sublist _ _)
    refine ⟨u, rv, ?_⟩
    rcases S.par y (List.mem_of_getElem? hp) with k | k
    · exact .inl ⟨k, bindL_get ndP hp hu k⟩
    · obtain ⟨c, e⟩ := cell_has (n := s.heap.objs.size + 1) k
      refine .inr ⟨.inl k, c, e, ?_⟩
      have q := x.cell y c e
      rw [bindC_get ndP hp hu (by show scope.names.lookup y ≠ _; rw [k]; decide)] at q
      exact q
  · exact e0.hok.fresh (Nat.le_of_lt (x.above y c (PySem.mem_of_lookup h)))
  · unfold start
    show _ = N.length
    rw [List.length_append, List.length_map, List.length_replicate]
    omega

/-- THE RULE: a def (or a method) of the text, by its body. The body's reading t is chosen for each entry; it is run at the parameters' values -/
theorem fn_of {CX : CXT} {P : Program} {w : World} {K : PySem.W.Frag} {mg : Str → Option Value} {base : Heap} {k : Nat} {f : Addr} {name qual : Str} {params : Arguments} {body : List Stmt} {scope : Scope} {dV kV doc pm cdv ct oc : Value} {an od : Option Addr}
    {osl : Array (Option Value)} {N ps : List Str} {sp : Sp} (lk : K.lookup f = some ⟨oc, od, .func (PySem.W.fnOf name qual params body scope dV kV doc pm an cdv ct), osl⟩) (hcd : PySem.W.codeIn K cdv qual = true) (S : FnScope N ps scope)
    (len : ∀ vs H Q E, sp vs H Q E → vs.length = ps.length)
    (hbody : ∀ (A : Around) (outer : List Env) (s : Shared) (H : Hp) (vs : List V) (Q : VK) (E : XK), Room k (A.deeper (envOfC qual scope s.heap.objs.size f cdv)) → sp vs H Q E →
      ∃ t, PSs (cxOf CX P w K mg base N qual scope f cdv A outer s H E) body t ∧ t { nx := fun _ H' => Q .non H', rt := Q } (start N vs) H) :
    FnOk P w K mg base CX (k + 1) f (PySem.W.fnOf name qual params body scope dV kV doc pm an cdv ct) ps sp := by
  refine ⟨len, fun A outer s H args us vs Q E hr e0 hb r hsp => ?_⟩
  have hl := len _ _ _ _ hsp
  have KX : K.In s.heap := e0.mod.kin.keeps fun b o e => (e0.bs b o e).1
  have lim : s.heap.NoLimit := e0.mod.nolimit.keeps fun b o e => (e0.bs b o e).1
  have hkind : ∀ y ∈ ps.zip us, scope.names.lookup y.1 = some .local ∨ (scope.names.lookup y.1 = some .cell ∧ ((cellsFrom (s.heap.objs.size + 1) scope.names []).lookup y.1).isSome = true) := fun ⟨n, v⟩ hy => by
    rcases S.par n (List.of_mem_zip hy).1 with q | q
    · exact .inl q
    · exact .inr ⟨q, PySem.W.cellsFrom_some _ _ _ (.inl q)⟩
  refine codeAny_call_function hr.depth (KX _ _ lk) rfl S.co S.gen rfl (PySem.W.codeRec_of KX hcd) (hb _ _ _ _ ?_)
  refine wpAny_newFunctionEnv_cells S.kind hkind fun env he s1 x => ?_
  subst he
  refine ⟨lim.keeps x.toInCall.keep, codeAny_func ?_⟩
  obtain ⟨t, ht, hq⟩ := hbody A outer s H vs Q E (hr.deeper _) hsp
  have I : Inv (cxOf CX P w K mg base N qual scope f cdv A outer s H E) [] (start N vs) H s1 := inv_start S hr.hd e0 hl r x
  refine wpAny_mono (ht [] s1 (start N vs) H _ I hq) (fun fl s' hs => ?_) fun e s' hs => hs
  have fin : ∀ {σ' : St} {H' : Hp} {v : V} {u : Value}, Inv (cxOf CX P w K mg base N qual scope f cdv A outer s H E) [] σ' H' s' → RelV v u → Q v H' → CE outer P w H s Q u s' :=
    fun {σ' H' v u} J rv q => ⟨v, H', J.os, J.bare, J.base, J.hok, rv, q⟩
  cases fl with
  | ret u =>
    obtain ⟨v, σ', H', J, rv, q⟩ := hs
    exact fin J rv q
  | next =>
    obtain ⟨σ', H', J, q⟩ := hs
    exact fin (v := V.non) (u := Value.none) J rfl q
  | brk =>
    obtain ⟨_, _, _, q⟩ := hs
    exact False.elim q
  | cont =>
    obtain ⟨_, _, _, q⟩ := hs
    exact False.elim q
end L2

namespace L2
open PySem PySem.Spec PyProof.Rows
section
variable {X : Cx} {x : Str} {p pos : Pos} {e : Expr} {es : List Expr} {t : TA} {id T : String} {r : List V → Hp → VK → Prop}

def tCB (r : List V → Hp → VK → Prop) (t : TA) : TE := fun σ H Q => t σ H fun vs H1 => r vs H1 Q
/-- f(e, ..), f a built-in function -/
theorem pe_callB (hc : CallR X (.builtin id) r) (hg : Gl X x) (hm : X.mg x = none) (hv : bootBuiltins x = some (.builtin id)) (ha : PA X (e :: es) t) (hn : x ≠ "__name__" := by decide) (hdb : (x == ("__debug__" : Str)) = false := by decide)
    (he : starEach (e :: es) X.env = (false, eval e X.env) :: starEach es X.env := by rfl) (hpl : (backTo pos (starEach es X.env)).any (·.1) = false := by rfl) : PE X (.Call (.Name x p) (e :: es) [] pos) (tCB r t) := by
  intro pins s σ H Q I h
  refine wpAny_Call_Name_kw (ld_blt I hg hm hv ?_ hn hdb)
  exact PyProof.Rows.callWith_builtin1 (thn (ha pos pins s σ H _ I h) fun us s1 ⟨vs, H1, I1, r1, q1⟩ => hc pins s1 σ H1 vs us Q I1 r1 q1) he hpl
end
end L2

namespace HT
open PySem PyProof.Rows

/-- t < u of tuples of ints -/
def lexLt : List Int → List Int → Bool
  | [], [] => false
  | [], _ :: _ => true
  | _ :: _, [] => false
  | x :: xs, y :: ys => if x = y then lexLt xs ys else decide (x < y)
section
open PySem.SeqAt
open PySem.AutoSeq1 (wpAny_loadPart')
open PySem.MeetsSeq PySem.MeetsSeq2 PySem.MeetsSeq3

end

section
variable {prog : Program} {w : World} {A : Around} {E : Value → Shared → Prop} {s : Shared}

/-! ### t[a:b], not the whole -/
/-- a slice's bound as a place among n (d where it is left out) -/
def sIx (n d : Nat) : Option Int → Nat
  | none => d
  | some v => if v < 0 then (v + (n : Int)).toNat else min v.toNat n
theorem sIx_le (n d : Nat) (hd : d ≤ n) (o : Option Int) : sIx n d o ≤ n := by
  cases o with
  | none => exact hd
  | some v =>
    show (if v < 0 then (v + (n : Int)).toNat else min v.toNat n) ≤ n
    by_cases hv : v < 0
    · rw [if_pos hv]; omega
    · rw [if_neg hv]; exact Nat.min_le_right _ _
theorem clip_eq (v : Int) (n d : Nat) : (if v < 0 then max (v + (n : Int)) 0 else min v (n : Int)) = ((sIx n d (some v) : Nat) : Int) := by
  show (if v < 0 then max (v + (n : Int)) 0 else min v (n : Int)) = (((if v < 0 then (v + (n : Int)).toNat else min v.toNat n) : Nat) : Int)
  by_cases hv : v < 0
  · simp only [if_pos hv]; omega
  · simp only [if_neg hv]; omega
theorem adjust_gen (lo hi : Option Int) (n : Nat) : Builtin.Slice.sliceAdjust lo hi 1 (n : Int) = (((sIx n 0 lo : Nat) : Int), ((sIx n n hi : Nat) : Int)) := by
  have h1 : ¬ ((1 : Int) < 0) := by omega
  unfold Builtin.Slice.sliceAdjust
  simp only [h1, if_false]
  refine Prod.ext ?_ ?_
  · cases lo with
    | none => rfl
    | some v => exact clip_eq v n 0
  · cases hi with
    | none => rfl
    | some v => exact clip_eq v n n
theorem places_gen (i j : Nat) : Builtin.Slice.slicePlaces (i : Int) (j : Int) 1 = j - i := by
  unfold Builtin.Slice.slicePlaces
  have h1 : (1 : Int) > 0 := by omega
  simp only [h1, if_true, Int.ediv_one]
  split <;> omega
theorem slicePart_ {v : Value} {o : Option Int} {Q : Option Int → Shared → Prop} (p : IsPart v o) (h : Q o s) : wpAny (model prog w) A (Builtin.Slice.slicePartIndex v) Q E s := by
  cases p with
  | none => exact slicePart_none h
  | int i t => exact slicePart_int h
theorem sliceApplied_gen {sl : Addr} {vl vu : Value} {lo hi : Option Int} {n : Nat} {Q : Int × Int × Nat → Shared → Prop} (hs : s.heap.IsSliceOf sl vl vu .none) (pl : IsPart vl lo) (pu : IsPart vu hi)
    (h : Q (((sIx n 0 lo : Nat) : Int), 1, sIx n n hi - sIx n 0 lo) s) : wpAny (model prog w) A (Builtin.Slice.sliceApplied (.ref sl) (pure (n : Int))) Q E s := by
  obtain ⟨os, hos, hcs, hds⟩ := id hs
  unfold Builtin.Slice.sliceApplied Builtin.Slice.sliceFields
  refine wpAny_bind (wpAny_bind (wpAny_field hos hds (x := vl) rfl (wpAny_bind (wpAny_field hos hds (x := vu) rfl (wpAny_bind (wpAny_field hos hds (x := .none) rfl (wpAny_pure ?_)))))))
  refine wpAny_bind (slicePart_none ?_)
  show wpAny _ _ (if ((1 : Int) == 0) = true then _ else _) _ _ s
  rw [if_neg (by decide)]
  refine wpAny_bind (slicePart_ pl (wpAny_bind (slicePart_ pu (wpAny_bind (wpAny_pure ?_)))))
  show wpAny _ _ (match Builtin.Slice.sliceAdjust lo hi 1 (n : Int) with | (lo, hi) => pure (lo, (1 : Int), Builtin.Slice.slicePlaces lo hi 1)) _ _ s
  rw [adjust_gen lo hi n]
  show wpAny _ _ (pure (((sIx n 0 lo : Nat) : Int), (1 : Int), Builtin.Slice.slicePlaces ((sIx n 0 lo : Nat) : Int) ((sIx n n hi : Nat) : Int) 1)) _ _ s
  rw [places_gen]
  exact wpAny_pure h
theorem pick_gen (xs : Array Value) (i k : Nat) : ((List.range k).filterMap fun (m : Nat) => xs[((i : Int) + (m : Int) * 1).toNat]?).toArray = ((xs.toList.drop i).take k).toArray := by
  have e : (fun (m : Nat) => xs[((i : Int) + (m : Int) * 1).toNat]?) = fun m => xs[i + m]? := by
    funext m
    have : ((i : Int) + (m : Int) * 1).toNat = i + m := by omega
    rw [this]
  rw [e]
  have := pick_run xs i k
  rw [List.filterMap_map] at this
  have e2 : ((fun x => xs[x]?) ∘ fun x => i + x) = fun m => xs[i + m]? := rfl
  rw [e2] at this
  rw [this]

theorem getItem_tuple_cut {t sl : Addr} {items : Array Value} {vl vu : Value} {lo hi : Option Int} {Q : Value → Shared → Prop} (ht : IsTup s.heap t items) (hs : s.heap.IsSliceOf sl vl vu .none) (pl : IsPart vl lo) (pu : IsPart vu hi)
    (hw : ¬ (sIx items.size 0 lo = 0 ∧ sIx items.size items.size hi = items.size))
    (h : Q (.ref s.heap.objs.size) { s with heap := s.heap.push { cls := .type "tuple", data := .seq ((items.toList.drop (sIx items.size 0 lo)).take (sIx items.size items.size hi - sIx items.size 0 lo)).toArray } })
    (hsz : items.size ≤ sizeLine) : wpAny (model prog w) A (getItem (.ref t) (.ref sl)) Q E s := by
  have htake : sizeOk (.seq ((items.toList.drop (sIx items.size 0 lo)).take (sIx items.size items.size hi - sIx items.size 0 lo)).toArray) := by
    show ((items.toList.drop (sIx items.size 0 lo)).take (sIx items.size items.size hi - sIx items.size 0 lo)).toArray.size ≤ sizeLine
    rw [List.size_toArray, List.length_take, List.length_drop, Array.length_toList]
    omega
  have hj : sIx items.size items.size hi ≤ items.size := sIx_le _ _ (Nat.le_refl _) hi
  obtain ⟨os, hos, hcs, hds⟩ := id hs
  have hTs : s.TypeIs (.ref sl) "slice" := ⟨os, hos, hcs⟩
  unfold getItem
  try with_reducible refine wpAny_holding ?_
  first | refine wpAny_bind (wpAny_pure ?_) | skip
  refine wpAny_bind (wpAny_sequenceKey ht.typeIs (by decide) ?_)
  refine wpAny_bind (wpAny_callSpecial?_slot (name := Str.ofString "__getitem__") ht.typeIs PyProof.Rows.slot_tuple_getitem
    (wpAny_call_entry PyProof.Rows.slot_tuple_getitem ht.typeIs entry_tuple_getitem ?_ (args_tuple_getitem _ _)))
  show wpAny _ _ (Builtin.Tuple.tupleItemsOf (.ref t) >>= _) _ _ s
  refine wpAny_bind (tupleItemsOf_ ht ?_)
  refine wpAny_bind (wpAny_typeOf hTs ?_)
  rw [if_pos (by decide)]
  refine wpAny_bind (sliceApplied_gen hs pl pu ?_)
  have hno : ¬ ((((sIx items.size 0 lo : Nat) : Int) == 0 && (1 : Int) == 1 && (sIx items.size items.size hi - sIx items.size 0 lo) == items.size) = true) := by
    intro q
    rw [Bool.and_eq_true, Bool.and_eq_true] at q
    have q1 : ((sIx items.size 0 lo : Nat) : Int) = 0 := eq_of_beq q.1.1
    have q2 : sIx items.size items.size hi - sIx items.size 0 lo = items.size := eq_of_beq q.2
    exact hw ⟨by omega, by omega⟩
  show wpAny _ _ (if (((sIx items.size 0 lo : Nat) : Int) == 0 && (1 : Int) == 1 && (sIx items.size items.size hi - sIx items.size 0 lo) == items.size) = true then _ else _) _ _ s
  rw [if_neg hno, pick_gen]
  first
    | exact wpAny_bind (m := Builtin.Tuple.tupleExact _) (wpAny_newObj_type (wpAny_pure ⟨_, rfl, wpAny_pure h⟩) htake)
    | exact wpAny_bind (m := Builtin.Tuple.tupleExact _) (wpAny_newObj_type (wpAny_bind (wpAny_pure (wpAny_pure ⟨_, rfl, wpAny_pure h⟩))) htake)
    | exact wpAny_bind (wpAny_bind (m := Builtin.Tuple.tupleExact _) (wpAny_newObj_type (wpAny_pure (wpAny_pure ⟨_, rfl, wpAny_pure h⟩)) htake))
    | exact wpAny_bind (wpAny_bind (m := Builtin.Tuple.tupleExact _) (wpAny_newObj_type (wpAny_pure ⟨_, rfl, wpAny_pure h⟩) htake))
end
end HT

namespace L2
open PySem PySem.Spec PyProof.Rows

/-! ### the parts of a slice -/
abbrev TO := St → Hp → (Option Int → Hp → Prop) → Prop
/-- a slice's part (left out, or an int) -/
def PO (X : Cx) (e : Option Expr) (t : TO) : Prop :=
  ∀ (pins : List (Addr × Obj)) (s : Shared) (σ : St) (H : Hp) (Q : Option Int → Hp → Prop), Inv X pins σ H s → t σ H Q →
    wpAny (model X.prog X.w) X.A (evalPart e X.env) (fun u s' => ∃ o H', Inv X pins σ H' s' ∧ IsPart u o ∧ Q o H') X.xe s
def tNoPart : TO := fun _ H Q => Q none H
inductive tPartI (Q : (Option Int → Hp → Prop)) (x : V) (H1 : Hp) : Prop
  | mk (i : _) (h0_ : x = .int i) (h1_ : Q (some i) H1) : tPartI Q x H1
def tPart (t : TE) : TO := fun σ H Q => t σ H fun x H1 => tPartI Q x H1

section
variable {X : Cx} {e : Expr} {te : TE} {lo hi : Option Expr} {tl th : TO} {pos p2 : Pos}

theorem po_none : PO X none tNoPart := by
  intro pins s σ H Q I h
  rw [evalPart_none]
  exact wpAny_pure ⟨none, H, I, .none, h⟩
theorem po_some (h : PE X e te) : PO X (some e) (tPart te) := by
  intro pins s σ H Q I hw
  rw [evalPart_some]
  refine thn (h pins s σ H _ I hw) fun u s1 ⟨x, H1, I1, r1, q1⟩ => ?_
  obtain ⟨i, rfl, q⟩ := q1
  obtain ⟨t, rfl⟩ := r1
  exact ⟨some i, H1, I1, .int i t, q⟩

/-- what a slice of a value is, by values: the slice object stands at sl -/
def SlR (X : Cx) (r : V → Option Int → Option Int → Hp → VK → Prop) : Prop :=
  ∀ (pins : List (Addr × Obj)) (s : Shared) (σ : St) (H : Hp) (x : V) (v vl vu : Value) (lo hi : Option Int) (sl : Addr) (Q : VK), Inv X pins σ H s → RelV x v → s.heap.IsSliceOf sl vl vu .none → IsPart vl lo → IsPart vu hi → r x lo hi H Q →
    ∃ T id, typeLookup (.type T) "__getitem__" = pure (some (.builtin id)) ∧ s.TypeIs v T ∧ wpAny (model X.prog X.w) X.A (getItem v (.ref sl)) (EP X pins σ Q) X.xe s
theorem SlR.or {r r' : V → Option Int → Option Int → Hp → VK → Prop} (h : SlR X r) (h' : SlR X r') : SlR X (fun x lo hi H Q => r x lo hi H Q ∨ r' x lo hi H Q) := by
  intro pins s σ H x v vl vu lo hi sl Q I rx hs pl pu q
  rcases q with q | q
  · exact h pins s σ H x v vl vu lo hi sl Q I rx hs pl pu q
  · exact h' pins s σ H x v vl vu lo hi sl Q I rx hs pl pu q
def tSl (r : V → Option Int → Option Int → Hp → VK → Prop) (te : TE) (tl th : TO) : TE := fun σ H Q => te σ H fun x H1 => tl σ H1 fun l H2 => th σ H2 fun u H3 => r x l u H3 Q
/-- a[lo:hi], any a -/
theorem pe_slice {r : V → Option Int → Option Int → Hp → VK → Prop} (hr : SlR X r) (he : PE X e te) (hl : PO X lo tl) (hu : PO X hi th) : PE X (.Subscript e (.Slice lo hi none p2) pos) (tSl r te tl th) := by
  intro pins s σ H Q I h
  refine Subscript_ (thn (he pins s σ H _ I h) fun v s1 ⟨x, H1, I1, r1, q1⟩ => ?_)
  refine wpAny_Slice (thn (hl pins s1 σ H1 _ I1 q1) fun vl s2 ⟨l, H2, I2, pl, q2⟩ => thn (hu pins s2 σ H2 _ I2 q2) fun vu s3 ⟨u, H3, I3, pu, q3⟩ => ?_)
  rw [evalPart_none]
  refine wpAny_pure ?_
  have I4 : Inv X pins σ H3 { s3 with heap := s3.heap.push { cls := .type "slice", data := .fields #[vl, vu, .none] } } := I3.kept (t' := s3.toks) fun b ob q => Heap.get?_push_of_some _ q
  obtain ⟨T, id, hT, ht, hg⟩ := hr pins { s3 with heap := s3.heap.push { cls := .type "slice", data := .fields #[vl, vu, .none] } } σ H3 x v vl vu l u s3.heap.objs.size Q I4 r1 (Heap.IsSliceOf.new ..) pl pu q3
  show wpAny (model X.prog X.w) X.A (subscriptTail e (.Slice lo hi none p2) v (.ref s3.heap.objs.size)) (EP X pins σ Q) X.xe { s3 with heap := s3.heap.push { cls := .type "slice", data := .fields #[vl, vu, .none] } }
  exact tail_any (ops := [.ref s3.heap.objs.size, v]) ht hT hg (by with_unfolding_all rfl)

/-- the items of xs[lo:hi] -/
def cutV (xs : List V) (lo hi : Option Int) : List V := (xs.drop (HT.sIx xs.length 0 lo)).take (HT.sIx xs.length xs.length hi - HT.sIx xs.length 0 lo)
theorem cutV_length (xs : List V) (lo hi : Option Int) : (cutV xs lo hi).length ≤ xs.length := by
  unfold cutV
  rw [List.length_take, List.length_drop]
  omega
/-- t[lo:hi], not the whole of it (the whole would be t itself) -/
inductive rSlTI (K : PySem.W.Frag) (x : V) (lo : Option Int) (hi : Option Int) (H : Hp) (Q : VK) : Prop
  | mk (a : _) (xs : _) (h0_ : x = .ref a) (h1_ : SqT K H a xs) (h2_ : ¬ (HT.sIx xs.length 0 lo = 0 ∧ HT.sIx xs.length xs.length hi = xs.length)) (h3_ : ∀ p, H p = none → Q (.ref p) (upd H p (.tup (cutV xs lo hi)))) : rSlTI K x lo hi H Q
def rSlT (K : PySem.W.Frag) : V → Option Int → Option Int → Hp → VK → Prop := fun x lo hi H Q => rSlTI K x lo hi H Q
theorem sl_tup : SlR X (rSlT X.K) := by
  intro pins s σ H x v vl vu lo hi sl Q I rx hs pl pu h
  obtain ⟨a, xs, rfl, hx, hw, q⟩ := h
  cases rx
  obtain ⟨its, r, ht, hz⟩ := I.tuple hx
  have hlen : its.toArray.size = xs.length := by rw [List.size_toArray]; exact r.length.symm
  refine ⟨"tuple", _, PyProof.Rows.slot_tuple_getitem.lookup, ht.typeIs, ?_⟩
  refine HT.getItem_tuple_cut ht hs pl pu (by rw [hlen]; exact hw) ?_ (by rw [hlen]; exact hz)
  rw [hlen]
  refine ⟨.ref s.heap.objs.size, _, I.laid (t' := s.toks) (o := .tup (cutV xs lo hi)) (fun b ob q => Heap.get?_push_of_some _ q) (Nat.le_refl _) ?_, rfl, q _ (I.hok.fresh (Nat.le_refl _))⟩
  exact ⟨Nat.le_trans (cutV_length xs lo hi) hz, _, (r.drop (HT.sIx xs.length 0 lo)).take (HT.sIx xs.length xs.length hi - HT.sIx xs.length 0 lo), IsTup.new _ _⟩

/-! ### t < u, t + u -/
def rLtT (K : PySem.W.Frag) : R2 := fun x y H Q => ∃ a b ns ms, x = .ref a ∧ y = .ref b ∧ SqT K H a (ns.map V.int) ∧ SqT K H b (ms.map V.int) ∧ Q (.bl (HT.lexLt ns ms)) H
/-- t + u, t not empty: u empty gives t itself -/
def rCatT (K : PySem.W.Frag) : R2 := fun x y H Q => ∃ a b xs ys, x = .ref a ∧ y = .ref b ∧ SqT K H a xs ∧ SqT K H b ys ∧ xs ≠ [] ∧ xs.length + ys.length ≤ sizeLine ∧
  (ys = [] → Q (.ref a) H) ∧ (ys ≠ [] → ∀ p, H p = none → Q (.ref p) (upd H p (.tup (xs ++ ys))))
end
end L2

namespace L2
open PySem PySem.Spec PyProof.Rows

/-! ### places -/
/-- the place that an index of any sign means -/
def ixN (n : Nat) (i : Int) : Option Nat := if 0 ≤ i then (if i < n then some i.toNat else none) else if -(n : Int) ≤ i then some (i + n).toNat else none
def atI {α : Type} (xs : List α) (i : Int) : Option α := (ixN xs.length i).bind fun j => xs[j]?
theorem ixN_seq {n : Nat} {i : Int} {j : Nat} (h : ixN n i = some j) : seqIndex? i n = some j ∧ j < n ∧ -(n : Int) ≤ i ∧ i < n := by
  unfold ixN at h
  by_cases h0 : 0 ≤ i
  · rw [if_pos h0] at h
    by_cases h1 : i < n
    · rw [if_pos h1] at h
      have e : i.toNat = j := Option.some.inj h
      exact ⟨by rw [seqIndex_of h0 h1, e], by omega, by omega, h1⟩
    · rw [if_neg h1] at h; cases h
  · rw [if_neg h0] at h
    by_cases h1 : -(n : Int) ≤ i
    · rw [if_pos h1] at h
      have e : (i + n).toNat = j := Option.some.inj h
      exact ⟨by rw [seqIndex_neg (by omega) h1, e], by omega, h1, by omega⟩
    · rw [if_neg h1] at h; cases h
theorem atI_get {α : Type} {xs : List α} {i : Int} {v : α} (h : atI xs i = some v) : ∃ j, seqIndex? i xs.length = some j ∧ xs[j]? = some v ∧ j < xs.length ∧ -(xs.length : Int) ≤ i ∧ i < xs.length := by
  unfold atI at h
  cases e : ixN xs.length i with
  | none => rw [e] at h; cases h
  | some j =>
    rw [e] at h
    obtain ⟨h1, h2, h3, h4⟩ := ixN_seq e
    exact ⟨j, h1, h, h2, h3, h4⟩
theorem atI_nat {α : Type} {xs : List α} {j : Nat} {v : α} (h : xs[j]? = some v) : atI xs (j : Int) = some v := by
  have hj : j < xs.length := (List.getElem?_eq_some_iff.mp h).1
  have e : ixN xs.length (j : Int) = some j := by
    unfold ixN
    rw [if_pos (by omega), if_pos (by omega)]; simp
  unfold atI; rw [e]; exact h
/-! ### what may be subscripted -/
/-- what stands as an index of a plain subscript -/
def PlainIx (b : Expr) : Prop := ∀ o i, subscripted b false o i = operate [o, i] (getItem o i)
/-- a subscript by values -/
def IxR (X : Cx) (r : R2) : Prop :=
  ∀ (value slice : Expr) (pins : List (Addr × Obj)) (s : Shared) (σ : St) (H : Hp) (x y : V) (v u : Value) (Q : VK), Inv X pins σ H s → RelV x v → RelV y u → r x y H Q →
    subscripted slice false v u = operate [v, u] (getItem v u) → wpAny (model X.prog X.w) X.A (subscriptTail value slice v u) (EP X pins σ Q) X.xe s
/-- a call of a builtin's method by values: the receiver, the arguments -/
def MtR (X : Cx) (id : String) (r : V → List V → Hp → VK → Prop) : Prop :=
  ∀ (pins : List (Addr × Obj)) (s : Shared) (σ : St) (H : Hp) (x : V) (xs : List V) (v : Value) (us : List Value) (Q : VK), Inv X pins σ H s → RelV x v → Vals xs us → r x xs H Q →
    wpAny (model X.prog X.w) X.A (call (.builtin id) (v :: us)) (EP X pins σ Q) X.xe s
section
variable {X : Cx} {a b : Expr} {ta tb : TE} {pos : Pos}
theorem IxR.or {r r' : R2} (h : IxR X r) (h' : IxR X r') : IxR X (fun x y H Q => r x y H Q ∨ r' x y H Q) := by
  intro value slice pins s σ H x y v u Q I rx ry q hs
  rcases q with q | q
  · exact h value slice pins s σ H x y v u Q I rx ry q hs
  · exact h' value slice pins s σ H x y v u Q I rx ry q hs
/-- a[b] -/
theorem pe_ix {r : R2} (hr : IxR X r) (ha : PE X a ta) (hb : PE X b tb) (hs : PlainIx b) : PE X (.Subscript a b pos) (tOp r ta tb) := by
  intro pins s σ H Q I h
  exact Subscript_ (binT ha hb I h fun v u s2 x y H2 I2 rx ry q => hr a b pins s2 σ H2 x y v u Q I2 rx ry q (hs _ _))

inductive rIxLI (K : PySem.W.Frag) (x : V) (y : V) (H : Hp) (Q : VK) : Prop
  | mk (p : _) (xs : _) (i : _) (v : _) (h0_ : x = .ref p) (h1_ : y = .int i) (h2_ : SqL K H p xs) (h3_ : atI xs i = some v) (h4_ : Q v H) : rIxLI K x y H Q
def rIxL (K : PySem.W.Frag) : R2 := fun x y H Q => rIxLI K x y H Q
inductive rIxTI (K : PySem.W.Frag) (x : V) (y : V) (H : Hp) (Q : VK) : Prop
  | mk (p : _) (xs : _) (i : _) (v : _) (h0_ : x = .ref p) (h1_ : y = .int i) (h2_ : SqT K H p xs) (h3_ : atI xs i = some v) (h4_ : Q v H) : rIxTI K x y H Q
def rIxT (K : PySem.W.Frag) : R2 := fun x y H Q => rIxTI K x y H Q
inductive rIxSI (x : V) (y : V) (H : Hp) (Q : VK) : Prop
  | mk (z : _) (i : _) (c : _) (h0_ : x = .str z) (h1_ : y = .int i) (h2_ : z.length ≤ sizeLine) (h3_ : atI z.cps.toList i = some c) (h4_ : Q (.str ⟨#[c]⟩) H) : rIxSI x y H Q
def rIxS  : R2 := fun x y H Q => rIxSI x y H Q
theorem ix_list : IxR X (rIxL X.K) := by
  intro value slice pins s σ H x y v u Q I rx ry h hs
  obtain ⟨p, xs, i, z, rfl, rfl, hq, he, q⟩ := h
  cases rx
  obtain ⟨t, rfl⟩ := ry
  obtain ⟨its, r, pl, hz⟩ := I.list hq
  obtain ⟨j, h1, h2, h3, h4, h5⟩ := atI_get he
  obtain ⟨w, ew, rw'⟩ := r.get h2
  have hl := r.length
  have hn := line63
  have fin : EP X pins σ Q w s := ⟨z, H, I, rw', q⟩
  by_cases h0 : 0 ≤ i
  · have hj : i.toNat = j := by
      rw [seqIndex_of h0 h5] at h1
      exact Option.some.inj h1
    exact item_listR pl.isList h0 (by omega) (by rw [hj]; simpa using ew) fin hs
  · have hj : (i + (its.toArray.size : Int)).toNat = j := by
      rw [seqIndex_neg (by omega) h4] at h1
      rw [List.size_toArray, ← hl]
      exact Option.some.inj h1
    exact subscriptTail_builtinR (x := w) pl.isList.typeIs slot_list_getitem.lookup
      (wpAny_getItem_list_neg (Q := fun r s' => r = w ∧ EP X pins σ Q r s') pl.isList (by omega) (by rw [List.size_toArray] <;> omega) (by omega) (by rw [hj]; simpa using ew) ⟨rfl, fin⟩) hs
theorem ix_tup : IxR X (rIxT X.K) := by
  intro value slice pins s σ H x y v u Q I rx ry h hs
  obtain ⟨p, xs, i, z, rfl, rfl, hq, he, q⟩ := h
  cases rx
  obtain ⟨t, rfl⟩ := ry
  obtain ⟨its, r, pl, hz⟩ := I.tuple hq
  obtain ⟨j, h1, h2, h3, h4, h5⟩ := atI_get he
  obtain ⟨w, ew, rw'⟩ := r.get h2
  have hl := r.length
  have hn := line63
  have fin : EP X pins σ Q w s := ⟨z, H, I, rw', q⟩
  exact subscriptTail_builtinR (x := w) pl.typeIs slot_tuple_getitem.lookup
    (getItem_tuple (j := j) (Q := fun r s' => r = w ∧ EP X pins σ Q r s') pl (by omega) (by omega) (by rw [List.size_toArray, ← hl]; exact h1) (by simpa using ew) ⟨rfl, fin⟩) hs
theorem ix_str : IxR X rIxS := by
  intro value slice pins s σ H x y v u Q I rx ry h hs
  obtain ⟨z, i, c, rfl, rfl, hz, he, q⟩ := h
  obtain ⟨t, rfl⟩ := rx
  obtain ⟨t', rfl⟩ := ry
  obtain ⟨j, h1, h2, h3, h4, h5⟩ := atI_get he
  have hl : z.cps.toList.length = z.length := by simp [Str.length]
  rw [hl] at h1 h4 h5
  have hn := line63
  exact tail_any (typeIs_str s z t) slot_str_getitem.lookup (getItem_str (c := c) (by
    have e1 : decide (i < -(2 ^ 63 : Int)) = false := decide_eq_false (by omega)
    have e2 : decide (i ≥ 2 ^ 63) = false := decide_eq_false (by omega)
    rw [e1, e2, Bool.or_false]) (by rw [h1]; simpa using h2) ⟨.str ⟨#[c]⟩, H, I.tok _, ⟨_, rfl⟩, q⟩) hs
/-- list, tuple or str -/
def rIx (K : PySem.W.Frag) : R2 := fun x y H Q => rIxL K x y H Q ∨ rIxT K x y H Q ∨ rIxS x y H Q
theorem ix_seq : IxR X (rIx X.K) := ix_list.or (ix_tup.or ix_str)

/-! ### xs[i] = v, any sign -/
inductive rSetLI (o : V) (i : V) (v : V) (H : Hp) (Q : (Hp → Prop)) : Prop
  | mk (p : _) (xs : _) (k : _) (j : _) (h0_ : o = .ref p) (h1_ : i = .int k) (h2_ : H p = some (.lst xs)) (h3_ : ixN xs.length k = some j) (h4_ : Q (upd H p (.lst (xs.set j v)))) : rSetLI o i v H Q
def rSetL  : V → V → V → Hp → (Hp → Prop) → Prop := fun o i v H Q => rSetLI o i v H Q
/-! ### slices -/
theorem slice_bounds (lo hi : Option Int) (n : Nat) : (sliceBounds lo hi none n).1 = ((HT.sIx n 0 lo : Nat) : Int) ∧ (sliceBounds lo hi none n).2.1 = ((HT.sIx n n hi : Nat) : Int) ∧ (sliceBounds lo hi none n).2.2 = 1 := by
  refine ⟨?_, ?_, rfl⟩
  · cases lo with
    | none => simp [sliceBounds, HT.sIx]
    | some i =>
      simp only [sliceBounds, HT.sIx, Option.getD_none, show (1 : Int) > 0 by decide, if_true]
      by_cases h : i < 0
      · simp only [h, if_true] <;> omega
      · simp only [h, if_false] <;> omega
  · cases hi with
    | none => simp [sliceBounds, HT.sIx]
    | some i =>
      simp only [sliceBounds, HT.sIx, Option.getD_none, show (1 : Int) > 0 by decide, if_true]
      by_cases h : i < 0
      · simp only [h, if_true] <;> omega
      · simp only [h, if_false] <;> omega
theorem slicePick_cut (its : List Value) (lo hi : Option Int) : slicePick its.toArray lo hi none = ((its.drop (HT.sIx its.length 0 lo)).take (HT.sIx its.length its.length hi - HT.sIx its.length 0 lo)).toArray := by
  obtain ⟨h1, h2, h3⟩ := slice_bounds lo hi its.toArray.size
  unfold slicePick
  rw [h1, h2, h3]
  simp only [sliceRange_one, pick_run, List.size_toArray] <;> rfl
/-- xs[lo:hi] of a list: a new list -/
inductive rSlLI (K : PySem.W.Frag) (x : V) (lo : Option Int) (hi : Option Int) (H : Hp) (Q : VK) : Prop
  | mk (a : _) (xs : _) (h0_ : x = .ref a) (h1_ : SqL K H a xs) (h2_ : ∀ p, H p = none → Q (.ref p) (upd H p (.lst (cutV xs lo hi)))) : rSlLI K x lo hi H Q
def rSlL (K : PySem.W.Frag) : V → Option Int → Option Int → Hp → VK → Prop := fun x lo hi H Q => rSlLI K x lo hi H Q
theorem sl_list : SlR X (rSlL X.K) := by
  intro pins s σ H x v vl vu lo hi sl Q I rx hs pl pu h
  obtain ⟨a, xs, rfl, hx, q⟩ := h
  cases rx
  obtain ⟨its, r, ht, hz⟩ := I.list hx
  have hlen := r.length
  refine ⟨"list", _, slot_list_getitem.lookup, ht.isList.typeIs, ?_⟩
  refine wpAny_getItem_list_slice ht.isList hs pl pu .none (by simp) ?_ (by rw [List.size_toArray] <;> omega)
  rw [slicePick_cut, ← hlen]
  refine ⟨.ref s.heap.objs.size, _, I.laid (t' := s.toks) (o := .lst (cutV xs lo hi)) (fun b ob q => Heap.get?_push_of_some _ q) (Nat.le_refl _) ?_, rfl, q _ (I.hok.fresh (Nat.le_refl _))⟩
  exact ⟨Nat.le_trans (cutV_length xs lo hi) hz, _, 0, (r.drop (HT.sIx xs.length 0 lo)).take (HT.sIx xs.length xs.length hi - HT.sIx xs.length 0 lo), Heap.get?_push_size _ rfl⟩

/-! ### in, not in: flat items -/
def flatV : V → Bool
  | .non => true
  | .bl _ => true
  | .int _ => true
  | .str _ => true
  | _ => false
/-- == of flat values -/
def eqV : V → V → Bool
  | .non, .non => true
  | .bl a, .bl b => a == b
  | .bl a, .int b => (if a then 1 else 0) == b
  | .int a, .bl b => a == (if b then 1 else 0)
  | .int a, .int b => a == b
  | .str a, .str b => a == b
  | _, _ => false
theorem eqAt_V {A : Around} {s : Shared} {y x : V} {u v : Value} (ry : RelV y u) (rx : RelV x v) (fy : flatV y = true) (fx : flatV x = true) : SeqAt.EqAt A s u v (eqV y x) := by
  cases y with
  | non =>
    cases ry
    cases x with
    | non => cases rx; exact SeqAt.EqAt.same _
    | bl b => cases rx; exact SeqAt.EqAt.none_bool b
    | int b => obtain ⟨t, rfl⟩ := rx; exact SeqAt.EqAt.none_int b t
    | str b => obtain ⟨t, rfl⟩ := rx; exact SeqAt.EqAt.none_str b t
    | _ => exact absurd (show false = true from fx) Bool.false_ne_true
  | bl a =>
    cases ry
    cases x with
    | non => cases rx; exact SeqAt.EqAt.bool_none a
    | bl b => cases rx; exact SeqAt.EqAt.bool_bool a b
    | int b => obtain ⟨t, rfl⟩ := rx; exact SeqAt.EqAt.bool_int a b t
    | str b => obtain ⟨t, rfl⟩ := rx; exact SeqAt.EqAt.bool_str a b t
    | _ => exact absurd (show false = true from fx) Bool.false_ne_true
  | int a =>
    obtain ⟨t', rfl⟩ := ry
    cases x with
    | non => cases rx; exact SeqAt.EqAt.int_none a t'
    | bl b => cases rx; exact SeqAt.EqAt.int_bool a t' b
    | int b => obtain ⟨t, rfl⟩ := rx; exact SeqAt.EqAt.int_int a t' b t
    | str b => obtain ⟨t, rfl⟩ := rx; exact SeqAt.EqAt.int_str a t' b t
    | _ => exact absurd (show false = true from fx) Bool.false_ne_true
  | str a =>
    obtain ⟨t', rfl⟩ := ry
    cases x with
    | non => cases rx; exact SeqAt.EqAt.str_none a t'
    | bl b => cases rx; exact SeqAt.EqAt.str_bool a t' b
    | int b => obtain ⟨t, rfl⟩ := rx; exact SeqAt.EqAt.str_int a t' b t
    | str b => obtain ⟨t, rfl⟩ := rx; exact SeqAt.EqAt.str_str a t' b t
    | _ => exact absurd (show false = true from fx) Bool.false_ne_true
  | _ => exact absurd (show false = true from fy) Bool.false_ne_true
/-- the items' answers, read off the values (a value's own answer does not lean on its token) -/
def eqU (x : V) (u : Value) : Bool := match u with
  | .none => eqV .non x
  | .bool b => eqV (.bl b) x
  | .int i _ => eqV (.int i) x
  | .str z _ => eqV (.str z) x
  | _ => false
theorem eqU_of {x y : V} {u : Value} (r : RelV y u) (f : flatV y = true) : eqU x u = eqV y x := by
  cases y with
  | non => cases r; rfl
  | bl b => cases r; rfl
  | int i => obtain ⟨t, rfl⟩ := r; rfl
  | str z => obtain ⟨t, rfl⟩ := r; rfl
  | _ => exact absurd (show false = true from f) Bool.false_ne_true
theorem any_eqU {x : V} : ∀ {xs : List V} {us : List Value}, Vals xs us → xs.all flatV = true → us.any (eqU x) = xs.any fun y => eqV y x
  | _, _, .nil, _ => rfl
  | y :: xs, u :: us, .cons r t, f => by
    rw [List.all_cons, Bool.and_eq_true] at f
    rw [List.any_cons, List.any_cons, eqU_of r f.1, any_eqU t f.2]
theorem mem_eqAt {A : Around} {s : Shared} {x : V} {v : Value} (rx : RelV x v) (fx : flatV x = true) : ∀ {xs : List V} {us : List Value}, Vals xs us → xs.all flatV = true → ∀ u ∈ us, SeqAt.EqAt A s u v (eqU x u)
  | _, _, .nil, _ => fun u hu => by cases hu
  | y :: xs, u :: us, .cons r t, f => fun u' hu => by
    rw [List.all_cons, Bool.and_eq_true] at f
    rcases List.mem_cons.mp hu with rfl | hu
    · rw [eqU_of r f.1]; exact eqAt_V r rx f.1 fx
    · exact mem_eqAt rx fx t f.2 u' hu
def inV (x : V) (xs : List V) : Bool := xs.any fun y => eqV y x
/-- x in a list or tuple of flat items -/
inductive rInI (K : PySem.W.Frag) (neg : Bool) (x : V) (y : V) (H : Hp) (Q : VK) : Prop
  | mk (p : _) (xs : _) (h0_ : y = .ref p) (h1_ : (SqL K H p xs ∨ SqT K H p xs)) (h2_ : flatV x = true) (h3_ : xs.all flatV = true) (h4_ : Q (.bl (if neg then !inV x xs else inV x xs)) H) : rInI K neg x y H Q
def rIn (K : PySem.W.Frag) (neg : Bool) : R2 := fun x y H Q => rInI K neg x y H Q
theorem op_in_seq : OpR X (compareOp .In) (rIn X.K false) := by
  intro pins s σ H x y v u Q I rx ry h
  obtain ⟨p, xs, rfl, hq, fx, fs, q⟩ := h
  cases ry
  rcases hq with hq | hq
  · obtain ⟨its, r, pl, hz⟩ := I.list hq
    refine SeqAt.in_listAt (eqU x) pl.isList (fun w hw => mem_eqAt rx fx r fs w (by simpa using hw)) ⟨.bl _, H, I, rfl, ?_⟩
    rw [show its.toArray.any (eqU x) = its.any (eqU x) by simp, any_eqU r fs]
    exact q
  · obtain ⟨its, r, pl, hz⟩ := I.tuple hq
    refine SeqAt.in_tupleAt (eqU x) pl (fun w hw => mem_eqAt rx fx r fs w (by simpa using hw)) ⟨.bl _, H, I, rfl, ?_⟩
    rw [show its.toArray.any (eqU x) = its.any (eqU x) by simp, any_eqU r fs]
    exact q
theorem op_notIn_seq : OpR X (compareOp .NotIn) (rIn X.K true) := by
  intro pins s σ H x y v u Q I rx ry h
  obtain ⟨p, xs, rfl, hq, fx, fs, q⟩ := h
  cases ry
  rcases hq with hq | hq
  · obtain ⟨its, r, pl, hz⟩ := I.list hq
    refine SeqAt.notIn_listAt (eqU x) pl.isList (fun w hw => mem_eqAt rx fx r fs w (by simpa using hw)) ⟨.bl _, H, I, rfl, ?_⟩
    rw [show its.toArray.any (eqU x) = its.any (eqU x) by simp, any_eqU r fs]
    exact q
  · obtain ⟨its, r, pl, hz⟩ := I.tuple hq
    refine SeqAt.notIn_tupleAt (eqU x) pl (fun w hw => mem_eqAt rx fx r fs w (by simpa using hw)) ⟨.bl _, H, I, rfl, ?_⟩
    rw [show its.toArray.any (eqU x) = its.any (eqU x) by simp, any_eqU r fs]
    exact q
theorem op_notIn_str : OpR X (compareOp .NotIn) (fun x y H Q => ∃ i j, x = .str i ∧ y = .str j ∧ Q (.bl (!(!(Builtin.Str.occurrences j i 0 j.length 1).isEmpty))) H) := by
  intro pins s σ H x y v u Q I rx ry h
  obtain ⟨i, j, rfl, rfl, q⟩ := h
  obtain ⟨t, rfl⟩ := rx
  obtain ⟨t', rfl⟩ := ry
  exact notIn_str ⟨.bl _, H, I, rfl, q⟩

/-! ### len, list(x), tuple(x) of any list or tuple that is read -/
theorem call_len_seq : CallR X (.builtin "len") (fun xs H Q => ∃ p ys, xs = [.ref p] ∧ (SqL X.K H p ys ∨ SqT X.K H p ys) ∧ Q (.int ys.length) H) := by
  intro pins s σ H xs us Q I r h
  obtain ⟨p, ys, rfl, hq, q⟩ := h
  obtain ⟨u, rfl, rx⟩ := vals1 r
  cases rx
  have hn := line63
  rcases hq with hq | hq
  · obtain ⟨its, r', pl, hz⟩ := I.list hq
    have hlen := r'.length
    exact Calls.call_len_list pl.isList (by simp only [List.size_toArray] <;> omega) ⟨.int ys.length, H, I.tok _, ⟨s.toks + 1, by rw [List.size_toArray, hlen]⟩, q⟩
  · obtain ⟨its, r', pl, hz⟩ := I.tuple hq
    have hlen := r'.length
    exact len_tuple pl (by simp only [List.size_toArray] <;> omega) ⟨.int ys.length, H, I.tok _, ⟨s.toks + 1, by rw [List.size_toArray, hlen]⟩, q⟩
theorem call_len_str : CallR X (.builtin "len") (fun xs H Q => ∃ z, xs = [.str z] ∧ z.length ≤ sizeLine ∧ Q (.int z.length) H) := by
  intro pins s σ H xs us Q I r h
  obtain ⟨z, rfl, hz, q⟩ := h
  obtain ⟨u, rfl, t, rfl⟩ := vals1 r
  have hn := line63
  exact len_str (by omega) ⟨.int z.length, H, I.tok _, ⟨_, rfl⟩, q⟩
theorem CallR.or {f : Value} {r r' : List V → Hp → VK → Prop} (h : CallR X f r) (h' : CallR X f r') : CallR X f (fun xs H Q => r xs H Q ∨ r' xs H Q) := by
  intro pins s σ H xs us Q I rs q
  rcases q with q | q
  · exact h pins s σ H xs us Q I rs q
  · exact h' pins s σ H xs us Q I rs q
/-! ### the call of a builtin's method: o.m(..) -/
/-- the value is of that builtin type -/
def tyV (K : PySem.W.Frag) (T : String) (x : V) (H : Hp) : Prop := match x with
  | .str _ => T = "str"
  | .int _ => T = "int"
  | .ref p => (T = "list" ∧ ∃ xs, SqL K H p xs) ∨ (T = "tuple" ∧ ∃ o, K.lookup p = some o ∧ o.cls = .type "tuple" ∧ o.dict = none) ∨
      (T = "dict" ∧ ((∃ kvs, H p = some (.dK kvs)) ∨ ∃ kvs, H p = some (.dT kvs))) ∨ (T = "set" ∧ ∃ S n, H p = some (.set S n))
  | _ => False
theorem tyV_is {pins : List (Addr × Obj)} {σ : St} {H : Hp} {s : Shared} {T : String} {x : V} {v : Value} (I : Inv X pins σ H s) (r : RelV x v) (ty : tyV X.K T x H) :
    s.TypeIs v T ∧ ∀ a, v = .ref a → ∃ ob, s.heap.get? a = some ob ∧ ob.dict = none := by
  cases x with
  | str z =>
    obtain ⟨t, rfl⟩ := r
    cases (show T = "str" from ty)
    exact ⟨typeIs_str s z t, fun _ e => nomatch e⟩
  | int i =>
    obtain ⟨t, rfl⟩ := r
    cases (show T = "int" from ty)
    exact ⟨typeIs_int s i t, fun _ e => nomatch e⟩
  | ref p =>
    cases r
    rcases ty with ⟨rfl, xs, hq⟩ | ⟨rfl, o, hk, hc, hd⟩ | ⟨rfl, hk⟩ | ⟨rfl, S, n, hk⟩
    · obtain ⟨its, _, pl, _⟩ := I.list hq
      refine ⟨pl.isList.typeIs, fun a e => ?_⟩
      cases e
      obtain ⟨o, n, e, c, hd, _⟩ := pl
      exact ⟨o, e, hd⟩
    · refine ⟨⟨o, I.kIn p o hk, hc⟩, fun a e => ?_⟩
      cases e
      exact ⟨o, I.kIn _ o hk, hd⟩
    · have z : ∃ o, s.heap.get? p = some o ∧ o.ExactDict := by
        rcases hk with ⟨kvs, hk⟩ | ⟨kvs, hk⟩
        · obtain ⟨_, _, _, _, o, _, _, e, ex, _⟩ := I.hok p _ hk
          exact ⟨o, e, ex⟩
        · obtain ⟨_, _, _, _, o, _, _, e, ex, _⟩ := I.hok p _ hk
          exact ⟨o, e, ex⟩
      obtain ⟨o, e, ex⟩ := z
      refine ⟨⟨o, e, ex.1⟩, fun a e2 => ?_⟩
      cases e2
      exact ⟨o, e, ex.2.1⟩
    · obtain ⟨o, _, _, _, e, ex, _⟩ := I.hok p _ hk
      refine ⟨⟨o, e, ex.1⟩, fun a e2 => ?_⟩
      cases e2
      exact ⟨o, e, ex.2.1⟩
  | _ => exact False.elim ty
def tBM0 (K : PySem.W.Frag) (T : String) (r : V → List V → Hp → VK → Prop) (to : TE) : TE := fun σ H Q => to σ H fun x H1 => tyV K T x H1 ∧ r x [] H1 Q
def tBM (K : PySem.W.Frag) (T : String) (r : V → List V → Hp → VK → Prop) (to : TE) (t : TA) : TE := fun σ H Q => to σ H fun x H1 => tyV K T x H1 ∧ t σ H1 fun xs H2 => r x xs H2 Q
variable {o e : Expr} {es : List Expr} {to : TE} {t : TA} {name : Str} {apos cpos : Pos} {T id : String} {r : V → List V → Hp → VK → Prop}
theorem pe_bm0 (pa : PlainAttrs T) (slot : Slot T name id) (hty : typeOf (.builtin id) = pure (.type "method_descriptor")) (hm : MtR X id r) (ho : PE X o to)
    (hbase : attributeBase o name X.env (eval o X.env) = eval o X.env := by rfl) (hline : (apos.endLine == cpos.line) = true := by rfl) : PE X (.Call (.Attribute o name apos) [] [] cpos) (tBM0 X.K T r to) := by
  intro pins s σ H Q I h
  refine wpAny_Call_method0_late hbase hline (thn (ho pins s σ H _ I h) fun v s1 ⟨x, H1, I1, r1, ty, q1⟩ => ?_)
  obtain ⟨h1, h2⟩ := tyV_is I1 r1 ty
  exact ⟨T, id, pa, slot, hty, h1, h2, Calls.callWith_builtin rfl (PySem.evalArgs_none (hm pins s1 σ H1 x [] v [] Q I1 r1 .nil q1))⟩
theorem pe_bm (pa : PlainAttrs T) (slot : Slot T name id) (hty : typeOf (.builtin id) = pure (.type "method_descriptor")) (hm : MtR X id r) (ho : PE X o to) (ha : PA X (e :: es) t)
    (hbase : attributeBase o name X.env (eval o X.env) = eval o X.env := by rfl)
    (hfew : ((backTo cpos (starEach (e :: es) X.env)).all (fun x => !x.1) && (backToKw cpos (keywordEach [] X.env)).all (fun x => x.1.isSome)
      && decide ((e :: es).length + ([] : List Keyword).length + (if ([] : List Keyword).isEmpty then 0 else 1) < 30)) = true := by rfl)
    (hline : (apos.endLine == cpos.line) = true := by rfl) (hs : starEach (e :: es) X.env = (false, eval e X.env) :: starEach es X.env := by rfl) (hplain : (backTo cpos (starEach es X.env)).any (·.1) = false := by rfl) :
    PE X (.Call (.Attribute o name apos) (e :: es) [] cpos) (tBM X.K T r to t) := by
  intro pins s σ H Q I h
  refine wpAny_Call_method_late hbase hfew hline rfl (thn (ho pins s σ H _ I h) fun v s1 ⟨x, H1, I1, r1, ty, q1⟩ => ?_)
  obtain ⟨h1, h2⟩ := tyV_is I1 r1 ty
  refine ⟨T, id, pa, slot, hty, h1, h2, ?_⟩
  have hA := ha cpos pins s1 σ H1 _ I1 q1
  rw [hs] at hA ⊢
  refine Calls.callWith_builtin (by show (false || (backTo cpos (starEach es X.env)).any (·.1)) = false; rw [hplain] <;> rfl) (Calls.evalArgs_plain ?_)
  exact thn hA fun us s2 ⟨vs, H2, I2, r2, q2⟩ => hm pins s2 σ H2 x vs v us Q I2 r1 r2 q2
/- xs.append(e), list.index on a module's tuple .. are MtR facts of 06m -/
end
end L2

namespace L2
open PySem PySem.Spec PyProof.Rows

def MtM (X : Cx) (id : String) (r : V → List V → Hp → VK → Prop) : Prop :=
  ∀ (pins : List (Addr × Obj)) (s : Shared) (σ : St) (H : Hp) (x : V) (xs : List V) (v : Value) (us : List Value) (Q : VK), Inv X pins σ H s → RelV x v → Vals xs us → r x xs H Q →
    wpAny (model X.prog X.w) X.A (call (.builtin id) (v :: us)) (EP X pins σ Q) X.xe s

/-! ### lists of values -/
theorem Vals.one : ∀ {x : V} {us : List Value}, Vals [x] us → ∃ u, us = [u] ∧ RelV x u
  | _, _, .cons r .nil => ⟨_, rfl, r⟩
theorem Vals.two : ∀ {x y : V} {us : List Value}, Vals [x, y] us → ∃ u v, us = [u, v] ∧ RelV x u ∧ RelV y v
  | _, _, _, .cons r (.cons q .nil) => ⟨_, _, rfl, r, q⟩
theorem Vals.zero : ∀ {us : List Value}, Vals [] us → us = []
  | _, .nil => rfl
section
variable {X : Cx} {pins : List (Addr × Obj)} {σ : St} {H : Hp} {s : Shared} {l b : Addr} {xs ys zs : List V}

/-! ### the two steps: a tracked list is rewritten, a new list is laid -/
theorem Inv.lset {its its' : List Value} {n : Nat} {f : Array Value → Array Value} {t' : Nat} (I : Inv X pins σ H s) (hH : H l = some (.lst xs))
    (e : s.heap.get? l = some { cls := .type "list", data := .seq its.toArray n }) (hf : f its.toArray = its'.toArray) (hv : Vals ys its') (hz : ys.length ≤ sizeLine) :
    Inv X pins σ (upd H l (.lst ys)) { s with heap := s.heap.update l (Obj.mapSeq f), toks := t' } := by
  have q := PySem.IsL.update e f
  rw [hf] at q
  refine I.write (x := l) (e := l) (by rw [hH]; exact trivial) (.inl rfl) (fun b' u hb hu => (Heap.get?_update_other s.heap (Obj.mapSeq f) (Ne.symm hb)).trans hu) ⟨_, q⟩ ?_
  exact ⟨hz, its', _, hv, q⟩
theorem Inv.lnew {its : List Value} {t' : Nat} (I : Inv X pins σ H s) (hv : Vals ys its) (hz : ys.length ≤ sizeLine) :
    Inv X pins σ (upd H s.heap.objs.size (.lst ys)) { s with heap := s.heap.push { cls := .type "list", data := .seq its.toArray }, toks := t' } :=
  I.laid (fun _ _ q => Heap.get?_push_of_some _ q) (Nat.le_refl _) ⟨hz, its, 0, hv, Heap.get?_push_size _ rfl⟩
theorem Inv.fresh (I : Inv X pins σ H s) : H s.heap.objs.size = none := I.hok.fresh (Nat.le_refl _)
theorem Inv.lstM (I : Inv X pins σ H s) (hH : H l = some (.lst xs)) : xs.length ≤ sizeLine ∧ ∃ (its : List Value) (n : Nat), Vals xs its ∧ xs.length = its.length ∧ s.heap.get? l = some { cls := .type "list", data := .seq its.toArray n } := by
  obtain ⟨z, its, n, r, e⟩ := I.hok l _ hH
  exact ⟨z, its, n, r, r.length, e⟩

theorem notLongL {n : Nat} (h : n ≤ sizeLine) : Builtin.List.listTooLong n = false := by
  unfold Builtin.List.listTooLong
  exact decide_eq_false (by omega)
end

section
variable {X : Cx}

/-! ### methods -/
inductive rAppendI (x : V) (vs : List V) (H : Hp) (Q : VK) : Prop
  | mk (l : _) (xs : _) (y : _) (h0_ : x = .ref l) (h1_ : vs = [y]) (h2_ : H l = some (.lst xs)) (h3_ : xs.length < sizeLine) (h4_ : Q .non (upd H l (.lst (xs ++ [y])))) : rAppendI x vs H Q
def rAppend  : V → List V → Hp → VK → Prop := fun x vs H Q => rAppendI x vs H Q
theorem mt_append : MtM X "list.append" rAppend := by
  intro pins s σ H x vs v us Q I rx rv h
  obtain ⟨l, xs, y, rfl, rfl, hH, hz, q⟩ := h
  cases rx
  obtain ⟨u, rfl, ru⟩ := rv.one
  obtain ⟨z, its, n, r, hl, e⟩ := I.lstM hH
  refine call_meets F.slot_list_append ⟨_, e, rfl⟩ F.entry_list_append (F.args_list_append_2 _ _) (PySem.list_append l its.toArray n u (by rw [List.size_toArray]; omega)) ⟨e, ?_⟩
  refine ⟨.non, _, I.lset (its' := its ++ [u]) hH e (by simp) (r.append (.cons ru .nil)) ?_, rfl, q⟩
  rw [List.length_append, List.length_singleton]
  omega

def rExtend : V → List V → Hp → VK → Prop := fun x vs H Q => ∃ l b xs zs, x = .ref l ∧ vs = [.ref b] ∧ H l = some (.lst xs) ∧ H b = some (.lst zs) ∧ xs.length + zs.length ≤ sizeLine ∧ Q .non (upd H l (.lst (xs ++ zs)))
inductive rPopI (x : V) (vs : List V) (H : Hp) (Q : VK) : Prop
  | mk (l : _) (xs : _) (y : _) (h0_ : x = .ref l) (h1_ : vs = []) (h2_ : H l = some (.lst xs)) (h3_ : xs[xs.length - 1]? = some y) (h4_ : Q y (upd H l (.lst xs.dropLast))) : rPopI x vs H Q
def rPop  : V → List V → Hp → VK → Prop := fun x vs H Q => rPopI x vs H Q
def rPopAt : V → List V → Hp → VK → Prop := fun x vs H Q => ∃ l xs i k y, x = .ref l ∧ vs = [.int i] ∧ H l = some (.lst xs) ∧ -(2 ^ 63) ≤ i ∧ i < 2 ^ 63 ∧ seqIndex? i xs.length = some k ∧ xs[k]? = some y ∧ Q y (upd H l (.lst (xs.eraseIdx k)))
inductive rReverseI (x : V) (vs : List V) (H : Hp) (Q : VK) : Prop
  | mk (l : _) (xs : _) (h0_ : x = .ref l) (h1_ : vs = []) (h2_ : H l = some (.lst xs)) (h3_ : Q .non (upd H l (.lst xs.reverse))) : rReverseI x vs H Q
def rReverse  : V → List V → Hp → VK → Prop := fun x vs H Q => rReverseI x vs H Q
inductive rClearI (x : V) (vs : List V) (H : Hp) (Q : VK) : Prop
  | mk (l : _) (xs : _) (h0_ : x = .ref l) (h1_ : vs = []) (h2_ : H l = some (.lst xs)) (h3_ : Q .non (upd H l (.lst []))) : rClearI x vs H Q
def rClear  : V → List V → Hp → VK → Prop := fun x vs H Q => rClearI x vs H Q
theorem mt_clear : MtM X "list.clear" rClear := by
  intro pins s σ H x vs v us Q I rx rv h
  obtain ⟨l, xs, rfl, rfl, hH, q⟩ := h
  cases rx
  have hus := rv.zero
  subst hus
  obtain ⟨z, its, n, r, hl, e⟩ := I.lstM hH
  refine call_meets F.slot_list_clear ⟨_, e, rfl⟩ F.entry_list_clear (F.args_list_clear_1 _) (AutoSeq1.list_clear_list_0 l its.toArray n (by rw [List.size_toArray]; omega)) ⟨e, ?_⟩
  exact ⟨.non, _, I.lset (its' := []) (ys := []) hH e rfl .nil (Nat.zero_le _), rfl, q⟩

/-! ### list + list, list += list, list * int -/
inductive rCatI (x : V) (y : V) (H : Hp) (Q : VK) : Prop
  | mk (l : _) (b : _) (xs : _) (zs : _) (h0_ : x = .ref l) (h1_ : y = .ref b) (h2_ : H l = some (.lst xs)) (h3_ : H b = some (.lst zs)) (h4_ : xs.length + zs.length ≤ sizeLine) (h5_ : ∀ p, H p = none → Q (.ref p) (upd H p (.lst (xs ++ zs)))) : rCatI x y H Q
def rCat  : R2 := fun x y H Q => rCatI x y H Q
theorem op_cat : OpR X (binaryOp .Add) rCat := by
  intro pins s σ H x y v u Q I rx ry h
  obtain ⟨l, b, xs, zs, rfl, rfl, hH, hB, hz, q⟩ := h
  cases rx
  cases ry
  obtain ⟨z, its, n, r, hl, e⟩ := I.lstM hH
  obtain ⟨z2, its2, n2, r2, hl2, e2⟩ := I.lstM hB
  refine PySem.P.add_list e e2 ?_ (by rw [List.size_toArray, List.size_toArray]; omega)
  have ea : its.toArray ++ its2.toArray = (its ++ its2).toArray := by simp
  rw [ea]
  exact ⟨.ref _, _, I.lnew (t' := s.toks) (r.append r2) (by rw [List.length_append]; omega), rfl, q _ I.fresh⟩
/-- a list times an int (a negative one is nothing) -/
def rRep : R2 := fun x y H Q => ∃ l k xs, x = .ref l ∧ y = .int k ∧ H l = some (.lst xs) ∧ -(2 ^ 63) ≤ k ∧ k < 2 ^ 63 ∧ xs.length * k.toNat ≤ sizeLine ∧
  ∀ p, H p = none → Q (.ref p) (upd H p (.lst (List.replicate k.toNat xs).flatten))
/-! ### del xs[i] -/
end

/-! ### xs[a:b] = ys -/
section
variable {prog : Program} {w : World} {A : Around} {E : Value → Shared → Prop} {s : Shared}
theorem splice_eq (its its2 : List Value) (a c : Nat) : its.toArray.extract 0 a ++ its2.toArray ++ its.toArray.extract c its.toArray.size = (its.take a ++ its2 ++ its.drop c).toArray := by
  apply Array.toList_inj.mp
  first
    | (simp
       exact List.take_of_length_le (by simp))
    | simp [List.take_of_length_le]
    | simp
theorem bounds_run {a c n : Nat} (hac : a ≤ c) (hc : c ≤ n) : sliceBounds (some (a : Int)) (some (c : Int)) none n = ((a : Int), (c : Int), 1) := by
  simp only [sliceBounds, Option.getD_none]
  have h1 : ¬ ((a : Int) < 0) := by omega
  have h2 : ¬ ((c : Int) < 0) := by omega
  simp only [h1, h2, if_false, show (1 : Int) > 0 by decide, if_true]
  congr 1
  · omega
  · congr 1; omega
set_option maxRecDepth 100000 in
/-- list.__setitem__ with a slice of step one and another list -/
theorem setItem_slice {l b sl : Addr} {items new : Array Value} {n n2 : Nat} {vl vu : Value} {a c : Nat} {Q : Unit → Shared → Prop}
    (e : s.heap.get? l = some { cls := .type "list", data := .seq items n }) (e2 : s.heap.get? b = some { cls := .type "list", data := .seq new n2 }) (hne : l ≠ b)
    (hs : s.heap.IsSliceOf sl vl vu .none) (pl : IsPart vl (some (a : Int))) (pu : IsPart vu (some (c : Int))) (hac : a ≤ c) (hc : c ≤ items.size)
    (hsz : items.size + new.size ≤ sizeLine) (h : Q () { s with heap := s.heap.update l (Obj.mapSeq fun xs => xs.extract 0 a ++ new ++ xs.extract c xs.size) }) :
    wpAny (model prog w) A (setItem (.ref l) (.ref sl) (.ref b)) Q E s := by
  have hl : s.heap.IsList l items := PySem.IsL.isList e
  have hb : s.heap.IsList b new := PySem.IsL.isList e2
  obtain ⟨os, hos, hcs, hds⟩ := id hs
  have hTs : s.TypeIs (.ref sl) "slice" := ⟨os, hos, hcs⟩
  have hstep : ¬ ((rawPart none == rawInt 0) = true) := Bool.false_ne_true
  have hsame : Builtin.List.listSameRef (.ref l) (.ref b) = false := by
    unfold Builtin.List.listSameRef
    exact beq_eq_false_iff_ne.mpr hne
  have hmax : (max (a : Int) (c : Int)).toNat = c := by omega
  have hz' : ((fun xs : Array Value => xs.extract 0 a ++ new ++ xs.extract c xs.size) items).size ≤ sizeLine + 1 := by
    simp only [Array.size_append, Array.size_extract]
    omega
  unfold setItem
  try with_reducible refine wpAny_holding ?_
  first | refine wpAny_bind (wpAny_pure ?_) | skip
  refine wpAny_bind (wpAny_sequenceKey hl.typeIs (by decide) ?_)
  refine wpAny_bind (wpAny_callSpecial?_slot (name := Str.ofString "__setitem__") hl.typeIs slot_list_setitem
    (wpAny_call_entry slot_list_setitem hl.typeIs entry_list_setitem ?_ (args_list_setitem _ _ _)))
  show wpAny _ _ (Builtin.List.listSubscript? (.ref sl) >>= _) _ _ s
  refine wpAny_bind ?_
  unfold Builtin.List.listSubscript?
  refine wpAny_bind (wpAny_specialOf hTs slice_no_index ?_)
  simp only [Option.isNone_none, if_true]
  refine wpAny_pure ?_
  show wpAny _ _ (typeOf (.ref sl) >>= _) _ _ s
  refine wpAny_bind (wpAny_typeOf hTs ?_)
  first
    | rw [if_neg (by decide)]
    | refine PySem.W.KFB.if_not (by decide) ?_
  rw [listSliceParts_eq]
  refine wpAny_bind (wpAny_bind (wpAny_field hos hds (x := .none) rfl (wpAny_bind (wpAny_listPart .none ?_))))
  rw [if_neg hstep]
  refine wpAny_bind (wpAny_field hos hds (x := vl) rfl (wpAny_bind (wpAny_listPart pl ?_)))
  refine wpAny_bind (wpAny_field hos hds (x := vu) rfl (wpAny_bind (wpAny_listPart pu (wpAny_pure ?_))))
  first
    | simp only [hsame, Bool.false_eq_true, if_false]
    | refine PySem.W.KFB.if_not hsame ?_
    | (dsimp only
       rw [if_neg (by rw [hsame]; exact Bool.false_ne_true)])
  refine wpAny_bind (m := Builtin.List.listAllItems (.ref b) "must assign iterable to extended slice") ?_
  unfold Builtin.List.listAllItems
  refine wpAny_bind (wpAny_typeOf hb.typeIs ?_)
  first
    | refine PySem.W.KFB.if_so (by decide) ?_
    | rw [if_pos (by decide)]
    | simp only [beq_self_eq_true, Bool.true_or, if_true]
  unfold Builtin.List.listItems
  refine wpAny_bind (wpAny_seqItems e2 rfl (wpAny_pure ?_))
  refine wpAny_bind (wpAny_bind (wpAny_seqItems e rfl (wpAny_pure ?_)))
  refine wpAny_bind (wpAny_of_eq ((sliceIndices_raw (some (a : Int)) (some (c : Int)) none items.size (by simp)).trans (congrArg (pure : Int × Int × Int → Sem (Int × Int × Int)) (bounds_run hac hc))) ?_)
  show wpAny _ _ (if ((1 : Int) == 1) = true then _ else _) _ _ s
  rw [if_pos (by decide)]
  refine wpAny_bind (wpAny_rule ?_)
  first
    | simp only [notLongL hsz, Bool.false_eq_true, if_false]
    | refine PySem.W.KFB.if_not (notLongL hsz) ?_
  first | refine wpAny_bind (wpAny_pure ?_) | skip
  show wpAny _ _ (updateSeq l (fun xs => xs.extract 0 ((a : Int)).toNat ++ new ++ xs.extract (max (a : Int) (c : Int)).toNat xs.size) >>= _) _ _ s
  rw [hmax, Int.toNat_natCast]
  refine wpAny_bind (wpAny_updateSeq (hz := Nat.le_trans (Nat.le_add_right _ _) hsz) (_hz' := hz') e rfl ?_)
  refine wpAny_bind (wpAny_letGo ?_)
  first
    | exact wpAny_bind (wpAny_pure (wpAny_pure ⟨.none, rfl, wpAny_pure h⟩))
    | exact wpAny_pure ⟨.none, rfl, wpAny_pure h⟩
end

section
variable {X : Cx}
/-- xs[a:c] = ys of another list, at the value level: sl is the slice object that was just made -/
theorem set_slice {pins : List (Addr × Obj)} {s : Shared} {σ : St} {H : Hp} {l b sl : Addr} {xs ys : List V} {a c : Int} {vl vu : Value} {Q : Unit → Shared → Prop} (I : Inv X pins σ H s)
    (hH : H l = some (.lst xs)) (hB : H b = some (.lst ys)) (hne : l ≠ b) (hs : s.heap.IsSliceOf sl vl vu .none) (ra : RelV (.int a) vl) (rc : RelV (.int c) vu) (h0 : 0 ≤ a) (hac : a ≤ c) (hc : c ≤ xs.length)
    (hz : xs.length + ys.length ≤ sizeLine) (h : ∀ s', Inv X pins σ (upd H l (.lst (xs.take a.toNat ++ ys ++ xs.drop c.toNat))) s' → Q () s') :
    wpAny (model X.prog X.w) X.A (setItem (.ref l) (.ref sl) (.ref b)) Q X.xe s := by
  obtain ⟨ta, rfl⟩ := ra
  obtain ⟨tc, rfl⟩ := rc
  obtain ⟨z, its, n, r, hl, e⟩ := I.lstM hH
  obtain ⟨z2, its2, n2, r2, hl2, e2⟩ := I.lstM hB
  obtain ⟨a', rfl⟩ := Int.eq_ofNat_of_zero_le h0
  obtain ⟨c', rfl⟩ := Int.eq_ofNat_of_zero_le (Int.le_trans h0 hac)
  simp only [Int.toNat_natCast] at h
  refine setItem_slice (a := a') (c := c') e e2 hne hs (.int _ _) (.int _ _) (by omega) (by rw [List.size_toArray]; omega) (by rw [List.size_toArray, List.size_toArray]; omega) (h _ ?_)
  refine I.lset (its' := its.take a' ++ its2 ++ its.drop c') (t' := s.toks) hH e ?_ (Vals.append (Vals.append (r.take _) r2) (r.drop _)) ?_
  · exact splice_eq its its2 a' c'
  · rw [List.length_append, List.length_append, List.length_take, List.length_drop]
    omega
end
end L2

namespace Att
open PySem PySem.W PySem.Calls PyProof.Rows

/-! ### the script -/
theorem ints_of_wellAll {P : Params} {h : Heap} : ∀ (ns : List Int) (vs : List Value), WellAll P h vs (ns.map WData.int) → IntsAre vs ns := by
  intro ns
  induction ns with
  | nil =>
    intro vs w
    rw [List.map_nil] at w
    cases w
    exact .nil
  | cons n ns ih =>
    intro vs w
    rw [List.map_cons] at w
    cases w with
    | cons a b =>
      cases a
      exact .cons _ _ (ih _ b)

theorem script_of {l : OpenLaw} {n : Nat} (hn : l.most = some n) {P : Params} {h : Heap} {args : List WData} {vals : List Value}
    (hpre : l.row.toRowW.claim.pre args = true) (hwl : WellAll P h vals args) :
    ∃ a vs ns, vals = [Value.ref a] ∧ args = [WData.list (ns.map WData.int)] ∧ h.get? a = some { cls := .type "list", data := .seq vs.toArray } ∧ IntsAre vs ns ∧ ns.length ≤ n := by
  have hsh : WShape.hasAll [] args [.list .int] = true := (pre_splitW hpre).1
  have hc : l.pre.holds [] { args := args } = true := (pre_splitW hpre).2
  obtain ⟨d, r, rfl, h1, h2⟩ := hasAllW_cons hsh
  obtain rfl := hasAllW_nil h2
  obtain ⟨xs, rfl, h3⟩ := hasW_list h1
  obtain ⟨ns, rfl⟩ := items_int h3
  have hlen : ns.length ≤ n := by
    unfold OpenLaw.pre at hc
    have h4 : (WTm.not (.lt (.lit (.int (n : Int))) (.len (.arg 0)))).holds [] { args := [.list (ns.map .int)] } = true := by
      have h4 := (holds_andW hc).1
      rw [hn] at h4
      exact h4
    have h5 := condW_of h4 (w_not (w_lt w_lit (w_len_list (w_arg rfl))))
    rw [List.length_map] at h5
    refine Nat.le_of_not_lt fun q => ?_
    have q' : (n : Int) < ((ns.length : Nat) : Int) := by omega
    first
      | (rw [decide_eq_true q'] at h5; exact absurd h5 (by decide))
      | (simp at h5; omega)
  cases hwl with
  | cons w1 w2 =>
    cases w2
    cases w1 with
    | list ho hall => exact ⟨_, _, ns, rfl, rfl, ho, ints_of_wellAll ns _ hall, hlen⟩

theorem post_true (l : OpenLaw) (args : List WData) : l.row.toRowW.claim.post args (.bool true) args = true :=
  postW_of (r := l.row.toRowW) (X := (true == true))
    (show WShape.has [] (.bool true) .bool = true by first | rfl | decide | simp [WShape.has, WShape.arms, WShape.armsAll])
    (show (WTm.eq .res (.lit (.bool true))).value [] { args := args, res := some (.bool true), after := args } = some (.bool (true == true)) from w_eq_bool (w_res rfl) w_lit) rfl

/-! ### the attachment: holds_open's last premise (the goal 'hc' behind k_head) from a wpAny of the law's body -/
/-- the same from a codeAny of the CALL (for a layer whose function contracts speak of calls) -/
theorem attach_call {l : OpenLaw} {n : Nat} {q : Program} {loose : List Str} {XP : (Str → Option Value) → Heap → Prop} {YP : World → Heap → Prop} {d : DefRec}
    (hn : l.most = some n) (hdf : d.params.defaults = [])
    (call : ∀ (w : World) (s₀ s₁ : Shared) (mg mb : Str → Option Value) (fa : Addr) (o : Obj) (pm cd doc : Value) (a : Addr) (vs : List Value) (ns : List Int),
      Ground q loose [] XP w s₀ mg mb s₁.heap → YP w s₁.heap →
      s₁.heap.get? fa = some o → o.data = .func (docDef d.name d.params d.body d.scope pm cd doc) → s₁.heap.CodeRec cd d.name → mg d.name = some (.ref fa) →
      s₁.heap.get? a = some { cls := .type "list", data := .seq vs.toArray } → IntsAre vs ns → ns.length ≤ n → s₁.gens = #[] →
      codeAny (model l.prog w) callerA (.call (.ref fa) ⟨[.ref a], []⟩) (fun r s' => r = .ok (.ret (.bool true)) ∧ OldK s₁.heap s'.heap ∧ s'.os = s₁.os ∧ AllBare s'.gens) s₁) :
    WalkO q loose XP YP l.row.toRowW d [] (fun f vs => PySem.call f vs) := by
  intro w s₀ s₁ mg mb G Y fa o pm cd doc dV kV ho hd hcd hD hmg hg args vals as hpre hlay hrd hwl hlo
  obtain rfl : dV = .none := Dflts.none hD hdf
  obtain rfl : kV = .none := Dflts.noKw hD
  obtain ⟨a, vs, ns, rfl, rfl, hobj, hints, hlen⟩ := script_of hn hpre hwl
  refine enter_call (codeAny_mono (call w s₀ s₁ mg mb fa o pm cd doc a vs ns G Y ho (fd_plain hd) hcd hmg hobj hints hlen hg) fun r s' hq => ?_)
  obtain ⟨rfl, h2, h3, h4⟩ := hq
  exact ⟨.inl ⟨.bool true, .bool true, [], rfl, fun _ => rfl, .bool true, post_true l _, fun _ => ⟨List.Pairwise.nil, fun _ hm => (nomatch hm)⟩⟩, h2, h3, h4⟩

/-! ### rules over ANY heap (no ledger) from facts about the written part K: the library's own take a ledger (News) for what they write -/
section
variable {prog : Program} {w : World} {A : Around} {E : Value → Shared → Prop} {s : Shared} {K : Frag}

/-! the whole heap as the ledger: makes every rule that writes through a ledger a rule over any heap -/
def noObjs (h : Heap) : Heap := { h with objs := #[] }
def ledger (h : Heap) (L d : Addr) : List (Addr × Obj) := (List.range h.objs.size).filterMap fun a => if a = L ∨ a = d then none else (h.get? a).map fun o => (a, o)
end
end Att

namespace L2
open PySem PySem.Spec PyProof.Rows

theorem vals_ints : ∀ {vs : List Value} {ns : List Int}, IntsAre vs ns → Vals (ns.map V.int) vs
  | _, _, .nil => .nil
  | _, _, .cons n t h => .cons ⟨t, rfl⟩ (vals_ints h)

/-- nothing is tracked but the script, known to the object (or it is an object of the module) -/
def Only (H : Hp) : Prop := ∀ b, H b = none ∨ ∃ o xs, H b = some (.frz o (.lst xs))

/-- THE HEAD: the law's promise, at the heap behind the top. F, the promise of the law's def, may use that base is part of the heap (so K.In base, base.Ns mainGlobals mg stand in Mod) -/
theorem law_call {P : Program} {w : World} {K : PySem.W.Frag} {mg mb : Str → Option Value} {CX : CXT} {k : Nat} {fa a : Addr} {fd : FuncData} {x : Str} {sp : Sp} {s₁ : Shared} {vs : List Value} {ns : List Int}
    (KX : K.In s₁.heap) (hns : s₁.heap.Ns mainGlobals mg) (hb : s₁.heap.Ns builtinsNs mb) (hbb : ∀ x : Str, x ≠ "__name__" → mb x = bootBuiltins x) (hlim : s₁.heap.NoLimit) (hg : s₁.gens = #[])
    (ha : s₁.heap.get? a = some { cls := .type "list", data := .seq vs.toArray }) (hi : IntsAre vs ns) (hl : ns.length ≤ sizeLine) (hr : Room k callerA)
    (F : ∀ base : Heap, K.In base → base.Ns mainGlobals mg → FnOk P w K mg base CX k fa fd [x] sp) (hbind : ∀ (s : Shared) (u : Value), BindsTo s fd ⟨[u], []⟩ [(x, u)])
    (hsp : ∀ H : Hp, Only H → SqL K H a (ns.map V.int) → sp [.ref a] H (fun v _ => v = .bl true) fun _ _ _ => False)
    (hCX : ∀ H e s', CX [] H s₁ (fun _ _ _ => False) e s' → False) :
    codeAny (model P w) callerA (.call (.ref fa) ⟨[.ref a], []⟩) (fun r s' => r = .ok (.ret (.bool true)) ∧ OldK s₁.heap s'.heap ∧ s'.os = s₁.os ∧ AllBare s'.gens) s₁ := by
  have rv := vals_ints hi
  have lenV := hi.length
  -- from an abstract heap in which nothing but the script may be tracked
  have core : ∀ H : Hp, Only H → SqL K H a (ns.map V.int) → HOk P w H s₁.heap → (∀ b, H b ≠ none → b = a) → (H a ≠ none → K.lookup a = none) →
      codeAny (model P w) callerA (.call (.ref fa) ⟨[.ref a], []⟩) (fun r s' => r = .ok (.ret (.bool true)) ∧ OldK s₁.heap s'.heap ∧ s'.os = s₁.os ∧ AllBare s'.gens) s₁ := by
    intro H hO hS hok hA hK
    have base_of : ∀ {b : Addr} {o : Obj}, s₁.heap.get? b = some o → H b = none → (hidT s₁.heap H).get? b = some o := fun e n => hidT_get e n
    have noA : ∀ {b : Addr} {o : Obj} {es : Array DictEntry} {ep : Nat}, s₁.heap.get? b = some o → o.data = .dict es ep → H b = none := fun {b o es ep} e d => by
      cases q : H b with
      | none => rfl
      | some u =>
        have e' : b = a := hA b (by rw [q]; simp)
        subst e'
        rw [ha] at e; cases e
        have d' : Data.seq vs.toArray _ = Data.dict es ep := d
        cases d'
    have nsK : ∀ {b : Addr} {m : Str → Option Value}, s₁.heap.Ns b m → (hidT s₁.heap H).Ns b m := fun {b m} ⟨o, es, ep, e, d, r⟩ => ⟨o, es, ep, base_of e (noA e d), d, r⟩
    have hKb : K.In (hidT s₁.heap H) := fun b o e => base_of (KX b o e) (by
      cases q : H b with
      | none => rfl
      | some u =>
        have e' : b = a := hA b (by rw [q]; simp)
        subst e'
        rw [hK (by rw [q]; simp)] at e; cases e)
    have hM : Mod K mg (hidT s₁.heap H) := ⟨hKb, nsK hns, ⟨mb, nsK hb, hbb⟩, let ⟨mc, h1, h2⟩ := hlim; ⟨mc, nsK h1, h2⟩⟩
    have e0 : Env0 P w K mg (hidT s₁.heap H) callerA [] s₁ H := ⟨rfl, hM, fun b o e => of_hidT e, Nat.le_of_eq (hidT_size _ _), trivial, fun b hb => absurd (show b ∈ ([] : List Addr) from hb) (by simp), hok, .of_eq hg⟩
    refine codeAny_mono ((F _ hKb (nsK hns)).run callerA [] s₁ H ⟨[.ref a], []⟩ [.ref a] [.ref a] _ _ hr e0 (hbind s₁ (.ref a)) (.cons rfl .nil) (hsp H hO hS)) fun r s' h => ?_
    cases r with
    | error e => exact (hCX H e s' h).elim
    | ok fl =>
      cases fl with
      | next => exact False.elim h
      | brk => exact False.elim h
      | cont => exact False.elim h
      | ret u =>
        obtain ⟨v, H', os, bare, un, hok', r', q⟩ := h
        have q' : v = .bl true := q
        subst q'
        obtain rfl : u = Value.bool true := r'
        refine ⟨rfl, OldK.of_keep fun b o e => ?_, os, bare⟩
        cases q : H b with
        | none => exact un.keep b o e q (by intro z; exact absurd (show b ∈ ([] : List Addr) from z) (by simp)) (by simp)
        | some u =>
          rcases hO b with z | ⟨ob, xs, z⟩
          · rw [q] at z; cases z
          · have z2 := un.frzs b ob _ z
            obtain ⟨e1, _⟩ := hok b _ z
            obtain ⟨e2, _⟩ := hok' b _ z2
            rw [e] at e1; cases e1
            exact e2
  cases hk : K.lookup a with
  | some o =>
    -- the script is one of the module's own objects
    have e := KX a o hk
    rw [ha] at e
    cases e
    refine core (fun _ => none) (fun _ => .inl rfl) (.inr ⟨_, vs.toArray, _, hk, rfl, rfl, rfl, by rw [List.size_toArray, lenV]; exact hl, by simpa using rv⟩) (fun b u z => by have z' : (none : Option HO) = some u := z; cases z') (fun b z => absurd rfl z) fun z => absurd rfl z
  | none =>
    refine core (fun b => if b = a then some (.frz { cls := .type "list", data := .seq vs.toArray } (.lst (ns.map V.int))) else none) (fun b => ?_) (.inl (.inr ⟨{ cls := .type "list", data := .seq vs.toArray }, if_pos rfl⟩)) (fun b u z => ?_) (fun b z => ?_) fun _ => hk
    · by_cases hb : b = a
      · exact .inr ⟨_, _, if_pos hb⟩
      · exact .inl (if_neg hb)
    · by_cases hb : b = a
      · have z' := (if_pos hb).symm.trans z
        cases z'
        subst hb
        exact ⟨ha, by rw [List.length_map]; exact hl, vs, _, rv, ha⟩
      · have z' := (if_neg hb).symm.trans z
        cases z'
    · by_cases hb : b = a
      · exact hb
      · exact absurd (if_neg hb) z
end L2

namespace L2
open PySem PySem.Spec PyProof.Rows

abbrev KOf {K : PySem.W.Frag} {h : Heap} (_ : K.In h) : PySem.W.Frag := K

/-- the goal that k_head leaves (case hc), from the law's promise. F gives the function object fd (K's own) once, then the promise over every base -/
theorem walk_of {l : PySem.W.OpenLaw} {n k : Nat} {q : Program} {loose : List Str} {XP : (Str → Option Value) → Heap → Prop} {YP : World → Heap → Prop} {d : DefRec} {K : Params → PySem.W.Frag} {CX : World → CXT} {sp : World → Sp} {x : Str}
    (hn : l.most = some n) (hn2 : n ≤ sizeLine) (hdf : d.params.defaults = []) (hr : Room k callerA)
    (hY : ∀ (w : World) (h : Heap), YP w h → (K w.params).In h)
    (F : ∀ (w : World) (mg : Str → Option Value) (fa : Addr) (h : Heap), (K w.params).In h → h.Ns mainGlobals mg → mg d.name = some (.ref fa) →
      ∃ fd : FuncData, (∀ (s : Shared) (u : Value), BindsTo s fd ⟨[u], []⟩ [(x, u)]) ∧
        ∀ base : Heap, (K w.params).In base → base.Ns mainGlobals mg → FnOk l.prog w (K w.params) mg base (CX w) k fa fd [x] (sp w))
    (hsp : ∀ (w : World) (H : Hp) (a : Addr) (ns : List Int), ns.length ≤ n → Only H → SqL (K w.params) H a (ns.map V.int) → sp w [.ref a] H (fun v _ => v = .bl true) fun _ _ _ => False)
    (hCX : ∀ (w : World) (H : Hp) (s : Shared) (e : Value) (s' : Shared), CX w [] H s (fun _ _ _ => False) e s' → False) :
    PySem.W.WalkO q loose XP YP l.row.toRowW d [] (fun f vs => PySem.call f vs) := by
  refine Att.attach_call hn hdf fun w s₀ s₁ mg mb fa o pm cd doc a vs ns G Y ho hd hcd hmg hobj hints hlen hg => ?_
  have KX := hY w _ Y
  obtain ⟨fd, hb, hF⟩ := F w mg fa _ KX G.T.g hmg
  exact law_call KX G.T.g G.T.b G.T.builtins G.T.nolimit hg hobj hints (Nat.le_trans hlen hn2) hr hF hb (fun H hO hS => hsp w H a ns hlen hO hS) fun H e s' => hCX w H s₁ e s'
end L2

/- THE LAST THEOREM (shape; LID, My.* are yours):
   My.Adr: a structure of the addresses that your layer names (classes, functions); My.Txt K t: a structure (Prop) of the equations over K;
   My.txt_mk : {K} {implicit addresses ..} (e1 : nsIn K mainGlobals "law" = some (some (.ref f))) (e2 : K.lookup f = some ⟨oc, od, .func (fnOf "law" "law" params body scope dV kV doc pm an cdv ct), sl⟩) (e3 : codeIn K cdv "law" = true) .. : ∃ t, My.Txt K t

set_option maxRecDepth 100000 in
set_option maxHeartbeats 0 in
theorem PySem.Challenge.cw_LID_holds : PySem.Challenge.rw_LID.Holds := by
  w_on; o_law; k_head; (case hw => w_witness2)
  k_fill
  refine L2.walk_of (l := PySem.Challenge.rw_LID) (n := 63) (k := 40) (x := "script") (CX := fun w => ..) (sp := fun _ => My.sp_law) rfl (by decide) rfl ⟨rfl, by decide, by decide⟩ (fun w h Y => PySem.W.kIn_of Y) ?F ?S ?C
  case F =>
    intro w mg fa h KX G hmg
    have T : ∃ t, My.Txt (L2.KOf KX) t := by
      dsimp only [L2.KOf]                          -- K must stand as «<heap const> w.params» for k_is
      refine' My.txt_mk ?e1 ?e2 ?e3 ..
      (case e1 => PySem.W.k_is)                    -- in the order: a name -> its address -> its object -> its parts
      (case e2 => PySem.W.k_is)
      ..
    obtain ⟨t, T⟩ := T
    have e0 := hmg.symm.trans (PySem.W.mg_of KX G T.law)
    cases e0                                       -- fa is the law's own address
    exact ⟨_, fun s u => .of_eq rfl, fun base kb nb => My.law_fn T kb nb⟩     -- if «.of_eq rfl» comes too early: refine' ⟨_, ?b, fun base kb nb => My.law_fn T kb nb⟩; exact fun s u => .of_eq rfl
  case S => exact fun w H a ns hl hO hS => ..
  case C => exact ..
(the tactic k_is has no namespace: write k_is) -/

/-! SHORT WORDS over the layer: a def of the text, its body, what a loop and a test want. -/
namespace L2
open PySem PySem.Spec PyProof.Rows

/-! ### the text by places -/
/-- the j-th statement of a class's body -/
def inClass (s : Stmt) (j : Nat) : Stmt := match s with
  | .ClassDef _ _ _ body _ _ _ _ _ _ _ => body.getD j (.Pass ⟨0, 0, 0, 0⟩)
  | _ => .Pass ⟨0, 0, 0, 0⟩
def defArgs (s : Stmt) : Arguments := match s with
  | .FunctionDef _ a _ _ _ _ _ _ _ _ => a
  | _ => { posonlyargs := [], args := [], vararg := none, kwonlyargs := [], kw_defaults := [], kwarg := none, defaults := [] }
def defBody (s : Stmt) : List Stmt := match s with
  | .FunctionDef _ _ b _ _ _ _ _ _ _ => b
  | _ => []
def defScope (s : Stmt) : Scope := match s with
  | .FunctionDef _ _ _ _ _ _ sc _ _ _ => sc
  | _ => { kind := .function, names := [], isGenerator := false, isCoroutine := false }

/-! ### no exception leaves a def -/
abbrev CX0 : CXT := fun _ _ _ _ _ _ => False
abbrev E0 : XK := fun _ _ _ => False
theorem pass0 {X : Cx} : Passes CX0 X E0 := fun _ _ _ _ _ _ _ h => h.elim

/-! ### a def (or method) of the text as it stands behind the top -/
structure Fun (K : PySem.W.Frag) (x qual : Str) (st : Stmt) (f : Addr) (fd : FuncData) : Prop where
  ex : ∃ (oc : Value) (od : Option Addr) (kV doc pm : Value) (an : Option Addr) (cdv ct : Value) (osl : Array (Option Value)),
    fd = PySem.W.fnOf x qual (defArgs st) (defBody st) (defScope st) .none kV doc pm an cdv ct ∧ K.lookup f = some ⟨oc, od, .func fd, osl⟩ ∧ PySem.W.codeIn K cdv qual = true
  kp : PySem.W.keepIn K (.ref f) = true
section
variable {P : Program} {w : World} {K : PySem.W.Frag} {mg : Str → Option Value} {base : Heap}
/-- THE RULE for a def: its body as a term of rules, and the reading of that term -/
theorem Fun.ok {x qual : Str} {st : Stmt} {f : Addr} {fd : FuncData} {N ps : List Str} {k : Nat} {sp : Sp} (F : Fun K x qual st f fd) (S : FnScope N ps (defScope st)) (len : ∀ vs H Q E, sp vs H Q E → vs.length = ps.length)
    (hbody : ∀ (cdv : Value) (A : Around) (outer : List Env) (s : Shared) (H : Hp) (vs : List V) (Q : VK) (E : XK), Room k (A.deeper (envOfC qual (defScope st) s.heap.objs.size f cdv)) → sp vs H Q E →
      ∃ t, PSs (cxOf CX0 P w K mg base N qual (defScope st) f cdv A outer s H E).nox (defBody st) t ∧ t { nx := fun _ H' => Q .non H', rt := Q } (start N vs) H) : FnOk P w K mg base CX0 (k + 1) f fd ps sp := by
  obtain ⟨oc, od, kV, doc, pm, an, cdv, ct, osl, rfl, lk, hcd⟩ := F.ex
  refine fn_of lk hcd S len fun A outer s H vs Q E hr hsp => ?_
  obtain ⟨t, h, q⟩ := hbody cdv A outer s H vs Q E hr hsp
  exact ⟨t, h.nox, q⟩
/-- how its arguments bind (no defaults): h is «fun _ _ _ _ _ _ us hl => match us, hl with | [_, _], _ => rfl», one _ a parameter -/
theorem Fun.binds {x qual : Str} {st : Stmt} {f : Addr} {fd : FuncData} {ps : List Str} (F : Fun K x qual st f fd)
    (h : ∀ (kV doc pm : Value) (an : Option Addr) (cdv ct : Value) (us : List Value), us.length = ps.length → bindArgs (PySem.W.fnOf x qual (defArgs st) (defBody st) (defScope st) .none kV doc pm an cdv ct) ⟨us, []⟩ = pure (ps.zip us)) : Binds K fd ps [] := by
  obtain ⟨oc, od, kV, doc, pm, an, cdv, ct, osl, rfl, lk, hcd⟩ := F.ex
  exact .all (h kV doc pm an cdv ct)
theorem fun_mk {x qual : Str} {st : Stmt} {f : Addr} {oc : Value} {od an : Option Addr} {osl : Array (Option Value)} {kV doc pm cdv ct : Value} (l : K.lookup f = some ⟨oc, od, .func (PySem.W.fnOf x qual (defArgs st) (defBody st) (defScope st) .none kV doc pm an cdv ct), osl⟩)
    (c : PySem.W.codeIn K cdv qual = true) (k : PySem.W.keepIn K (.ref f) = true) : Fun K x qual st f (PySem.W.fnOf x qual (defArgs st) (defBody st) (defScope st) .none kV doc pm an cdv ct) := ⟨⟨oc, od, kV, doc, pm, an, cdv, ct, osl, rfl, l, c⟩, k⟩
end
theorem small1000 {n : Nat} (h : n ≤ 1000) : n < sizeLine := Nat.lt_of_le_of_lt h (by decide)

/-! ### expressions in short: the name that stands in the i-th slot -/
section
variable {X : Cx}
theorem pv (i : Nat) {x : Str} {pos : Pos} (hN : X.N[i]? = some x := by rfl) (hv : Vis X.env.scope x := by first | exact Or.inl rfl | exact Or.inr (Or.inl rfl) | exact Or.inr (Or.inr rfl)) (hd : (x == ("__debug__" : Str)) = false := by decide)
    (hcd : (x == ("__classdict__" : Str)) = false := by decide) : PE X (.Name x pos) (tVar i) := pe_var hN hv hd hcd
end

/-! ### tests -/
theorem iteF {A B : Prop} (h : B) : if false = true then A else B := by
  rw [if_neg Bool.false_ne_true]
  exact h
theorem iteT {A B : Prop} (h : A) : if true = true then A else B := by
  rw [if_pos rfl]
  exact h
theorem ite2 {c A B : Prop} [Decidable c] (h1 : c → A) (h2 : ¬ c → B) : if c then A else B := by
  by_cases h : c
  · rw [if_pos h]
    exact h1 h
  · rw [if_neg h]
    exact h2 h
/-! ### heaps -/
/-- all that was tracked is as it was -/
def Same (H H' : Hp) : Prop := ∀ b o, H b = some o → H' b = some o
theorem Same.refl (H : Hp) : Same H H := fun _ _ h => h
theorem Same.trans {H H1 H2 : Hp} (a : Same H H1) (b : Same H1 H2) : Same H H2 := fun c o h => b c o (a c o h)
theorem Same.free {H H' : Hp} (e : Same H H') {l : Addr} (h : H' l = Option.none) : H l = Option.none := by
  cases q : H l with
  | none => rfl
  | some o =>
    rw [e l o q] at h
    cases h
theorem Same.seq {K : PySem.W.Frag} {H H' : Hp} {a : Addr} {xs : List V} (e : Same H H') (h : SqL K H a xs) : SqL K H' a xs := by
  rcases h with (h | ⟨o, h⟩) | h
  · exact .inl (.inl (e _ _ h))
  · exact .inl (.inr ⟨o, e _ _ h⟩)
  · exact .inr h

end L2

set_option maxHeartbeats 4000000
namespace L2
open PySem PySem.Spec PyProof.Rows

/-! ### a list comprehension with one clause -/
/-- the cells that a block takes with it -/
def closOf (env : Env) : List (Str × NameKind) → List (Str × Addr) → List (Str × Addr)
  | [], acc => acc
  | p :: l, acc => closOf env l (if p.2 == .free then (p.1, (env.cells.lookup p.1).getD 0) :: acc else acc)
theorem clos_eq {env : Env} {scope : Scope} (h : ∀ p ∈ scope.names, p.2 = .free → ∃ c, env.cells.lookup p.1 = some c) : closureFor scope env = pure (closOf env scope.names []) := by
  have go : ∀ (l : List (Str × NameKind)) (acc : List (Str × Addr)), (∀ p ∈ l, p.2 = .free → ∃ c, env.cells.lookup p.1 = some c) →
      (forIn l acc fun (p : Str × NameKind) cs => if (p.2 == NameKind.free) = true then (cellOf env p.1 >>= fun a => pure (ForInStep.yield ((p.1, a) :: cs))) else pure (ForInStep.yield cs)) = (pure (closOf env l acc) : Sem (List (Str × Addr))) := by
    intro l
    induction l with
    | nil => intro acc _; rfl
    | cons p l ih =>
      intro acc hl
      rw [List.forIn_cons]
      have hr := fun q hq => hl q (List.mem_cons_of_mem _ hq)
      by_cases hk : p.2 = .free
      · obtain ⟨c, hc⟩ := hl p List.mem_cons_self hk
        have e1 : (p.2 == NameKind.free) = true := by rw [hk]; rfl
        rw [if_pos e1]
        have e2 : cellOf env p.1 = pure c := by unfold cellOf; rw [hc]
        rw [e2, pure_bind, pure_bind]
        show forIn l ((p.1, c) :: acc) _ = _
        rw [ih _ hr]
        show _ = pure (closOf env l (if p.2 == .free then (p.1, (env.cells.lookup p.1).getD 0) :: acc else acc))
        rw [if_pos e1, hc]
        rfl
      · have e1 : ¬ (p.2 == NameKind.free) = true := by intro z; exact hk (by simpa using z)
        rw [if_neg e1, pure_bind]
        show forIn l acc _ = _
        rw [ih _ hr]
        show _ = pure (closOf env l (if p.2 == .free then (p.1, (env.cells.lookup p.1).getD 0) :: acc else acc))
        rw [if_neg e1]
  have e := go scope.names [] h
  unfold closureFor
  show (forIn scope.names ([] : List (Str × Addr)) _ >>= fun r => pure r) = _
  rw [bind_pure]
  exact e
theorem clos_look {env : Env} {x : Str} : ∀ (l : List (Str × NameKind)) (acc : List (Str × Addr)) {c : Addr}, (closOf env l acc).lookup x = some c → acc.lookup x = some c ∨ ((x, NameKind.free) ∈ l ∧ c = (env.cells.lookup x).getD 0)
  | [], acc, c, h => .inl h
  | p :: l, acc, c, h => by
    rcases clos_look l _ h with z | ⟨z, e⟩
    · by_cases hk : (p.2 == NameKind.free) = true
      · rw [if_pos hk, List.lookup_cons] at z
        by_cases hx : (x == p.1) = true
        · rw [hx] at z
          have e : x = p.1 := by simpa using hx
          have e2 : p.2 = .free := by simpa using hk
          refine .inr ⟨?_, ?_⟩
          · rw [e, ← e2]; exact List.mem_cons_self
          · rw [e]; exact (Option.some.inj z).symm
        · have hx' : (x == p.1) = false := by simpa using hx
          rw [hx'] at z
          exact .inl z
      · rw [if_neg hk] at z
        exact .inl z
    · exact .inr ⟨List.mem_cons_of_mem _ z, e⟩
theorem clos_has {env : Env} {x : Str} : ∀ (l : List (Str × NameKind)) (acc : List (Str × Addr)), ((acc.lookup x).isSome = true ∨ (x, NameKind.free) ∈ l) → ((closOf env l acc).lookup x).isSome = true
  | [], acc, h => by
    rcases h with h | h
    · exact h
    · cases h
  | p :: l, acc, h => by
    refine clos_has l _ ?_
    rcases h with h | h
    · left
      by_cases hk : (p.2 == NameKind.free) = true
      · rw [if_pos hk, List.lookup_cons]
        cases (x == p.1) with
        | true => rfl
        | false => exact h
      · rw [if_neg hk]; exact h
    · rcases List.mem_cons.mp h with e | h
      · left
        have e1 : p.1 = x := by rw [← e]
        have e2 : (p.2 == NameKind.free) = true := by rw [← e]; rfl
        rw [if_pos e2, List.lookup_cons, e1]
        simp
      · exact .inr h
theorem relab_look {env : Env} {x : Str} {k : NameKind} : ∀ (l : List (Str × NameKind)),
    (l.map fun (n, k) => if (k == NameKind.free && env.scope.kind == .function && env.kindOf n == some .cell) then (n, NameKind.cell) else (n, k)).lookup x = some k →
      l.lookup x = some k ∨ (k = .cell ∧ l.lookup x = some .free)
  | [], h => by cases h
  | (n, q) :: l, h => by
    rw [List.map_cons] at h
    cases hx : (x == n) with
    | true =>
      rw [List.lookup_cons, hx]
      by_cases hc : (q == NameKind.free && env.scope.kind == .function && env.kindOf n == some .cell) = true
      · simp only [hc, if_true, List.lookup_cons, hx] at h
        have e : q = .free := by
          have := (Bool.and_eq_true_iff.mp (Bool.and_eq_true_iff.mp hc).1).1
          simpa using this
        right
        exact ⟨(Option.some.inj h).symm, by rw [e]⟩
      · have hc' : (q == NameKind.free && env.scope.kind == .function && env.kindOf n == some .cell) = false := by simpa using hc
        simp only [hc', Bool.false_eq_true, if_false, List.lookup_cons, hx] at h
        exact .inl h
    | false =>
      rw [List.lookup_cons, hx]
      refine relab_look (env := env) l ?_
      by_cases hc : (q == NameKind.free && env.scope.kind == .function && env.kindOf n == some .cell) = true
      · simp only [hc, if_true, List.lookup_cons, hx] at h
        exact h
      · have hc' : (q == NameKind.free && env.scope.kind == .function && env.kindOf n == some .cell) = false := by simpa using hc
        simp only [hc', Bool.false_eq_true, if_false, List.lookup_cons, hx] at h
        exact h

/-- what a block runs upon: its dict, the state and heap at its entry, the iterator's records, what is wanted of an exception -/
structure Bk where
  C : Addr
  s₂ : Shared
  H₂ : Hp
  fp : List Addr
  xe : Value → Shared → Prop
/-- the context of a comprehension's block: its own names cn ahead of the def's -/
def compCx (X : Cx) (cn : List Str) (scope : Scope) (b : Bk) : Cx where
  prog := X.prog
  w := X.w
  K := X.K
  mg := X.mg
  base := X.base
  A := X.A
  N := cn ++ X.N
  s₀ := b.s₂
  H₀ := b.H₂
  env := compEnvC scope (closOf X.env scope.names []) b.C X.env
  outer := X.stack
  stack := X.stack
  ex := b.fp
  fn := fun _ => false
  calm := X.calm
  pn := []
  xe := b.xe
/-- the scope of a block beside its def's -/
def compOk (sc : Scope) (N : List Str) (scope : Scope) : Bool :=
  (scope.kind == .function) &&
  (scope.names.all fun p => (p.2 != .cell) && ((p.2 != .free) || (sc.names.lookup p.1 == some .cell) || (sc.names.lookup p.1 == some .free)) && ((p.2 != .local) || (scope.names.lookup p.1 == some .local))) &&
  (N.all fun x => scope.names.lookup x != some .local)
structure CompFit (sc : Scope) (N : List Str) (scope : Scope) : Prop where
  kind : scope.kind = .function
  nocell : ∀ p ∈ scope.names, p.2 ≠ .cell
  free : ∀ p ∈ scope.names, p.2 = .free → sc.names.lookup p.1 = some .cell ∨ sc.names.lookup p.1 = some .free
  loc : ∀ p ∈ scope.names, p.2 = .local → scope.names.lookup p.1 = some .local
  apart : ∀ x ∈ N, scope.names.lookup x ≠ some .local
theorem CompFit.of {sc : Scope} {N : List Str} {scope : Scope} (h : compOk sc N scope = true) : CompFit sc N scope := by
  unfold compOk at h
  rw [Bool.and_eq_true, Bool.and_eq_true] at h
  obtain ⟨⟨h1, h2⟩, h3⟩ := h
  rw [List.all_eq_true] at h2 h3
  refine ⟨by simpa using h1, fun p hp => ?_, fun p hp e => ?_, fun p hp e => ?_, fun x hx => ?_⟩
  · have := h2 p hp
    rw [Bool.and_eq_true, Bool.and_eq_true] at this
    simpa using this.1.1
  · have := h2 p hp
    rw [Bool.and_eq_true, Bool.and_eq_true] at this
    have q := this.1.2
    rw [e] at q
    rw [Bool.or_eq_true, Bool.or_eq_true] at q
    rcases q with (q | q) | q
    · exact absurd q (by decide)
    · exact .inl (by simpa using q)
    · exact .inr (by simpa using q)
  · have := h2 p hp
    rw [Bool.and_eq_true, Bool.and_eq_true] at this
    have q := this.2
    rw [e] at q
    rw [Bool.or_eq_true] at q
    rcases q with q | q
    · exact absurd q (by decide)
    · simpa using q
  · have := h3 x hx
    simpa using this

section
variable {X : Cx} {pins : List (Addr × Obj)} {σ : St} {H : Hp}
theorem mem_of_look {l : List (Str × NameKind)} {x : Str} {k : NameKind} (h : l.lookup x = some k) : (x, k) ∈ l := PySem.mem_of_lookup h
/-- the block's context is sound, and its invariant holds at its entry -/
theorem Inv.block {s₂ : Shared} {h₁ : Heap} {tk : Nat} {cn : List Str} {scope : Scope} {fp : List Addr} {xe : Value → Shared → Prop} {C D : Addr} {m : Str → Option Value}
    (I : Inv X pins σ H s₂) (F : CompFit X.env.scope X.N scope) (hc : X.calm = true) (hf : ∀ b ∈ fp, FpOk X pins H b) (hfl : ∀ b ∈ fp, b < s₂.heap.objs.size)
    (hC : s₂.heap.objs.size ≤ C) (hD : s₂.heap.objs.size ≤ D) (hDC : D ≠ C) (hn : h₁.Ns C m) (old : ∀ b o, s₂.heap.get? b = some o → h₁.get? b = some o)
    (hacc : h₁.get? D = some { cls := .type "list", data := .seq ([] : List Value).toArray 0 }) :
    Inv (compCx X cn scope ⟨C, s₂, H, fp, xe⟩) [] (List.replicate cn.length none ++ σ) (upd H D (.lst [])) { s₂ with heap := h₁, toks := tk } := by
  have cellHas : ∀ x, ((compCx X cn scope ⟨C, s₂, H, fp, xe⟩).env.kindOf x = some .cell ∨ (compCx X cn scope ⟨C, s₂, H, fp, xe⟩).env.kindOf x = some .free) → (x, NameKind.free) ∈ scope.names := by
    intro x hx
    have hx' : (relabel scope X.env).names.lookup x = some .cell ∨ (relabel scope X.env).names.lookup x = some .free := hx
    rcases hx' with z | z
    · rcases relab_look scope.names z with z | ⟨_, z⟩
      · exact absurd rfl (F.nocell _ (mem_of_look z))
      · exact mem_of_look z
    · rcases relab_look scope.names z with z | ⟨e, _⟩
      · exact mem_of_look z
      · cases e
  have kindOut : ∀ x, (x, NameKind.free) ∈ scope.names → X.env.kindOf x = some .cell ∨ X.env.kindOf x = some .free := fun x hx => F.free _ hx rfl
  have lookOut : ∀ x c, (closOf X.env scope.names []).lookup x = some c → X.env.cells.lookup x = some c := by
    intro x c e
    rcases clos_look _ _ e with z | ⟨z, e2⟩
    · cases z
    · obtain ⟨c', hc'⟩ := I.ok.has x (kindOut x z)
      rw [hc'] at e2 ⊢
      rw [e2]
      rfl
  have fsEq : (compCx X cn scope ⟨C, s₂, H, fp, xe⟩).fs = frs X.stack := rfl
  have fpfs : ∀ b ∈ fp, b ∉ frs X.stack := by
    intro b hb z
    obtain ⟨_, f1, f2, _⟩ := hf b hb
    rcases List.mem_cons.mp (I.stkSub b z) with e | e
    · exact f1 e
    · exact f2 e
  have cellLt : ∀ x c, X.env.cells.lookup x = some c → c < s₂.heap.objs.size := by
    intro x c e
    obtain ⟨v, o, ho, _⟩ := I.cell x c e
    exact Heap.lt_size ho
  have ok : (compCx X cn scope ⟨C, s₂, H, fp, xe⟩).Ok := by
    refine ⟨I.ok.mod, ?_, I.ok.glob, I.ok.blt, hC, fun x y c h1 h2 => I.ok.inj x y c (lookOut x c h1) (lookOut y c h2), fun x hx => ?_, fun x c z => ?_, fun _ => I.ok.hd hc, I.ok.frames, .inl rfl, fun b hb => ⟨?_, fun x c e => ?_⟩,
      fun b o e => I.bs b o e, Nat.le_trans I.ok.bsz I.sz, fun b o e hb => ?_, fun b hb => ?_, I.stack, I.stkFree⟩
    · show (relabel scope X.env).kind = .function
      exact F.kind
    · have := clos_has (env := X.env) (x := x) scope.names [] (.inr (cellHas x hx))
      exact Option.isSome_iff_exists.mp this
    · cases z
    · exact Nat.ne_of_lt (Nat.lt_of_lt_of_le (hfl b hb) hC)
    · exact (hf b hb).2.2.2.2.1 x c (lookOut x c e)
    · have : X.base.objs.size ≤ X.s₀.heap.objs.size := I.ok.bsz
      rcases (hf b hb).2.2.2.1 with z | z
      · exact I.ok.noex b o e z
      · exact absurd (Nat.lt_of_lt_of_le (Heap.lt_size e) (Nat.le_trans I.ok.bsz z)) (Nat.lt_irrefl _)
    · exact fpfs b hb
  have hDn : H D = none := I.hok.fresh hD
  have hok1 : HOk X.prog X.w (upd H D (.lst [])) h₁ := I.hok.laid old hD ⟨Nat.zero_le _, [], 0, .nil, hacc⟩
  refine ⟨ok, rfl, I.bare, Un.laid old hD hDn, ⟨m, hn, fun i x v e1 e2 e3 => ?_⟩, fun x c e => ?_, ?_, fun x c e => ?_, fun p hp => absurd (show p ∈ ([] : List (Addr × Obj)) from hp) (by simp), hok1, ?_⟩
  · have hi : ¬ i < cn.length := by
      intro hi
      rw [List.getElem?_append_left (by simpa using hi), List.getElem?_replicate] at e2
      split at e2 <;> cases e2
    rw [List.getElem?_append_right (by simpa using hi), List.length_replicate] at e2
    have e1' : (cn ++ X.N)[i]? = some x := e1
    rw [List.getElem?_append_right (by omega)] at e1'
    obtain ⟨m0, hm0, hl⟩ := I.loc
    have hxN : x ∈ X.N := List.mem_of_getElem? e1'
    have hfr : (x, NameKind.free) ∈ scope.names := by
      have e3' : (relabel scope X.env).names.lookup x = some .local ∨ (relabel scope X.env).names.lookup x = some .cell ∨ (relabel scope X.env).names.lookup x = some .free := e3
      rcases e3' with z | z | z
      · rcases relab_look scope.names z with z | ⟨e, _⟩
        · exact absurd z (F.apart x hxN)
        · cases e
      · exact cellHas x (.inl z)
      · exact cellHas x (.inr z)
    have hk := kindOut x hfr
    have vis : Vis X.env.scope x := by
      rcases hk with z | z
      · exact .inr (.inl z)
      · exact .inr (.inr z)
    obtain ⟨u, r, lk⟩ := hl (i - cn.length) x v e1' e2 vis
    refine ⟨u, r, ?_⟩
    rcases lk with ⟨z, _⟩ | ⟨_, c, ec, z⟩
    · rcases hk with q | q
      · rw [z] at q; cases q
      · rw [z] at q; cases q
    · have hcl : (closOf X.env scope.names []).lookup x = some c := by
        obtain ⟨c', e'⟩ := Option.isSome_iff_exists.mp (clos_has (env := X.env) (x := x) scope.names [] (.inr hfr))
        rw [e']
        have := lookOut x c' e'
        rw [ec] at this
        exact this.symm
      refine .inr ⟨?_, c, hcl, ?_⟩
      · have e3' : (relabel scope X.env).names.lookup x = some .local ∨ (relabel scope X.env).names.lookup x = some .cell ∨ (relabel scope X.env).names.lookup x = some .free := e3
        rcases e3' with y | y | y
        · rcases relab_look scope.names y with y | ⟨e, _⟩
          · exact absurd y (F.apart x hxN)
          · cases e
        · exact .inl y
        · exact .inr y
      · obtain ⟨o, ho, hd⟩ := z
        exact ⟨o, old c o ho, hd⟩
  · obtain ⟨v, o, ho, hd⟩ := I.cell x c (lookOut x c e)
    exact ⟨v, o, old c o ho, hd⟩
  · show upd H D (.lst []) C = none
    rw [upd_ne (Ne.symm hDC)]
    exact I.hok.fresh hC
  · rw [upd_ne (Nat.ne_of_lt (Nat.lt_of_lt_of_le (cellLt x c (lookOut x c e)) hD))]
    exact I.freeC x c (lookOut x c e)
  · show (List.replicate cn.length none ++ σ).length = (cn ++ X.N).length
    rw [List.length_append, List.length_replicate, List.length_append, I.len]
/-- behind the block -/
theorem Inv.unblock {s₂ s' : Shared} {h' : Heap} {cn : List Str} {scope : Scope} {fp : List Addr} {xe : Value → Shared → Prop} {C : Addr} {H' : Hp} {σ' : St} {pl : List (Addr × Obj)}
    (I : Inv X pins σ H s₂) (hf : ∀ b ∈ fp, FpOk X pins H b) (hC : s₂.heap.objs.size ≤ C) (J : Inv (compCx X cn scope ⟨C, s₂, H, fp, xe⟩) pl σ' H' s') (sb : Heap.SameBut C s'.heap h') :
    Inv X pins σ H' { s' with heap := h' } := by
  have neC : ∀ b o, s₂.heap.get? b = some o → b ≠ C := fun b o e => Nat.ne_of_lt (Nat.lt_of_lt_of_le (Heap.lt_size e) hC)
  have u : Un (frs X.stack) fp H H' s₂.heap s'.heap := J.base
  have un : Un (frs X.stack) fp H H' s₂.heap h' :=
    ⟨fun b o e n hb hx => (sb.2 b (neC b o e)).trans (u.keep b o e n hb hx),
     fun b o e n hb hx => by
      obtain ⟨sl, q⟩ := u.slot b o e n hb hx
      exact ⟨sl, (sb.2 b (neC b o e)).trans q⟩,
     u.free, fun b o e hx => by
      obtain ⟨o', q⟩ := u.there b o e hx
      exact ⟨o', (sb.2 b (neC b o e)).trans q⟩, u.tups, u.frzs, u.tbls⟩
  have fC : H' C = none := J.free
  have hok : HOk X.prog X.w H' h' := fun b o e => by
    refine (J.hok b o e).stay (fun c v hc q => (sb.2 c ?_).trans q) (fun _ q => q) fun _ _ q => q
    rintro rfl
    rcases hc with z | z
    · rw [← z, fC] at e; cases e
    · rw [fC] at z; cases z
  have os : s'.os = s₂.os := J.os
  refine I.call' (s' := { s' with heap := h' }) os un hok J.bare fun b hb => ?_
  obtain ⟨_, f1, _, f3, f4, f5⟩ := hf b hb
  exact ⟨f3, f1, f4, f5⟩
end
end L2

set_option maxHeartbeats 4000000
namespace L2
open PySem PySem.Spec PyProof.Rows

/-- the loop of a comprehension with one clause, whatever its target -/
theorem comp_loop {prog : Program} {w : World} {A : Around} {R : Result → Shared → Prop} {s : Shared} {elt tg iter : Expr} {ifs : List Expr} {scope : Scope} {pos : Pos} {it acc : Value} {env : Env} (J : Nat → Shared → Prop)
    (turn : ∀ n s, J n s → wpAny (model prog w) A (pyNext it) (fun r s₁ => (r = none ∧ R (.ok .next) s₁) ∨ ∃ v, r = some v ∧
      wpAny (model prog w) A (letOwnedTupleGo tg it v) (fun _ s₂ => wpAny (model prog w) A (assign tg env v) (fun _ s₃ =>
        wpAny (model prog w) A (forIn ifs true fun c r => if r = true then do let ok ← isTrue c env (eval c env); pure (ForInStep.yield ok) else pure (ForInStep.yield r)) (fun ok s₄ =>
          if ok = true then wpAny (model prog w) A (eval elt env) (fun x s₅ => wpAny (model prog w) A (call (.builtin "list.append") [acc, x]) (fun _ s₆ => ∃ m, m < n ∧ J m s₆) (notedBy (model prog w) A env fun e s' => R (.error e) s') s₅)
            (notedBy (model prog w) A env fun e s' => R (.error e) s') s₄
          else ∃ m, m < n ∧ J m s₄) (notedBy (model prog w) A env fun e s' => R (.error e) s') s₃) (notedBy (model prog w) A env fun e s' => R (.error e) s') s₂) (notedBy (model prog w) A env fun e s' => R (.error e) s') s₁)
      (notedBy (model prog w) A env fun e s' => R (.error e) s') s)
    (n : Nat) (h : J n s) : codeAny (model prog w) A (.compLoop (.ListComp elt [⟨tg, iter, ifs, 0⟩] scope pos) 0 it acc env) R s := by
  refine codeAny_loop rfl J (fun n s hJ => ?_) n h
  refine wpAny_noted (A := A) (m := compTurn (.ListComp elt [⟨tg, iter, ifs, 0⟩] scope pos) 0 it acc env) (env := env) ?_
  rw [compTurn_list]
  refine wpAny_bind (wpAny_standAt (wpAny_bind (thn (turn n s hJ) fun r s₁ h₁ => ?_)))
  rcases h₁ with ⟨e, h₁⟩ | ⟨v, e, h₁⟩
  · subst e
    exact wpAny_pure h₁
  · subst e
    refine wpAny_bind (thn h₁ fun _ s₂ h₂ => wpAny_bind (thn h₂ fun _ s₃ h₃ => wpAny_bind (thn h₃ fun ok s₄ h₄ => ?_)))
    cases ok with
    | false => exact wpAny_pure ⟨rfl, h₄⟩
    | true => exact wpAny_bind (wpAny_bind (thn h₄ fun x s₅ h₅ => wpAny_bind (thn h₅ fun _ s₆ h₆ => wpAny_pure (wpAny_pure ⟨rfl, h₆⟩))))

/-- the tests of a clause: all of them -/
def PF (X : Cx) (ifs : List Expr) (t : TT) : Prop :=
  ∀ (pins : List (Addr × Obj)) (s : Shared) (σ : St) (H : Hp) (Q : Bool → Hp → Prop), Inv X pins σ H s → t σ H Q →
    wpAny (model X.prog X.w) X.A (forIn ifs true fun c r => if r = true then do let ok ← isTrue c X.env (eval c X.env); pure (ForInStep.yield ok) else pure (ForInStep.yield r)) (TP X pins σ Q) X.xe s
def tAll : TT := fun _ H Q => Q true H
theorem pf_nil {X : Cx} : PF X [] tAll := by
  intro pins s σ H Q I h
  rw [List.forIn_nil]
  exact wpAny_pure ⟨H, I, h⟩
/-- an exception out of a block: its names go, then it passes on -/
def blkErr (X : Cx) (C : Addr) (e : Value) (s' : Shared) : Prop :=
  ∃ m, s'.heap.Ns C m ∧ ∀ h', Heap.SameBut C s'.heap h' → ∀ cenv : Env, cenv.locals = C → wpAny (model X.prog X.w) X.A (passOn "comprehension.variables-let-go" e cenv : Sem Value) (fun _ _ => False) X.xe { s' with heap := h' }
def blkXe (X : Cx) (scope : Scope) (C : Addr) : Value → Shared → Prop :=
  notedBy (model X.prog X.w) X.A (compEnvC scope (closOf X.env scope.names []) C X.env) (blkErr X C)

/-- W: the invariant by the turn, a measure, the items so far, the block's names, the heap -/
def tComp (n : Nat) (wi : TI) (g : Bk → TG) (tc : Bk → TT) (te : Bk → TE) : TE := fun σ H Q => wi σ H fun J H1 => ∀ (D : Addr) (b : Bk), H1 D = none → ∃ W : Nat → Nat → List V → St → Hp → Prop,
  (∃ m, W 0 m [] (List.replicate n none ++ σ) (upd H1 D (.lst []))) ∧ ∀ i m ys σ H, W i m ys σ H →
    (J.stop i H ∧ Q (.ref D) H) ∨ (J.go i H ∧ ∀ x H', J.yld i H x H' → g b x σ H' fun σ2 H2 => tc b σ2 H2 fun ok H3 =>
      if ok = true then te b σ2 H3 fun y H4 => H4 D = some (.lst ys) ∧ ys.length < sizeLine ∧ ∃ m', m' < m ∧ W (i + 1) m' (ys ++ [y]) σ2 (upd H4 D (.lst (ys ++ [y])))
      else ∃ m', m' < m ∧ W (i + 1) m' ys σ2 H3)

section
variable {X : Cx} {tg iter elt : Expr} {ifs : List Expr} {scope : Scope} {pos : Pos} {cn : List Str} {wi : TI} {g : Bk → TG} {tc : Bk → TT} {te : Bk → TE} {TH : Bk → Prop}

/-- the block runs: RR what is wanted at its end -/
theorem comp_run {pins : List (Addr × Obj)} {σ : St} {H : Hp} {s₂ : Shared} {it : Addr} {fp : List Addr} {tn : Nat → Heap → Prop} {J : It} {RR : Value → Addr → Result → Shared → Prop} {QQ : Addr → Hp → Prop} {EE : Value → Shared → Prop}
    (hcalm : X.calm = true) (F : CompFit X.env.scope X.N scope) (hg : ∀ b, TH b → PG (compCx X cn scope b) tg (g b)) (ht : ∀ b, TH b → PF (compCx X cn scope b) ifs (tc b)) (he : ∀ b, TH b → PE (compCx X cn scope b) elt (te b))
    (hTH : ∀ C, s₂.heap.objs.size ≤ C → TH ⟨C, s₂, H, fp, blkXe X scope C⟩)
    (I : Inv X pins σ H s₂) (T : Turn X.prog X.w X.K tg J fp it tn) (st : tn 0 s₂.heap) (hf : ∀ b ∈ fp, FpOk X pins H b)
    (h : ∀ (D : Addr) (b : Bk), H D = none → ∃ W : Nat → Nat → List V → St → Hp → Prop, (∃ m, W 0 m [] (List.replicate cn.length none ++ σ) (upd H D (.lst []))) ∧ ∀ i m ys σ H, W i m ys σ H →
      (J.stop i H ∧ QQ D H) ∨ (J.go i H ∧ ∀ x H', J.yld i H x H' → g b x σ H' fun σ2 H2 => tc b σ2 H2 fun ok H3 =>
        if ok = true then te b σ2 H3 fun y H4 => H4 D = some (.lst ys) ∧ ys.length < sizeLine ∧ ∃ m', m' < m ∧ W (i + 1) m' (ys ++ [y]) σ2 (upd H4 D (.lst (ys ++ [y])))
        else ∃ m', m' < m ∧ W (i + 1) m' ys σ2 H3))
    (hR : ∀ C D σ' H' s', s₂.heap.objs.size ≤ C → Inv (compCx X cn scope ⟨C, s₂, H, fp, blkXe X scope C⟩) [] σ' H' s' → QQ D H' → RR (.ref D) C (.ok .next) s')
    (hE : ∀ C D e s', blkErr X C e s' → RR (.ref D) C (.error e) s') :
    wpAny (model X.prog X.w) X.A (newList []) (fun acc s₃ => wpAny (model X.prog X.w) X.A (newFunctionEnv scope X.env.globals (closOf X.env scope.names []) [] X.env.qual none .none (some X.env)) (fun cenv s₄ =>
      codeAny (model X.prog X.w) X.A (.compStart (.ListComp elt [⟨tg, iter, ifs, 0⟩] scope pos) 0 (.ref it) acc { cenv with scope := relabel scope X.env }) (RR acc cenv.locals) s₄) EE s₃) EE s₂ := by
  refine wpAny_newObj_type (wpAny_newFunctionEnv F.nocell (by intro y hy; simp at hy) (fun h₁ hns₁ hsb₁ => ?_) F.kind)
  dsimp only at hns₁ hsb₁ ⊢
  generalize hH2 : s₂.heap.push { cls := .type "list", dict := none, data := .seq ([] : List Value).toArray } = H2 at hns₁ hsb₁ ⊢
  have hC : H2.objs.size = s₂.heap.objs.size + 1 := by rw [← hH2, Heap.size_push]
  have hDC : s₂.heap.objs.size ≠ H2.objs.size := by omega
  have hCle : s₂.heap.objs.size ≤ H2.objs.size := by omega
  have hfl : ∀ b ∈ fp, b < s₂.heap.objs.size := fun b hb => by
    obtain ⟨o, e, _⟩ := T.obj 0 _ st b hb
    exact Heap.lt_size e
  have old2 : ∀ b o, s₂.heap.get? b = some o → H2.get? b = some o := fun b o e => hH2 ▸ Heap.get?_push_of_some _ e
  have old : ∀ b o, s₂.heap.get? b = some o → h₁.get? b = some o := fun b o e => by
    have hb := Heap.lt_size e
    refine hsb₁.extBut b o (Nat.ne_of_lt (Nat.lt_of_lt_of_le hb hCle)) (Heap.get?_push_of_some _ (old2 b o e))
  have hacc : h₁.get? s₂.heap.objs.size = some { cls := .type "list", data := .seq ([] : List Value).toArray 0 } :=
    hsb₁.extBut _ _ hDC (Heap.get?_push_of_some _ (hH2 ▸ Heap.get?_push_size _ rfl))
  have I0 := Inv.block (cn := cn) (xe := blkXe X scope H2.objs.size) (tk := s₂.toks + ([] : List (Str × Value)).length) I F hcalm hf hfl hCle (Nat.le_refl _) hDC hns₁ old hacc
  have th := hTH _ hCle
  obtain ⟨W, ⟨m0, w0⟩, turn⟩ := h s₂.heap.objs.size ⟨H2.objs.size, s₂, H, fp, blkXe X scope H2.objs.size⟩ (I.hok.fresh (Nat.le_refl _))
  have fpx : ∀ {H' : Hp}, (∀ b ∈ fp, H' b = none) → ∀ b ∈ fp, FpOk (compCx X cn scope ⟨H2.objs.size, s₂, H, fp, blkXe X scope H2.objs.size⟩) [] H' b := fun {H'} hn b hb => by
    refine ⟨hn b hb, (I0.ok.exf b hb).1, I0.ok.exfs b hb, .inl hb, (I0.ok.exf b hb).2, fun p hp => absurd (show p ∈ ([] : List (Addr × Obj)) from hp) (by simp)⟩
  have hcomp : (compCx X cn scope ⟨H2.objs.size, s₂, H, fp, blkXe X scope H2.objs.size⟩).calm = true := hcalm
  have loop : ∀ s₃ : Shared, s₃ = { s₂ with heap := h₁, toks := s₂.toks + ([] : List (Str × Value)).length } →
      codeAny (model X.prog X.w) X.A (.compLoop (.ListComp elt [⟨tg, iter, ifs, 0⟩] scope pos) 0 (.ref it) (.ref s₂.heap.objs.size) (compEnvC scope (closOf X.env scope.names []) H2.objs.size X.env))
        (RR (.ref s₂.heap.objs.size) H2.objs.size) s₃ := by
    rintro s₃ rfl
    have toE : ∀ e s', (compCx X cn scope ⟨H2.objs.size, s₂, H, fp, blkXe X scope H2.objs.size⟩).xe e s' →
        notedBy (model X.prog X.w) X.A (compEnvC scope (closOf X.env scope.names []) H2.objs.size X.env) (fun e s' => RR (.ref s₂.heap.objs.size) H2.objs.size (.error e) s') e s' := fun e s' z =>
      wpAny_mono (show notedBy (model X.prog X.w) X.A (compEnvC scope (closOf X.env scope.names []) H2.objs.size X.env) (blkErr X H2.objs.size) e s' from z) (fun _ _ q => hE _ _ _ _ q) fun _ _ q => hE _ _ _ _ q
    refine comp_loop (env := compEnvC scope (closOf X.env scope.names []) H2.objs.size X.env)
      (fun n s' => ∃ i ys σ' H', Inv (compCx X cn scope ⟨H2.objs.size, s₂, H, fp, blkXe X scope H2.objs.size⟩) [] σ' H' s' ∧ tn i s'.heap ∧ (∀ b ∈ fp, H' b = none) ∧ W i n ys σ' H') ?_ m0
      ⟨0, [], _, _, I0, T.keep _ _ _ st fun b _ o e => old b o e, fun b hb => ?_, w0⟩
    · rintro n s' ⟨i, ys, σ', H', I', st', fr', w'⟩
      rcases turn i n ys σ' H' w' with ⟨stop, qn⟩ | ⟨go, step⟩
      · refine wpAny_mono (T.done (compCx X cn scope ⟨H2.objs.size, s₂, H, fp, blkXe X scope H2.objs.size⟩) rfl rfl rfl hcomp i [] s' σ' H' (fun _ _ => False) I' (fpx fr') st' stop) (fun r s4 ⟨hr, I4⟩ => ?_) fun _ _ z => z.elim
        exact .inl ⟨hr, hR _ _ _ _ _ hCle I4 qn⟩
      · refine wpAny_mono (T.item (compCx X cn scope ⟨H2.objs.size, s₂, H, fp, blkXe X scope H2.objs.size⟩) rfl rfl rfl hcomp i [] s' σ' H' (fun _ _ => False) I' (fpx fr') st' go) (fun r s4 ⟨u, hr, h4⟩ => ?_) fun _ _ z => z.elim
        refine .inr ⟨u, hr, wpAny_mono h4 (fun _ s5 ⟨x, H5, I5, r5, y5, st5, fr5⟩ => ?_) fun _ _ z => z.elim⟩
        have I5' := I5.pinned (fpx fr5) (T.obj _ _ st5)
        refine wpAny_mono (hg _ th _ s5 σ' H5 x u _ I5' r5 (step x H5 y5)) (fun _ s6 ⟨σ6, H6, I6, q6⟩ => ?_) toE
        refine wpAny_mono (ht _ th _ s6 σ6 H6 _ I6 q6) (fun ok s7 ⟨H7, I7, q7⟩ => ?_) toE
        have back : ∀ {σ8 : St} {H8 : Hp} {s8 : Shared}, Inv (compCx X cn scope ⟨H2.objs.size, s₂, H, fp, blkXe X scope H2.objs.size⟩) ([] ++ pinsAt fp s5.heap) σ8 H8 s8 → tn (i + 1) s8.heap ∧ ∀ b ∈ fp, H8 b = none := fun {σ8 H8 s8} I8 => by
          refine ⟨T.keep _ _ _ st5 fun b hb o e => (I8.pin (b, o) (List.mem_append_right _ (List.mem_append_right _ (mem_pinsAt hb e)))).1, fun b hb => ?_⟩
          obtain ⟨o, e, d⟩ := T.obj _ _ st5 b hb
          exact (I8.pin (b, o) (List.mem_append_right _ (List.mem_append_right _ (mem_pinsAt hb e)))).2.1
        cases ok with
        | false =>
          rw [if_neg Bool.false_ne_true] at q7 ⊢
          obtain ⟨m', hm, w7⟩ := q7
          obtain ⟨t8, f8⟩ := back I7
          exact ⟨m', hm, i + 1, ys, σ6, H7, I7.unpinned, t8, f8, w7⟩
        | true =>
          rw [if_pos rfl] at q7 ⊢
          refine wpAny_mono (he _ th _ s7 σ6 H7 _ I7 q7) (fun v s8 ⟨y, H8, I8, r8, hl, hz, m', hm, w8⟩ => ?_) toE
          refine wpAny_mono (mt_append (X := compCx X cn scope ⟨H2.objs.size, s₂, H, fp, blkXe X scope H2.objs.size⟩) _ s8 σ6 H8 (.ref s₂.heap.objs.size) [y] (.ref s₂.heap.objs.size) [v] (fun _ H9 => W (i + 1) m' (ys ++ [y]) σ6 H9) I8 rfl (.cons r8 .nil) ⟨_, ys, y, rfl, rfl, hl, hz, w8⟩)
            (fun _ s9 ⟨_, H9, I9, _, w9⟩ => ?_) toE
          obtain ⟨t9, f9⟩ := back I9
          exact ⟨m', hm, i + 1, _, σ6, H9, I9.unpinned, t9, f9, w9⟩
    · rw [upd_ne (Nat.ne_of_lt (hfl b hb))]
      exact (hf b hb).1
  exact codeAny_compStart_list (loop _ rfl) (T.self _ 0 _ _ _ (T.keep _ _ _ st fun b _ o e => old b o e) (loop _ rfl))

/-- [elt for tg in iter if ..] -/
theorem pe_compT (hcalm : X.calm = true) (F : CompFit X.env.scope X.N scope) (hi : PI X tg iter wi) (hg : ∀ b, TH b → PG (compCx X cn scope b) tg (g b)) (ht : ∀ b, TH b → PF (compCx X cn scope b) ifs (tc b))
    (he : ∀ b, TH b → PE (compCx X cn scope b) elt (te b))
    (hTH : ∀ pins σ H s₂ fp C, Inv X pins σ H s₂ → (∀ b ∈ fp, FpOk X pins H b) → s₂.heap.objs.size ≤ C → TH ⟨C, s₂, H, fp, blkXe X scope C⟩)
    (hs : ∀ x, foldedSetIterable iter X.env x = pure x := by intro _; rfl) : PE X (.ListComp elt [⟨tg, iter, ifs, 0⟩] scope pos) (tComp cn.length wi g tc te) := by
  intro pins s σ H Q I h
  rw [eval_ListComp]
  have hcl : closureFor scope X.env = pure (closOf X.env scope.names []) := clos_eq fun p hp e => I.ok.has p.1 (F.free p hp e)
  refine wpAny_comprehension_free (use := none) rfl hs hcl F.kind F.loc (thn (hi pins s σ H _ I h) fun xv s₁ h₁ => thn h₁ fun itv s₂ h₂ => ?_)
  obtain ⟨it, fp, tn, J, H2, rfl, I2, T, st, f2, R⟩ := h₂
  refine comp_run (QQ := fun D H' => Q (.ref D) H') (RR := fun acc C => compPost (model X.prog X.w) X.A X.xe none (EP X pins σ Q) acc C) hcalm F hg ht he (fun C hC => hTH pins σ H2 s₂ fp C I2 f2 hC) I2 T st f2 R ?_ ?_
  · intro C D σ' H' s' hC I' q
    obtain ⟨m, hm, _⟩ := I'.loc
    exact ⟨m, hm, fun h' sb => ⟨.ref D, H', I2.unblock f2 hC I' sb, rfl, q⟩⟩
  · intro C D e s' z
    exact z
theorem pe_comp (hcalm : X.calm = true) (F : CompFit X.env.scope X.N scope) (hi : PI X tg iter wi) (hg : ∀ b, PG (compCx X cn scope b) tg (g b)) (ht : ∀ b, PF (compCx X cn scope b) ifs (tc b)) (he : ∀ b, PE (compCx X cn scope b) elt (te b))
    (hs : ∀ x, foldedSetIterable iter X.env x = pure x := by intro _; rfl) : PE X (.ListComp elt [⟨tg, iter, ifs, 0⟩] scope pos) (tComp cn.length wi g tc te) :=
  pe_compT (TH := fun _ => True) hcalm F hi (fun b _ => hg b) (fun b _ => ht b) (fun b _ => he b) (fun _ _ _ _ _ _ _ _ _ => trivial) hs
/-- name = [elt for ..] on one row: the name is stored ahead of the block's names going -/
def tSetComp (n : Nat) (i : Nat) (wi : TI) (g : Bk → TG) (tc : Bk → TT) (te : Bk → TE) : TS := fun D σ H => tComp n wi g tc te σ H fun v H' => D.nx (σ.set i (some v)) H'
end
end L2

set_option maxHeartbeats 4000000
namespace L2
open PySem PySem.Spec PyProof.Rows
section
variable {X : Cx} {e : Expr} {es : List Expr} {te : TE} {pos : Pos}

/-! ### f-strings -/
abbrev TP1 := St → Hp → (Str → Hp → Prop) → Prop
abbrev TPs := Str → St → Hp → (Str → Hp → Prop) → Prop
def StrP (X : Cx) (pins : List (Addr × Obj)) (σ : St) (Q : Str → Hp → Prop) (u : Value) (s' : Shared) : Prop := ∃ y t H', u = .str y t ∧ Inv X pins σ H' s' ∧ Q y H'
/-- a part of an f-string: its value is a text -/
def PP (X : Cx) (e : Expr) (t : TP1) : Prop :=
  ∀ (pins : List (Addr × Obj)) (s : Shared) (σ : St) (H : Hp) (Q : Str → Hp → Prop), Inv X pins σ H s → t σ H Q → wpAny (model X.prog X.w) X.A (eval e X.env) (StrP X pins σ Q) X.xe s
def PPs (X : Cx) (es : List Expr) (t : TPs) : Prop :=
  ∀ (pins : List (Addr × Obj)) (s : Shared) (σ : St) (H : Hp) (acc : Str) (Q : Str → Hp → Prop), Inv X pins σ H s → t acc σ H Q →
    Joins (model X.prog X.w) X.A X.xe (evalEach es X.env) acc (fun out s₁ => ∃ H', Inv X pins σ H' s₁ ∧ Q out H') s
def tPC (x : Str) : TP1 := fun _ H Q => Q x H
/-- {value} of a text or an int -/
def tPV (te : TE) : TP1 := fun σ H Q => te σ H fun v H1 => (∃ z, v = .str z ∧ z.length ≤ sizeLine ∧ Q z H1) ∨ ∃ i : Int, v = .int i ∧ i.natAbs.log2 < 1920 ∧ Q (toString i) H1
theorem pp_const {x j} : PP X (.Constant (.str x) j pos) (tPC x) := fun _ _ _ H _ I h => Calls.Constant_str ⟨x, _, H, rfl, I.tok _, h⟩
theorem pp_val (he : PE X e te) : PP X (.FormattedValue e (-1) none pos) (tPV te) := by
  intro pins s σ H Q I h
  refine FormattedValue_plain (thn (he pins s σ H _ I h) fun v s1 ⟨x, H1, I1, r1, q1⟩ => ?_)
  rcases q1 with ⟨z, rfl, hz, q⟩ | ⟨i, rfl, hi, q⟩
  · obtain ⟨t, rfl⟩ := r1
    exact formatField_str (fun t' tk => ⟨z, t', H1, rfl, I1.tok _, q⟩) hz
  · obtain ⟨t, rfl⟩ := r1
    exact formatField_int_small hi ⟨_, _, H1, rfl, I1.tok _, q⟩
def tJ0 : TPs := fun acc _ H Q => Q acc H
def tJ (t : TP1) (u : TPs) : TPs := fun acc σ H Q => t σ H fun y H1 => (acc ++ y).length ≤ sizeLine ∧ u (acc ++ y) σ H1 Q
theorem pps_nil : PPs X [] tJ0 := fun _ _ _ H _ _ I h => ⟨H, I, h⟩
theorem pps_cons {t : TP1} {u : TPs} (h1 : PP X e t) (h2 : PPs X es u) : PPs X (e :: es) (tJ t u) := by
  intro pins s σ H acc Q I h
  refine wpAny_mono (h1 pins s σ H _ I h) (fun v s1 q => ?_) fun _ _ z => z
  obtain ⟨y, tk, H1, rfl, I1, hz, q⟩ := q
  exact ⟨y, tk, rfl, hz, h2 pins s1 σ H1 _ Q I1 q⟩
def tF (u : TPs) : TE := fun σ H Q => u Str.empty σ H fun out H1 => out.length ≤ sizeLine ∧ Q (.str out) H1
theorem pe_fstr {e2 : Expr} {u : TPs} (h : PPs X (e :: e2 :: es) u) : PE X (.JoinedStr (e :: e2 :: es) pos) (tF u) := by
  intro pins s σ H Q I hw
  refine wpAny_JoinedStr ?_
  have mono : ∀ (l : List (Sem Value)) (acc : Str) (Q1 Q2 : Str → Shared → Prop) (s : Shared), (∀ o s, Q1 o s → Q2 o s) → Joins (model X.prog X.w) X.A X.xe l acc Q1 s → Joins (model X.prog X.w) X.A X.xe l acc Q2 s := by
    intro l
    induction l with
    | nil => intro acc Q1 Q2 s hm h; exact hm _ _ h
    | cons a l ih =>
      intro acc Q1 Q2 s hm h
      refine wpAny_mono h (fun v s1 q => ?_) fun _ _ z => z
      obtain ⟨y, t, e1, hz, q⟩ := q
      exact ⟨y, t, e1, hz, ih _ _ _ _ hm q⟩
  refine mono _ _ _ _ _ (fun out s1 q => ?_) (h pins s σ H _ _ I hw)
  obtain ⟨H1, I1, hz, q⟩ := q
  exact ⟨hz, .str out, H1, I1.tok _, ⟨_, rfl⟩, q⟩

/-! ### int(text), join, split, a slice of a text -/
def rJoin (K : PySem.W.Frag) : V → List V → Hp → VK → Prop := fun x vs H Q => ∃ sep a ys, x = .str sep ∧ vs = [.ref a] ∧ SqL K H a (ys.map V.str) ∧ (ys.map (·.length)).sum + ys.length * sep.length ≤ 16777216 ∧ Q (.str (Str.join sep ys)) H
theorem vals_numbered : ∀ (tk : Nat) (ys : List Str), Vals (ys.map V.str) (strsFrom tk ys)
  | _, [] => .nil
  | tk, y :: r => .cons ⟨tk, rfl⟩ (vals_numbered (tk + 1) r)
def rSplit : V → List V → Hp → VK → Prop := fun x vs H Q => ∃ z y, x = .str z ∧ vs = [.str y] ∧ (y.length == 0) = false ∧ z.length ≤ sizeLine ∧ (Txt.split z y).length ≤ sizeLine ∧
  ∀ p, H p = none → Q (.ref p) (upd H p (.lst ((Txt.split z y).map V.str)))
theorem mt_split : MtM X "str.split" rSplit := by
  intro pins s σ H x vs v us Q I rx rv h
  obtain ⟨z, y, rfl, rfl, hy, hz, hn, q⟩ := h
  obtain ⟨t, rfl⟩ := rx
  obtain ⟨u, rfl, tu, rfl⟩ := rv.one
  have lay : ∀ (ws : List Value) (tk : Nat), Vals ((Txt.split z y).map V.str) ws → EP X pins σ Q (.ref s.heap.objs.size) { s with heap := s.heap.push { cls := .type "list", data := .seq ws.toArray }, toks := tk } := by
    intro ws tk hv
    refine ⟨.ref s.heap.objs.size, _, I.lnew hv (by rw [List.length_map]; exact hn), rfl, q _ I.fresh⟩
  cases h1 : (decide (z.length < y.length) || decide (Builtin.Str.strKind z < Builtin.Str.strKind y))
  · cases hf : (Builtin.Str.occurrences z y 0 z.length (z.length + 1)).isEmpty
    · have es : Txt.split z y = Builtin.Str.partsBetween z (Builtin.Str.occurrences z y 0 z.length (z.length + 1)) y.length := (if_neg (ne_true_of_eq_false h1)).trans (if_neg (ne_true_of_eq_false hf))
      refine call_meets F.slot_str_split (typeIs_str _ _ _) F.entry_str_split (F.args_str_split_2 _ _) (meets_str_split_sep z y t tu h1 hy hf hz (by rw [← es]; exact hn)) ?_
      rw [← es]
      exact lay _ _ (vals_numbered _ _)
    · have es : Txt.split z y = [z] := (if_neg (ne_true_of_eq_false h1)).trans (if_pos hf)
      refine call_meets F.slot_str_split (typeIs_str _ _ _) F.entry_str_split (F.args_str_split_2 _ _) (meets_str_split_not_found z y t tu h1 hy hf) ?_
      exact lay [.str z t] s.toks (by rw [es]; exact .cons ⟨t, rfl⟩ .nil)
  · have es : Txt.split z y = [z] := if_pos h1
    refine call_meets F.slot_str_split (typeIs_str _ _ _) F.entry_str_split (F.args_str_split_2 _ _) (meets_str_split_cannot_occur z y t tu h1) ?_
    exact lay [.str z t] s.toks (by rw [es]; exact .cons ⟨t, rfl⟩ .nil)
/-- t[lo:hi] -/
def rSlS : V → Option Int → Option Int → Hp → VK → Prop := fun x lo hi H Q => ∃ z, x = .str z ∧ z.length ≤ sizeLine ∧ Q (.str (Txt.slice z lo hi)) H
theorem part_pair {v : Value} {o : Option Int} (p : IsPart v o) : ∃ l : Option (Int × Tok), v = partValue l ∧ l.map (·.1) = o := by
  cases p with
  | none => exact ⟨none, rfl, rfl⟩
  | int i t => exact ⟨some (i, t), rfl, rfl⟩
theorem sl_str : SlR X rSlS := by
  intro pins s σ H x v vl vu lo hi sl Q I rx hs pl pu h
  obtain ⟨z, rfl, hz, q⟩ := h
  obtain ⟨t, rfl⟩ := rx
  obtain ⟨l, rfl, el⟩ := part_pair pl
  obtain ⟨u, rfl, eu⟩ := part_pair pu
  subst el eu
  refine ⟨"str", _, F.slot_str_getitem.lookup, typeIs_str _ _ _, ?_⟩
  obtain ⟨o, ho, hc, hd⟩ := hs
  refine wpAny_getItem_str_slice (l := l) (u := u) (st := none) ⟨o, ho, hc, hd⟩ rfl ?_
  exact post_val_or_str ⟨Nat.le_trans (Txt.slice_le z _ _) hz, fun t' k => ⟨.str _, H, I.tok _, ⟨t', rfl⟩, q⟩⟩

/-! ### the signs of a text, one after another -/
def Its (z : Str) : It := ⟨fun i _ => i < z.cps.size, fun i H x H' => H' = H ∧ ∃ c, z.cps[i]? = some c ∧ x = .str ⟨#[c]⟩, fun i _ => z.cps.size ≤ i⟩
def iStr (tl : TE) : TI := fun σ H R => tl σ H fun x H1 => ∃ z, x = .str z ∧ R (Its z) H1
theorem turn_str {P : Program} {w : World} {K : PySem.W.Frag} {tg : Expr} {z : Str} {it : Addr} {T : String} {t : Tok} (hT : ["enumerate", "zip", "dict_itemiterator", "dict_reverseitemiterator", "odict_iterator", "itertools.zip_longest", "itertools.pairwise"].contains T = false)
    (W : ∀ A : Around, A.handled = none → Walks P w A it [it] [it] z.cps.size (SignAt z) (fun i h => h.IsStrIter it T z t i)) 
    (S : ∀ (A : Around) (i : Nat) (s : Shared) (Q : Value → Shared → Prop) (E : Value → Shared → Prop), s.heap.IsStrIter it T z t i → Q (.ref it) s → wpAny (model P w) A (pyIter (.ref it)) Q E s) :
    Turn P w K tg (Its z) [it] it (fun i h => h.IsStrIter it T z t i ∧ i ≤ z.cps.size) where
  mem := by simp
  obj := fun i h st b hb => by
    have e : b = it := by simpa using hb
    subst e
    obtain ⟨⟨o, e, c, d⟩, _⟩ := st
    exact ⟨o, e, fun v q => by rw [d] at q; cases q⟩
  keep := fun i h h' st k => ⟨by
    obtain ⟨⟨o, e, c, d⟩, _⟩ := st
    exact ⟨o, k it (by simp) o e, c, d⟩, st.2⟩
  item := by
    intro X hP hw hK hc i pins s σ H E I hf st hg
    subst hP hw hK
    obtain ⟨f0, f1, f2, f3, f4, f5⟩ := hf it (by simp)
    have hgi : i < z.cps.size := hg
    refine (W X.A (I.ok.hd hc)).item i s _ _ hgi st.1 fun v h' tk hv st' kk => ?_
    obtain ⟨c, u, hc', rfl⟩ := hv
    have I1 : Inv X pins σ H { s with heap := h', toks := tk } := I.turned (fun b o hb e => kk b o (by simpa using hb) e) f0 f1 f3 f4 f5
    obtain ⟨o, e, cc, d⟩ := id st'
    exact ⟨_, rfl, go_of (s := { s with heap := h', toks := tk }) e cc d hT ⟨.str ⟨#[c]⟩, H, I1, ⟨u, rfl⟩, ⟨rfl, c, hc', rfl⟩, ⟨st', hgi⟩, fun b hb => (hf b hb).1⟩⟩
  done := by
    intro X hP hw hK hc i pins s σ H E I hf st hg
    subst hP hw hK
    obtain ⟨f0, f1, f2, f3, f4, f5⟩ := hf it (by simp)
    have hge : z.cps.size ≤ i := hg
    have e : i = z.cps.size := Nat.le_antisymm st.2 hge
    subst e
    exact (W X.A (I.ok.hd hc)).done s _ _ st.1 fun h' tk kk => ⟨rfl, I.turned (fun b o hb e => kk b o (by simpa using hb) e) f0 f1 f3 f4 f5⟩
  self := fun A i s Q E st h => S A i s Q E st.1 h
theorem pi_str {tg l : Expr} {tl : TE} (hl : PE X l tl) : PI X tg l (iStr tl) := by
  intro pins s σ H R I h
  refine thn (hl pins s σ H _ I h) fun v s1 ⟨x, H1, I1, r1, q1⟩ => ?_
  obtain ⟨z, rfl, q⟩ := q1
  obtain ⟨t, rfl⟩ := r1
  have fp : ∀ b ∈ [s1.heap.objs.size], FpOk X pins H1 b := fun b hb => by
    have e : b = s1.heap.objs.size := by simpa using hb
    subst e
    exact I1.fpOk (Nat.le_refl _) (I1.hok.fresh (Nat.le_refl _))
  cases ha : z.cps.all (· < 128)
  · refine wpAny_pyIter_wide ha ?_
    refine ⟨s1.heap.objs.size, [s1.heap.objs.size], _, _, H1, rfl, I1.kept (t' := s1.toks) fun b o e => Heap.get?_push_of_some _ e, turn_str (T := "str_iterator") (t := t) (by decide) (fun A hA => Walks.strWide hA _ z t)
      (fun A i s Q E st hq => wpAny_pyIter_striter_wide st hq), ⟨⟨_, Heap.get?_push_size _ rfl, rfl, rfl⟩, Nat.zero_le _⟩, fp, q⟩
  · refine wpAny_pyIter_ascii ha ?_
    refine ⟨s1.heap.objs.size, [s1.heap.objs.size], _, _, H1, rfl, I1.kept (t' := s1.toks) fun b o e => Heap.get?_push_of_some _ e, turn_str (T := "str_ascii_iterator") (t := t) (by decide) (fun A hA => Walks.strAscii hA _ z t)
      (fun A i s Q E st hq => wpAny_pyIter_striter_ascii st hq), ⟨⟨_, Heap.get?_push_size _ rfl, rfl, rfl⟩, Nat.zero_le _⟩, fp, q⟩

/-! ### any of a list of bools -/
theorem any_range : ∀ bs : List Bool, (List.range bs.length).any (fun i => bs.getD i false) = bs.any id
  | [] => rfl
  | b :: bs => by
    rw [List.length_cons, List.range_succ_eq_map, List.any_cons, List.any_map, List.any_cons]
    have : ((fun i => (b :: bs).getD i false) ∘ Nat.succ) = fun i => bs.getD i false := by
      funext i
      rfl
    rw [this, any_range bs]
    rfl
theorem call_any : CallR X (.builtin "any") (fun xs H Q => X.calm = true ∧ ∃ (a : Addr) (bs : List Bool), xs = [.ref a] ∧ SqL X.K H a (bs.map V.bl) ∧ Q (.bl (bs.any id)) H) := by
  intro pins s σ H xs us Q I r h
  obtain ⟨hc, a, bs, rfl, hq, q⟩ := h
  obtain ⟨u, rfl, rfl⟩ := r.one
  obtain ⟨its, rv, p, hz⟩ := I.list hq
  have hl := rv.length
  rw [List.length_map] at hl
  have bsAt : ∀ (i : Nat) (v : Value), its.toArray[i]? = some v → v = Value.bool (bs.getD i false) := by
    intro i v hv
    have hv' : its[i]? = some v := by simpa using hv
    have hi : i < its.length := (List.getElem?_eq_some_iff.mp hv').1
    have hb : i < bs.length := by omega
    obtain ⟨u, hu, ru⟩ := rv.get (i := i) (x := .bl (bs[i])) (by rw [List.getElem?_map, List.getElem?_eq_getElem hb]; rfl)
    rw [hv'] at hu; cases hu
    have : v = .bool bs[i] := ru
    rw [this, List.getD_eq_getElem?_getD, List.getElem?_eq_getElem hb]
    rfl
  refine call_any_walk (wpAny_pyIter_list p.isList ?_)
  have ane : a ≠ s.heap.objs.size := by
    obtain ⟨o, ho, _⟩ := p.isList
    exact Nat.ne_of_lt (Heap.lt_size ho)
  have hd : X.A.in1.handled = none := I.ok.hd hc
  refine ⟨s.heap.objs.size, _, _, _, _, _, fun i => bs.getD i false, rfl, Walks.list hd s.heap.objs.size a ane its.toArray, ⟨⟨_, Heap.get?_push_size _ rfl, rfl, rfl⟩, p.isList.push _⟩, ?_, ?_⟩
  · intro i v s' Q' E' hP hQ'
    rw [bsAt i v hP]
    exact wpAny_truthy_bool hQ'
  · intro h' tk kk
    have e : (List.range its.toArray.size).any (fun i => bs.getD i false) = bs.any id := by
      rw [List.size_toArray, ← hl]
      exact any_range bs
    rw [e]
    refine ⟨.bl _, H, I.kept (t' := tk) fun b o e => kk b o (fun z => ?_) (Heap.get?_push_of_some _ e), rfl, q⟩
    have : b = s.heap.objs.size := by simpa using z
    exact absurd (Heap.lt_size e) (by rw [this]; exact Nat.lt_irrefl _)
end
end L2

set_option maxHeartbeats 4000000
namespace L2
open PySem PySem.Spec PyProof.Rows PySem.SeqAt

/-! ### deep equality: two values that are the same all through -/
inductive Deq (K : PySem.W.Frag) (H : Hp) : Nat → V → V → Prop where
  | flat {n : Nat} {x : V} (f : flatV x = true) : Deq K H n x x
  | tup {n : Nat} {a b : Addr} {xs ys : List V} (ha : SqT K H a xs) (hb : SqT K H b ys) (hl : xs.length = ys.length) (h : ∀ (i : Nat) x y, xs[i]? = some x → ys[i]? = some y → Deq K H n x y) : Deq K H (n + 1) (.ref a) (.ref b)
  | lst {n : Nat} {a b : Addr} {xs ys : List V} (ha : SqL K H a xs) (hb : SqL K H b ys) (hl : xs.length = ys.length) (h : ∀ (i : Nat) x y, xs[i]? = some x → ys[i]? = some y → Deq K H n x y) : Deq K H (n + 1) (.ref a) (.ref b)
section
variable {X : Cx} {pins : List (Addr × Obj)} {σ : St} {H : Hp} {s : Shared}
theorem eqV_self : ∀ {x : V}, flatV x = true → eqV x x = true := by
  intro x f
  cases x <;> first | (simp [eqV]; done) | (cases f)
theorem range_all_true (n : Nat) : (List.range n).all (fun _ => true) = true := by simp
theorem Deq.at {n : Nat} {x y : V} (d : Deq X.K H n x y) (I : Inv X pins σ H s) : ∀ {A : Around} {u v : Value}, A.units + n < cLine → RelV x u → RelV y v →
    EqAt A s u v true ∧ (∀ a b, x = .ref a → y = .ref b → RcAt A s u v true ∧ RcNeAt A s u v false) := by
  induction d with
  | @flat n x f =>
    intro A u v hu ru rv
    refine ⟨?_, fun a b e _ => ?_⟩
    · have := eqAt_V (A := A) (s := s) ru rv f f
      rw [eqV_self f] at this
      exact this
    · subst e; cases f
  | @tup n a b xs ys ha hb hl h ih =>
    intro A u v hu ru rv
    cases ru
    cases rv
    obtain ⟨its, r, p, _⟩ := I.tuple ha
    obtain ⟨its', r', p', _⟩ := I.tuple hb
    have e1 := r.length
    have e2 := r'.length
    have he : ∀ j (h1 : j < its.toArray.size) (h2 : j < its'.toArray.size), EqAt A.in1 s its.toArray[j] its'.toArray[j] true := by
      intro j h1 h2
      have h1' : j < its.length := by simpa using h1
      have h2' : j < its'.length := by simpa using h2
      have g1 : xs[j]? = some xs[j] := List.getElem?_eq_getElem (by omega)
      have g2 : ys[j]? = some ys[j] := List.getElem?_eq_getElem (by omega)
      obtain ⟨u1, q1, k1⟩ := r.get g1
      obtain ⟨u2, q2, k2⟩ := r'.get g2
      have z1 : its.toArray[j] = u1 := by
        rw [List.getElem?_eq_getElem h1'] at q1
        simpa using q1
      have z2 : its'.toArray[j] = u2 := by
        rw [List.getElem?_eq_getElem h2'] at q2
        simpa using q2
      rw [z1, z2]
      exact (ih j _ _ g1 g2 (by show A.units + 1 + n < cLine; omega) k1 k2).1
    have bt : ((List.range (min its.toArray.size its'.toArray.size)).all (fun _ => true) && its.toArray.size == its'.toArray.size) = true := by
      rw [range_all_true]
      simp
      omega
    have rc : RcAt A s (.ref a) (.ref b) true := by
      have := RcAt.tuples (A := A) (e := fun _ => true) (show s.heap.IsTuple a its.toArray from p) (show s.heap.IsTuple b its'.toArray from p') (by omega) he
      rw [bt] at this
      exact this
    have rn : RcNeAt A s (.ref a) (.ref b) false := by
      have := RcNeAt.tuples (A := A) (e := fun _ => true) (show s.heap.IsTuple a its.toArray from p) (show s.heap.IsTuple b its'.toArray from p') (by omega) he
      rw [bt] at this
      exact this
    refine ⟨?_, fun _ _ _ _ => ⟨rc, rn⟩⟩
    by_cases e : a = b
    · subst e; exact EqAt.same _
    · exact EqAt.of_refs e rc
  | @lst n a b xs ys ha hb hl h ih =>
    intro A u v hu ru rv
    cases ru
    cases rv
    obtain ⟨its, r, p, _⟩ := I.list ha
    obtain ⟨its', r', p', _⟩ := I.list hb
    have e1 := r.length
    have e2 := r'.length
    have he : ∀ j (h1 : j < its.toArray.size) (h2 : j < its'.toArray.size), EqAt A.in1 s its.toArray[j] its'.toArray[j] true := by
      intro j h1 h2
      have h1' : j < its.length := by simpa using h1
      have h2' : j < its'.length := by simpa using h2
      have g1 : xs[j]? = some xs[j] := List.getElem?_eq_getElem (by omega)
      have g2 : ys[j]? = some ys[j] := List.getElem?_eq_getElem (by omega)
      obtain ⟨u1, q1, k1⟩ := r.get g1
      obtain ⟨u2, q2, k2⟩ := r'.get g2
      have z1 : its.toArray[j] = u1 := by
        rw [List.getElem?_eq_getElem h1'] at q1
        simpa using q1
      have z2 : its'.toArray[j] = u2 := by
        rw [List.getElem?_eq_getElem h2'] at q2
        simpa using q2
      rw [z1, z2]
      exact (ih j _ _ g1 g2 (by show A.units + 1 + n < cLine; omega) k1 k2).1
    have bt : (List.range its.toArray.size).all (fun _ => true) = true := range_all_true _
    have rc : RcAt A s (.ref a) (.ref b) true := by
      have := RcAt.lists (A := A) (e := fun _ => true) p.isList p'.isList (by simp; omega) (by omega) he
      rw [bt] at this
      exact this
    have rn : RcNeAt A s (.ref a) (.ref b) false := by
      have := RcNeAt.lists (A := A) (e := fun _ => true) p.isList p'.isList (by simp; omega) (by omega) he
      rw [bt] at this
      exact this
    refine ⟨?_, fun _ _ _ _ => ⟨rc, rn⟩⟩
    by_cases e : a = b
    · subst e; exact EqAt.same _
    · exact EqAt.of_refs e rc
inductive rEqDI (K : PySem.W.Frag) (b : Bool) (x : V) (y : V) (H : Hp) (Q : VK) : Prop
  | mk (a : _) (c : _) (h0_ : x = .ref a) (h1_ : y = .ref c) (h2_ : Deq K H 60 x y ∧ Q (.bl b) H) : rEqDI K b x y H Q
def rEqD (K : PySem.W.Frag) (b : Bool) : R2 := fun x y H Q => rEqDI K b x y H Q
theorem op_eqD (hu : X.A.units + 64 < cLine) : OpR X (compareOp .Eq) (rEqD X.K true) := by
  intro pins s σ H x y v u Q I r1 r2 h
  obtain ⟨a, c, rfl, rfl, d, q⟩ := h
  exact (((d.at I (A := X.A) (by omega) r1 r2).2 a c rfl rfl).1) X.prog X.w X.xe _ ⟨.bl true, H, I, rfl, q⟩
/-! ### isinstance(x, T), T a built-in type -/
theorem call_isT : CallR X (.builtin "isinstance") (fun xs H Q => ∃ x T t b, xs = [x, .ty T] ∧ TyOf X.K H x t ∧ PySem.W.kitOne X.K t (.type T) = some b ∧ Q (.bl b) H) := by
  intro pins s σ H xs us Q I r h
  obtain ⟨x, T, t, b, rfl, ty, e, q⟩ := h
  obtain ⟨u, v, rfl, r1, r2⟩ := r.two
  cases r2
  exact isinst_ok I r1 ty e fun tk => ⟨.bl b, H, I.tok _, rfl, q⟩

/-! ### zip of two lists, enumerate of a list: the pair is a tuple that is not looked at -/
/-- (i, x) of the list at a -/
def Ite (K : PySem.W.Frag) (a : Addr) : It :=
  ⟨fun i H => ∃ xs x, SqL K H a xs ∧ xs[i]? = some x, fun i H x H' => ∃ y t, x = .ref t ∧ H t = none ∧ (∀ xs, SqL K H a xs → xs[i]? = some y) ∧ H' = upd H t (.tup [.int i, y]), fun i H => ∃ xs, SqL K H a xs ∧ xs.length ≤ i⟩
/-- (x, y) of the lists at a and b -/
def Itz (K : PySem.W.Frag) (a b : Addr) : It :=
  ⟨fun i H => ∃ xs ys x y, SqL K H a xs ∧ SqL K H b ys ∧ xs[i]? = some x ∧ ys[i]? = some y,
   fun i H p H' => ∃ x y t, p = .ref t ∧ H t = none ∧ (∀ xs, SqL K H a xs → xs[i]? = some x) ∧ (∀ ys, SqL K H b ys → ys[i]? = some y) ∧ H' = upd H t (.tup [x, y]),
   fun i H => ∃ xs ys, SqL K H a xs ∧ SqL K H b ys ∧ min xs.length ys.length = i⟩
theorem notList_of {a : Addr} {K : PySem.W.Frag} {X : Cx} {pins : List (Addr × Obj)} {σ : St} {H : Hp} {s : Shared} {xs : List V} {b : Addr} {o : Obj} (I : Inv X pins σ H s) (hq : SqL X.K H a xs) (e : s.heap.get? b = some o) (hc : o.cls ≠ .type "list") : a ≠ b := by
  rintro rfl
  obtain ⟨its, _, p, _⟩ := I.list hq
  obtain ⟨o', e', c', _⟩ := p.isList
  rw [e] at e'; cases e'
  exact hc c'
/-- behind an iterator's step: its own records wr turned, a new tuple lies at T -/
theorem Inv.pairLaid {tk : Nat} {h' : Heap} {wr : List Addr} {T : Addr} {xs : List V} {vals : List Value} (I : Inv X pins σ H s) (hw : ∀ b ∈ wr, FpOk X pins H b) (hT : s.heap.objs.size ≤ T) (ht : h'.IsTuple T vals.toArray) (rv : Vals xs vals) (hz : xs.length ≤ sizeLine)
    (kk : ∀ b o, b ∉ wr → s.heap.get? b = some o → h'.get? b = some o) (there : ∀ b ∈ wr, ∃ o, h'.get? b = some o) : Inv X pins σ (upd H T (.tup xs)) { s with heap := h', toks := tk } := by
  have hTn : H T = none := I.hok.fresh hT
  have nT : ∀ b o, s.heap.get? b = some o → b ≠ T := fun b o e => Nat.ne_of_lt (Nat.lt_of_lt_of_le (Heap.lt_size e) hT)
  refine I.step (g' := s.gens) (d' := s.drawn) (ch := wr) (fun b hb => ?_) (fun b o _ _ hc e _ => kk b o hc e) (fun b o _ _ hc e _ => ⟨o.slots, kk b o hc e⟩) (fun b o _ e n => by rw [upd_ne (nT b o e)]; exact n)
    (fun b o hc e => ⟨o, kk b o hc e⟩) (fun b ys e => by rw [upd_ne (ne_of_none e hTn)]; exact e) (fun b o u e => by rw [upd_ne (ne_of_none e hTn)]; exact e) (fun b ps e => ⟨#[], by rw [upd_ne (ne_of_none e hTn), e]; simp⟩) (fun m hm => ?_) (fun b u e => ?_) I.bare
  · obtain ⟨_, f1, _, f3, f4, f5⟩ := hw b hb
    exact ⟨f3, f1, f4, f5⟩
  · obtain ⟨o, es, ep, ho, r⟩ := hm
    exact ⟨o, es, ep, kk _ o (fun z => (hw _ z).2.1 rfl) ho, r⟩
  · by_cases hb : b = T
    · subst hb
      rw [upd_same] at e
      cases e
      exact ⟨hz, vals, rv, ht⟩
    · rw [upd_ne hb] at e
      refine (I.hok b u e).stay (fun c v hc q => kk c v (fun z => ?_) q) (fun c q => by rw [upd_ne (ne_of_none q hTn)]; exact q) fun c ys q => by rw [upd_ne (ne_of_none q hTn)]; exact q
      have hn := (hw c z).1
      rcases hc with hc | hc
      · rw [hc, e] at hn; cases hn
      · rw [hc] at hn; cases hn
theorem Inv.turnedMany {tk : Nat} {h' : Heap} {wr : List Addr} (I : Inv X pins σ H s) (hw : ∀ b ∈ wr, FpOk X pins H b) (kk : ∀ b o, b ∉ wr → s.heap.get? b = some o → h'.get? b = some o) : Inv X pins σ H { s with heap := h', toks := tk } := by
  refine I.step (g' := s.gens) (d' := s.drawn) (ch := wr) (fun b hb => ?_) (fun b o _ _ hc e _ => kk b o hc e) (fun b o _ _ hc e _ => ⟨o.slots, kk b o hc e⟩) (fun b o _ e n => n)
    (fun b o hc e => ⟨o, kk b o hc e⟩) (fun b ys e => e) (fun b o u e => e) (fun b ps e => ⟨#[], by rw [e]; simp⟩) (fun m hm => ?_) (fun b u e => ?_) I.bare
  · obtain ⟨_, f1, _, f3, f4, f5⟩ := hw b hb
    exact ⟨f3, f1, f4, f5⟩
  · obtain ⟨o, es, ep, ho, r⟩ := hm
    exact ⟨o, es, ep, kk _ o (fun z => (hw _ z).2.1 rfl) ho, r⟩
  · refine (I.hok b u e).stay (fun c v hc q => kk c v (fun z => ?_) q) (fun c q => q) fun c ys q => q
    have hn := (hw c z).1
    rcases hc with hc | hc
    · rw [hc, e] at hn; cases hn
    · rw [hc] at hn; cases hn
end
end L2

set_option maxHeartbeats 4000000
namespace L2
open PySem PySem.Spec PyProof.Rows PySem.SeqAt
/-! ### one word for an operation, whatever it is upon -/
section
variable {X : Cx}
theorem hu_of64 {k : Nat} {A : Around} (hr : Room k A) : A.units + 64 < cLine := hr.units
theorem bt_len : bootBuiltins "len" = some (.builtin "len") := by decide +kernel
theorem bt_min : bootBuiltins "min" = some (.builtin "min") := by decide +kernel
theorem bt_enumerate : bootBuiltins "enumerate" = some (.type "enumerate") := by decide +kernel
theorem bt_isinstance : bootBuiltins "isinstance" = some (.builtin "isinstance") := by decide +kernel
theorem bt_any : bootBuiltins "any" = some (.builtin "any") := by decide +kernel
theorem bt_all : bootBuiltins "all" = some (.builtin "all") := by decide +kernel
/-- text * n -/
def rRepS : R2 := fun x y H Q => ∃ z k, x = .str z ∧ y = .int k ∧ 0 ≤ k ∧ z.length * k.toNat ≤ 1000 ∧ ∀ r : Str, r.cps.toList = (List.replicate k.toNat z.cps.toList).flatten → Q (.str r) H
end
end L2
namespace L2
open PySem PySem.Spec PyProof.Rows
/-! ### a row of written texts as arguments -/
def cstrs : List Expr → Option (List Str)
  | [] => some []
  | .Constant (.str x) _ _ :: r => (cstrs r).map fun ys => x :: ys
  | _ => none
end L2

namespace L2
open PySem
theorem seq_upd {K : PySem.W.Frag} {H : Hp} {a l : Addr} {o : HO} {xs : List V} (h : SqL K H a xs) (hn : H l = none) : SqL K (upd H l o) a xs := by
  have ne : ∀ {u}, H a = some u → a ≠ l := fun e => ne_of_none e hn
  rcases h with (h | ⟨u, h⟩) | h
  · exact .inl (.inl (by rw [upd_ne (ne h)]; exact h))
  · exact .inl (.inr ⟨u, by rw [upd_ne (ne h)]; exact h⟩)
  · exact .inr h
theorem Same.upd {H : Hp} {l : Addr} {o : HO} (hn : H l = none) : Same H (upd H l o) := fun b u e => by
  rw [upd_ne (ne_of_none e hn)]
  exact e
end L2
namespace L2
theorem bodyOk {X : Cx} {b : List PySem.Stmt} {t : TS} {D : Ends} {σ : St} {H : Hp} (h : PSs X b t) (q : t D σ H) : ∃ t, PSs X b t ∧ t D σ H := ⟨t, h, q⟩
theorem dec_int' (i j : Int) : decide (V.int i = V.int j) = decide (i = j) := by
  by_cases h : i = j
  · subst h; simp
  · rw [decide_eq_false h]
    exact decide_eq_false fun e => h (V.int.inj e)
end L2
namespace L2
open PySem
end L2
namespace L2
open PySem
end L2

set_option maxHeartbeats 4000000
namespace L2
open PySem PySem.Spec PyProof.Rows
section
variable {X : Cx} {tg : Expr}
theorem list_inj2 {pins : List (Addr × Obj)} {σ : St} {H : Hp} {s : Shared} {a : Addr} {xs : List V} {i : Nat} {y : V} (I : Inv X pins σ H s) (hq : SqL X.K H a xs) (hy : xs[i]? = some y) : ∀ ys, SqL X.K H a ys → ys[i]? = some y := fun ys h => by
  rw [I.list_inj h hq]
  exact hy
/-- the tuple that an iterator hands out, for a target that takes it apart -/
theorem turn_enum {P : Program} {w : World} {K : PySem.W.Frag} {es : List Expr} {k : Nat} {tp : Pos} (a e it : Addr) (hei : e ≠ it) :
    Turn P w K (.Tuple es k tp) (Ite K a) [e, it] e (fun i h => (∃ old, IsEnum h e it i old) ∧ h.IsListIter it a i) where
  mem := by simp
  obj := fun i h st b hb => by
    obtain ⟨⟨old, he⟩, o, e2, c, d⟩ := st
    rcases List.mem_cons.mp hb with rfl | hb
    · exact ⟨_, he, fun v z => by
        have z' : Data.fields _ = Data.cell v := z
        cases z'⟩
    · have : b = it := by simpa using hb
      subst this
      exact ⟨o, e2, fun v z => by rw [d] at z; cases z⟩
  keep := fun i h h' st kp => by
    obtain ⟨⟨old, he⟩, hit⟩ := st
    exact ⟨⟨old, kp e (by simp) _ he⟩, hit.at fun o x => kp it (by simp) o x⟩
  item := by
    intro X hP hw hK hc i pins s σ H E I hf st hg
    subst hP hw hK
    obtain ⟨xs, x, hq, hx⟩ := hg
    obtain ⟨its, rv, p, hz⟩ := I.list hq
    obtain ⟨u, hu, ru⟩ := rv.get hx
    obtain ⟨⟨old, he⟩, hit⟩ := st
    have hle : a ≠ e := notList_of (K := X.K) I hq he (by intro z; injection z with z; exact absurd z (by decide))
    have hli : a ≠ it := by
      obtain ⟨o, e2, c, _⟩ := hit
      exact notList_of (K := X.K) I hq e2 (by rw [c]; intro z; injection z with z; exact absurd z (by decide))
    have hiu : i < its.toArray.size := by
      have := (List.getElem?_eq_some_iff.mp hu).1
      simpa using this
    have W := WalksT.enumerate (prog := X.prog) (w := X.w) (I.ok.hd hc) e it a hei hle hli its.toArray
    refine W.item i s _ _ hiu ⟨⟨old, he⟩, hit, p.isList⟩ fun T vals h' tk hv hT ht mid kk => ?_
    refine ⟨_, rfl, ?_⟩
    obtain ⟨t, x', hx', rfl⟩ := hv
    have ex : x' = u := by
      have : its[i]? = some x' := by simpa using hx'
      rw [hu] at this
      exact (Option.some.inj this).symm
    subst ex
    have fw : ∀ b ∈ [e, it], FpOk X pins H b := hf
    have I1 : Inv X pins σ (upd H T (.tup [.int i, x])) { s with heap := h', toks := tk } := by
      refine I.pairLaid (vals := [.int i t, x']) fw hT (by simpa using ht) (.cons ⟨t, rfl⟩ (.cons ru .nil)) (by show 2 ≤ sizeLine; decide) kk fun b hb => ?_
      obtain ⟨⟨xx, ho⟩, ⟨o, e2, _⟩, _⟩ := mid
      rcases List.mem_cons.mp hb with rfl | hb
      · exact ⟨_, ho⟩
      · have : b = it := by simpa using hb
        subst this
        exact ⟨o, e2⟩
    have hTn : H T = none := I.hok.fresh hT
    have neT : ∀ b ∈ [e, it], b ≠ T := fun b hb z => by
      subst z
      exact W.apart i b _ mid hb
    refine W.go es k tp i T _ _ _ mid fun h'' st'' kk'' => ?_
    have hf2 : ∀ b ∈ [e, it], FpOk X pins (upd H T (.tup [.int i, x])) b := fun b hb => by
      obtain ⟨f0, fr⟩ := hf b hb
      exact ⟨by rw [upd_ne (neT b hb)]; exact f0, fr⟩
    refine ⟨.ref T, upd H T (.tup [.int i, x]), I1.turnedMany (tk := tk) hf2 kk'', rfl, ⟨x, T, rfl, hTn, list_inj2 I hq hx, rfl⟩, ⟨st''.1, st''.2.1⟩, fun b hb => (hf2 b hb).1⟩
  done := by
    intro X hP hw hK hc i pins s σ H E I hf st hg
    subst hP hw hK
    obtain ⟨xs, hq, hx⟩ := hg
    obtain ⟨its, rv, p, hz⟩ := I.list hq
    obtain ⟨⟨old, he⟩, hit⟩ := st
    have hl := rv.length
    refine wpAny_pyNext_enum_end (I.ok.hd hc) he hit p.isList (Array.getElem?_eq_none (by simp; omega)) fun h' hx' => ?_
    exact ⟨rfl, I.turnedMany (tk := s.toks) hf fun b o hb q => hx' b o (fun z => hb (by simp [z])) q⟩
  self := fun _ _ _ _ _ st h => by
    obtain ⟨⟨old, he⟩, _⟩ := st
    exact wpAny_pyIter_enum he h
/-- one argument, with what is known of it -/
theorem pa_one {l : Expr} {tl : TE} (hl : PE X l tl) (hs : starEach [l] X.env = [(false, eval l X.env)]) (pos : Pos) (pins : List (Addr × Obj)) (s : Shared) (σ : St) (H : Hp) {Q : VK} (I : Inv X pins σ H s) (h : tl σ H Q) :
    wpAny (model X.prog X.w) X.A (spliced (backTo pos (starEach [l] X.env))) (fun us s1 => ∃ v u H1, Inv X pins σ H1 s1 ∧ us = [u] ∧ RelV v u ∧ Q v H1) X.xe s := by
  have ha : PA X [l] (fun σ H Q => tl σ H fun x H1 => Q [x] H1) := pa_cons hl pa_nil hs
  have mono : wpAny (model X.prog X.w) X.A (spliced (backTo pos (starEach [l] X.env))) (AP X pins σ fun vs H1 => ∃ v, vs = [v] ∧ Q v H1) X.xe s := by
    have he : PE X l (fun σ' H' Q' => σ' = σ ∧ H' = H ∧ ∀ v H1, Q v H1 → Q' v H1) := by
      intro pins s σ' H' Q' I' hw
      obtain ⟨rfl, rfl, hm⟩ := hw
      exact thn (hl pins s σ' H' Q I' h) fun u s1 ⟨v, H1, I1, r, q⟩ => ⟨v, H1, I1, r, hm v H1 q⟩
    exact pa_cons he pa_nil hs pos pins s σ H _ I ⟨rfl, rfl, fun v H1 q => ⟨v, rfl, q⟩⟩
  refine thn mono fun us s1 ⟨vs, H1, I1, r, v, e, q⟩ => ?_
  subst e
  obtain ⟨u, rfl, ru⟩ := r.one
  exact ⟨v, u, H1, I1, rfl, ru, q⟩
inductive iEnumI (K : PySem.W.Frag) (R : (It → Hp → Prop)) (x : V) (H1 : Hp) : Prop
  | mk (a : _) (h0_ : x = .ref a) (h1_ : (∃ xs, SqL K H1 a xs) ∧ R (Ite K a) H1) : iEnumI K R x H1
def iEnum (K : PySem.W.Frag) (tl : TE) : TI := fun σ H R => tl σ H fun x H1 => iEnumI K R x H1
theorem pi_enum {l : Expr} {tl : TE} {p pos tp : Pos} {es : List Expr} {k : Nat} (hg : Gl X "enumerate") (hm : X.mg "enumerate" = none) (hl : PE X l tl) (hs : starEach [l] X.env = [(false, eval l X.env)] := by rfl) :
    PI X (.Tuple es k tp) (.Call (.Name "enumerate" p) [l] [] pos) (iEnum X.K tl) := by
  intro pins s σ H R I h
  refine Call_ (ld_blt I hg hm bt_enumerate (PyProof.Rows.callWith_type1 (thn (pa_one hl hs pos pins s σ H I h) fun us s1 ⟨v, u, H1, I1, e1, r1, q1⟩ => ?_) (by rw [hs]; rfl) (by rfl)))
  · obtain ⟨a, rfl, ⟨xs, hq⟩, q⟩ := q1
    subst e1
    cases r1
    obtain ⟨its, rv, pl, hz⟩ := I1.list hq
    refine call_enumerate_list pl.isList fun h' he hit hsz kk => ?_
    have hee : s1.heap.objs.size + 1 ≠ s1.heap.objs.size := Nat.succ_ne_self _
    refine wpAny_pyIter_enum he ?_
    refine ⟨s1.heap.objs.size + 1, [s1.heap.objs.size + 1, s1.heap.objs.size], _, _, H1, rfl, I1.kept (t' := s1.toks) kk, turn_enum a _ _ hee, ⟨⟨.none, he⟩, hit⟩, fun b hb => ?_, q⟩
    have hb' : s1.heap.objs.size ≤ b := by
      rcases List.mem_cons.mp hb with rfl | hb
      · exact Nat.le_succ _
      · have : b = s1.heap.objs.size := by simpa using hb
        rw [this]
        exact Nat.le_refl _
    exact I1.fpOk hb' (I1.hok.fresh hb')
end
end L2

set_option maxHeartbeats 4000000
namespace L2
open PySem PySem.Spec PyProof.Rows
structure ZipOwn (z TI TO i1 i2 : Addr) : Prop where
  TIz : TI ≠ z
  TOz : TO ≠ z
  i1z : i1 ≠ z
  i2z : i2 ≠ z
  TITO : TI ≠ TO
  TIi1 : TI ≠ i1
  TIi2 : TI ≠ i2
  TOi1 : TO ≠ i1
  TOi2 : TO ≠ i2
  i12 : i1 ≠ i2
section
variable {X : Cx}
def zipSt (z TI TO i1 i2 a b : Addr) (i : Nat) (h : Heap) : Prop := IsZip h z TI TO .none ∧ IsPair h TI (.ref i1) (.ref i2) ∧ (∃ x y, IsPair h TO x y) ∧ h.IsListIter i1 a i ∧ h.IsListIter i2 b i
inductive iZipI (K : PySem.W.Frag) (R : (It → Hp → Prop)) (x : V) (y : V) (H2 : Hp) : Prop
  | mk (a : _) (b : _) (h0_ : x = .ref a) (h1_ : y = .ref b) (h2_ : (∃ xs, SqL K H2 a xs) ∧ (∃ ys, SqL K H2 b ys) ∧ R (Itz K a b) H2) : iZipI K R x y H2
def iZip (K : PySem.W.Frag) (tl tm : TE) : TI := fun σ H R => tl σ H fun x H1 => tm σ H1 fun y H2 => iZipI K R x y H2
end
end L2

set_option maxHeartbeats 4000000
namespace L2
open PySem
/-! ### a comprehension by what holds between two turns -/
abbrev CompW (J : It) (g : TG) (tc : TT) (te : TE) (D : Addr) (R : Hp → Prop) (σ : St) (H : Hp) : Prop := ∃ W : Nat → Nat → List V → St → Hp → Prop, (∃ m, W 0 m [] σ H) ∧ ∀ i m ys σ H, W i m ys σ H →
    (J.stop i H ∧ R H) ∨ (J.go i H ∧ ∀ x H', J.yld i H x H' → g x σ H' fun σ2 H2 => tc σ2 H2 fun ok H3 =>
      if ok = true then te σ2 H3 fun y H4 => H4 D = some (.lst ys) ∧ ys.length < sizeLine ∧ ∃ m', m' < m ∧ W (i + 1) m' (ys ++ [y]) σ2 (upd H4 D (.lst (ys ++ [y])))
      else ∃ m', m' < m ∧ W (i + 1) m' ys σ2 H3)
/-- one turn: N is what the rest asks -/
abbrev CompT (g : TG) (tc : TT) (te : TE) (D : Addr) (ys : List V) (x : V) (σ : St) (H : Hp) (N : List V → St → Hp → Prop) : Prop :=
  g x σ H fun σ2 H2 => tc σ2 H2 fun ok H3 => if ok = true then te σ2 H3 fun y H4 => H4 D = some (.lst ys) ∧ ys.length < sizeLine ∧ N (ys ++ [y]) σ2 (upd H4 D (.lst (ys ++ [y]))) else N ys σ2 H3
theorem comp_range {lo : Int} {n : Nat} {g : TG} {tc : TT} {te : TE} {D : Addr} {R : Hp → Prop} {σ : St} {H : Hp} (Pv : Nat → List V → St → Hp → Prop) (h0 : Pv 0 [] σ H)
    (hs : ∀ i ys σ H, i < n → Pv i ys σ H → ∀ N : List V → St → Hp → Prop, (∀ ys σ H, Pv (i + 1) ys σ H → N ys σ H) → CompT g tc te D ys (.int (lo + i)) σ H N) (hd : ∀ ys σ H, Pv n ys σ H → R H) : CompW (Itr lo n) g tc te D R σ H := by
  refine ⟨fun i m ys σ H => m = n - i ∧ i ≤ n ∧ Pv i ys σ H, ⟨n, by simp, Nat.zero_le _, h0⟩, ?_⟩
  rintro i m ys σ H ⟨rfl, hi, p⟩
  by_cases hlt : i < n
  · refine .inr ⟨hlt, fun x H' y => ?_⟩
    obtain ⟨e, y⟩ := y
    subst e y
    exact hs i ys σ _ hlt p (fun ys' σ' H' => ∃ m', m' < n - i ∧ m' = n - (i + 1) ∧ i + 1 ≤ n ∧ Pv (i + 1) ys' σ' H') fun ys' σ' H' q => ⟨n - (i + 1), by omega, rfl, hlt, q⟩
  · have e : i = n := by omega
    subst e
    exact .inl ⟨Nat.le_refl _, hd ys σ H p⟩
theorem comp_list {K : PySem.W.Frag} {a : Addr} {xs : List V} {g : TG} {tc : TT} {te : TE} {D : Addr} {R : Hp → Prop} {σ : St} {H : Hp} (Pv : Nat → List V → St → Hp → Prop) (h0 : Pv 0 [] σ H) (hl : ∀ i ys σ H, Pv i ys σ H → SqL K H a xs)
    (hs : ∀ i ys x σ H, xs[i]? = some x → Pv i ys σ H → ∀ N : List V → St → Hp → Prop, (∀ ys σ H, Pv (i + 1) ys σ H → N ys σ H) → CompT g tc te D ys x σ H N) (hd : ∀ ys σ H, Pv xs.length ys σ H → R H) : CompW (Itl K a) g tc te D R σ H := by
  refine ⟨fun i m ys σ H => m = xs.length - i ∧ i ≤ xs.length ∧ Pv i ys σ H, ⟨xs.length, by simp, Nat.zero_le _, h0⟩, ?_⟩
  rintro i m ys σ H ⟨rfl, hi, p⟩
  have q := hl i ys σ H p
  by_cases hlt : i < xs.length
  · refine .inr ⟨⟨xs, xs[i], q, by simp [hlt]⟩, fun x H' y => ?_⟩
    obtain ⟨e, y⟩ := y
    subst e
    exact hs i ys x σ _ (y xs q) p (fun ys' σ' H' => ∃ m', m' < xs.length - i ∧ m' = xs.length - (i + 1) ∧ i + 1 ≤ xs.length ∧ Pv (i + 1) ys' σ' H') fun ys' σ' H' q => ⟨xs.length - (i + 1), by omega, rfl, hlt, q⟩
  · have e : i = xs.length := by omega
    subst e
    exact .inl ⟨⟨xs, q, Nat.le_refl _⟩, hd ys σ H p⟩
theorem comp_str {z : Str} {g : TG} {tc : TT} {te : TE} {D : Addr} {R : Hp → Prop} {σ : St} {H : Hp} (Pv : Nat → List V → St → Hp → Prop) (h0 : Pv 0 [] σ H)
    (hs : ∀ i ys c σ H, z.cps[i]? = some c → Pv i ys σ H → ∀ N : List V → St → Hp → Prop, (∀ ys σ H, Pv (i + 1) ys σ H → N ys σ H) → CompT g tc te D ys (.str ⟨#[c]⟩) σ H N) (hd : ∀ ys σ H, Pv z.cps.size ys σ H → R H) : CompW (Its z) g tc te D R σ H := by
  refine ⟨fun i m ys σ H => m = z.cps.size - i ∧ i ≤ z.cps.size ∧ Pv i ys σ H, ⟨z.cps.size, by simp, Nat.zero_le _, h0⟩, ?_⟩
  rintro i m ys σ H ⟨rfl, hi, p⟩
  by_cases hlt : i < z.cps.size
  · refine .inr ⟨hlt, fun x H' y => ?_⟩
    obtain ⟨e, c, hc, y⟩ := y
    subst e y
    exact hs i ys c σ _ hc p (fun ys' σ' H' => ∃ m', m' < z.cps.size - i ∧ m' = z.cps.size - (i + 1) ∧ i + 1 ≤ z.cps.size ∧ Pv (i + 1) ys' σ' H') fun ys' σ' H' q => ⟨z.cps.size - (i + 1), by omega, rfl, hlt, q⟩
  · have e : i = z.cps.size := by omega
    subst e
    exact .inl ⟨Nat.le_refl _, hd ys σ H p⟩
/-- for pair in enumerate(list) -/
theorem for_enum {K : PySem.W.Frag} {a : Addr} {xs : List V} {g : TG} {tb : TS} {D : Ends} {σ : St} {H : Hp} (Pv : Nat → St → Hp → Prop) (h0 : Pv 0 σ H) (hl : ∀ i σ H, Pv i σ H → SqL K H a xs)
    (hs : ∀ i x t σ H, xs[i]? = some x → Pv i σ H → H t = none → g (.ref t) σ (upd H t (.tup [.int i, x])) fun σ2 H2 => tb { D with nx := Pv (i + 1), ct := Pv (i + 1), bk := D.nx } σ2 H2) (hd : ∀ σ H, Pv xs.length σ H → D.nx σ H) :
    ∃ W : Nat → Nat → St → Hp → Prop, (∃ m, W 0 m σ H) ∧ ∀ i m σ H, W i m σ H →
      ((Ite K a).stop i H ∧ D.nx σ H) ∨ ((Ite K a).go i H ∧ ∃ N : St → Hp → Prop, (∀ σ' H', N σ' H' → ∃ m', m' < m ∧ W (i + 1) m' σ' H') ∧ ∀ x H', (Ite K a).yld i H x H' → g x σ H' fun σ2 H2 => tb { D with nx := N, ct := N, bk := D.nx } σ2 H2) := by
  refine ⟨fun i m σ H => m = xs.length - i ∧ i ≤ xs.length ∧ Pv i σ H, ⟨xs.length, by simp, Nat.zero_le _, h0⟩, ?_⟩
  rintro i m σ H ⟨rfl, hi, p⟩
  have q := hl i σ H p
  by_cases hlt : i < xs.length
  · refine .inr ⟨⟨xs, xs[i], q, by simp [hlt]⟩, Pv (i + 1), fun σ' H' p' => ⟨xs.length - (i + 1), by omega, rfl, hlt, p'⟩, fun x H' y => ?_⟩
    obtain ⟨y0, t, rfl, hn, hy, rfl⟩ := y
    exact hs i y0 t σ H (hy xs q) p hn
  · have e : i = xs.length := by omega
    subst e
    exact .inl ⟨⟨xs, q, Nat.le_refl _⟩, hd σ H p⟩
end L2
namespace L2
open PySem
/-- one name, no test -/
theorem compT_name {j : Nat} {te : TE} {D : Addr} {ys : List V} {x : V} {σ : St} {H : Hp} {N : List V → St → Hp → Prop}
    (h : te (σ.set j (some x)) H fun y H4 => H4 D = some (.lst ys) ∧ ys.length < sizeLine ∧ N (ys ++ [y]) (σ.set j (some x)) (upd H4 D (.lst (ys ++ [y])))) : CompT (gName j) tAll te D ys x σ H N := by
  unfold CompT gName tAll
  exact (if_pos (rfl : true = true)).mpr h
end L2

set_option maxHeartbeats 4000000
namespace L2
open PySem PySem.Spec PyProof.Rows
open Sem (wp)
/-! ### enumerate over a zip: the inner pair may still be alive at the next turn -/
abbrev ZipG (h : Heap) (z TI TO : Addr) (f0 f1 : Value) : Prop :=
  h.get? z = some { cls := .type "zip", dict := none, data := .fields #[f0, f1, .bool false, .ref TI, .ref TO], slots := #[] }
def Loose (f0 f1 : Value) : Prop := (f0 = .none ∨ ∃ a : Nat, f0 = rawInt (a : Int)) ∧ ∃ b, f1 = .bool b
section
variable {prog : Program} {w : World} {A : Around} {E : Value → Shared → Prop} {s : Shared}
/-- one turn of enumerate over such a zip -/
def zipS (z TI TO i1 i2 a b : Addr) (i : Nat) (h : Heap) : Prop := (∃ f0 f1, ZipG h z TI TO f0 f1 ∧ Loose f0 f1) ∧ IsPair h TI (.ref i1) (.ref i2) ∧ (∃ x y, IsPair h TO x y) ∧ h.IsListIter i1 a i ∧ h.IsListIter i2 b i
end
end L2

set_option maxHeartbeats 4000000
namespace L2
open PySem PySem.Spec PyProof.Rows
section
variable {X : Cx} {pins : List (Addr × Obj)} {σ : St} {H : Hp} {s : Shared}
/-- (i, (x, y)) of the lists at a and b -/
def Itez (K : PySem.W.Frag) (a b : Addr) : It :=
  ⟨fun i H => ∃ xs ys x y, SqL K H a xs ∧ SqL K H b ys ∧ xs[i]? = some x ∧ ys[i]? = some y,
   fun i H p H' => ∃ x y t0 t1, p = .ref t1 ∧ H t0 = none ∧ H t1 = none ∧ t0 ≠ t1 ∧ (∀ xs, SqL K H a xs → xs[i]? = some x) ∧ (∀ ys, SqL K H b ys → ys[i]? = some y) ∧ H' = upd (upd H t0 (.tup [x, y])) t1 (.tup [.int i, .ref t0]),
   fun i H => ∃ xs ys, SqL K H a xs ∧ SqL K H b ys ∧ xs.length ≤ i⟩
inductive iEzI (K : PySem.W.Frag) (R : (It → Hp → Prop)) (x : V) (y : V) (H2 : Hp) : Prop
  | mk (a : _) (b : _) (h0_ : x = .ref a) (h1_ : y = .ref b) (h2_ : (∃ xs, SqL K H2 a xs) ∧ (∃ ys, SqL K H2 b ys) ∧ R (Itez K a b) H2) : iEzI K R x y H2
def iEz (K : PySem.W.Frag) (tl tm : TE) : TI := fun σ H R => tl σ H fun x H1 => tm σ H1 fun y H2 => iEzI K R x y H2
end
end L2

set_option maxHeartbeats 4000000
namespace L2
open PySem PySem.Spec PyProof.Rows
/-! ### a def with defaults -/
structure FunD (K : PySem.W.Frag) (x qual : Str) (st : Stmt) (f : Addr) (fd : FuncData) (dV : Value) : Prop where
  ex : ∃ (oc : Value) (od : Option Addr) (kV doc pm : Value) (an : Option Addr) (cdv ct : Value) (osl : Array (Option Value)),
    fd = PySem.W.fnOf x qual (defArgs st) (defBody st) (defScope st) dV kV doc pm an cdv ct ∧ K.lookup f = some ⟨oc, od, .func fd, osl⟩ ∧ PySem.W.codeIn K cdv qual = true
  kp : PySem.W.keepIn K (.ref f) = true
section
variable {P : Program} {w : World} {K : PySem.W.Frag} {mg : Str → Option Value} {base : Heap}
theorem FunD.ok {x qual : Str} {st : Stmt} {f : Addr} {fd : FuncData} {dV : Value} {N ps : List Str} {k : Nat} {sp : Sp} (F : FunD K x qual st f fd dV) (S : FnScope N ps (defScope st)) (len : ∀ vs H Q E, sp vs H Q E → vs.length = ps.length)
    (hbody : ∀ (cdv : Value) (A : Around) (outer : List Env) (s : Shared) (H : Hp) (vs : List V) (Q : VK) (E : XK), Room k (A.deeper (envOfC qual (defScope st) s.heap.objs.size f cdv)) → sp vs H Q E →
      ∃ t, PSs (cxOf CX0 P w K mg base N qual (defScope st) f cdv A outer s H E).nox (defBody st) t ∧ t { nx := fun _ H' => Q .non H', rt := Q } (start N vs) H) : FnOk P w K mg base CX0 (k + 1) f fd ps sp := by
  obtain ⟨oc, od, kV, doc, pm, an, cdv, ct, osl, rfl, lk, hcd⟩ := F.ex
  refine fn_of lk hcd S len fun A outer s H vs Q E hr hsp => ?_
  obtain ⟨t, h, q⟩ := hbody cdv A outer s H vs Q E hr hsp
  exact ⟨t, h.nox, q⟩
theorem FunD.binds {x qual : Str} {st : Stmt} {f : Addr} {fd : FuncData} {T : Addr} {o : Obj} {items : Array Value} {n : Nat} {ps : List Str} {ds : List Value} (F : FunD K x qual st f fd (.ref T)) (lk : K.lookup T = some o) (hs : o.data = .seq items n)
    (h : ∀ (kV doc pm : Value) (an : Option Addr) (cdv ct : Value) (us : List Value), (us ++ ds).length = ps.length → ∃ k, bindArgs (PySem.W.fnOf x qual (defArgs st) (defBody st) (defScope st) (.ref T) kV doc pm an cdv ct) ⟨us, []⟩ = seqItems? (.ref T) >>= k ∧ k (some items) = pure (ps.zip (us ++ ds))) : Binds K fd ps ds := by
  obtain ⟨oc, od, kV, doc, pm, an, cdv, ct, osl, rfl, lkf, hcd⟩ := F.ex
  intro s us KI hl
  obtain ⟨k, h1, h2⟩ := h kV doc pm an cdv ct us hl
  exact BindsTo.of_defaults rfl (KI _ _ lk) hs h1 h2
theorem funD_mk {x qual : Str} {st : Stmt} {f : Addr} {oc : Value} {od an : Option Addr} {osl : Array (Option Value)} {dV kV doc pm cdv ct : Value} (l : K.lookup f = some ⟨oc, od, .func (PySem.W.fnOf x qual (defArgs st) (defBody st) (defScope st) dV kV doc pm an cdv ct), osl⟩)
    (c : PySem.W.codeIn K cdv qual = true) (k : PySem.W.keepIn K (.ref f) = true) : FunD K x qual st f (PySem.W.fnOf x qual (defArgs st) (defBody st) (defScope st) dV kV doc pm an cdv ct) dV := ⟨⟨oc, od, kV, doc, pm, an, cdv, ct, osl, rfl, l, c⟩, k⟩
end
/-! ### a dict of the module: texts as keys -/
inductive EsOk (w : World) : List DictEntry → List (Str × V) → Prop
  | nil : EsOk w [] []
  | cons {x : Str} {t : Tok} {u : Value} {v : V} {es : List DictEntry} {kvs : List (Str × V)} : RelV v u → EsOk w es kvs → EsOk w (⟨PyData.keyHash w.params x, .str x t, u⟩ :: es) ((x, v) :: kvs)
structure KD (K : PySem.W.Frag) (w : World) (a : Addr) (kvs : List (Str × V)) : Prop where
  sys : (a == sysModules) = false
  ok : ∃ es n, K.lookup a = some ⟨.type "dict", none, .dict es n, #[]⟩ ∧ EsOk w es.toList kvs ∧ (kvs.map (·.1)).Nodup
section
variable {X : Cx}
/-- d.get(k, x) of a dict of the module -/
def tKGet2 (K : PySem.W.Frag) (w : World) (td ty tx : TE) : TE := fun σ H Q => td σ H fun x H1 => ∃ a kvs, x = .ref a ∧ KD K w a kvs ∧ ty σ H1 fun y H2 => tx σ H2 fun z H3 => ∃ k, y = .str k ∧ Q ((kvs.lookup k).getD z) H3
/-! ### sum of a list of ints -/
def sumI : List Int → Int
  | [] => 0
  | x :: l => x + sumI l
end
end L2

set_option maxHeartbeats 4000000
namespace L2
open PySem PySem.Spec PyProof.Rows
/-! ### a halt amidst: what is known behind a part, said once -/
def tMidE (t : TE) : TE := fun σ H Q => ∃ R : V → Hp → Prop, t σ H R ∧ ∀ v H', R v H' → Q v H'
def tMidT (t : TT) : TT := fun σ H Q => ∃ R : Bool → Hp → Prop, t σ H R ∧ ∀ v H', R v H' → Q v H'
def tMidS (t : TS) : TS := fun D σ H => ∃ R : St → Hp → Prop, t { D with nx := R } σ H ∧ ∀ σ' H', R σ' H' → D.nx σ' H'
section
variable {X : Cx}
theorem pe_mid {e : Expr} {t : TE} (h : PE X e t) : PE X e (tMidE t) := by
  intro pins s σ H Q I ⟨R, hR, hQ⟩
  exact thn (h pins s σ H R I hR) fun u s1 ⟨v, H1, I1, r, q⟩ => ⟨v, H1, I1, r, hQ v H1 q⟩
theorem pt_mid {e : Expr} {t : TT} (h : PT X e t) : PT X e (tMidT t) := by
  intro pins s σ H Q I ⟨R, hR, hQ⟩
  exact thn (h pins s σ H R I hR) fun u s1 ⟨H1, I1, q⟩ => ⟨H1, I1, hQ u H1 q⟩
theorem ps_mid {st : Stmt} {t : TS} (h : PS X st t) : PS X st (tMidS t) := by
  intro pins s σ H D I ⟨R, hR, hQ⟩
  refine thn (h pins s σ H _ I hR) fun f s1 q => ?_
  cases f with
  | next => exact let ⟨σ', H', I', q'⟩ := q; ⟨σ', H', I', hQ _ _ q'⟩
  | brk => exact q
  | cont => exact q
  | ret u => exact q
end
theorem midV {t : TE} {σ : St} {H : Hp} {Q : VK} (v : V) (h : t σ H fun x H1 => x = v ∧ H1 = H) (q : Q v H) : ∃ R : V → Hp → Prop, t σ H R ∧ ∀ v H', R v H' → Q v H' := ⟨_, h, by rintro _ _ ⟨rfl, rfl⟩; exact q⟩
theorem midB {t : TT} {σ : St} {H : Hp} {Q : Bool → Hp → Prop} (b : Bool) (h : t σ H fun x H1 => x = b ∧ H1 = H) (q : Q b H) : ∃ R : Bool → Hp → Prop, t σ H R ∧ ∀ v H', R v H' → Q v H' := ⟨_, h, by rintro _ _ ⟨rfl, rfl⟩; exact q⟩
theorem endB {x v : Bool} {H : Hp} (e : x = v) : x = v ∧ H = H := ⟨e, rfl⟩
end L2

set_option maxHeartbeats 4000000
namespace L2
open PySem PySem.Spec PyProof.Rows
/-! ### a name that a comprehension shadows: its slot is forgotten by name while it is empty -/
abbrev Cx.names (X : Cx) (N : List Str) : Cx := { X with N := N }
section
variable {X : Cx} {pins : List (Addr × Obj)} {σ : St} {H : Hp} {s : Shared}
end
def tHide (k : Nat) (t : TE) : TE := fun σ H Q => σ[k]? = some none ∧ t σ H Q
end L2

set_option maxHeartbeats 4000000
namespace L2
open PySem PySem.Spec PyProof.Rows
section
variable {X : Cx} {tg iter elt : Expr} {ifs : List Expr} {scope : Scope} {pos : Pos} {cn : List Str} {wi : TI} {g : Bk → TG} {tc : Bk → TT} {te : Bk → TE}
end
/-- the same where the block's name shadows one of the def's -/
def tHideS (k : Nat) (t : TS) : TS := fun D σ H => σ[k]? = some none ∧ t { D with nx := fun σ' H' => σ'[k]? = some none ∧ D.nx σ' H' } σ H
end L2

set_option maxHeartbeats 4000000
namespace L2
open PySem PySem.Spec PyProof.Rows PySem.SeqAt
section
variable {X : Cx}
/-! ### pairs of flat values beside each other -/
def rEq2 (K : PySem.W.Frag) (neg : Bool) : R2 := fun x y H Q => ∃ a c x0 x1 y0 y1, x = .ref a ∧ y = .ref c ∧ SqT K H a [x0, x1] ∧ SqT K H c [y0, y1] ∧ (flatV x0 = true ∧ flatV x1 = true ∧ flatV y0 = true ∧ flatV y1 = true) ∧ Q (.bl (if neg then !(eqV x0 y0 && eqV x1 y1) else (eqV x0 y0 && eqV x1 y1))) H
/-! ### a list beside an empty one -/
inductive rEqEI (K : PySem.W.Frag) (neg : Bool) (x : V) (y : V) (H : Hp) (Q : VK) : Prop
  | mk (a : _) (c : _) (xs : _) (h0_ : x = .ref a) (h1_ : y = .ref c) (h2_ : SqL K H a xs) (h3_ : SqL K H c []) (h4_ : Q (.bl (if neg then !xs.isEmpty else xs.isEmpty)) H) : rEqEI K neg x y H Q
def rEqE (K : PySem.W.Frag) (neg : Bool) : R2 := fun x y H Q => rEqEI K neg x y H Q
theorem eqE_at {pins : List (Addr × Obj)} {σ : St} {H : Hp} {s : Shared} {a c : Addr} {xs : List V} (hu : X.A.units + 64 < cLine) (I : Inv X pins σ H s) (ha : SqL X.K H a xs) (hc : SqL X.K H c []) : RcAt X.A s (.ref a) (.ref c) xs.isEmpty ∧ RcNeAt X.A s (.ref a) (.ref c) (!xs.isEmpty) := by
  obtain ⟨its, r, p, _⟩ := I.list ha
  obtain ⟨its', r', p', _⟩ := I.list hc
  have e1 := r.length
  have e2 := r'.length
  simp at e2
  cases xs with
  | nil =>
    simp at e1
    have z1 : its = [] := by simpa using e1.symm
    have z2 : its' = [] := by simpa using e2.symm
    subst z1 z2
    constructor
    · have := RcAt.lists (A := X.A) (e := fun _ => true) p.isList p'.isList rfl (by omega) (fun j h1 _ => absurd h1 (by simp))
      simpa using this
    · have := RcNeAt.lists (A := X.A) (e := fun _ => true) p.isList p'.isList rfl (by omega) (fun j h1 _ => absurd h1 (by simp))
      simpa using this
  | cons x t =>
    have hne : (its.toArray.size != its'.toArray.size) = true := by
      simp at e1
      have z2 : its' = [] := by simpa using e2.symm
      subst z2
      have : its.length ≠ 0 := by omega
      simpa using this
    exact ⟨RcAt.lists_lengths p.isList p'.isList hne (by omega), RcNeAt.lists_lengths p.isList p'.isList hne (by omega)⟩
theorem op_eqE (hu : X.A.units + 64 < cLine) : OpR X (compareOp .Eq) (rEqE X.K false) := by
  intro pins s σ H x y v u Q I r1 r2 h
  obtain ⟨a, c, xs, rfl, rfl, ha, hc, q⟩ := h
  cases r1
  cases r2
  exact (eqE_at hu I ha hc).1 X.prog X.w X.xe _ ⟨.bl _, H, I, rfl, q⟩
end
end L2

set_option maxHeartbeats 4000000
namespace L2
open PySem PySem.Spec PyProof.Rows
/-! ### xs[::-1] -/
def tBack (K : PySem.W.Frag) (te : TE) (ts : TO) : TE := fun σ H Q => te σ H fun x H1 => ts σ H1 fun o H2 => o = some (-1) ∧ ∃ a xs, x = .ref a ∧ SqL K H2 a xs ∧ ∀ p, H2 p = none → Q (.ref p) (upd H2 p (.lst xs.reverse))
/-! ### displays of displays -/
/-- a for over another expression -/
def setIter (s : Stmt) (e : Expr) : Stmt := match s with
  | .For t _ b o p => .For t e b o p
  | s => s
structure PEw (X : Cx) (e : Expr) (t : TE) : Prop where
  out : PE X e t
structure PAw (X : Cx) (es : List Expr) (t : TA) : Prop where
  out : PA X es t
end L2

set_option maxHeartbeats 4000000
namespace L2
open PySem PySem.Spec PyProof.Rows
/-! ### exceptions of the text's own: raised, passed on, caught -/
/-- an exception of the class cls flies over the frames l; G is the heap behind which it was made -/
def Fly (l : List Env) (G : Heap) (e : Addr) (cls : Value) (h : Heap) : Prop :=
  ∃ B a0, (∀ b o, G.get? b = some o → b ∉ frs l → B.get? b = some o) ∧ Heap.FlyingW B l e cls a0 h ∧ G.UpToSlots h ∧ G.get? e = none
/-- how it lies behind a call -/
def CX1 (P : Program) (w : World) : CXT := fun outer H s E ev s' =>
  ∃ a cls H' G, ev = .ref a ∧ s'.os = s.os ∧ AllBare s'.gens ∧ Un (frs outer) [] H H' s.heap G ∧ HOk P w H' G ∧ Fly outer G a cls s'.heap ∧ E cls none H'
abbrev XSt := St → Value → Hp → Prop
/-- within a body: one that came from a callee -/
def WX (X : Cx) (XS : XSt) : Value → Shared → Prop := fun ev s' =>
  ∃ pins σ H' G a cls, ev = .ref a ∧ Inv X pins σ H' { s' with heap := G } ∧ Fly X.stack G a cls s'.heap ∧ XS σ cls H'
/-- within a body: that, or one that was raised here -/
def WD (X : Cx) (XS : XSt) : Value → Shared → Prop := fun ev s' => WX X XS ev s' ∨
  ∃ pins σ H' G a cls args, ev = .ref a ∧ Inv X pins σ H' { s' with heap := G } ∧ Heap.MadeExcOf G s'.heap a cls args ∧ XS σ cls H'
section
variable {X : Cx} {pins : List (Addr × Obj)} {σ : St} {H H' : Hp} {s s' : Shared}
theorem passX {XS : XSt} {ev : Value} (I : Inv X pins σ H s) (h : CX1 X.prog X.w X.stack H s (fun cls _ H' => XS σ cls H') ev s') : WX X XS ev s' := by
  obtain ⟨a, cls, H', G, e, os, bare, un, hok, fly, q⟩ := h
  refine ⟨pins, σ, H', G, a, cls, e, ?_, fly, q⟩
  exact I.call' (s' := { s' with heap := G }) (ch := []) os un hok bare fun b z => absurd z (by simp)
/-- the frame's own part is struck out of the heap that counts -/
theorem strike {P : Program} {w : World} {h G : Heap} {L : Addr} {fs : List Addr} (un : Un fs [] H H' h G) (hok : HOk P w H' G) (hL : h.objs.size ≤ L) (hf : H' L = none) : Un fs [] H H' h (PySem.W.hideAll G [L]) ∧ HOk P w H' (PySem.W.hideAll G [L]) := by
  have get : ∀ {b o}, G.get? b = some o → b ≠ L → (PySem.W.hideAll G [L]).get? b = some o := fun e hn => PySem.W.hideAll_get _ e (by simpa using hn)
  have ne : ∀ {b o}, h.get? b = some o → b ≠ L := fun e z => absurd (z ▸ Heap.lt_size e) (Nat.not_lt.mpr hL)
  refine ⟨⟨fun b o e n hb hx => get (un.keep b o e n hb hx) (ne e), fun b o e n hb hx => ?_, un.free, fun b o e hx => ?_, un.tups, un.frzs, un.tbls⟩, fun b u e => ?_⟩
  · obtain ⟨sl, z⟩ := un.slot b o e n hb hx
    exact ⟨sl, get z (ne e)⟩
  · obtain ⟨o', z⟩ := un.there b o e hx
    exact ⟨o', get z (ne e)⟩
  · refine (hok b u e).stay (fun c v hc q => get q ?_) (fun _ q => q) fun _ _ q => q
    rintro rfl
    rcases hc with rfl | hc
    · rw [hf] at e; cases e
    · rw [hf] at hc; cases hc
theorem Fly.strike {env : Env} {outer : List Env} {G h : Heap} {B : Heap} {e L : Addr} {cls a0 : Value} (hf : env.frame = some L) (cov : ∀ b o, G.get? b = some o → b ∉ frs (env :: outer) → B.get? b = some o) (fl : Heap.FlyingW B outer e cls a0 h) (up : G.UpToSlots h) (hn : G.get? e = none) : Fly outer (PySem.W.hideAll G [L]) e cls h := by
  have back : ∀ {b o}, (PySem.W.hideAll G [L]).get? b = some o → G.get? b = some o ∧ b ≠ L := fun {b o} q => ⟨PySem.W.of_hideAll _ q, fun z => by
    rw [PySem.W.hideAll_none [L] (by rw [z]; simp)] at q; cases q⟩
  refine ⟨B, a0, fun b o q hb => ?_, fl, fun b o q hd => up b o (back q).1 hd, ?_⟩
  · obtain ⟨q1, q2⟩ := back q
    refine cov b o q1 ?_
    unfold frs
    rw [List.filterMap_cons, hf]
    intro z
    rcases List.mem_cons.mp z with z | z
    · exact q2 z
    · exact hb z
  · cases q : (PySem.W.hideAll G [L]).get? e with
    | none => rfl
    | some o => rw [(back q).1] at hn; cases hn
end
/-- out of a def's frame -/
theorem leaveX {P : Program} {w : World} {K : PySem.W.Frag} {mg : Str → Option Value} {base : Heap} {N : List Str} {qual : Str} {scope : Scope} {f : Addr} {cdv : Value} {A : Around} {outer : List Env} {s : Shared} {H : Hp} {E : XK} {ev : Value} {s' : Shared}
    (h : WD (cxOf (CX1 P w) P w K mg base N qual scope f cdv A outer s H E) (fun _ cls H' => E cls none H') ev s') : (cxOf (CX1 P w) P w K mg base N qual scope f cdv A outer s H E).xe ev s' := by
  rcases h with ⟨pins, σ, H', G, a, cls, rfl, I, ⟨B, a0, cov, fl, up, hn⟩, q⟩ | ⟨pins, σ, H', G, a, cls, args, rfl, I, hm, q⟩
  · show wpAny (model P w) _ (leaving _ (.ref a)) _ _ s'
    refine wpAny_leaves_onW I.ok.frames rfl fl fun h' fl' up' => ?_
    obtain ⟨un, hok⟩ := strike I.base I.hok I.ok.above I.free
    exact ⟨a, cls, H', _, rfl, I.os, I.bare, un, hok, Fly.strike rfl cov fl' (up.trans up') hn, q⟩
  · show wpAny (model P w) _ (leaving _ (.ref a)) _ _ s'
    have hin : ∀ env ∈ (cxOf (CX1 P w) P w K mg base N qual scope f cdv A outer s H E).stack, ∀ b, env.frame = some b → b ∈ frs (cxOf (CX1 P w) P w K mg base N qual scope f cdv A outer s H E).stack := fun env he b hb => List.mem_filterMap.mpr ⟨env, he, hb⟩
    refine wpAny_leaves_madeW (base := PySem.W.hideAll G (frs (cxOf (CX1 P w) P w K mg base N qual scope f cdv A outer s H E).stack)) (h := G) I.ok.frames rfl (fun b o z => PySem.W.of_hideAll _ z) (PySem.W.funFrames_hide I.stack hin) hm fun h' t fl' _ _ up' => ?_
    obtain ⟨un, hok⟩ := strike I.base I.hok I.ok.above I.free
    exact ⟨a, cls, H', _, rfl, I.os, I.bare, un, hok, Fly.strike rfl (fun b o z hb => PySem.W.hideAll_get _ z hb) fl' ((Heap.UpToSlots.of_keeps hm.keeps).trans up') hm.new, q⟩
theorem PSs.wishes {X : Cx} {E1 : Value → Shared → Prop} {st : List Stmt} {t : TS} (h : PSs (X.wish E1) st t) (hE : ∀ e s, E1 e s → X.xe e s) : PSs X st t := fun pins s σ H D I hw =>
  wpAny_mono (h pins s σ H D (I.wish _) hw) (fun _ _ q => q.unwish) hE
section
variable {P : Program} {w : World} {K : PySem.W.Frag} {mg : Str → Option Value} {base : Heap}
/-- THE RULE for a def that may raise -/
theorem Fun.okX {x qual : Str} {st : Stmt} {f : Addr} {fd : FuncData} {N ps : List Str} {k : Nat} {sp : Sp} (F : Fun K x qual st f fd) (S : FnScope N ps (defScope st)) (len : ∀ vs H Q E, sp vs H Q E → vs.length = ps.length)
    (hbody : ∀ (cdv : Value) (A : Around) (outer : List Env) (s : Shared) (H : Hp) (vs : List V) (Q : VK) (E : XK), Room k (A.deeper (envOfC qual (defScope st) s.heap.objs.size f cdv)) → sp vs H Q E →
      ∃ t, PSs ((cxOf (CX1 P w) P w K mg base N qual (defScope st) f cdv A outer s H E).wish (WD (cxOf (CX1 P w) P w K mg base N qual (defScope st) f cdv A outer s H E) fun _ cls H' => E cls none H')) (defBody st) t ∧ t { nx := fun _ H' => Q .non H', rt := Q } (start N vs) H) : FnOk P w K mg base (CX1 P w) (k + 1) f fd ps sp := by
  obtain ⟨oc, od, kV, doc, pm, an, cdv, ct, osl, rfl, lk, hcd⟩ := F.ex
  refine fn_of lk hcd S len fun A outer s H vs Q E hr hsp => ?_
  obtain ⟨t, h, q⟩ := hbody cdv A outer s H vs Q E hr hsp
  exact ⟨t, h.wishes fun _ _ z => leaveX z, q⟩
end
/-! ### calls of defs that may raise -/
def tCallX (sp : Sp) (dvs : List V) (XS : XSt) (t : TA) : TE := fun σ H Q => t σ H fun vs H1 => sp (vs ++ dvs) H1 Q fun cls _ H' => XS σ cls H'
inductive tMethXI (C : Addr) (m : Str) (sp : Sp) (dvs : List V) (XS : XSt) (t : TA) (σ : St) (Q : VK) (x : V) (H1 : Hp) : Prop
  | mk (a : _) (dx : _) (fs : _) (h0_ : x = .ref a) (h1_ : H1 a = some (.ins C dx fs)) (h2_ : fs.lookup m = none) (h3_ : t σ H1 fun vs H2 => sp (x :: (vs ++ dvs)) H2 Q fun cls _ H' => XS σ cls H') : tMethXI C m sp dvs XS t σ Q x H1
def tMethX (C : Addr) (m : Str) (sp : Sp) (dvs : List V) (XS : XSt) (ta : TE) (t : TA) : TE := fun σ H Q => ta σ H fun x H1 => tMethXI C m sp dvs XS t σ Q x H1
section
variable {X : Cx} {W : Value → Shared → Prop} {XS : XSt} {k : Nat} {f C : Addr} {fd : FuncData} {ps : List Str} {sp : Sp} {dvs : List V} {ds : List Value} {x m : Str} {p pos apos : Pos} {e o : Expr} {es : List Expr} {ta : TE} {t : TA}
theorem run_fnX {pins : List (Addr × Obj)} {σ : St} {H : Hp} {s : Shared} {Q : VK} {us : List Value} {vs : List V} (F : FnOk X.prog X.w X.K X.mg X.base (CX1 X.prog X.w) k f fd ps sp) (hr : Room k X.A) (hb : Binds X.K fd ps ds) (hd : Vals dvs ds) (hx : ∀ ev s', WX X XS ev s' → W ev s')
    (I : Inv (X.wish W) pins σ H s) (r : Vals vs us) (h : sp (vs ++ dvs) H Q fun cls _ H' => XS σ cls H') : wpAny (model X.prog X.w) X.A (call (.ref f) us) (EP (X.wish W) pins σ Q) W s := by
  have I0 := I.unwish
  have r2 : Vals (vs ++ dvs) (us ++ ds) := r.append hd
  have hl : (us ++ ds).length = ps.length := by rw [← r2.length]; exact F.len _ _ _ _ h
  refine wpAny_call (codeAny_mono (F.run X.A X.stack s H ⟨us, []⟩ (us ++ ds) (vs ++ dvs) Q _ hr I0.env0 (hb s us I0.kIn hl) r2 h) fun r s' hq => ?_)
  cases r with
  | error e => exact hx _ _ (passX I0 hq)
  | ok fl =>
    cases fl with
    | ret u => exact I.after hq
    | next => exact False.elim hq
    | brk => exact False.elim hq
    | cont => exact False.elim hq
theorem pe_callX (F : FnOk X.prog X.w X.K X.mg X.base (CX1 X.prog X.w) k f fd ps sp) (hr : Room k X.A) (hg : Gl (X.wish W) x) (hm : X.mg x = some (.ref f)) (hk : PySem.W.keepIn X.K (.ref f) = true) (hb : Binds X.K fd ps ds) (hd : Vals dvs ds) (hx : ∀ ev s', WX X XS ev s' → W ev s')
    (ha : PA (X.wish W) (e :: es) t) (hdb : (x == ("__debug__" : Str)) = false := by decide) (he : starEach (e :: es) X.env = (false, eval e X.env) :: starEach es X.env := by rfl) (hpl : (backTo pos (starEach es X.env)).any (·.1) = false := by rfl) :
    PE (X.wish W) (.Call (.Name x p) (e :: es) [] pos) (tCallX sp dvs XS t) := by
  intro pins s σ H Q I h
  refine wpAny_Call_Name_kw (ld_glob I hg hm ?_ hdb)
  refine PySem.W.callWith_K (h₀ := X.base) I.ok.mod.kin hk (thn (ha pos pins s σ H _ I h) fun us s1 ⟨vs, H1, I1, r, q⟩ => ⟨I1.kIn, ?_⟩) he hpl
  exact run_fnX (X := X) F hr hb hd hx I1 r q
theorem pe_methX {pl : Sem Bool} (ho : PE (X.wish W) o ta) (c : Cls X.K C) (hm : Meth X.K C m f) (F : FnOk X.prog X.w X.K X.mg X.base (CX1 X.prog X.w) k f fd ps sp) (hr : Room k X.A) (hb : Binds X.K fd ps ds) (hd : Vals dvs ds) (hx : ∀ ev s', WX X XS ev s' → W ev s') (ha : PA (X.wish W) (e :: es) t)
    (hst : starEach (e :: es) X.env = (false, eval e X.env) :: starEach es X.env := by rfl) (hpl : (backTo pos (starEach es X.env)).any (·.1) = false := by rfl)
    (ht : eval (.Call (.Attribute o m apos) (e :: es) [] pos) X.env = (do
      let ov ← eval o X.env
      standAt apos.atName
      let (f, first) ← holding [ov] (getMethod ov m pl)
      callWith pos f first (backTo pos (starEach (e :: es) X.env)) (backToKw pos (keywordEach [] X.env))) := by rfl) :
    PE (X.wish W) (.Call (.Attribute o m apos) (e :: es) [] pos) (tMethX C m sp dvs XS ta t) := by
  intro pins s σ H Q I h
  refine PySem.W.methodCall_KW (pl := pl) (thn (ho pins s σ H _ I h) fun u s1 ⟨x, H1, I1, rx, a, dx, fs, ex, ea, l, q⟩ => ?_) ht
  subst ex
  obtain rfl : u = Value.ref a := rx
  refine getmeth_ok I1 ea c hm l ?_
  refine PySem.W.callWith_K (first := [.ref a]) (h₀ := X.base) I.ok.mod.kin hm.kp (thn (ha pos pins s1 σ H1 _ I1 q) fun us s2 ⟨vs, H2, I2, r, q2⟩ => ⟨I2.kIn, ?_⟩) hst hpl
  exact run_fnX (X := X) (us := .ref a :: us) (vs := .ref a :: vs) F hr hb hd hx I2 (.cons rfl r) q2
theorem pe_methX0 {pl : Sem Bool} (ho : PE (X.wish W) o ta) (c : Cls X.K C) (hm : Meth X.K C m f) (F : FnOk X.prog X.w X.K X.mg X.base (CX1 X.prog X.w) k f fd ps sp) (hr : Room k X.A) (hb : Binds X.K fd ps ds) (hd : Vals dvs ds) (hx : ∀ ev s', WX X XS ev s' → W ev s')
    (ht : eval (.Call (.Attribute o m apos) [] [] pos) X.env = (do
      let ov ← eval o X.env
      standAt apos.atName
      let (f, first) ← holding [ov] (getMethod ov m pl)
      callWith pos f first (backTo pos (starEach [] X.env)) (backToKw pos (keywordEach [] X.env))) := by rfl) :
    PE (X.wish W) (.Call (.Attribute o m apos) [] [] pos) (tMethX C m sp dvs XS ta tNil) := by
  intro pins s σ H Q I h
  refine PySem.W.methodCall_KW (pl := pl) (thn (ho pins s σ H _ I h) fun u s1 ⟨x, H1, I1, rx, a, dx, fs, ex, ea, l, q⟩ => ?_) ht
  subst ex
  obtain rfl : u = Value.ref a := rx
  refine getmeth_ok I1 ea c hm l ?_
  exact PySem.W.callWith_K0 (first := [.ref a]) I1.kIn hm.kp (run_fnX (X := X) (us := [.ref a]) (vs := [.ref a]) F hr hb hd hx I1 (.cons rfl .nil) q)
end
/-! ### raise C(e) of an own class without __init__ -/
abbrev veMro : List Value := [.type "ValueError", .type "Exception", .type "BaseException", .type "object"]
/-- an own class of refusals, of ValueError -/
def ExC (K : PySem.W.Frag) (C : Addr) : Prop := PySem.W.excIn K C veMro "ValueError.__new__" = true
theorem ExC.obj {K : PySem.W.Frag} {C : Addr} {h : Heap} (q : ExC K C) (X : K.In h) : ∃ bm N nm qn bs hdct sn sub ab col dd k0 k1 k2 k3 k5 mN, h.get? C = some (excClassObj nm qn C N bs bm hdct sn sub ab col dd k0 k1 k2 k3 k5 "ValueError.__new__") ∧ h.Ns N mN ∧ mN "__init__" = none ∧ OwnTail h veMro bm := by
  have q : PySem.W.excIn K C veMro "ValueError.__new__" = true := q
  unfold PySem.W.excIn at q
  split at q
  · next dd cd sl ho =>
    split at q
    · next C' bm k0 k1 k2 k3 n k5 hm hs =>
      simp only [Bool.and_eq_true, beq_iff_eq, Bool.not_eq_true'] at q
      obtain ⟨⟨⟨⟨⟨rfl, rfl⟩, hdel⟩, ht⟩, hok⟩, hni⟩ := q
      obtain ⟨nm, bs, mro, ns, qn, hd, sn, sub, ab, col, del⟩ := cd
      dsimp only at hm hdel hok hni
      subst hm
      subst hdel
      obtain ⟨l⟩ := sl
      have hl : l = [k0, k1, k2, k3, some (.builtin "ValueError.__new__"), k5] := hs
      subst hl
      refine ⟨bm, ns, nm, qn, bs, hd, sn, sub, ab, col, dd, k0, k1, k2, k3, k5, h.nsMap ns, X _ _ ho, ?_, ?_, PySem.W.tail_of_in X ht⟩
      · exact .of_isNs (PySem.W.isNs_of_in X hok)
      · exact PySem.W.nsMap_none_of_in X hok hni
    · cases q
  · cases q
def tRaise (C : Addr) (XS : XSt) (te : TA) : TS := fun _ σ H => te σ H fun vs H1 => vs.length ≤ sizeLine ∧ XS σ (.ref C) H1
theorem ps_raise {X : Cx} {XS : XSt} {W : Value → Shared → Prop} {C : Addr} {x : Str} {np cpos pos : Pos} {e : Expr} {es : List Expr} {t : TA} (hx : ∀ ev s', WD X XS ev s' → W ev s') (hc : X.calm = true) (q : ExC X.K C) (hg : Gl (X.wish W) x) (hm : X.mg x = some (.ref C)) (ha : PA (X.wish W) (e :: es) t)
    (hdb : (x == ("__debug__" : Str)) = false := by decide) (he : starEach (e :: es) X.env = (false, eval e X.env) :: starEach es X.env := by rfl) (hpl : (backTo cpos (starEach es X.env)).any (·.1) = false := by rfl) :
    PS (X.wish W) (.Raise (some (.Call (.Name x np) (e :: es) [] cpos)) none pos) (tRaise C XS t) := by
  intro pins s σ H D I h
  obtain ⟨bm, N, nm, qn, bs, hdct, sn, sub, ab, col, dd, k0, k1, k2, k3, k5, mN, hC, hN, hni, T⟩ := q.obj I.mod.kin
  refine wpAny_Raise_call_subT (C := C) (nm := nm) (q := qn) (N := N) (bs := bs) (bm := bm) (hdct := hdct) (sn := sn) (sub := sub) (ab := ab) (col := col) (dd := dd) (k0 := k0) (k1 := k1) (k2 := k2) (k3 := k3) (k5 := k5) (mN := mN)
    PySem.F.excBase_ValueError (T.hasType PySem.F.excBase_ValueError.hasBase) (I.ok.hd hc) ?_ hni (ld_glob I hg hm ⟨rfl, ?_⟩ hdb)
  · show (backTo cpos (starEach (e :: es) X.env)).any (·.1) = false
    rw [he]
    show (false || (backTo cpos (starEach es X.env)).any (·.1)) = false
    rw [hpl]
    rfl
  · have h1 := ha cpos pins s σ H _ I h
    show wpAny (model X.prog X.w) X.A (evalArgs (.ref C) true (backTo cpos (starEach (e :: es) X.env)) []) _ W s
    have h1 : wpAny (model X.prog X.w) X.A (spliced (backTo cpos (starEach (e :: es) X.env))) _ W s := h1
    rw [he] at h1 ⊢
    refine Calls.evalArgs_plain (wpAny_mono h1 (fun us s1 ⟨vs, H1, I1, r, hz, q1⟩ => ?_) fun _ _ z => z)
    refine ⟨rfl, by rw [← r.length]; exact hz, I1.bk _ _ hC, hN.keeps I1.bk, T.keeps I1.bk, fun h' a hm' => hx _ _ (.inr ?_)⟩
    exact ⟨pins, σ, H1, s1.heap, a, .ref C, us, rfl, I1.unwish, hm', q1⟩
/-! ### try: .. except C as n: .. -/
/-- pins that every state bears -/
abbrev Cx.pnd (X : Cx) (pn : List (Addr × Obj)) : Cx := { X with pn := pn }
/-- within an except suite, the exception at a -/
abbrev Cx.hand (X : Cx) (a : Addr) : Cx := { X with A := X.A.mark (some (.ref a)), calm := false, xe := fun _ _ => False }
theorem Cx.Ok.pnd {X : Cx} (ok : X.Ok) (pn : List (Addr × Obj)) : (X.pnd pn).Ok :=
  ⟨ok.mod, ok.kind, ok.glob, ok.blt, ok.above, ok.inj, ok.has, ok.cab, ok.hd, ok.frames, ok.stk, ok.exf, ok.bs, ok.bsz, ok.noex, ok.exfs, ok.funs, ok.frf⟩
theorem Cx.Ok.hand {X : Cx} (ok : X.Ok) (a : Addr) : (X.hand a).Ok :=
  ⟨ok.mod, ok.kind, ok.glob, ok.blt, ok.above, ok.inj, ok.has, ok.cab, (fun z => nomatch z), ok.frames, ok.stk, ok.exf, ok.bs, ok.bsz, ok.noex, ok.exfs, ok.funs, ok.frf⟩
section
variable {X : Cx} {pins pins' : List (Addr × Obj)} {σ : St} {H H' : Hp} {s : Shared}
theorem Inv.pnd (I : Inv X pins σ H s) : Inv (X.pnd (X.pn ++ pins)) [] σ H s := ⟨I.ok.pnd _, I.os, I.bare, I.base, I.loc, I.cell, I.free, I.freeC, fun p hp => I.pin p (by simpa using hp), I.hok, I.len⟩
theorem Inv.unpnd (I : Inv (X.pnd (X.pn ++ pins)) pins' σ H s) (ok : X.Ok) : Inv X pins σ H s := ⟨ok, I.os, I.bare, I.base, I.loc, I.cell, I.free, I.freeC, fun p hp => I.pin p (List.mem_append_left _ hp), I.hok, I.len⟩
theorem SP.unpnd {D : Ends} {f : Flow} {s' : Shared} (ok : X.Ok) (h : SP (X.pnd (X.pn ++ pins)) [] D f s') : SP X pins D f s' := by
  cases f with
  | next => obtain ⟨σ', H', I, q⟩ := h; exact ⟨σ', H', I.unpnd ok, q⟩
  | brk => obtain ⟨σ', H', I, q⟩ := h; exact ⟨σ', H', I.unpnd ok, q⟩
  | cont => obtain ⟨σ', H', I, q⟩ := h; exact ⟨σ', H', I.unpnd ok, q⟩
  | ret u => obtain ⟨v, σ', H', I, r, q⟩ := h; exact ⟨v, σ', H', I.unpnd ok, r, q⟩
theorem Inv.hand (I : Inv X pins σ H s) (a : Addr) : Inv (X.hand a) pins σ H s := ⟨I.ok.hand a, I.os, I.bare, I.base, I.loc, I.cell, I.free, I.freeC, I.pin, I.hok, I.len⟩
theorem Inv.unhand {a : Addr} (I : Inv (X.hand a) pins σ H s) (ok : X.Ok) : Inv X pins σ H s := ⟨ok, I.os, I.bare, I.base, I.loc, I.cell, I.free, I.freeC, I.pin, I.hok, I.len⟩
/-- the heap as the exception has left it -/
theorem Inv.flown {G h' B : Heap} (I : Inv X pins σ H { s with heap := G }) (cov : ∀ b o, G.get? b = some o → b ∉ frs X.stack → B.get? b = some o) (st : B.StaysIn h') (up : G.UpToSlots h') : Inv X pins σ H { s with heap := h' } := by
  have keep : ∀ b o, G.get? b = some o → b ∉ frs X.stack → h'.get? b = some o := fun b o e hb => st b o (cov b o e hb)
  have slot : ∀ b o, G.get? b = some o → b ∈ frs X.stack → ∃ sl, h'.get? b = some { o with slots := sl } := fun b o e hb => by
    obtain ⟨_, o', e', hd⟩ := I.stack.mem hb
    have : o' = o := Option.some.inj (e'.symm.trans e)
    subst this
    exact up b o' e hd
  refine I.call' (s' := { s with heap := h' }) (ch := []) rfl ⟨fun b o e _ hb _ => keep b o e hb, fun b o e _ hb _ => slot b o e hb, fun _ _ _ n _ => n, fun b o e _ => ?_, fun _ _ q => q, fun _ _ _ q => q, fun _ ps q => ⟨#[], by rw [q]; simp⟩⟩ (fun b u e => ?_) I.bare fun b z => absurd z (by simp)
  · by_cases hb : b ∈ frs X.stack
    · obtain ⟨sl, z⟩ := slot b o e hb
      exact ⟨_, z⟩
    · exact ⟨o, keep b o e hb⟩
  · refine (I.hok b u e).stay (fun c v hc q => keep c v q fun hm => ?_) (fun _ q => q) fun _ _ q => q
    have hf := I.stkFree c hm
    rcases hc with rfl | hc
    · rw [hf] at e; cases e
    · rw [hf] at hc; cases hc
theorem ObjOk.is {P : Program} {w : World} {h : Heap} {a : Addr} {o : HO} (x : ObjOk P w H h a o) : ∃ ob, h.get? a = some ob := by
  cases o with
  | lst xs => obtain ⟨_, _, _, _, e⟩ := x; exact ⟨_, e⟩
  | tup xs => obtain ⟨_, _, _, p⟩ := x; obtain ⟨ob, e, _⟩ := p; exact ⟨ob, e⟩
  | dK kvs => obtain ⟨_, _, _, _, o, _, _, e, _⟩ := x; exact ⟨_, e⟩
  | dT kvs => obtain ⟨_, _, _, _, o, _, _, e, _⟩ := x; exact ⟨_, e⟩
  | set S n => obtain ⟨o, _, _, _, e, _⟩ := x; exact ⟨_, e⟩
  | ins C dx fs => obtain ⟨_, _, _, e, _⟩ := x; exact ⟨_, e⟩
  | own y => exact x
  | xd fs => obtain ⟨_, ⟨_, _, _, e, _⟩, _⟩ := x; exact ⟨_, e⟩
  | rng lo hi => obtain ⟨_, _, _, e⟩ := x; exact ⟨_, e⟩
  | frz ob u => obtain ⟨e, _⟩ := x; exact ⟨_, e⟩
  | tbl ps => exact ⟨_, show h.get? a = some _ from x⟩
  | met f y => exact ⟨_, show h.get? a = some _ from x⟩
  | ext φ => obtain ⟨_, e, _⟩ := x; exact e
theorem Inv.untracked {G : Heap} {a : Addr} (I0 : Inv X pins σ H { s with heap := G }) (hn : G.get? a = none) : H a = none := by
  cases q : H a with
  | none => rfl
  | some u =>
    obtain ⟨ob, e⟩ := (I0.hok a u q).is
    have e : G.get? a = some ob := e
    rw [hn] at e; cases e
/-- a thing that was not tracked is tracked from now on -/
theorem Inv.track {G : Heap} {a : Addr} {o : HO} (I0 : Inv X pins σ H { s with heap := G }) (hn : G.get? a = none) (I : Inv X pins σ H s) (new : ObjOk X.prog X.w (upd H a o) s.heap a o) : Inv X pins σ (upd H a o) s := by
  have hH := I0.untracked hn
  have ne : ∀ {b ob}, G.get? b = some ob → b ≠ a := fun e z => by rw [z, hn] at e; cases e
  have neS : ∀ {b ob}, X.s₀.heap.get? b = some ob → b ∉ X.ex → b ≠ a := fun {b ob} e hx => by
    obtain ⟨o', z⟩ := I0.base.there b ob e hx
    exact ne z
  refine ⟨I.ok, I.os, I.bare, ⟨I.base.keep, I.base.slot, fun b ob e n hx => ?_, I.base.there, fun b xs q => ?_, fun b ob u q => ?_, fun b ps q => ?_⟩, I.loc, I.cell, ?_, fun x c e => ?_, fun p hp => ?_, fun b u e => ?_, I.len⟩
  · rw [upd_ne (neS e hx)]; exact I.base.free b ob e n hx
  · have := I.base.tups b xs q
    rw [upd_ne (ne_of_none this hH)]; exact this
  · have := I.base.frzs b ob u q
    rw [upd_ne (ne_of_none this hH)]; exact this
  · obtain ⟨m, this⟩ := I.base.tbls b ps q
    exact ⟨m, by rw [upd_ne (ne_of_none this hH)]; exact this⟩
  · obtain ⟨m, ⟨ob, _, _, e, _⟩, _⟩ := I0.loc
    rw [upd_ne (ne e)]; exact I.free
  · obtain ⟨v, ob, z, _⟩ := I0.cell x c e
    rw [upd_ne (ne z)]; exact I.freeC x c e
  · obtain ⟨e, n, r⟩ := I.pin p hp
    refine ⟨e, ?_, r⟩
    rw [upd_ne (ne (I0.pin p hp).1)]; exact n
  · by_cases hb : b = a
    · subst hb; rw [upd_same] at e; cases e; exact new
    · rw [upd_ne hb] at e
      refine (I.hok b u e).stay (fun _ _ _ q => q) (fun c q => ?_) fun c xs q => ?_
      · rw [upd_ne (ne_of_none q hH)]; exact q
      · rw [upd_ne (ne_of_none q hH)]; exact q
/-- a name goes -/
theorem unbind_ok {M : Model} {A : Around} {E : Value → Shared → Prop} {i : Nat} {n : Str} {pos : Pos} {Q : Unit → Shared → Prop} (I : Inv X pins σ H s) (hN : X.N.Nodup) (hi : X.N[i]? = some n) (hl : X.env.kindOf n = some .local)
    (h : ∀ s', Inv X pins (σ.set i none) H s' → Q () s') : wpAny M A (do bindName X.env n .none; unbindBehindTheSuite X.env n pos) Q E s := by
  obtain ⟨m, hn, hm⟩ := id I.loc
  have hiσ : i < σ.length := by rw [I.len]; exact (List.getElem?_eq_some_iff.mp hi).1
  refine wpAny_nameGoes_keeps hl hn (by rw [I.ok.kind]; rfl) fun h' v hn' hs => h _ ?_
  obtain ⟨oL, _, _, hoL, _⟩ := id hn
  have old : ∀ {b o}, X.s₀.heap.get? b = some o → b ≠ X.env.locals := fun e => Nat.ne_of_lt (Nat.lt_of_lt_of_le (Heap.lt_size e) I.ok.above)
  refine ⟨I.ok, I.os, I.bare, ⟨fun b o e n hb hx => (hs.2 b (old e)).trans (I.base.keep b o e n hb hx), fun b o e n hb hx => ?_, I.base.free, fun b o e hx => ?_, I.base.tups, I.base.frzs, I.base.tbls⟩, ⟨_, hn', fun j y v' e1 e2 e3 => ?_⟩, fun y c e => ?_, I.free, I.freeC, fun p hp => ?_, fun b ob e => ?_, by simpa using I.len⟩
  · obtain ⟨sl, z⟩ := I.base.slot b o e n hb hx
    exact ⟨sl, (hs.2 b (old e)).trans z⟩
  · obtain ⟨o', z⟩ := I.base.there b o e hx
    exact ⟨o', (hs.2 b (old e)).trans z⟩
  · by_cases hj : j = i
    · subst hj
      rw [List.getElem?_set_self hiσ] at e2
      cases e2
    · rw [List.getElem?_set_ne (Ne.symm hj)] at e2
      obtain ⟨u', r', q⟩ := hm j y v' e1 e2 e3
      refine ⟨u', r', ?_⟩
      rcases q with ⟨k, z⟩ | ⟨k, c, z1, z2⟩
      · have : y ≠ n := fun z => hj (nodup_ix hN e1 (z ▸ hi))
        exact .inl ⟨k, by simp [this, z]⟩
      · exact .inr ⟨k, c, z1, z2.sameBut hs (I.cne y c z1)⟩
  · obtain ⟨w', z⟩ := I.cell y c e
    exact ⟨w', z.sameBut hs (I.cne y c e)⟩
  · obtain ⟨e, n, ne, nf, d⟩ := I.pin p hp
    exact ⟨(hs.2 p.1 ne).trans e, n, ne, nf, d⟩
  · refine (I.hok b ob e).stay (fun c w' hc q => (hs.2 c ?_).trans q) (fun _ q => q) fun _ _ q => q
    rintro rfl
    rcases hc with rfl | hc
    · rw [I.free] at e; cases e
    · rw [I.free] at hc; cases hc
end
/-- an exception as a thing in the heap -/
def excO (a : Addr) (cls : Value) : HO := .ext fun h => ∃ o, h.get? a = some o ∧ o.cls = cls ∧ ∃ vs, o.data = .fields vs
theorem excO_ok {P : Program} {w : World} {H : Hp} {h : Heap} {a : Addr} {cls : Value} {o : Obj} {vs : Array Value} (e : h.get? a = some o) (hc : o.cls = cls) (hd : o.data = .fields vs) : ObjOk P w H h a (excO a cls) :=
  ⟨⟨o, e, hc, vs, hd⟩, ⟨o, e⟩, fun h1 h2 ⟨o1, e1, c1, d1⟩ k => ⟨o1, k o1 e1, c1, d1⟩⟩
/-- what is wanted behind the suite, the name gone -/
def Ends.gone (D : Ends) (i : Nat) : Ends := { nx := fun σ H => D.nx (σ.set i none) H, rt := D.rt, bk := fun σ H => D.bk (σ.set i none) H, ct := fun σ H => D.ct (σ.set i none) H }
def tTryAs (K : PySem.W.Frag) (CT : Addr) (i : Nat) (tb : XSt → TS) (ts : TS) : TS := fun D σ H =>
  tb (fun σ' cls H' => PySem.W.exmOne K cls (.ref CT) = some true ∧ ∀ a, H' a = none → ts (D.gone i) (σ'.set i (some (.ref a))) (upd H' a (excO a cls))) D σ H
end L2

set_option maxHeartbeats 4000000
namespace L2
open PySem PySem.Spec PyProof.Rows
/-! ### isinstance(e, ..) of a caught exception -/
structure ExA (K : PySem.W.Frag) (C : Addr) : Prop where
  exc : ExC K C
  ga : PySem.W.findIn K (.ref C) "__getattribute__" = some (some (.builtin "BaseException.__getattribute__"))
  noga : PySem.W.findIn K (.ref C) "__getattr__" = some none
  cl : PySem.W.findIn K (.ref C) "__class__" = some (some (.builtin "object.__class__"))
section
variable {prog : Program} {w : World} {A : Around} {E : Value → Shared → Prop} {h : Heap} {g : Array GenState} {d : Drawn} {t : Nat} {os : OsState} {a : Addr} {o : Obj} {vs : Array Value} {K : PySem.W.Frag}
  {nm q : Str} {C N : Addr} {bs bm : List Value} {hdct : Bool} {sn : List Str} {sub : List Value} {ab : Bool} {col : Option Bool} {dd : Option Addr} {k0 k1 k2 k3 k5 : Option Value} {newId : String}
theorem exc_clsGet {R : Result → Shared → Prop} (hC : h.get? C = some (excClassObj nm q C N bs bm hdct sn sub ab col dd k0 k1 k2 k3 k5 newId)) (T : OwnTail h veMro bm) (hx : h.get? a = some o) (hc : o.cls = .ref C) (hq : R (.ok (.ret (.ref C))) ⟨h, g, d, t, os⟩) :
    codeAny (model prog w) A (.call (.builtin "getset_descriptor.__get__") ⟨[.builtin "object.__class__", .ref a, .ref C], []⟩) R ⟨h, g, d, t, os⟩ := by
  have hG : (⟨h, g, d, t, os⟩ : Shared).TypeIs (.builtin "object.__class__") "getset_descriptor" := F.typeOf_object_class
  have own : (Value.ref C :: bm).contains (.type (".".intercalate ("object.__class__".cutAt '.').dropLast)) = true := by
    rw [F.owner_object_class, List.contains_cons, T.hasType (show veMro.contains (.type "object") = true from rfl)]; rfl
  refine codeAny_call_builtin F.slot_gs_get.plain F.entry_gs_get (F.slot_gs_get.check _ _ _ _ _ _ _ _ hG (F.args_gs_get _ _ _) ?_)
  repeat (any_goals (first | assumption | (with_reducible refine wpAny_loadPart_at hx ?_; rw [hc]) | (with_reducible refine wpAny_isSubtype_exc hC ?_; rw [own]) | wp_step))
  refine ⟨Code.quiet_builtin _ (by decide +kernel), codeAny_builtin F.entry_object_class ?_⟩
  repeat (any_goals (first | assumption | (with_reducible refine wpAny_loadPart_at hx ?_; rw [hc]) | wp_step))
theorem exc_clsEntry {tk : Tok} {Q : Fin → Shared → Prop} (X : K.In h) (F0 : ExA K C) (hC : h.get? C = some (excClassObj nm q C N bs bm hdct sn sub ab col dd k0 k1 k2 k3 k5 newId)) (T : OwnTail h veMro bm) (hx : h.get? a = some o) (hc : o.cls = .ref C) (hq : Q (.done (.ret (.ref C))) ⟨h, g, d, t, os⟩) :
    wpAny (model prog w) A (Builtin.«object.__getattribute__» ⟨[.ref a, .str "__class__" tk], []⟩) Q E ⟨h, g, d, t, os⟩ := by
  have hG : (⟨h, g, d, t, os⟩ : Shared).TypeIs (.builtin "object.__class__") "getset_descriptor" := F.typeOf_object_class
  have g1 := F.typeOf_object_class
  have g2 := F.slot_gs_get.lookup
  have g3 := F.slot_gs_set.lookup
  have lk : PySem.W.Looks (model prog w) h (typeLookup (.ref C) "__class__") (some (.builtin "object.__class__")) := PySem.W.looks_findIn X F0.cl
  repeat (any_goals (first | assumption | (with_reducible refine wpAny_loadPart_at hx ?_; rw [hc]) | with_reducible refine lk.at ?_ | wp_step))
  refine exc_clsGet hC T hx hc ?_
  repeat (any_goals (first | assumption | wp_step))
theorem exc_gaCheck {M : Model} {nameV : Value} {Q : Unit → Shared → Prop} (hC : h.get? C = some (excClassObj nm q C N bs bm hdct sn sub ab col dd k0 k1 k2 k3 k5 newId)) (T : OwnTail h veMro bm)
    (hx : h.get? a = some o) (hc : o.cls = .ref C) (hq : Q () ⟨h, g, d, t, os⟩) : wpAny M A (checkBuiltinCall "BaseException.__getattribute__" ⟨[.ref a, nameV], []⟩) Q E ⟨h, g, d, t, os⟩ := by
  have kd : builtinKind "BaseException.__getattribute__" = some .slot := by decide +kernel
  have sp : splitId "BaseException.__getattribute__" = some ("BaseException", "__getattribute__") := by decide +kernel
  have own : (Value.ref C :: bm).contains (.type "BaseException") = true := by rw [List.contains_cons, T.hasType (show veMro.contains (.type "BaseException") = true from rfl)]; rfl
  have ar := F.args_bexc_ga (.ref a) nameV
  simp only [checkBuiltinCall, kd, sp]
  refine wpAny_bind ?_
  unfold isInstance
  repeat (first | (with_reducible refine wpAny_loadPart_at hx ?_; rw [hc]) | (with_reducible refine wpAny_isSubtype_exc hC ?_; rw [own]) | wp_step)
  exact hq
theorem exc_clsBy {tk : Tok} {Q : Value → Shared → Prop} (X : K.In h) (F0 : ExA K C) (hC : h.get? C = some (excClassObj nm q C N bs bm hdct sn sub ab col dd k0 k1 k2 k3 k5 newId)) (T : OwnTail h veMro bm) (hx : h.get? a = some o) (hc : o.cls = .ref C) (hq : Q (.ref C) ⟨h, g, d, t, os⟩) :
    wpAny (model prog w) A (getAttrBy (.ref a) (.str "__class__" tk) false) Q E ⟨h, g, d, t, os⟩ := by
  have f3 := PySem.F.attrBase_ValueError.ga.bind (.ref a)
  have n2 : (Value.builtin "BaseException.__getattribute__" == Value.builtin "object.__getattribute__") = false := by decide +kernel
  have n1 : (onTheHeap (Value.ref C) && Value.builtin "BaseException.__getattribute__" == Value.builtin "object.__getattribute__") = false := by rw [n2]; rfl
  have l1 : PySem.W.Looks (model prog w) h (typeLookup (.ref C) "__getattribute__") (some (.builtin "BaseException.__getattribute__")) := PySem.W.looks_findIn X F0.ga
  have l2 : PySem.W.Looks (model prog w) h (typeLookup (.ref C) "__getattr__") none := PySem.W.looks_findIn X F0.noga
  repeat (any_goals (first | assumption | (with_reducible refine wpAny_loadPart_at hx ?_; rw [hc]) | with_reducible refine l1.at ?_ | with_reducible refine l2.at ?_ | wp_step))
  refine codeAny_call_builtin PySem.F.attrBase_ValueError.ga.plain F.entry_bexc_ga (exc_gaCheck hC T hx hc (exc_clsEntry X F0 hC T hx hc ?_))
  repeat (any_goals (first | assumption | wp_step))
theorem exc_cls {Q : Option Value → Shared → Prop} (X : K.In h) (F0 : ExA K C) (hx : h.get? a = some o) (hc : o.cls = .ref C) (hq : Q (some (.ref C)) ⟨h, g, d, t + 1, os⟩) : wpAny (model prog w) A (getAttr? (.ref a) "__class__") Q E ⟨h, g, d, t, os⟩ := by
  obtain ⟨bm, N, nm, qn, bs, hdct, sn, sub, ab, col, dd, k0, k1, k2, k3, k5, mN, hC, hN, hni, T⟩ := F0.exc.obj X
  unfold getAttr? getAttrBy?
  repeat (any_goals (first | assumption | with_reducible apply exc_clsBy X F0 hC T hx hc | wp_step))
end
/-- a caught exception, for isinstance -/
theorem kitx_exc {K : PySem.W.Frag} {a C : Addr} (F0 : ExA K C) : PySem.W.KitX K (.ref a) (.ref C) (fun h => ∃ o, h.get? a = some o ∧ o.cls = .ref C) where
  ty := fun M h _ ⟨o, e, c⟩ => c ▸ (PySem.W.Looks.ld e).andThen .now
  it := fun M h X _ => by
    obtain ⟨bm, N, nm, qn, bs, hdct, sn, sub, ab, col, dd, k0, k1, k2, k3, k5, mN, hC, _⟩ := F0.exc.obj X
    intro A' Q' E' s' k q
    unfold isType loadHead
    exact wpAny_bind (wpAny_loadPart (k _ _ hC) (wpAny_pure q))
  ne := fun h tp dd its n sl X htp => by
    obtain ⟨bm, N, nm, qn, bs, hdct, sn, sub, ab, col, dd, k0, k1, k2, k3, k5, mN, hC, _⟩ := F0.exc.obj X
    refine Bool.eq_false_iff.mpr fun q => ?_
    have e : C = tp := Value.ref.inj (beq_iff_eq.mp q)
    subst e
    rw [hC] at htp
    have z := congrArg Obj.cls (Option.some.inj htp)
    exact absurd (Value.type.inj z) (by decide)
  ca := fun {prog w A E Q s} X ⟨o, e, c⟩ k => by
    obtain ⟨h, g, d, t, os⟩ := s
    exact exc_cls X F0 e c k
section
variable {X : Cx}
/-- isinstance: the old reading, or a caught exception against a built-in class, an own class, a tuple of own classes -/
def rIsX (K : PySem.W.Frag) : List V → Hp → VK → Prop := fun xs H Q =>
  (∃ x T t b, xs = [x, .ty T] ∧ TyOf K H x t ∧ PySem.W.kitOne K t (.type T) = some b ∧ Q (.bl b) H) ∨
  (∃ a C T b, xs = [.ref a, .ty T] ∧ H a = some (excO a (.ref C)) ∧ ExA K C ∧ PySem.W.kitOne K (.ref C) (.type T) = some b ∧ Q (.bl b) H) ∨
  (∃ a C C' b, xs = [.ref a, .ref C'] ∧ H a = some (excO a (.ref C)) ∧ ExA K C ∧ PySem.W.kitOne K (.ref C) (.ref C') = some b ∧ Q (.bl b) H) ∨
  (∃ (a C p : Addr) (cs : List Addr) (b : Bool), xs = [.ref a, .ref p] ∧ H a = some (excO a (.ref C)) ∧ ExA K C ∧ H p = some (.tup (cs.map V.ref)) ∧ PySem.W.kitAny K (.ref C) (cs.map Value.ref) = some b ∧ Q (.bl b) H)
theorem valsRef : ∀ {cs : List Addr} {us : List Value}, Vals (cs.map V.ref) us → us = cs.map Value.ref
  | [], _, .nil => rfl
  | c :: t, _, .cons r s => by
    have : _ = Value.ref c := r
    rw [this, valsRef s]
    rfl
theorem call_isX0 : CallR X (.builtin "isinstance") (rIsX X.K) := by
  intro pins s σ H xs us Q I r h
  rcases h with h | h | h | h
  · exact call_isT pins s σ H xs us Q I r h
  · obtain ⟨a, C, T, b, rfl, hH, F0, e, q⟩ := h
    cases r with
    | cons r1 r2 => cases r2 with
      | cons r2 r3 =>
        cases r3
        cases (show _ = Value.ref a from r1)
        cases (show _ = Value.type T from r2)
        obtain ⟨⟨o, e1, e2, _⟩, _⟩ := I.hok a _ hH
        exact PySem.W.kia_one (kitx_exc F0) I.kIn ⟨o, e1, e2⟩ e (fun z => nomatch z) fun tk => ⟨.bl b, H, I.tok _, rfl, q⟩
  · obtain ⟨a, C, C', b, rfl, hH, F0, e, q⟩ := h
    cases r with
    | cons r1 r2 => cases r2 with
      | cons r2 r3 =>
        cases r3
        cases (show _ = Value.ref a from r1)
        cases (show _ = Value.ref C' from r2)
        obtain ⟨⟨o, e1, e2, _⟩, _⟩ := I.hok a _ hH
        exact PySem.W.kia_one (kitx_exc F0) I.kIn ⟨o, e1, e2⟩ e (fun z => nomatch z) fun tk => ⟨.bl b, H, I.tok _, rfl, q⟩
  · obtain ⟨a, C, p, cs, b, rfl, hH, F0, hp, e, q⟩ := h
    cases r with
    | cons r1 r2 => cases r2 with
      | cons r2 r3 =>
        cases r3
        cases (show _ = Value.ref a from r1)
        cases (show _ = Value.ref p from r2)
        obtain ⟨⟨o, e1, e2, _⟩, _⟩ := I.hok a _ hH
        obtain ⟨_, its, rv, ob, h1, h2, n, h3⟩ := I.hok p _ hp
        have := valsRef rv
        subst this
        obtain ⟨oc, od, odt, osl⟩ := ob
        dsimp only at h2 h3
        subst h2 h3
        exact PySem.W.kia_tup (kitx_exc F0) I.kIn ⟨o, e1, e2⟩ h1 e (fun z => nomatch z) fun tk => ⟨.bl b, H, I.tok _, rfl, q⟩
/-- the reading names the fragment itself -/
theorem call_isX {K : PySem.W.Frag} (h : X.K = K) : CallR X (.builtin "isinstance") (rIsX K) := h ▸ call_isX0
/-- a def that may raise, called where it does not -/
theorem pass1 : Passes (CX1 X.prog X.w) X E0 := fun _ _ _ _ _ _ _ ⟨_, _, _, _, _, _, _, _, _, _, z⟩ => z.elim
theorem bt_ValueError : bootBuiltins "ValueError" = some (.type "ValueError") := PyProof.Rows.Boot.«ValueError»
end
end L2

set_option maxHeartbeats 4000000
namespace L2
open PySem PySem.Spec PyProof.Rows
/-! ### an exception out of a comprehension without free names -/
/-- within a body: one that is held at the frame -/
def HeldX (X : Cx) (XS : XSt) : Value → Shared → Prop := fun ev s' =>
  ∃ pins σ H' G a cls B a0 L, ev = .ref a ∧ X.env.frame = some L ∧ Inv X pins σ H' { s' with heap := G } ∧ (∀ b o, G.get? b = some o → b ∉ frs X.stack → B.get? b = some o) ∧ Heap.HeldW B X.stack a cls a0 L s'.heap ∧ G.UpToSlots s'.heap ∧ G.get? a = none ∧ XS σ cls H'
def WH (X : Cx) (XS : XSt) : Value → Shared → Prop := fun ev s' => WD X XS ev s' ∨ HeldX X XS ev s'
section
variable {P : Program} {w : World} {K : PySem.W.Frag} {mg : Str → Option Value} {base : Heap}
end
/-- an exception out of the block: its names go, then it passes on -/
def bxErr (X : Cx) (scope : Scope) (C : Addr) (e : Value) (s' : Shared) : Prop :=
  ∃ m, s'.heap.Ns C m ∧ ∀ h', Heap.SameBut C s'.heap h' → ∀ cenv : Env, cenv.frame = X.env.frame → wpAny (model X.prog X.w) X.A (passOn "comprehension.variables-let-go" e cenv : Sem Value) (fun _ _ => False) X.xe { s' with heap := h' }
def bxXe (X : Cx) (scope : Scope) (C : Addr) : Value → Shared → Prop :=
  notedBy (model X.prog X.w) X.A (compEnvC scope (closOf X.env scope.names []) C X.env) (bxErr X scope C)
section
variable {X : Cx} {tg iter elt : Expr} {ifs : List Expr} {scope : Scope} {pos : Pos} {cn : List Str} {wi : TI} {g : Bk → TG} {tc : Bk → TT} {te : Bk → TE} {TH : Bk → Prop}
end
/-- what is known at the block's beginning -/
def THX (X : Cx) (scope : Scope) : Bk → Prop := fun b => ∃ pins σ, Inv X pins σ b.H₂ b.s₂ ∧ (∀ x ∈ b.fp, FpOk X pins b.H₂ x) ∧ b.s₂.heap.objs.size ≤ b.C ∧ b.xe = bxXe X scope b.C
/-- a text times a number -/
def repS (x : Str) (n : Int) : Str := if n < 1 then Str.empty else if (n == 1 || x.length == 0) = true then x else { cps := List.foldl (fun x1 x2 => x1 ++ x2) #[] (List.replicate n.toNat x.cps) }
end L2

set_option maxHeartbeats 4000000
namespace L2
open PySem PySem.Spec PyProof.Rows
/-! ### xs[a:c] = ys -/
def gSlice (to : TE) (tl th : St → Hp → (Option Int → Hp → Prop) → Prop) : TG := fun v σ H Q => to σ H fun x H1 => tl σ H1 fun l H2 => th σ H2 fun u H3 =>
  ∃ (p b : Addr) (xs ys : List V) (a c : Int), x = .ref p ∧ v = .ref b ∧ l = some a ∧ u = some c ∧ H3 p = some (.lst xs) ∧ H3 b = some (.lst ys) ∧ p ≠ b ∧ 0 ≤ a ∧ a ≤ c ∧ c ≤ xs.length ∧ xs.length + ys.length ≤ sizeLine ∧ Q σ (upd H3 p (.lst (xs.take a.toNat ++ ys ++ xs.drop c.toNat)))
theorem pg_slice {X : Cx} {o : Expr} {lo hi : Option Expr} {p2 pos : Pos} {to : TE} {tl th : St → Hp → (Option Int → Hp → Prop) → Prop} (ho : PE X o to) (hl : PO X lo tl) (hu : PO X hi th)
    (ha : ∀ v, assign (.Subscript o (.Slice lo hi none p2) pos) X.env v = (do
      let ov ← holding [v] (eval o X.env)
      let iv ← holding [v, ov] (eval (.Slice lo hi none p2) X.env)
      standAt pos
      holding [v, ov, iv] (setItem ov iv v)
      release [iv, v, ov] []) := by intro _; rfl) : PG X (.Subscript o (.Slice lo hi none p2) pos) (gSlice to tl th) := by
  intro pins s σ H v u Q I r h
  rw [ha]
  refine wpAny_bind (wpAny_holding (thn (ho pins s σ H _ I h) fun ov s1 ⟨x, H1, I1, r1, q1⟩ => ?_))
  refine wpAny_bind (wpAny_holding ?_)
  refine wpAny_Slice (thn (hl pins s1 σ H1 _ I1 q1) fun vl s2 ⟨l, H2, I2, pl, q2⟩ => thn (hu pins s2 σ H2 _ I2 q2) fun vu s3 ⟨uu, H3, I3, pu, q3⟩ => ?_)
  rw [evalPart_none]
  refine wpAny_pure ?_
  have I4 : Inv X pins σ H3 { s3 with heap := s3.heap.push { cls := .type "slice", data := .fields #[vl, vu, .none] } } := I3.kept (t' := s3.toks) fun b ob q => Heap.get?_push_of_some _ q
  obtain ⟨p, b, xs, ys, a, c, rfl, rfl, rfl, rfl, hp, hb, hne, h0, hac, hc, hz, q4⟩ := q3
  cases r1
  cases r
  refine wpAny_bind (wpAny_standAt (wpAny_bind (wpAny_holding ?_)))
  refine set_slice I4 hp hb hne (Heap.IsSliceOf.new ..) (by cases pl; exact ⟨_, rfl⟩) (by cases pu; exact ⟨_, rfl⟩) h0 hac hc hz fun s5 I5 => ?_
  exact wpAny_release ⟨σ, _, I5, q4⟩
end L2
namespace L2
open PySem PySem.Spec PyProof.Rows
/-! ### all of a list of bools -/
section
variable {X : Cx}
theorem all_range : ∀ bs : List Bool, (List.range bs.length).all (fun i => bs.getD i false) = bs.all id
  | [] => rfl
  | b :: bs => by
    rw [List.length_cons, List.range_succ_eq_map, List.all_cons, List.all_map, List.all_cons]
    have : ((fun i => (b :: bs).getD i false) ∘ Nat.succ) = fun i => bs.getD i false := by
      funext i
      rfl
    rw [this, all_range bs]
    rfl
theorem call_all : CallR X (.builtin "all") (fun xs H Q => X.calm = true ∧ ∃ (a : Addr) (bs : List Bool), xs = [.ref a] ∧ SqL X.K H a (bs.map V.bl) ∧ Q (.bl (bs.all id)) H) := by
  intro pins s σ H xs us Q I r h
  obtain ⟨hc, a, bs, rfl, hq, q⟩ := h
  obtain ⟨u, rfl, rfl⟩ := r.one
  obtain ⟨its, rv, p, hz⟩ := I.list hq
  have hl := rv.length
  rw [List.length_map] at hl
  have bsAt : ∀ (i : Nat) (v : Value), its.toArray[i]? = some v → v = Value.bool (bs.getD i false) := by
    intro i v hv
    have hv' : its[i]? = some v := by simpa using hv
    have hi : i < its.length := (List.getElem?_eq_some_iff.mp hv').1
    have hb : i < bs.length := by omega
    obtain ⟨u, hu, ru⟩ := rv.get (i := i) (x := .bl (bs[i])) (by rw [List.getElem?_map, List.getElem?_eq_getElem hb]; rfl)
    rw [hv'] at hu; cases hu
    have : v = .bool bs[i] := ru
    rw [this, List.getD_eq_getElem?_getD, List.getElem?_eq_getElem hb]
    rfl
  refine call_all_walk (wpAny_pyIter_list p.isList ?_)
  have ane : a ≠ s.heap.objs.size := by
    obtain ⟨o, ho, _⟩ := p.isList
    exact Nat.ne_of_lt (Heap.lt_size ho)
  have hd : X.A.in1.handled = none := I.ok.hd hc
  refine ⟨s.heap.objs.size, _, _, _, _, _, fun i => bs.getD i false, rfl, Walks.list hd s.heap.objs.size a ane its.toArray, ⟨⟨_, Heap.get?_push_size _ rfl, rfl, rfl⟩, p.isList.push _⟩, ?_, ?_⟩
  · intro i v s' Q' E' hP hQ'
    rw [bsAt i v hP]
    exact wpAny_truthy_bool hQ'
  · intro h' tk kk
    have e : (List.range its.toArray.size).all (fun i => bs.getD i false) = bs.all id := by
      rw [List.size_toArray, ← hl]
      exact all_range bs
    rw [e]
    refine ⟨.bl _, H, I.kept (t' := tk) fun b o e => kk b o (fun z => ?_) (Heap.get?_push_of_some _ e), rfl, q⟩
    have : b = s.heap.objs.size := by simpa using z
    exact absurd (Heap.lt_size e) (by rw [this]; exact Nat.lt_irrefl _)
/-! ### for .. in range(a, b, -1) -/
def Itd (lo : Int) (n : Nat) : It := { go := fun i _ => i < n, yld := fun i H x H' => H' = H ∧ x = V.int (lo - (i : Int)), stop := fun i _ => n ≤ i }
def iRng3 (ta : TA) : TI := fun σ H R => ta σ H fun vs H1 => ∃ i j : Int, vs = [.int i, .int j, .int (-1)] ∧ (-(2 ^ 62) ≤ i ∧ i < 2 ^ 62 ∧ -(2 ^ 62) ≤ j ∧ j < 2 ^ 62) ∧ R (Itd i (i - j).toNat) H1
/-- an expression that is not reached -/
def tNeverE : TE := fun _ _ _ => False
end
end L2

namespace L2
open PySem PySem.Spec PyProof.Rows
/-! ### lists of pairs as tables -/
section
variable {κ : Type} [DecidableEq κ]
def valV (kvs : List (κ × V)) (k : κ) : Option V := (kvs.find? fun kv => decide (kv.1 = k)).map (·.2)
/-- in its place, or at the end -/
def putK (kvs : List (κ × V)) (k : κ) (v : V) : List (κ × V) :=
  if (kvs.any fun kv => decide (kv.1 = k)) = true then kvs.map (fun kv => if kv.1 = k then (kv.1, v) else kv) else kvs ++ [(k, v)]
def dropK (kvs : List (κ × V)) (k : κ) : List (κ × V) := kvs.filter fun kv => decide (kv.1 ≠ k)

end


/-! ### a tracked dict, its keys ints and texts or tuples of these -/
/-- raw entries of a dict with tuple keys -/
abbrev KT (H : Hp) : List (List Key × V) → List (List Key × Addr × Value) → Prop := Paired fun p q => p.1 = q.1 ∧ H q.2.1 = some (.tup (p.1.map kV)) ∧ RelV p.2 q.2.2
section
variable {P : Program} {w : World} {H : Hp} {h : Heap} {a : Addr}
end

/-- what the dict at a holds at the key y -/
def DGet (H : Hp) (a : Addr) (y : V) (r : Option V) : Prop :=
  (∃ kvs k, Rd H a (.dK kvs) ∧ y = kV k ∧ r = valV kvs k) ∨ ∃ kvs k b, Rd H a (.dT kvs) ∧ y = .ref b ∧ H b = some (.tup (k.map kV)) ∧ r = valV kvs k
/-- the heap behind a[y] = v -/
def DPut (H : Hp) (a : Addr) (y v : V) (H' : Hp) : Prop :=
  (∃ kvs k, H a = some (.dK kvs) ∧ y = kV k ∧ kvs.length < sizeLine ∧ H' = upd H a (.dK (putK kvs k v))) ∨
  ∃ kvs k b, H a = some (.dT kvs) ∧ y = .ref b ∧ H b = some (.tup (k.map kV)) ∧ kvs.length < sizeLine ∧ H' = upd H a (.dT (putK kvs k v))
section
variable {X : Cx} {pins : List (Addr × Obj)} {σ : St} {H : Hp} {s : Shared} {a : Addr} {y v : V} {u r : Value} {o : Option V} {A : Around} {E : Value → Shared → Prop}

end

section
variable {X : Cx} {pins : List (Addr × Obj)} {σ : St} {H : Hp} {s : Shared} {a : Addr} {kvs : List (Key × V)} {k : Key} {u : Value} {A : Around} {E : Value → Shared → Prop}
end


/-! ### readings and rules -/
/-- the element of a subscription, not a slice -/
def NoSl (i : Expr) : Prop := ∀ ov iv, subscripted i false ov iv = operate [ov, iv] (getItem ov iv)
/-- d[y] -/
def tDGet (td ty : TE) : TE := fun σ H Q => td σ H fun x H1 => ty σ H1 fun y H2 => ∃ a v, x = .ref a ∧ DGet H2 a y (some v) ∧ Q v H2
/-- y in d, y not in d -/
def tDIn (ty td : TE) : TE := fun σ H Q => ty σ H fun y H1 => td σ H1 fun x H2 => ∃ a o, x = .ref a ∧ DGet H2 a y o ∧ Q (.bl o.isSome) H2
def tDNotIn (ty td : TE) : TE := fun σ H Q => ty σ H fun y H1 => td σ H1 fun x H2 => ∃ a o, x = .ref a ∧ DGet H2 a y o ∧ Q (.bl (!o.isSome)) H2
/-- d[y] = v -/
def sDPut (td ty tv : TE) : TS := fun D σ H => tv σ H fun v H1 => td σ H1 fun x H2 => ty σ H2 fun y H3 => ∃ a H4, x = .ref a ∧ DPut H3 a y v H4 ∧ D.nx σ H4
/-- d[y] op= v -/
def sDAug (td ty tv : TE) (rd : V → V → Hp → VK → Prop) : TS := fun D σ H => td σ H fun x H1 => ty σ H1 fun y H2 => ∃ a v, x = .ref a ∧ DGet H2 a y (some v) ∧
  tv σ H2 fun y2 H3 => rd v y2 H3 fun z H4 => ∃ H5, DPut H4 a y z H5 ∧ D.nx σ H5
/-- del d[y] -/
def sDDel (td ty : TE) : TS := fun D σ H => td σ H fun x H1 => ty σ H1 fun y H2 => ∃ a kvs k, x = .ref a ∧ H2 a = some (.dK kvs) ∧ y = kV k ∧ (valV kvs k).isSome = true ∧ D.nx σ (upd H2 a (.dK (dropK kvs k)))

section
variable {X : Cx} {o i e value : Expr} {pos pos' tpos : Pos} {td ty tv : TE}
end


/-! ### displays -/
/-- {}, to be a dict of the kind that is wanted -/
def tDNewK : TE := fun _ H Q => ∀ p, H p = none → Q (.ref p) (upd H p (.dK []))
def tDNewT : TE := fun _ H Q => ∀ p, H p = none → Q (.ref p) (upd H p (.dT []))
section
variable {X : Cx} {pos : Pos}
end

/-- the pairs of a display, from the left -/
def tPairs : List (TE × TE) → St → Hp → (List (V × V) → Hp → Prop) → Prop
  | [], _, H, Q => Q [] H
  | (tk, tv) :: r, σ, H, Q => tk σ H fun x H1 => tv σ H1 fun y H2 => tPairs r σ H2 fun ps H3 => Q ((x, y) :: ps) H3
abbrev VV : List (V × V) → List (Value × Value) → Prop := Paired fun p q => RelV p.1 q.1 ∧ RelV p.2 q.2
def PDs (X : Cx) (pos : Pos) (keys : List (Option Expr)) (values : List Expr) (trs : List (TE × TE)) : Prop :=
  ∀ (pins : List (Addr × Obj)) (s : Shared) (σ : St) (H : Hp) (Q : List (V × V) → Hp → Prop), Inv X pins σ H s → tPairs trs σ H Q →
    wpAny (model X.prog X.w) X.A (evalPairs (pairTrees keys values X.env pos)) (fun vs s' => ∃ ps H', Inv X pins σ H' s' ∧ VV ps vs ∧ Q ps H') X.xe s
def mergeK (kvs more : List (Key × V)) : List (Key × V) := more.foldl (fun acc kv => putK acc kv.1 kv.2) kvs
/-- {k: v, ..} with keys ints and texts; the new dict stands empty while the pairs are made -/
def tDisp (trs : List (TE × TE)) : TE := fun σ H Q => ∀ p, H p = none → tPairs trs σ (upd H p (.dK [])) fun ps H2 => H2 p = some (.dK []) ∧ ∃ kvs : List (Key × V), ps = kvs.map (fun kv => (kV kv.1, kv.2)) ∧ kvs.length ≤ 15 ∧ Q (.ref p) (upd H2 p (.dK (mergeK [] kvs)))
/-! ### methods -/
/-- a method call o.m(e) of a built-in, with one argument: what must be seen of the text -/
structure M1 (X : Cx) (o : Expr) (m : Str) (apos : Pos) (e : Expr) (cpos : Pos) : Prop where
  base : attributeBase o m X.env (eval o X.env) = eval o X.env
  few : ((backTo cpos (starEach [e] X.env)).all (fun x => !x.1) && (backToKw cpos (keywordEach [] X.env)).all (fun x => x.1.isSome)
    && decide (([e] : List Expr).length + ([] : List Keyword).length + (if ([] : List Keyword).isEmpty then 0 else 1) < 30)) = true
  line : (apos.endLine == cpos.line) = true
  trees : backTo cpos (starEach [e] X.env) = [(false, eval e X.env)]
structure M2 (X : Cx) (o : Expr) (m : Str) (apos : Pos) (e f : Expr) (cpos : Pos) : Prop where
  base : attributeBase o m X.env (eval o X.env) = eval o X.env
  few : ((backTo cpos (starEach [e, f] X.env)).all (fun x => !x.1) && (backToKw cpos (keywordEach [] X.env)).all (fun x => x.1.isSome)
    && decide (([e, f] : List Expr).length + ([] : List Keyword).length + (if ([] : List Keyword).isEmpty then 0 else 1) < 30)) = true
  line : (apos.endLine == cpos.line) = true
  trees : backTo cpos (starEach [e, f] X.env) = [(false, eval e X.env), (false, eval f X.env)]

/-- a is a dict, whatever its keys -/
def IsD (H : Hp) (a : Addr) : Prop := (∃ kvs, Rd H a (.dK kvs)) ∨ ∃ kvs, Rd H a (.dT kvs)
section
variable {X : Cx} {pins : List (Addr × Obj)} {σ : St} {H : Hp} {s : Shared} {a : Addr} {y d : V} {u r : Value} {o : Option V} {A : Around} {E : Value → Shared → Prop}
end

def tDGet1 (td ty : TE) : TE := fun σ H Q => td σ H fun x H1 => ∃ a, x = .ref a ∧ IsD H1 a ∧ ty σ H1 fun y H2 => ∃ o, DGet H2 a y o ∧ Q (o.getD .non) H2
def tDGet2 (td ty tx : TE) : TE := fun σ H Q => td σ H fun x H1 => ∃ a, x = .ref a ∧ IsD H1 a ∧ ty σ H1 fun y H2 => tx σ H2 fun z H3 => ∃ o, DGet H3 a y o ∧ Q (o.getD z) H3
/-- d.pop(k): there; d.pop(k, x): there or not -/
def tDPop1 (td ty : TE) : TE := fun σ H Q => td σ H fun x H1 => ∃ a, x = .ref a ∧ IsD H1 a ∧ ty σ H1 fun y H2 => ∃ kvs k v, H2 a = some (.dK kvs) ∧ y = kV k ∧ valV kvs k = some v ∧ Q v (upd H2 a (.dK (dropK kvs k)))
def tDPop2 (td ty tx : TE) : TE := fun σ H Q => td σ H fun x H1 => ∃ a, x = .ref a ∧ IsD H1 a ∧ ty σ H1 fun y H2 => tx σ H2 fun z H3 => ∃ kvs k, H3 a = some (.dK kvs) ∧ y = kV k ∧
  (∀ v, valV kvs k = some v → Q v (upd H3 a (.dK (dropK kvs k)))) ∧ (valV kvs k = none → Q z H3)
section
variable {X : Cx} {o e f : Expr} {apos cpos : Pos} {td ty tx : TE}
end

/-! ### dict(d): a copy -/
section
variable {X : Cx} {pins : List (Addr × Obj)} {σ : St} {H : Hp} {s : Shared} {a : Addr} {kvs : List (Key × V)} {A : Around} {E : Value → Shared → Prop}
end


section
variable {X : Cx} {pins : List (Addr × Obj)} {σ : St} {H : Hp} {s : Shared} {a : Addr} {y : V} {u : Value} {A : Around} {E : Value → Shared → Prop}
end
end L2

namespace L2
open PySem PySem.Spec PyProof.Rows
section
variable {X : Cx}
end
section
variable {κ : Type} [DecidableEq κ]
end
end L2

set_option maxHeartbeats 4000000
namespace L2
open PySem PySem.Spec PyProof.Rows
/-! ### list(d), dict(d) of a dict in the heap; a def with values left out that may raise -/
section
variable {X : Cx}
end
section
variable {P : Program} {w : World} {K : PySem.W.Frag} {mg : Str → Option Value} {base : Heap}
theorem FunD.okX {x qual : Str} {st : Stmt} {f : Addr} {fd : FuncData} {dV : Value} {N ps : List Str} {k : Nat} {sp : Sp} (F : FunD K x qual st f fd dV) (S : FnScope N ps (defScope st)) (len : ∀ vs H Q E, sp vs H Q E → vs.length = ps.length)
    (hbody : ∀ (cdv : Value) (A : Around) (outer : List Env) (s : Shared) (H : Hp) (vs : List V) (Q : VK) (E : XK), Room k (A.deeper (envOfC qual (defScope st) s.heap.objs.size f cdv)) → sp vs H Q E →
      ∃ t, PSs ((cxOf (CX1 P w) P w K mg base N qual (defScope st) f cdv A outer s H E).wish (WD (cxOf (CX1 P w) P w K mg base N qual (defScope st) f cdv A outer s H E) fun _ cls H' => E cls none H')) (defBody st) t ∧ t { nx := fun _ H' => Q .non H', rt := Q } (start N vs) H) : FnOk P w K mg base (CX1 P w) (k + 1) f fd ps sp := by
  obtain ⟨oc, od, kV, doc, pm, an, cdv, ct, osl, rfl, lk, hcd⟩ := F.ex
  refine fn_of lk hcd S len fun A outer s H vs Q E hr hsp => ?_
  obtain ⟨t, h, q⟩ := hbody cdv A outer s H vs Q E hr hsp
  exact ⟨t, h.wishes fun _ _ z => leaveX z, q⟩
end
end L2

set_option maxHeartbeats 4000000
namespace L2
open PySem PySem.Spec PyProof.Rows
/-! ### dict(xs), xs a list of pairs -/
section
variable {prog : Program} {w : World} {A : Around} {E : Value → Shared → Prop} {s : Shared}
end
/-- dict(xs) of a list of pairs with texts and ints ahead -/
def pairK (kv : Key × V) : List V := [kV kv.1, kv.2]
section
variable {X : Cx}
end
end L2

set_option maxHeartbeats 4000000
namespace L2
open PySem PySem.Spec PyProof.Rows
section
variable {X : Cx}
/-! ### // by a larger positive divisor -/
def CDivL (i j : Int) : Prop := 0 < j ∧ j < 18446744073709551616
/-! ### written displays with dicts -/
structure PDw (X : Cx) (pos : Pos) (keys : List (Option Expr)) (values : List Expr) (trs : List (TE × TE)) : Prop where
  out : PDs X pos keys values trs
/-- an item of another display, within an if -/
def setSub (s : Stmt) (e : Expr) : Stmt := match s with
  | .If t [.Assign ts (.Subscript _ i sp) ap] o p => .If t [.Assign ts (.Subscript e i sp) ap] o p
  | s => s
/-- an assignment of another value -/
def setVal (s : Stmt) (e : Expr) : Stmt := match s with
  | .Assign ts _ p => .Assign ts e p
  | s => s
/-- a statement that lets nothing out -/
theorem ps_nox {st : Stmt} {t : TS} (h : PS X.nox st t) : PS X st t := fun pins s σ H D I hw => wpAny_mono (h pins s σ H D (I.wish _) hw) (fun _ _ q => q.unwish) fun _ _ z => z.elim
/-! ### a, b, c = x, y, z with plain local names -/
def tPar3 (i j k : Nat) (ta : TA) : TS := fun D σ H => ta σ H fun vs H1 => ∃ u v w, vs = [u, v, w] ∧ D.nx (((σ.set i (some u)).set j (some v)).set k (some w)) H1
/-! ### try: .. except C1: .. except C2: .. -/
def hPick (K : PySem.W.Frag) (cls : Value) (D : Ends) (σ : St) (H : Hp) : List (Addr × TS) → Prop
  | [] => False
  | c :: r => (PySem.W.exmOne K cls (.ref c.1) = some true ∧ c.2 D σ H) ∨ (PySem.W.exmOne K cls (.ref c.1) = some false ∧ hPick K cls D σ H r)
def PH (X : Cx) (h : ExceptHandler) (c : Addr × TS) : Prop := ∃ x np b₀ suite hpos, h = .ExceptHandler (some (.Name x np)) none (b₀ :: suite) hpos ∧ Gl X x ∧ X.mg x = some (.ref c.1) ∧ (x == ("__debug__" : Str)) = false ∧ ∀ pn a, PSs ((X.pnd pn).hand a) (b₀ :: suite) c.2
inductive PHs (X : Cx) : List ExceptHandler → List (Addr × TS) → Prop
  | nil : PHs X [] []
  | cons {h : ExceptHandler} {c : Addr × TS} {hs : List ExceptHandler} {cs : List (Addr × TS)} : PH X h c → PHs X hs cs → PHs X (h :: hs) (c :: cs)
theorem phs_nil : PHs X [] [] := .nil
theorem phs_cons {CT : Addr} {x : Str} {b₀ : Stmt} {suite : List Stmt} {np hpos : Pos} {ts : TS} {hs : List ExceptHandler} {cs : List (Addr × TS)} (h : ∀ pn a, PSs ((X.pnd pn).hand a) (b₀ :: suite) ts) (hg : Gl X x) (hm : X.mg x = some (.ref CT)) (r : PHs X hs cs) (hd : (x == ("__debug__" : Str)) = false := by decide) :
    PHs X (.ExceptHandler (some (.Name x np)) none (b₀ :: suite) hpos :: hs) ((CT, ts) :: cs) := .cons ⟨x, np, b₀, suite, hpos, rfl, hg, hm, hd, h⟩ r
theorem handles {pins : List (Addr × Obj)} {σ : St} {H : Hp} {G B : Heap} {s1 : Shared} {a : Addr} {cls a0 : Value} {l : List Env} {D : Ends} (I1 : Inv X pins σ H { s1 with heap := G }) (cov : ∀ b o, G.get? b = some o → b ∉ frs X.stack → B.get? b = some o) (hok : X.Ok) :
    ∀ {hs : List ExceptHandler} {cs : List (Addr × TS)}, PHs X hs cs → ∀ h5, Heap.FlyingW B l a cls a0 h5 → G.UpToSlots h5 → hPick X.K cls D σ H cs → wpAny (model X.prog X.w) X.A (handleBy (.ref a) X.env hs) (fun f s' => SP X pins D f s') X.xe { s1 with heap := h5 } := by
  intro hs cs hh
  induction hh with
  | nil => intro h5 _ _ p; exact p.elim
  | @cons h c hs cs h0 _ ih =>
    intro h5 fl5 U5 p
    obtain ⟨x, np, b₀, suite, hpos, rfl, hg, hm, hd, hsu⟩ := h0
    have I5 : Inv X pins σ H { s1 with heap := h5 } := I1.flown cov fl5.1 U5
    have I5h := I5.hand a
    refine wpAny_handleBy_cons (codeAny_handlers_test (ld_glob I5h hg hm ?_ hd)) (by intro q; cases q)
    obtain ⟨ob, hob, hobc⟩ := fl5.there
    rcases p with ⟨hx, q⟩ | ⟨hx, q⟩
    · refine (PySem.W.exm_one (M := model X.prog X.w) I5.kIn (hobc ▸ (PySem.W.Looks.ld hob).andThen .now) hx).here ?_
      refine codeAny_handlers_suite ?_
      refine lands_againW fl5 fun h6 fl6 up6 => ?_
      have U6 := U5.trans up6
      have I6 : Inv X pins σ H { s1 with heap := h6 } := I1.flown cov fl6.1 U6
      refine wpAny_mono ((hsu (X.pn ++ pins) a) [] _ _ _ D (I6.pnd.hand a) q) (fun f s9 z => ?_) fun _ _ z => z.elim
      cases f with
      | next => obtain ⟨σ9, H9, J, w⟩ := z; exact ⟨_, H9, (J.unhand (hok.pnd _)).unpnd hok, w⟩
      | brk => obtain ⟨σ9, H9, J, w⟩ := z; exact ⟨_, H9, (J.unhand (hok.pnd _)).unpnd hok, w⟩
      | cont => obtain ⟨σ9, H9, J, w⟩ := z; exact ⟨_, H9, (J.unhand (hok.pnd _)).unpnd hok, w⟩
      | ret u => obtain ⟨v, σ9, H9, J, r, w⟩ := z; exact ⟨v, _, H9, (J.unhand (hok.pnd _)).unpnd hok, r, w⟩
    · refine (PySem.W.exm_one (M := model X.prog X.w) I5.kIn (hobc ▸ (PySem.W.Looks.ld hob).andThen .now) hx).here ?_
      exact ih h5 fl5 U5 q
def tTryN (K : PySem.W.Frag) (cs : List (Addr × TS)) (tb : XSt → TS) : TS := fun D σ H => tb (fun σ' cls H' => hPick K cls D σ' H' cs) D σ H
theorem ps_tryN {body : List Stmt} {h₀ : ExceptHandler} {hs : List ExceptHandler} {cs : List (Addr × TS)} {pos : Pos} {tb : XSt → TS}
    (hb : ∀ pn XS, PSs ((X.pnd pn).wish (WX (X.pnd pn) XS)) body (tb XS)) (hh : PHs X (h₀ :: hs) cs) (hst : X.stack = X.env :: X.outer) (hfr : X.env.frame = some X.env.locals) :
    PS X (.Try body (h₀ :: hs) [] [] pos) (tTryN X.K cs tb) := by
  intro pins s σ H D I h
  refine wpAny_Try_except (wpAny_mono (hb (X.pn ++ pins) _ [] s σ H D (I.pnd.wish _) h) (fun f s1 q => ?_) fun ev s1 z => ?_)
  · have q' : SP X pins D f s1 := q.unwish.unpnd I.ok
    cases f with
    | next => exact wpAny_execs_nil q'
    | brk => exact q'
    | cont => exact q'
    | ret u => exact q'
  · obtain ⟨pins', σ', H', G, a, cls, rfl, I', ⟨B, a0, cov, fl, up, hn⟩, q⟩ := z
    have I1 : Inv X pins σ' H' { s1 with heap := G } := I'.unpnd I.ok
    have hF : X.A.frames = some (X.env :: X.outer) := by rw [← hst]; exact I.ok.frames
    have fl : Heap.FlyingW B (X.env :: X.outer) a cls a0 s1.heap := by rw [← hst]; exact fl
    refine wpAny_looks_onW hF hfr fl fun h4 held4 up4 => ?_
    refine wpAny_landsW held4 fun h5 fl5 up5 => ?_
    exact handles I1 cov I.ok hh h5 fl5 ((up.trans up4).trans up5) q
end
end L2

set_option maxHeartbeats 4000000
namespace L2
open PySem PySem.Spec PyProof.Rows
/-! ### trees that call nothing and leave every thing's dict as it is -/
inductive Tame {α : Type} : Sem α → Prop
  | pure (a : α) : Tame (.pure a)
  | raise (e : Value) : Tame (.raise e)
  | unsup (w : String) : Tame (.unsupported w)
  | rule {t : String} {k : Unit → Sem α} (h : Tame (k ())) : Tame (.rule t k)
  | at' {p : Pos} {k : Unit → Sem α} (h : Tame (k ())) : Tame (.at p k)
  | load {a : Addr} {q : Option Value} {k : Obj → Sem α} (h : ∀ o, Tame (k o)) : Tame (.load a q k)
  | update {a : Addr} {q : Option Value} {f : Obj → Obj} {k : Unit → Sem α} (hf : ∀ o, (f o).dict = o.dict ∧ (o.isFreed = false → (f o).isFreed = false)) (h : Tame (k ())) : Tame (.update a q f k)
  | alloc {o : Obj} {k : Addr → Sem α} (h : ∀ a, Tame (k a)) : Tame (.alloc o k)
  | ask {k : Setting → Sem α} (h : ∀ a, Tame (k a)) : Tame (.ask k)
  | register {a : Addr} {k : Unit → Sem α} : Tame (.register a k)
  | stack {k : List (Code × Pos) → Sem α} (h : ∀ a, Tame (k a)) : Tame (.stack k)
/-- what is known of a thing's dict -/
def DictIs (D : Addr) (e : Addr) (h : Heap) : Prop := ∃ o, h.get? e = some o ∧ o.dict = some D
theorem Tame.keeps {α : Type} {M : Model} {Γ : PySem.Ctx} {D e : Addr} {m : Sem α} (t : Tame m) : ∀ {Q : α → Pos → Shared → Prop} {E : Value → Pos → Shared → Prop} {p : Pos} {s : Shared}, Sem.wp M Γ m Q E p s → DictIs D e s.heap → Sem.wp M Γ m (fun a p s' => Q a p s' ∧ DictIs D e s'.heap) (fun x p s' => E x p s' ∧ DictIs D e s'.heap) p s := by
  induction t with
  | pure a => intro Q E p s h d; rw [Sem.wp] at h ⊢; exact ⟨h, d⟩
  | raise x => intro Q E p s h d; rw [Sem.wp] at h ⊢; exact ⟨h, d⟩
  | unsup w => intro Q E p s h d; rw [Sem.wp] at h; exact h.elim
  | rule _ ih => intro Q E p s h d; rw [Sem.wp] at h ⊢; exact ih h d
  | at' _ ih => intro Q E p s h d; rw [Sem.wp] at h ⊢; exact ih h d
  | load _ ih =>
    intro Q E p s h d
    rw [Sem.wp] at h ⊢
    obtain ⟨o, ho, h⟩ := h
    exact ⟨o, ho, ih o h d⟩
  | @update a q f k hf _ ih =>
    intro Q E p s h d
    rw [Sem.wp] at h ⊢
    obtain ⟨hs, h⟩ := h
    refine ⟨hs, ih h ?_⟩
    obtain ⟨o, ho, hd⟩ := d
    by_cases z : a = e
    · subst z
      refine ⟨f o, Heap.get?_update_self f ho ((hf o).2 (Heap.get?_some_iff.mp ho).2), ?_⟩
      rw [(hf o).1]; exact hd
    · exact ⟨o, (Heap.get?_update_other _ f z).trans ho, hd⟩
  | alloc _ ih =>
    intro Q E p s h d
    rw [Sem.wp] at h ⊢
    obtain ⟨o, ho, hd⟩ := d
    exact ih _ h ⟨o, Heap.get?_push_of_some _ ho, hd⟩
  | ask _ ih => intro Q E p s h d; rw [Sem.wp] at h ⊢; exact ih _ h d
  | register => intro Q E p s h d; rw [Sem.wp] at h; exact h.elim
  | stack _ ih => intro Q E p s h d; rw [Sem.wp] at h ⊢; exact ih _ h d
theorem Tame.any {α : Type} {M : Model} {A : Around} {D e : Addr} {m : Sem α} (t : Tame m) {Q : α → Shared → Prop} {E : Value → Shared → Prop} {s : Shared} (h : wpAny M A m Q E s) (d : DictIs D e s.heap) : wpAny M A m (fun a s' => Q a s' ∧ DictIs D e s'.heap) (fun x s' => E x s' ∧ DictIs D e s'.heap) s :=
  fun Γ p hΓ => t.keeps (h Γ p hΓ) d
theorem Tame.bnd {α β : Type} {m : Sem α} {f : α → Sem β} (t : Tame m) (hf : ∀ a, Tame (f a)) : Tame (m.bind f) := by
  induction t with
  | pure a => exact hf a
  | raise x => exact .raise x
  | unsup w => exact .unsup w
  | rule _ ih => exact .rule ih
  | at' _ ih => exact .at' ih
  | load _ ih => exact .load fun o => ih o
  | update h _ ih => exact .update h ih
  | alloc _ ih => exact .alloc fun a => ih a
  | ask _ ih => exact .ask fun a => ih a
  | register => exact .register
  | stack _ ih => exact .stack fun a => ih a
theorem Tame.bind' {α β : Type} {m : Sem α} {f : α → Sem β} (t : Tame m) (hf : ∀ a, Tame (f a)) : Tame (m >>= f) := t.bnd hf
theorem tame_load (a : Addr) : Tame (load a) := .load fun o => .pure o
theorem tame_update {a : Addr} {f : Obj → Obj} (hf : ∀ o, (f o).dict = o.dict ∧ (o.isFreed = false → (f o).isFreed = false)) : Tame (update a f) := .update hf (.pure ())
theorem tame_stack : Tame stack := .stack fun l => .pure l
theorem tame_fieldsOf (v : Value) : Tame (fieldsOf v) := by
  unfold fieldsOf
  split
  · refine (tame_load _).bind' fun o => ?_
    split
    · exact .pure _
    · exact .unsup _
  · exact .unsup _
theorem tame_field (v : Value) (i : Nat) : Tame (field v i) := by
  unfold field
  refine (tame_fieldsOf v).bind' fun vs => ?_
  split
  · exact .pure _
  · exact .unsup _
theorem tame_setField (v : Value) (i : Nat) (x : Value) : Tame (setField v i x) := by
  unfold setField
  split
  · unfold updateField
    refine (tame_load _).bind' fun o => ?_
    split
    · split
      · refine tame_update fun o => ⟨?_, fun h => ?_⟩
        · obtain ⟨c, d, dt, sl⟩ := o
          cases dt <;> rfl
        · obtain ⟨c, d, dt, sl⟩ := o
          cases dt <;> first | rfl | exact h
      · exact .unsup _
    · exact .unsup _
  · exact .unsup _
theorem tame_setFlight (e : Value) (f : Option Addr) : Tame (setFlight e f) := by
  unfold setFlight
  refine (tame_field e 1).bind' fun tb => ?_
  split
  · exact tame_setField _ _ _
  · exact .pure _
theorem tame_ite {α : Type} {c : Prop} [Decidable c] {a b : Sem α} (ha : Tame a) (hb : Tame b) : Tame (if c then a else b) := by
  by_cases h : c
  · rw [if_pos h]; exact ha
  · rw [if_neg h]; exact hb
theorem tame_keptBack (env : Env) (b : Bool) (l : List Env) : Tame (keptBack env b l) := by
  cases l with
  | nil =>
    refine tame_ite (.pure _) (Tame.bind' ?_ fun r => .pure _)
    unfold underTheClaimsCaller
    exact tame_stack.bind' fun l => .pure _
  | cons c r => exact .pure _
theorem tame_behindIsImport (env : Env) (l : List Env) : Tame (behindIsImport env l) := by
  unfold behindIsImport
  exact tame_ite (.pure _) (tame_ite (.pure _) ((tame_field _ _).bind' fun x => .pure _))
theorem tame_readyFrames : ∀ l, Tame (readyFrames l)
  | [] => .pure _
  | env :: outer => by
    unfold readyFrames
    split
    · refine (tame_load _).bind' fun o => ?_
      refine tame_ite (.pure _) ?_
      exact (tame_behindIsImport _ _).bind' fun i => (tame_keptBack _ _ _).bind' fun b => Tame.bind' (tame_update (f := fun o => { o with slots := _ }) fun o => ⟨rfl, fun h => by
        obtain ⟨c, d, dt, sl⟩ := o
        cases dt <;> first | rfl | exact h⟩) fun _ => tame_readyFrames outer
    · exact .unsup _
theorem tame_frameObject (l : List Env) : Tame (frameObject l) := by
  cases l with
  | nil => exact .pure _
  | cons e r => exact (tame_readyFrames _).bind' fun _ => .pure _
theorem tame_frameOf (env : Env) : Tame (PySem.frameOf env) := by
  unfold PySem.frameOf
  refine Tame.bind' ?_ fun l => (tame_frameObject _).bind' fun r => ?_
  · unfold frameEnvs
    exact tame_stack.bind' fun l => .pure _
  · split
    · exact .pure _
    · exact .unsup _
theorem tame_entryPlaceOf (f : Addr) (b : Bool) : Tame (entryPlaceOf f b) := by
  unfold entryPlaceOf
  refine tame_stack.bind' fun l => ?_
  split
  · exact .pure _
  · exact .pure _
theorem tame_newFields (T : String) (vs : List Value) : Tame (newFields T vs) := by
  have h : Tame (newObjAsIs (.type T) (.fields vs.toArray)) := by
    unfold newObjAsIs
    exact Tame.bind' (m := alloc _) (.alloc fun a => .pure a) fun a => .pure _
  unfold newFields newObj
  exact tame_ite (.unsup _) h
theorem tame_entry (e : Value) (env : Env) (hd : Value) (f : Addr) (b : Bool) : Tame (do setField e 1 (← EntryCells.newEntry hd (← PySem.frameOf env) .none (rawInt f) .none (← entryPlaceOf f b))) :=
  (tame_frameOf _).bind' fun a => (tame_entryPlaceOf _ _).bind' fun pl => Tame.bind' (tame_newFields _ _) fun x => tame_setField _ _ _
theorem tame_noteFrame (e : Value) (env : Env) : Tame (noteFrame e env) := by
  unfold noteFrame
  split
  · refine (tame_field _ _).bind' fun hd => ?_
    exact tame_ite ((tame_field _ _).bind' fun x => tame_ite (.pure _) ((tame_setField _ _ _).bind' fun _ => tame_entry _ _ _ _ _)) (tame_entry _ _ _ _ _)
  · exact .unsup _
theorem tame_leaving (env : Env) (e : Value) : Tame (leaving env e) := by
  unfold leaving
  exact (tame_noteFrame e env).bind' fun _ => tame_setFlight e none
end L2

set_option maxHeartbeats 4000000
namespace L2
open PySem PySem.Spec PyProof.Rows
/-! ### an own class of refusals with an __init__ of its own -/
/-- C, whose own names lie at N, under ValueError; f is its __init__ -/
structure ExI (K : PySem.W.Frag) (C f : Addr) : Prop where
  obj : ∃ bm N nm qn bs sn sub ab col dd k0 k1 k2 k3 k5, K.lookup C = some (excClassObj nm qn C N bs bm true sn sub ab col dd k0 k1 k2 k3 k5 "ValueError.__new__") ∧ PySem.W.nsOkIn K N = true ∧ PySem.W.nsIn K N "__init__" = some (some (.ref f)) ∧ PySem.W.tailIn K veMro bm = true
  fn : PySem.W.typeIn K (.ref f) = some (.type "function")
theorem nsHas {K : PySem.W.Frag} {h : Heap} {N : Addr} {mg : Str → Option Value} {n : Str} {v : Value} (X : K.In h) (G : h.Ns N mg) (e : PySem.W.nsIn K N n = some (some v)) : mg n = some v := by
  unfold PySem.W.nsIn at e
  cases q : K.lookup N with
  | none => rw [q] at e; cases e
  | some ob =>
    rw [q] at e
    obtain ⟨c, dd, dt, sl⟩ := ob
    cases dt with
    | dict es k =>
      dsimp only at e
      obtain ⟨o, es1, ep1, ho, hd, _, hf⟩ := G
      rw [X _ _ q] at ho
      cases ho
      cases hd
      cases he : es.toList.find? (·.key.isStr n) with
      | none =>
        rw [he] at e
        dsimp only at e
        split at e <;> cases e
      | some en =>
        rw [he] at e
        cases e
        rw [← hf]
        unfold nsFind findBy
        rw [← Array.find?_toList, he]
        rfl
    | _ => cases e
theorem ExI.at {K : PySem.W.Frag} {C f : Addr} {h : Heap} (q : ExI K C f) (X : K.In h) : ∃ bm N nm qn bs sn sub ab col dd k0 k1 k2 k3 k5 mN, h.get? C = some (excClassObj nm qn C N bs bm true sn sub ab col dd k0 k1 k2 k3 k5 "ValueError.__new__") ∧ h.Ns N mN ∧ mN "__init__" = some (.ref f) ∧ OwnTail h veMro bm := by
  obtain ⟨bm, N, nm, qn, bs, sn, sub, ab, col, dd, k0, k1, k2, k3, k5, e1, e2, e3, e4⟩ := q.obj
  have ns : h.Ns N (h.nsMap N) := .of_isNs (PySem.W.isNs_of_in X e2)
  exact ⟨bm, N, nm, qn, bs, sn, sub, ab, col, dd, k0, k1, k2, k3, k5, h.nsMap N, X _ _ e1, ns, nsHas X ns e3, PySem.W.tail_of_in X e4⟩
section
variable {prog : Program} {w : World} {A : Around} {E : Value → Shared → Prop} {h : Heap} {g : Array GenState} {d : Drawn} {t : Nat} {os : OsState}
  {nm q : Str} {C N : Addr} {bs bm : List Value} {hdct : Bool} {sn : List Str} {sub : List Value} {ab : Bool} {col : Option Bool} {dd : Option Addr} {k0 k1 k2 k3 k5 : Option Value} {mN : Str → Option Value}
abbrev fV := PySem.F.excBase_ValueError
/-- type.__call__ on such a class: the exception is made, then handed to its __init__ -/
theorem callI_entry {us : List Value} {fI : Addr} {oI : Obj} {Q : Fin → Shared → Prop} (T : OwnTail h veMro bm) (hC : h.get? C = some (excClassObj nm q C N bs bm hdct sn sub ab col dd k0 k1 k2 k3 k5 "ValueError.__new__")) (hn : h.Ns N mN) (hi : mN "__init__" = some (.ref fI)) (ho : h.get? fI = some oI) (hoc : oI.cls = .type "function") (hz : us.length ≤ sizeLine)
    (go : ∀ h' e, Heap.MadeExcOf h h' e (.ref C) us → wpAny (model prog w) A (call (.ref fI) (.ref e :: us)) (fun r s' => r = .none ∧ Q (.done (.ret (.ref e))) s') E ⟨h', g, d, t, os⟩) :
    wpAny (model prog w) A (Builtin.«type.__call__» ⟨.ref C :: us, []⟩) Q E ⟨h, g, d, t, os⟩ := by
  have nid := fV
  repeat (first | with_reducible refine wpAny_madeBy_exc hC ?_ | with_reducible refine wpAny_loadPart_at hC ?_ | wp_step)
  refine codeAny_call_builtin_code (Code.quiet_builtin _ nid.quiet) (wpAny_check_new_subT nid T hC (codeAny_exc_new_subT nid T hC ?_ hz))
  show wpAny _ _ _ _ _ _
  generalize hg1 : h.push { cls := .type "tuple", data := .seq us.toArray } = h1
  have sz1 : h1.objs.size = h.objs.size + 1 := by rw [← hg1]; exact Heap.size_push ..
  have up1 : ∀ b o, h.get? b = some o → h1.get? b = some o := fun b o e => by rw [← hg1]; exact Heap.get?_push_of_some _ e
  have ht1 : h1.get? h.objs.size = some { cls := .type "tuple", data := .seq us.toArray } := by rw [← hg1]; exact Heap.get?_push_size _ rfl
  generalize hg2 : h1.push { cls := .ref C, data := .fields #[.ref h.objs.size, .none, .none, .none, .bool false, .none] } = h2
  have up2 : ∀ b o, h1.get? b = some o → h2.get? b = some o := fun b o e => by rw [← hg2]; exact Heap.get?_push_of_some _ e
  have he2 : h2.get? (h.objs.size + 1) = some { cls := .ref C, data := .fields #[.ref h.objs.size, .none, .none, .none, .bool false, .none] } := by rw [← hg2, ← sz1]; exact Heap.get?_push_size _ rfl
  have up : ∀ b o, h.get? b = some o → h2.get? b = some o := fun b o e => up2 b o (up1 b o e)
  have hC2 := up _ _ hC
  have hin : (Value.ref C :: bm).contains (.ref C) = true := by simp
  unfold isInstance
  repeat (first | with_reducible refine wpAny_loadPart_at he2 ?_ | (with_reducible refine wpAny_isSubtype_exc hC2 ?_; rw [hin]) | wp_step)
  show wpAny _ _ (typeLookup (.ref C) _) _ _ _
  refine wpAny_typeLookup_tail hC2 (hn.keeps up) (T.keeps up) nid.mroIs nid.init.lookup ?_
  rw [hi]
  refine wpAny_holding (wpAny_bind ?_)
  unfold bindSpecial
  refine wpAny_bind (wpAny_typeOf (T := "function") ⟨_, up _ _ ho, hoc⟩ ?_)
  rw [if_pos (by decide)]
  refine wpAny_pure (wpAny_bind (wpAny_mono (go h2 (h.objs.size + 1) ⟨up, Heap.get?_none_of_le (Nat.le_succ _), h.objs.size, he2, Heap.get?_none_of_le (Nat.le_refl _), up2 _ _ ht1⟩) (fun r s' z => ?_) fun _ _ z => z))
  obtain ⟨rfl, z⟩ := z
  wp_walk
  exact z
theorem callI {us : List Value} {fI : Addr} {oI : Obj} {Q : Value → Shared → Prop} (T : OwnTail h veMro bm) (hC : h.get? C = some (excClassObj nm q C N bs bm hdct sn sub ab col dd k0 k1 k2 k3 k5 "ValueError.__new__")) (hn : h.Ns N mN) (hi : mN "__init__" = some (.ref fI)) (ho : h.get? fI = some oI) (hoc : oI.cls = .type "function") (hz : us.length ≤ sizeLine)
    (go : ∀ h' e, Heap.MadeExcOf h h' e (.ref C) us → wpAny (model prog w) (A.under (.builtin "type.__call__" ⟨.ref C :: us, []⟩)) (call (.ref fI) (.ref e :: us)) (fun r s' => r = .none ∧ Q (.ref e) s') E ⟨h', g, d, t, os⟩) :
    wpAny (model prog w) A (call (.ref C) us) Q E ⟨h, g, d, t, os⟩ := by
  have b1 := tc_lookup
  have b2 := tc_bind (.ref C)
  have isT : (⟨h, g, d, t, os⟩ : Shared).TypeIs (.ref C) "type" := ⟨_, hC, rfl⟩
  refine wpAny_call (codeAny_of_tree ?_)
  show wpAny _ _ (callAny (.ref C) _) _ _ _
  repeat (any_goals (first | assumption | wp_step | with_reducible refine wpAny_loadPart_at hC ?_))
  exact ⟨rfl, codeAny_call_builtin_at (Code.quiet_builtin _ (by decide +kernel)) entry_typeCall (wpAny_check_type_call_sub hC (callI_entry T hC hn hi ho hoc hz go))⟩
end
/-! ### self.f = e on an exception that has no dict yet -/
/-- the classes of an own refusal, the last ones ValueError's -/
def endsVE : List Value → Bool
  | .ref _ :: r => endsVE r
  | l => l == veMro
theorem refuse_ve (x : Value) : ∀ {l : List Value}, endsVE l = true → refuseLoop x "__setattr__" l = pure ()
  | .ref c :: r, e => by rw [refuseLoop_ref]; exact refuse_ve x (l := r) e
  | [], e => by cases e
  | .type n :: r, e => by
    have : Value.type n :: r = veMro := beq_iff_eq.mp e
    rw [this]
    exact PySem.F.store_ValueError.passes x
  | .none :: r, e => by cases (show _ = veMro from beq_iff_eq.mp e)
  | .ellipsis :: r, e => by cases (show _ = veMro from beq_iff_eq.mp e)
  | .notImplemented :: r, e => by cases (show _ = veMro from beq_iff_eq.mp e)
  | .bool _ :: r, e => by cases (show _ = veMro from beq_iff_eq.mp e)
  | .int _ _ :: r, e => by cases (show _ = veMro from beq_iff_eq.mp e)
  | .float _ _ :: r, e => by cases (show _ = veMro from beq_iff_eq.mp e)
  | .str _ _ :: r, e => by cases (show _ = veMro from beq_iff_eq.mp e)
  | .bytes _ _ :: r, e => by cases (show _ = veMro from beq_iff_eq.mp e)
  | .builtin _ :: r, e => by cases (show _ = veMro from beq_iff_eq.mp e)
theorem has_obj : ∀ {l : List Value}, endsVE l = true → l.contains (.type "object") = true
  | .ref c :: r, e => by rw [List.contains_cons, has_obj (l := r) e, Bool.or_true]
  | [], e => by cases e
  | .type n :: r, e => by
    have : Value.type n :: r = veMro := beq_iff_eq.mp e
    rw [this]
    decide +kernel
  | .none :: r, e => by cases (show _ = veMro from beq_iff_eq.mp e)
  | .ellipsis :: r, e => by cases (show _ = veMro from beq_iff_eq.mp e)
  | .notImplemented :: r, e => by cases (show _ = veMro from beq_iff_eq.mp e)
  | .bool _ :: r, e => by cases (show _ = veMro from beq_iff_eq.mp e)
  | .int _ _ :: r, e => by cases (show _ = veMro from beq_iff_eq.mp e)
  | .float _ _ :: r, e => by cases (show _ = veMro from beq_iff_eq.mp e)
  | .str _ _ :: r, e => by cases (show _ = veMro from beq_iff_eq.mp e)
  | .bytes _ _ :: r, e => by cases (show _ = veMro from beq_iff_eq.mp e)
  | .builtin _ :: r, e => by cases (show _ = veMro from beq_iff_eq.mp e)
section
variable {prog : Program} {w : World} {A : Around} {E : Value → Shared → Prop} {s : Shared} {K : PySem.W.Frag} {x C : Addr} {ox : Obj}
theorem setX_code {name : Str} {v : Value} {tk : Tok} {cd : ClassData} {vs : Array Value} {R : Result → Shared → Prop} (X : K.In s.heap) (hx : s.heap.get? x = some ox) (hc : ox.cls = .ref C) (hdn : ox.dict = none) (hdt : ox.data = .fields vs)
    (hcd : PySem.W.clsIn K C = some cd) (hm : endsVE cd.mro = true) (hdd : cd.hasDict = true) (hat : PySem.W.findIn K (.ref C) name = some none)
    (hR : ∀ h' tk', (∀ b o, b ≠ x → s.heap.get? b = some o → h'.get? b = some o) → h'.get? x = some { ox with dict := some s.heap.objs.size } → h'.Ns1 s.heap.objs.size (fun y => if y = name then some v else none) → R (.ok (.ret .none)) { s with heap := h', toks := tk' }) :
    codeAny (model prog w) A (.call (.builtin "object.__setattr__") ⟨[.ref x, .str name tk, v], []⟩) R s := by
  have J : PySem.W.InstAt s.heap x ox C none := ⟨hx, hc, by unfold PySem.W.notCls; rw [hdt], by rw [hdn]; trivial⟩
  have SF := PySem.F.store_object
  have ne : cd.mro.isEmpty = false := by cases q : cd.mro with | nil => rw [q] at hm; cases hm | cons _ _ => rfl
  have isO : PySem.W.Looks (model prog w) s.heap (isInstance (.ref x) (.type "object")) true := J.type.andThen (PySem.W.looks_mroIn X (by unfold PySem.W.mroIn; rw [hcd, Option.bind_some, if_neg (by rw [ne]; decide), has_obj hm]))
  have lm : PySem.W.Looks (model prog w) s.heap (mroOf (.ref C)) cd.mro := (PySem.W.looks_clsIn X hcd).andThen .now
  have la : PySem.W.Looks (model prog w) s.heap (typeLookup (.ref C) name) none := PySem.W.looks_findIn X hat
  refine codeAny_call_builtin SF.slot.plain SF.entry (@PySem.W.check_slot (model prog w) _ _ s "object.__setattr__" "object" "__setattr__" (.ref x) [.str name tk, v] [] _ SF.kind SF.split isO (SF.args (.ref x) (.str name tk) v) ?_)
  rw [PySem.W.osa_eq, refuse_eq]
  refine wpAny_bind (wpAny_bind (J.type.here (wpAny_bind (lm.here ?_))))
  rw [refuse_ve (.ref x) hm]
  refine wpAny_pure (wpAny_bind (J.type.here (wpAny_bind (la.here (wpAny_bind (wpAny_pure ?_))))))
  show wpAny _ _ (Builtin.ObjectAttr.storeInOwnDict (.ref x) (.ref C) (.str name tk) name v false) _ _ _
  obtain ⟨oc, od, dt, sl⟩ := ox
  dsimp only at hc hdn hdt
  subst hc hdn hdt
  unfold Builtin.ObjectAttr.storeInOwnDict
  refine wpAny_bind (wpAny_pure ?_)
  rw [if_neg (show ¬ (Value.ref C == Value.type "module") = true from Bool.false_ne_true)]
  refine wpAny_bind ?_
  unfold Builtin.ObjectAttr.ownDictForStores instanceDict
  refine wpAny_bind (wpAny_loadPart hx ?_)
  have lc : PySem.W.Looks (model prog w) s.heap (classData C) cd := PySem.W.looks_clsIn X hcd
  refine wpAny_bind (lc.here ?_)
  rw [hdd]
  have hxs : x ≠ s.heap.objs.size := Nat.ne_of_lt (Heap.lt_size hx)
  have hx1 : (s.heap.push { cls := .type "dict", data := .dict #[] }).get? x = some { cls := .ref C, dict := none, data := .fields vs, slots := sl } := Heap.get?_push_of_some _ hx
  refine wpAny_bind (wpAny_alloc (wpAny_bind (wpAny_update hx1 (wpAny_pure ?_))))
  generalize hg : (s.heap.push { cls := .type "dict", data := .dict #[] }).update x (fun o => { o with dict := some s.heap.objs.size }) = h1
  have gx : h1.get? x = some { cls := .ref C, dict := some s.heap.objs.size, data := .fields vs, slots := sl } := by rw [← hg]; exact Heap.get?_update_self _ hx1 rfl
  have gd : h1.get? s.heap.objs.size = some { cls := .type "dict", data := .dict #[] } := by rw [← hg, Heap.get?_update_other _ _ hxs]; exact Heap.get?_push_size _ rfl
  have gk : ∀ b o, b ≠ x → s.heap.get? b = some o → h1.get? b = some o := fun b o hb e => by rw [← hg, Heap.get?_update_other _ _ (Ne.symm hb)]; exact Heap.get?_push_of_some _ e
  have nd : h1.Ns s.heap.objs.size (fun _ => none) := ⟨_, #[], _, gd, rfl, fun e he => absurd he (by simp), fun _ => rfl⟩
  show wpAny _ _ (Builtin.ObjectAttr.storeInDict s.heap.objs.size (.str name tk) name v) _ _ _
  unfold Builtin.ObjectAttr.storeInDict Builtin.ObjectAttr.newKeyGuard
  refine wpAny_bind (wpAny_pure (wpAny_bind (wpAny_nsSet1 (Heap.Ns1.of_empty nd) fun h2 n2 s2 => ?_)))
  obtain ⟨oD, eD, pD, gD, dD, cD⟩ := n2.count (Within.cons name v Within.nil)
  refine wpAny_bind (wpAny_lookBehind gD (by rw [dD]; exact pastItsLine_dict (Nat.le_trans cD (by show 1 ≤ _; rw [sizeLine_eq]; omega))) (wpAny_pure ?_))
  exact hR h2 _ (fun b o hb e => (s2.2 b (Nat.ne_of_lt (Heap.lt_size e))).trans (gk b o hb e)) ((s2.2 x hxs).trans gx) n2
theorem setX {name : Str} {v : Value} {cd : ClassData} {vs : Array Value} {Q : Unit → Shared → Prop} (X : K.In s.heap) (hx : s.heap.get? x = some ox) (hc : ox.cls = .ref C) (hdn : ox.dict = none) (hdt : ox.data = .fields vs)
    (hcd : PySem.W.clsIn K C = some cd) (hm : endsVE cd.mro = true) (hdd : cd.hasDict = true) (hsa : PySem.W.findIn K (.ref C) "__setattr__" = some (some (.builtin "object.__setattr__"))) (hat : PySem.W.findIn K (.ref C) name = some none)
    (hQ : ∀ h' tk, (∀ b o, b ≠ x → s.heap.get? b = some o → h'.get? b = some o) → h'.get? x = some { ox with dict := some s.heap.objs.size } → h'.Ns1 s.heap.objs.size (fun y => if y = name then some v else none) → Q () { s with heap := h', toks := tk }) :
    wpAny (model prog w) A (setAttr (.ref x) name v) Q E s := by
  refine PySem.W.set_plain (od := none) X ⟨hx, hc, by unfold PySem.W.notCls; rw [hdt], by rw [hdn]; trivial⟩ hsa ?_
  exact setX_code (s := { s with toks := s.toks + 1 }) X hx hc hdn hdt hcd hm hdd hat fun h' tk k1 k2 k3 => hQ h' tk k1 k2 k3
end
/-! ### Base.__init__(self, ..) of an exception -/
section
variable {prog : Program} {w : World} {A : Around} {E : Value → Shared → Prop} {h : Heap} {g : Array GenState} {d : Drawn} {t : Nat} {os : OsState}
  {nm q : Str} {C N : Addr} {bs bm : List Value} {hdct : Bool} {sn : List Str} {sub : List Value} {ab : Bool} {col : Option Bool} {dd : Option Addr} {k0 k1 k2 k3 k5 : Option Value} {mN : Str → Option Value}
theorem initX {e : Addr} {oe : Obj} {vs : Array Value} {us : List Value} {Q : Value → Shared → Prop} (T : OwnTail h veMro bm) (hC : h.get? C = some (excClassObj nm q C N bs bm hdct sn sub ab col dd k0 k1 k2 k3 k5 "ValueError.__new__")) (he : h.get? e = some oe) (hc : oe.cls = .ref C) (hd : oe.data = .fields vs) {a0 : Value} (h0 : vs[0]? = some a0) (hz : us.length ≤ sizeLine)
    (hQ : ∀ h', (∀ b o, b ≠ e → h.get? b = some o → h'.get? b = some o) → h'.get? e = some { oe with data := .fields (vs.setIfInBounds 0 (.ref h.objs.size)) } → Q .none ⟨h', g, d, t, os⟩) :
    wpAny (model prog w) A (call (.builtin "ValueError.__init__") (.ref e :: us)) Q E ⟨h, g, d, t, os⟩ := by
  refine wpAny_call (codeAny_call_builtin fV.init.plain fV.initEntry (wpAny_check_init_subT fV T hC he hc ?_))
  have he1 := Heap.get?_push_of_some { cls := .type "tuple", data := .seq us.toArray } he
  refine wpAny_bind (m := newTuple us) (wpAny_newTuple ?_ hz)
  have hs : 0 < vs.size := (Array.getElem?_eq_some_iff.mp h0).1
  refine wpAny_bind (m := field (.ref e) 0 >>= _) (wpAny_bind (wpAny_field (s := ⟨h.push { cls := .type "tuple", data := .seq us.toArray }, g, d, t, os⟩) he1 hd h0 ?_))
  refine wpAny_bind (wpAny_setField (s := ⟨h.push { cls := .type "tuple", data := .seq us.toArray }, g, d, t, os⟩) he1 hd hs ?_)
  have fin : wpAny (model prog w) A.in1 (match a0 with | .ref _ => letGo [a0] [] | _ => pure ()) (fun _ s' => wpAny (model prog w) A.in1 (ret .none) (fun fin s' => match fin with
      | .done f => (match (Except.ok f : Result) with | .ok (.ret v) => Q v s' | .ok _ => False | .error e => E e s')
      | .again c' => c'.quiet = true ∧ codeAny (model prog w) A c' (fun r s' => match r with | .ok (.ret v) => Q v s' | .ok _ => False | .error e => E e s') s') (fun x s' => E x s') s') (fun x s' => E x s')
      ⟨(h.push { cls := .type "tuple", data := .seq us.toArray }).update e (Obj.mapFields (·.setIfInBounds 0 (.ref h.objs.size))), g, d, t, os⟩ := by
    have z : Q .none ⟨(h.push { cls := .type "tuple", data := .seq us.toArray }).update e (Obj.mapFields (·.setIfInBounds 0 (.ref h.objs.size))), g, d, t, os⟩ := by
      obtain ⟨oc, od, dt, sl⟩ := oe
      dsimp only at hc hd
      subst hc hd
      exact hQ _ (fun b o hb z => (Heap.get?_update_other _ _ (Ne.symm hb)).trans (Heap.get?_push_of_some _ z)) (Heap.get?_update_self _ he1 rfl)
    cases a0 with
    | ref a => exact wpAny_letGo (wpAny_pure z)
    | _ => exact wpAny_pure (wpAny_pure z)
  exact fin
end
/-! ### e.f of an exception with a dict -/
section
variable {prog : Program} {w : World} {A : Around} {E : Value → Shared → Prop} {h : Heap} {g : Array GenState} {d : Drawn} {t : Nat} {os : OsState} {a D : Addr} {o : Obj} {vs : Array Value} {K : PySem.W.Frag}
  {nm q : Str} {C N : Addr} {bs bm : List Value} {sn : List Str} {sub : List Value} {ab : Bool} {col : Option Bool} {dd : Option Addr} {k0 k1 k2 k3 k5 : Option Value} {newId : String} {name : Str} {v : Value} {mA : Str → Option Value}
end
end L2

set_option maxHeartbeats 4000000
namespace L2
open PySem PySem.Spec PyProof.Rows
/-! ### an exception under way through its __init__ -/
/-- an exception of the class C that was not raised yet, its dict -/
def exN (a C : Addr) (od : Option Addr) : HO := .ext fun h => ∃ o vs a0, h.get? a = some o ∧ o.cls = .ref C ∧ o.data = .fields vs ∧ vs[0]? = some a0 ∧ vs[1]? = some .none ∧ o.dict = od
theorem exN_ok {P : Program} {w : World} {H : Hp} {h : Heap} {a C : Addr} {od : Option Addr} {o : Obj} {vs : Array Value} {a0 : Value} (e : h.get? a = some o) (hc : o.cls = .ref C) (hd : o.data = .fields vs) (h0 : vs[0]? = some a0) (h1 : vs[1]? = some .none) (hx : o.dict = od) : ObjOk P w H h a (exN a C od) :=
  ⟨⟨o, vs, a0, e, hc, hd, h0, h1, hx⟩, ⟨o, e⟩, fun h1 h2 ⟨o1, vs1, a1, e1, r⟩ k => ⟨o1, vs1, a1, k o1 e1, r⟩⟩
/-- what is asked of the class -/
structure ExS (K : PySem.W.Frag) (C f : Addr) : Prop where
  ini : ExI K C f
  cd : ∃ cd, PySem.W.clsIn K C = some cd ∧ endsVE cd.mro = true ∧ cd.hasDict = true
  sa : PySem.W.findIn K (.ref C) "__setattr__" = some (some (.builtin "object.__setattr__"))
  ga : PySem.W.findIn K (.ref C) "__getattribute__" = some (some (.builtin "BaseException.__getattribute__"))
  noga : PySem.W.findIn K (.ref C) "__getattr__" = some none
  cl : PySem.W.findIn K (.ref C) "__class__" = some (some (.builtin "object.__class__"))
  kp : PySem.W.keepIn K (.ref C) = true
/-- what is asked of its base, whose __init__ it calls -/
structure ExB (K : PySem.W.Frag) (B : Addr) : Prop where
  sp : PySem.W.specialIn K (.ref B) "__getattribute__" = some (some (.builtin "type.__getattribute__"))
  rd : PySem.W.readsIn K B (.type "type") = true
  fd : PySem.W.findCls K (.ref B) (.type "type") "__init__" = some (.val (.builtin "ValueError.__init__"))
section
variable {X : Cx} {B C f : Addr} {x fl : Str} {np apos pos pos' : Pos} {e o value : Expr} {es : List Expr} {t : TA} {ta tv : TE}
def tInitX (C : Addr) (t : TA) : TE := fun σ H Q => t σ H fun vs H1 => ∃ a us, vs = V.ref a :: us ∧ us.length ≤ sizeLine ∧ H1 a = some (exN a C none) ∧ Q .non H1
theorem pe_initX {pl : Sem Bool} (hg : Gl X x) (hm : X.mg x = some (.ref B)) (b : ExB X.K B) (q : ExI X.K C f) (ha : PA X (e :: es) t)
    (hst : starEach (e :: es) X.env = (false, eval e X.env) :: starEach es X.env := by rfl) (hpl : (backTo pos (starEach es X.env)).any (·.1) = false := by rfl) (hdb : (x == ("__debug__" : Str)) = false := by decide)
    (ht : eval (.Call (.Attribute (.Name x np) "__init__" apos) (e :: es) [] pos) X.env = (do
      let ov ← eval (.Name x np) X.env
      standAt apos.atName
      let (f, first) ← holding [ov] (getMethod ov "__init__" pl)
      callWith pos f first (backTo pos (starEach (e :: es) X.env)) (backToKw pos (keywordEach [] X.env))) := by rfl) :
    PE X (.Call (.Attribute (.Name x np) "__init__" apos) (e :: es) [] pos) (tInitX C t) := by
  intro pins s σ H Q I h
  refine PySem.W.methodCall_KW (pl := pl) (ld_glob I hg hm ?_ hdb) ht
  refine PySem.W.method_cls I.kIn b.sp (PySem.W.cls_value I.kIn b.rd b.fd (by decide +kernel) ?_)
  have I1 : Inv X pins σ H { s with toks := s.toks + 1 } := I.tok _
  have hA := ha pos pins { s with toks := s.toks + 1 } σ H _ I1 h
  rw [hst] at hA ⊢
  refine Calls.callWith_builtin (by show (false || (backTo pos (starEach es X.env)).any (·.1)) = false; rw [hpl] <;> rfl) (Calls.evalArgs_plain ?_)
  refine thn hA fun us s2 ⟨vs, H2, I2, r2, a, ws, e1, hz, e2, q2⟩ => ?_
  subst e1
  cases r2 with
  | @cons _ u _ us r1 r2 =>
    obtain rfl : u = Value.ref a := r1
    obtain ⟨⟨o, vs, a0, ho, hc, hd, h0, h1, hx⟩, _⟩ := I2.hok a _ e2
    obtain ⟨bm, N, nm, qn, bs, sn, sub, ab, col, dd, k0, k1, k2, k3, k5, mN, hC, hN, hi, T⟩ := q.at I2.kIn
    obtain ⟨hp, g, d, tk, os⟩ := s2
    refine initX T hC ho hc hd h0 (by rw [← r2.length]; exact hz) fun h' k1' k2' => ?_
    have I3 := I2.write (x := a) (e := a) (o := exN a C none) (t' := tk) (h' := h') (by rw [e2]; exact trivial) (.inl rfl) k1' ⟨_, k2'⟩ (exN_ok k2' hc rfl (by rw [Array.getElem?_setIfInBounds_self_of_lt (Array.getElem?_eq_some_iff.mp h0).1]) (by rw [Array.getElem?_setIfInBounds_ne (by decide)]; exact h1) hx)
    have e3 : upd H2 a (exN a C none) = H2 := by
      funext b
      by_cases hb : b = a
      · subst hb; rw [upd_same, e2]
      · rw [upd_ne hb]
    rw [e3] at I3
    exact ⟨.non, H2, I3, rfl, q2⟩
def sSetX (C : Addr) (fl : Str) (ta tv : TE) : TS := fun D σ H => tv σ H fun y H1 => ta σ H1 fun z H2 => ∃ a, z = .ref a ∧ H2 a = some (exN a C none) ∧ ∀ d, H2 d = none → d ≠ a → D.nx σ (upd (upd H2 d (.xd [(fl, y)])) a (exN a C (some d)))
theorem ps_setX (q : ExS X.K C f) (hat : PySem.W.findIn X.K (.ref C) fl = some none) (ha : PE X o ta) (hv : PE X value tv) (hs : swapsWith value (some (.Attribute o fl pos')) pos.line X.env = pure false) : PS X (.Assign [.Attribute o fl pos'] value pos) (sSetX C fl ta tv) := by
  intro pins s σ H D I h
  refine plainObj_wpAny_Assign_Attribute (thn (hv pins s σ H _ I h) fun u s1 ⟨y, H1, I1, ry, z1⟩ => thn (ha pins s1 σ H1 _ I1 z1) fun ov s2 ⟨w, H2, I2, rw', a, ex, ea, z2⟩ => ?_) hs
  subst ex
  obtain rfl : ov = Value.ref a := rw'
  obtain ⟨⟨ob, vs, a0, ho, hc, hd, h0, h1, hx⟩, _⟩ := I2.hok a _ ea
  obtain ⟨cd, hcd, hm, hdd⟩ := q.cd
  refine setX I2.kIn ho hc hx hd hcd hm hdd q.sa hat fun h' tk k1 k2 k3 => ?_
  have hn := I2.hok.fresh (Nat.le_refl s2.heap.objs.size)
  have hne : s2.heap.objs.size ≠ a := fun z => by rw [z, ea] at hn; cases hn
  have hfr := (Heap.get?_some_iff.mp ho).2
  have ma : (h'.update a fun _ => ob).get? a = some ob := Heap.get?_update_self _ k2 hfr
  have mo : ∀ b, b ≠ a → (h'.update a fun _ => ob).get? b = h'.get? b := fun b hb => Heap.get?_update_other _ _ (Ne.symm hb)
  have I3 : Inv X pins σ (upd H2 s2.heap.objs.size (.xd [(fl, y)])) { s2 with heap := h'.update a fun _ => ob, toks := tk } := by
    refine I2.laid (fun b v e => ?_) (Nat.le_refl _) ?_
    · by_cases hb : b = a
      · subst hb; rw [ho] at e; cases e; exact ma
      · rw [mo b hb]; exact k1 b v hb e
    · refine ⟨fun n => if n = fl then some u else none, ?_, fun n => ?_⟩
      · obtain ⟨oD, es, ep, e1, r⟩ := k3
        exact ⟨oD, es, ep, (mo _ hne).trans e1, r⟩
      · show RelO (List.lookup n [(fl, y)]) (if n = fl then some u else none)
        rw [List.lookup_cons]
        by_cases hb : n = fl
        · subst hb
          rw [if_pos rfl, beq_self_eq_true]
          exact ry
        · rw [if_neg hb, beq_eq_false_iff_ne.mpr hb]
          exact trivial
  have I4 := I3.write (x := a) (e := a) (o := exN a C (some s2.heap.objs.size)) (t' := tk) (h' := h') (by rw [upd_ne (Ne.symm hne), ea]; exact trivial) (.inl rfl) (fun b v hb e => by rw [← mo b hb]; exact e) ⟨_, k2⟩ (exN_ok k2 hc hd h0 h1 rfl)
  exact ⟨σ, _, I4, z2 _ hn hne⟩
end
/-! ### raise C(..), C with an __init__ of its own -/
theorem raiseX {M : Model} {A : Around} {E : Value → Shared → Prop} {env : Env} {s : Shared} {y : Sem Value} {Q : Flow → Shared → Prop} {C : Addr} (hh : A.handled = none)
    (h : wpAny M A y (fun v s1 => ∃ e oe bm N nm qn bs hdct sn sub ab col dd k0 k1 k2 k3 k5, v = .ref e ∧ s1.heap.get? C = some (excClassObj nm qn C N bs bm hdct sn sub ab col dd k0 k1 k2 k3 k5 "ValueError.__new__") ∧ bm.contains (.type "BaseException") = true ∧ s1.heap.get? e = some oe ∧ oe.cls = .ref C ∧ (∃ vs, oe.data = .fields vs ∧ vs[1]? = some .none) ∧ E (.ref e) s1) E s) :
    wpAny M A (raiseStmt env (some y) none) Q E s := by
  unfold raiseStmt
  refine wpAny_bind (wpAny_mono h (fun v s1 z => ?_) fun _ _ z => z)
  obtain ⟨e, oe, bm, N, nm, qn, bs, hdct, sn, sub, ab, col, dd, k0, k1, k2, k3, k5, rfl, hC, hb, he, hc, ⟨vs, hd, h1⟩, z⟩ := z
  obtain ⟨oc, od, dt, sl⟩ := oe
  dsimp only at hc hd
  subst hc hd
  have inB : (Value.ref C :: bm).contains (.type "BaseException") = true := by rw [List.contains_cons, hb, Bool.or_true]
  obtain ⟨hp, g, d, tk, os⟩ := s1
  have fl : wpAny M A (setFlight (.ref e) none) (fun _ s' => wpAny M A (raiseNew (.ref e)) Q E s') E ⟨hp, g, d, tk, os⟩ := by
    unfold setFlight
    refine wpAny_bind (wpAny_field (s := ⟨hp, g, d, tk, os⟩) he rfl h1 ?_)
    rw [if_neg (by decide)]
    exact wpAny_pure (wpAny_raiseNew_none hh z)
  repeat (first | with_reducible exact fl | with_reducible refine wpAny_loadPart_at he ?_ | with_reducible refine wpAny_loadPart_at hC ?_ | (with_reducible refine wpAny_isSubtype_exc hC ?_; rw [inB]) | wp_step)
/-- one that was made and is being raised; its dict lies at D -/
structure Raised (G h : Heap) (a : Addr) (cls : Value) (D : Addr) : Prop where
  keeps : ∀ b o, G.get? b = some o → h.get? b = some o
  new : G.get? a = none
  there : ∃ o vs a0, h.get? a = some o ∧ o.cls = cls ∧ o.data = .fields vs ∧ vs[0]? = some a0 ∧ vs[1]? = some .none ∧ o.dict = some D
abbrev XS2 := St → Value → Addr → Hp → Prop
def WR (X : Cx) (XS : XS2) : Value → Shared → Prop := fun ev s' => ∃ pins σ H' G a cls D, ev = .ref a ∧ Inv X pins σ H' { s' with heap := G } ∧ Raised G s'.heap a cls D ∧ XS σ cls D H'
/-- a place is not tracked any more -/
def without (H : Hp) (a : Addr) : Hp := fun b => if b = a then none else H b
theorem without_ne {H : Hp} {a b : Addr} (h : b ≠ a) : without H a b = H b := if_neg h
theorem without_self {H : Hp} {a : Addr} : without H a a = none := if_pos rfl
/-- a thing of one's own is struck out of what is known and of the heap that counts -/
theorem Inv.strike {X : Cx} {pins : List (Addr × Obj)} {σ : St} {H : Hp} {s : Shared} {a : Addr} {φ : Heap → Prop} (I : Inv X pins σ H s) (ea : H a = some (.ext φ)) (hs : X.s₀.heap.get? a = none) : Inv X pins σ (without H a) { s with heap := PySem.W.hideAll s.heap [a] } := by
  have get : ∀ {b o}, s.heap.get? b = some o → b ≠ a → (PySem.W.hideAll s.heap [a]).get? b = some o := fun e hn => PySem.W.hideAll_get _ e (by simpa using hn)
  have ne0 : ∀ {b o}, X.s₀.heap.get? b = some o → b ≠ a := fun e z => by rw [z, hs] at e; cases e
  have neN : ∀ {b}, H b = none → b ≠ a := fun e z => by rw [z, ea] at e; cases e
  have ns : ∀ {b m}, H b = none → s.heap.Ns b m → (PySem.W.hideAll s.heap [a]).Ns b m := fun {b m} hb ⟨o, es, ep, e, r⟩ => ⟨o, es, ep, get e (neN hb), r⟩
  have cellK : ∀ {c v}, H c = none → s.heap.IsCell c v → (PySem.W.hideAll s.heap [a]).IsCell c v := fun {c v} hc ⟨o, e, r⟩ => ⟨o, get e (neN hc), r⟩
  refine ⟨I.ok, I.os, I.bare, ⟨fun b o e n hb hx => get (I.base.keep b o e n hb hx) (ne0 e), fun b o e n hb hx => ?_, fun b o e n hx => ?_, fun b o e hx => ?_, fun b xs q => ?_, fun b ob u q => ?_, fun b ps q => ?_⟩, ?_, fun x c e => ?_, ?_, fun x c e => ?_, fun p hp => ?_, fun b u e => ?_, I.len⟩
  · obtain ⟨sl, z⟩ := I.base.slot b o e n hb hx
    exact ⟨sl, get z (ne0 e)⟩
  · rw [without_ne (ne0 e)]; exact I.base.free b o e n hx
  · obtain ⟨o', z⟩ := I.base.there b o e hx
    exact ⟨o', get z (ne0 e)⟩
  · have := I.base.tups b xs q
    rw [without_ne (fun z => by rw [z, ea] at this; cases this)]; exact this
  · have := I.base.frzs b ob u q
    rw [without_ne (fun z => by rw [z, ea] at this; cases this)]; exact this
  · obtain ⟨m, this⟩ := I.base.tbls b ps q
    exact ⟨m, by rw [without_ne (fun z => by rw [z, ea] at this; cases this)]; exact this⟩
  · obtain ⟨m, hn, hm⟩ := I.loc
    refine ⟨m, ns I.free hn, fun i y v e1 e2 e3 => ?_⟩
    obtain ⟨u, r, lk⟩ := hm i y v e1 e2 e3
    refine ⟨u, r, ?_⟩
    rcases lk with z | ⟨k, c, z1, z2⟩
    · exact .inl z
    · exact .inr ⟨k, c, z1, cellK (I.freeC _ _ z1) z2⟩
  · obtain ⟨v, z⟩ := I.cell x c e
    exact ⟨v, cellK (I.freeC x c e) z⟩
  · rw [without_ne (neN I.free)]; exact I.free
  · rw [without_ne (neN (I.freeC x c e))]; exact I.freeC x c e
  · obtain ⟨q1, q2, q3⟩ := I.pin p hp
    exact ⟨get q1 (neN q2), by rw [without_ne (neN q2)]; exact q2, q3⟩
  · by_cases hb : b = a
    · subst hb; rw [without_self] at e; cases e
    · rw [without_ne hb] at e
      refine (I.hok b u e).stay (fun c v hc q => get q ?_) (fun c q => ?_) fun c xs q => ?_
      · rcases hc with rfl | hc
        · exact hb
        · exact fun z => by rw [z, ea] at hc; cases hc
      · rw [without_ne (fun z => by rw [z, ea] at q; cases q)]; exact q
      · rw [without_ne (fun z => by rw [z, ea] at q; cases q)]; exact q
def tRaiseI (C : Addr) (sp : Sp) (XS : XS2) (t : TA) : TS := fun _ σ H => t σ H fun vs H1 => vs.length ≤ sizeLine ∧ ∀ a, H1 a = none → sp (.ref a :: vs) (upd H1 a (exN a C none)) (fun v H2 => v = .non ∧ ∃ D, H2 a = some (exN a C (some D)) ∧ XS σ (.ref C) D (without H2 a)) E0
theorem ps_raiseI {X : Cx} {XS : XS2} {C f : Addr} {x : Str} {np cpos pos : Pos} {e : Expr} {es : List Expr} {t : TA} {k : Nat} {fd : FuncData} {ps : List Str} {sp : Sp} (hx : ∀ ev s', WR X XS ev s' → X.xe ev s') (hc : X.calm = true) (hex : X.ex = []) (q : ExS X.K C f) (F : FnOk X.prog X.w X.K X.mg X.base CX0 k f fd ps sp) (hr : Room (k + 1) X.A) (hb : Binds X.K fd ps []) (hg : Gl X x) (hm : X.mg x = some (.ref C)) (ha : PA X (e :: es) t)
    (hdb : (x == ("__debug__" : Str)) = false := by decide) (he : starEach (e :: es) X.env = (false, eval e X.env) :: starEach es X.env := by rfl) (hpl : (backTo cpos (starEach es X.env)).any (·.1) = false := by rfl) :
    PS X (.Raise (some (.Call (.Name x np) (e :: es) [] cpos)) none pos) (tRaiseI C sp XS t) := by
  intro pins s σ H D I h
  rw [arm_exec_Raise]
  refine wpAny_bind (wpAny_standAt (raiseX (C := C) (I.ok.hd hc) (wpAny_bind (wpAny_Call_Name_kw (ld_glob I hg hm ?_ hdb)))))
  refine PySem.W.callWith_K (h₀ := X.base) I.ok.mod.kin q.kp (thn (ha cpos pins s σ H _ I h) fun us s1 ⟨vs, H1, I1, r, hz, hq⟩ => ⟨I1.kIn, ?_⟩) he hpl
  obtain ⟨bm, N, nm, qn, bs, sn, sub, ab, col, dd, k0, k1, k2, k3, k5, mN, hC, hN, hi, T⟩ := q.ini.at I1.kIn
  obtain ⟨oI, hoK, hoc⟩ := Option.map_eq_some_iff.mp q.ini.fn
  have ho := I1.kIn _ _ hoK
  rw [show ([] : List Value) ++ us = us from rfl]
  obtain ⟨hp, g, d, tk, os⟩ := s1
  refine callI T hC hN hi ho hoc (by rw [← r.length]; exact hz) fun h' ex made => ?_
  obtain ⟨tt, hex1, _, _⟩ := made.there
  have hnone : H1 ex = none := Inv.untracked (G := hp) (s := ⟨hp, g, d, tk, os⟩) I1 made.new
  have hS : X.s₀.heap.get? ex = none := by
    cases z : X.s₀.heap.get? ex with
    | none => rfl
    | some ob =>
      obtain ⟨o', z'⟩ := I1.base.there ex ob z (by rw [hex]; simp)
      rw [made.new] at z'
      cases z'
  have I2 : Inv X pins σ (upd H1 ex (exN ex C none)) ⟨h', g, d, tk, os⟩ := Inv.track (G := hp) (s := ⟨h', g, d, tk, os⟩) I1 made.new (I1.kept (t' := tk) made.keeps) (exN_ok hex1 rfl rfl rfl rfl rfl)
  have hq2 := hq ex hnone
  have r2 : Vals (V.ref ex :: vs) (Value.ref ex :: us) := .cons rfl r
  have hl : (Value.ref ex :: us ++ []).length = ps.length := by
    have e1 := r2.length
    rw [F.len _ _ _ _ hq2] at e1
    rw [List.append_nil]
    exact e1.symm
  have hbd := hb ⟨h', g, d, tk, os⟩ (Value.ref ex :: us) I2.kIn hl
  rw [List.append_nil] at hbd
  refine wpAny_call (codeAny_mono (F.run _ X.stack ⟨h', g, d, tk, os⟩ _ ⟨Value.ref ex :: us, []⟩ (Value.ref ex :: us) (V.ref ex :: vs) _ E0 (hr.make C us []) (I2.env0.make C us []) hbd r2 hq2) fun rr s' hq' => ?_)
  cases rr with
  | error z => exact False.elim hq'
  | ok fl =>
    cases fl with
    | next => exact False.elim hq'
    | brk => exact False.elim hq'
    | cont => exact False.elim hq'
    | ret u =>
      obtain ⟨v, H', I3, rv, ev, DD, e3, z3⟩ := I2.after hq'
      subst ev
      obtain rfl : u = Value.none := rv
      obtain ⟨⟨o3, vs3, a3, ho3, hc3, hd3, h03, h13, hx3⟩, _⟩ := I3.hok ex _ e3
      obtain ⟨bm', N', nm', qn', bs', sn', sub', ab', col', dd', k0', k1', k2', k3', k5', mN', hC', _, _, T'⟩ := q.ini.at I3.kIn
      refine ⟨rfl, wpAny_bind (wpAny_standAt (wpAny_pure ⟨ex, o3, bm', N', nm', qn', bs', true, sn', sub', ab', col', dd', k0', k1', k2', k3', k5', rfl, hC', T'.hasType fV.hasBase, ho3, hc3, ⟨vs3, hd3, h13⟩, hx _ _ ?_⟩))⟩
      refine ⟨pins, σ, without H' ex, PySem.W.hideAll s'.heap [ex], ex, .ref C, DD, rfl, I3.strike e3 hS, ⟨fun b o z => PySem.W.of_hideAll _ z, PySem.W.hideAll_none [ex] (by simp), o3, vs3, a3, ho3, hc3, hd3, h03, h13, hx3⟩, z3⟩
end L2

set_option maxHeartbeats 4000000
namespace L2
open PySem PySem.Spec PyProof.Rows
/-! ### a refusal with a dict flies, is caught -/
def CX2 (P : Program) (w : World) : CXT := fun outer H s E ev s' =>
  ∃ a cls D H' G, ev = .ref a ∧ s'.os = s.os ∧ AllBare s'.gens ∧ Un (frs outer) [] H H' s.heap G ∧ HOk P w H' G ∧ Fly outer G a cls s'.heap ∧ DictIs D a s'.heap ∧ E cls (some D) H'
theorem leave2 {P : Program} {w : World} {K : PySem.W.Frag} {mg : Str → Option Value} {base : Heap} {N : List Str} {qual : Str} {scope : Scope} {f : Addr} {cdv : Value} {A : Around} {outer : List Env} {s : Shared} {H : Hp} {E : XK} {ev : Value} {s' : Shared}
    (h : WR (cxOf (CX2 P w) P w K mg base N qual scope f cdv A outer s H E) (fun _ cls D H' => E cls (some D) H') ev s') : (cxOf (CX2 P w) P w K mg base N qual scope f cdv A outer s H E).xe ev s' := by
  obtain ⟨pins, σ, H', G, a, cls, D, rfl, I, ⟨keeps, new, oe, vs, a0, he, hc, hd, h0, h1, hx⟩, q⟩ := h
  subst hc
  show wpAny (model P w) _ (leaving _ (.ref a)) _ _ s'
  have hin : ∀ env ∈ (cxOf (CX2 P w) P w K mg base N qual scope f cdv A outer s H E).stack, ∀ b, env.frame = some b → b ∈ frs (cxOf (CX2 P w) P w K mg base N qual scope f cdv A outer s H E).stack := fun env he b hb => List.mem_filterMap.mpr ⟨env, he, hb⟩
  have stay : (PySem.W.hideAll G (frs (cxOf (CX2 P w) P w K mg base N qual scope f cdv A outer s H E).stack)).StaysIn G := fun b o z => PySem.W.of_hideAll _ z
  have hl := PySem.W.funFrames_hide I.stack hin
  have fresh : (PySem.W.hideAll G (frs (cxOf (CX2 P w) P w K mg base N qual scope f cdv A outer s H E).stack)).get? a = none := by
    cases z : (PySem.W.hideAll G (frs (cxOf (CX2 P w) P w K mg base N qual scope f cdv A outer s H E).stack)).get? a with
    | none => rfl
    | some o => have := stay a o z; rw [new] at this; cases this
  have key := (tame_leaving (cxOf (CX2 P w) P w K mg base N qual scope f cdv A outer s H E).env (.ref a)).any (D := D) (e := a) (wpAny_leaving_firstW (M := model P w) (E := fun _ _ => False) (a0 := a0) (Q := fun _ s2 => ∃ h', s2 = { s' with heap := h' } ∧ Heap.LeftW (PySem.W.hideAll G (frs (cxOf (CX2 P w) P w K mg base N qual scope f cdv A outer s H E).stack)) (cxOf (CX2 P w) P w K mg base N qual scope f cdv A outer s H E).stack a oe.cls a0 s'.heap h')
    I.ok.frames (hl.of_keeps fun b o hb _ => ⟨o, keeps b o hb, rfl⟩) rfl he (fun b o hb => keeps b o (stay b o hb)) fresh hd h1 h0 (fun h' hL => ⟨h', rfl, hL⟩)) ⟨oe, he, hx⟩
  refine wpAny_mono key (fun _ s2 z => ?_) fun _ _ z => z.1.elim
  obtain ⟨⟨h', rfl, k1, ⟨_, _, k2⟩, k3, k4⟩, dk⟩ := z
  obtain ⟨un, hok⟩ := strike I.base I.hok I.ok.above I.free
  exact ⟨a, oe.cls, D, H', _, rfl, I.os, I.bare, un, hok, Fly.strike rfl (fun b o z hb => PySem.W.hideAll_get _ z hb) ⟨k1, fresh, k2, k3⟩ ((Heap.UpToSlots.of_keeps keeps).trans k4) new, dk, q⟩
section
variable {P : Program} {w : World} {K : PySem.W.Frag} {mg : Str → Option Value} {base : Heap}
/-- THE RULE for a def that may raise such a one -/
theorem Fun.ok2 {x qual : Str} {st : Stmt} {f : Addr} {fd : FuncData} {N ps : List Str} {k : Nat} {sp : Sp} (F : Fun K x qual st f fd) (S : FnScope N ps (defScope st)) (len : ∀ vs H Q E, sp vs H Q E → vs.length = ps.length)
    (hbody : ∀ (cdv : Value) (A : Around) (outer : List Env) (s : Shared) (H : Hp) (vs : List V) (Q : VK) (E : XK), Room k (A.deeper (envOfC qual (defScope st) s.heap.objs.size f cdv)) → sp vs H Q E →
      ∃ t, PSs (cxOf (CX2 P w) P w K mg base N qual (defScope st) f cdv A outer s H E) (defBody st) t ∧ t { nx := fun _ H' => Q .non H', rt := Q } (start N vs) H) : FnOk P w K mg base (CX2 P w) (k + 1) f fd ps sp := by
  obtain ⟨oc, od, kV, doc, pm, an, cdv, ct, osl, rfl, lk, hcd⟩ := F.ex
  exact fn_of lk hcd S len fun A outer s H vs Q E hr hsp => hbody cdv A outer s H vs Q E hr hsp
end
def WX2 (X : Cx) (XS : XS2) : Value → Shared → Prop := fun ev s' =>
  ∃ pins σ H' G a cls D, ev = .ref a ∧ Inv X pins σ H' { s' with heap := G } ∧ Fly X.stack G a cls s'.heap ∧ DictIs D a s'.heap ∧ XS σ cls D H'
def toXK (XS : Value → Addr → Hp → Prop) : XK := fun cls od H' => ∃ D, od = some D ∧ XS cls D H'
def tCall2 (sp : Sp) (XS : XS2) (t : TA) : TE := fun σ H Q => t σ H fun vs H1 => sp vs H1 Q (toXK (XS σ))
section
variable {X : Cx} {XS : XS2} {W : Value → Shared → Prop} {pins : List (Addr × Obj)} {σ : St} {H H' : Hp} {s s' : Shared} {k : Nat} {f C : Addr} {fd : FuncData} {ps : List Str} {sp : Sp} {x : Str} {p pos : Pos} {e : Expr} {es : List Expr} {t : TA}
end
/-! ### isinstance, e.f of a caught one -/
structure ExG (K : PySem.W.Frag) (C : Addr) : Prop where
  ga : PySem.W.findIn K (.ref C) "__getattribute__" = some (some (.builtin "BaseException.__getattribute__"))
  noga : PySem.W.findIn K (.ref C) "__getattr__" = some none
  cl : PySem.W.findIn K (.ref C) "__class__" = some (some (.builtin "object.__class__"))
theorem ExS.g {K : PySem.W.Frag} {C f : Addr} (q : ExS K C f) : ExG K C := ⟨q.ga, q.noga, q.cl⟩
section
variable {prog : Program} {w : World} {A : Around} {E : Value → Shared → Prop} {h : Heap} {g : Array GenState} {d : Drawn} {t : Nat} {os : OsState} {a : Addr} {o : Obj} {vs : Array Value} {K : PySem.W.Frag}
  {nm q : Str} {C N f : Addr} {bs bm : List Value} {hdct : Bool} {sn : List Str} {sub : List Value} {ab : Bool} {col : Option Bool} {dd : Option Addr} {k0 k1 k2 k3 k5 : Option Value} {newId : String}
theorem exI_clsEntry {tk : Tok} {Q : Fin → Shared → Prop} (X : K.In h) (F0 : ExG K C) (hC : h.get? C = some (excClassObj nm q C N bs bm hdct sn sub ab col dd k0 k1 k2 k3 k5 newId)) (T : OwnTail h veMro bm) (hx : h.get? a = some o) (hc : o.cls = .ref C) (hq : Q (.done (.ret (.ref C))) ⟨h, g, d, t, os⟩) :
    wpAny (model prog w) A (Builtin.«object.__getattribute__» ⟨[.ref a, .str "__class__" tk], []⟩) Q E ⟨h, g, d, t, os⟩ := by
  have hG : (⟨h, g, d, t, os⟩ : Shared).TypeIs (.builtin "object.__class__") "getset_descriptor" := F.typeOf_object_class
  have g1 := F.typeOf_object_class
  have g2 := F.slot_gs_get.lookup
  have g3 := F.slot_gs_set.lookup
  have lk : PySem.W.Looks (model prog w) h (typeLookup (.ref C) "__class__") (some (.builtin "object.__class__")) := PySem.W.looks_findIn X F0.cl
  repeat (any_goals (first | assumption | (with_reducible refine wpAny_loadPart_at hx ?_; rw [hc]) | with_reducible refine lk.at ?_ | wp_step))
  refine exc_clsGet hC T hx hc ?_
  repeat (any_goals (first | assumption | wp_step))
theorem exI_clsBy {tk : Tok} {Q : Value → Shared → Prop} (X : K.In h) (F0 : ExG K C) (hC : h.get? C = some (excClassObj nm q C N bs bm hdct sn sub ab col dd k0 k1 k2 k3 k5 newId)) (T : OwnTail h veMro bm) (hx : h.get? a = some o) (hc : o.cls = .ref C) (hq : Q (.ref C) ⟨h, g, d, t, os⟩) :
    wpAny (model prog w) A (getAttrBy (.ref a) (.str "__class__" tk) false) Q E ⟨h, g, d, t, os⟩ := by
  have f3 := PySem.F.attrBase_ValueError.ga.bind (.ref a)
  have n2 : (Value.builtin "BaseException.__getattribute__" == Value.builtin "object.__getattribute__") = false := by decide +kernel
  have n1 : (onTheHeap (Value.ref C) && Value.builtin "BaseException.__getattribute__" == Value.builtin "object.__getattribute__") = false := by rw [n2]; rfl
  have l1 : PySem.W.Looks (model prog w) h (typeLookup (.ref C) "__getattribute__") (some (.builtin "BaseException.__getattribute__")) := PySem.W.looks_findIn X F0.ga
  have l2 : PySem.W.Looks (model prog w) h (typeLookup (.ref C) "__getattr__") none := PySem.W.looks_findIn X F0.noga
  repeat (any_goals (first | assumption | (with_reducible refine wpAny_loadPart_at hx ?_; rw [hc]) | with_reducible refine l1.at ?_ | with_reducible refine l2.at ?_ | wp_step))
  refine codeAny_call_builtin PySem.F.attrBase_ValueError.ga.plain F.entry_bexc_ga (exc_gaCheck hC T hx hc (exI_clsEntry X F0 hC T hx hc ?_))
  repeat (any_goals (first | assumption | wp_step))
theorem exI_cls {Q : Option Value → Shared → Prop} (X : K.In h) (F0 : ExS K C f) (hx : h.get? a = some o) (hc : o.cls = .ref C) (hq : Q (some (.ref C)) ⟨h, g, d, t + 1, os⟩) : wpAny (model prog w) A (getAttr? (.ref a) "__class__") Q E ⟨h, g, d, t, os⟩ := by
  obtain ⟨bm, N, nm, qn, bs, sn, sub, ab, col, dd, k0, k1, k2, k3, k5, mN, hC, hN, hi, T⟩ := F0.ini.at X
  unfold getAttr? getAttrBy?
  repeat (any_goals (first | assumption | with_reducible apply exI_clsBy X F0.g hC T hx hc | wp_step))
end
theorem kitx_exI {K : PySem.W.Frag} {a C f : Addr} (F0 : ExS K C f) : PySem.W.KitX K (.ref a) (.ref C) (fun h => ∃ o, h.get? a = some o ∧ o.cls = .ref C) where
  ty := fun M h _ ⟨o, e, c⟩ => c ▸ (PySem.W.Looks.ld e).andThen .now
  it := fun M h X _ => by
    obtain ⟨bm, N, nm, qn, bs, sn, sub, ab, col, dd, k0, k1, k2, k3, k5, mN, hC, _⟩ := F0.ini.at X
    intro A' Q' E' s' k q
    unfold isType loadHead
    exact wpAny_bind (wpAny_loadPart (k _ _ hC) (wpAny_pure q))
  ne := fun h tp dd its n sl X htp => by
    obtain ⟨bm, N, nm, qn, bs, sn, sub, ab, col, dd, k0, k1, k2, k3, k5, mN, hC, _⟩ := F0.ini.at X
    refine Bool.eq_false_iff.mpr fun q => ?_
    have e : C = tp := Value.ref.inj (beq_iff_eq.mp q)
    subst e
    rw [hC] at htp
    have z := congrArg Obj.cls (Option.some.inj htp)
    exact absurd (Value.type.inj z) (by decide)
  ca := fun {prog w A E Q s} X ⟨o, e, c⟩ k => by
    obtain ⟨h, g, d, t, os⟩ := s
    exact exI_cls X F0 e c k
/-- a caught one as a thing in the heap -/
def excD (a : Addr) (cls : Value) (D : Addr) : HO := .ext fun h => ∃ o, h.get? a = some o ∧ o.cls = cls ∧ (∃ vs, o.data = .fields vs) ∧ o.dict = some D
theorem excD_ok {P : Program} {w : World} {H : Hp} {h : Heap} {a D : Addr} {cls : Value} {o : Obj} {vs : Array Value} (e : h.get? a = some o) (hc : o.cls = cls) (hd : o.data = .fields vs) (hx : o.dict = some D) : ObjOk P w H h a (excD a cls D) :=
  ⟨⟨o, e, hc, ⟨vs, hd⟩, hx⟩, ⟨o, e⟩, fun h1 h2 ⟨o1, e1, r⟩ k => ⟨o1, k o1 e1, r⟩⟩
section
variable {X : Cx} {f C : Addr}
/-- isinstance: the old reading, or a caught one against a built-in class, an own class, a tuple of own classes -/
def rIsI (K : PySem.W.Frag) : List V → Hp → VK → Prop := fun xs H Q =>
  (∃ x T t b, xs = [x, .ty T] ∧ TyOf K H x t ∧ PySem.W.kitOne K t (.type T) = some b ∧ Q (.bl b) H) ∨
  (∃ a C D f T b, xs = [.ref a, .ty T] ∧ H a = some (excD a (.ref C) D) ∧ ExS K C f ∧ PySem.W.kitOne K (.ref C) (.type T) = some b ∧ Q (.bl b) H) ∨
  (∃ a C D f C' b, xs = [.ref a, .ref C'] ∧ H a = some (excD a (.ref C) D) ∧ ExS K C f ∧ PySem.W.kitOne K (.ref C) (.ref C') = some b ∧ Q (.bl b) H) ∨
  (∃ (a C D f p : Addr) (cs : List Addr) (b : Bool), xs = [.ref a, .ref p] ∧ H a = some (excD a (.ref C) D) ∧ ExS K C f ∧ H p = some (.tup (cs.map V.ref)) ∧ PySem.W.kitAny K (.ref C) (cs.map Value.ref) = some b ∧ Q (.bl b) H)
theorem call_isI0 : CallR X (.builtin "isinstance") (rIsI X.K) := by
  intro pins s σ H xs us Q I r h
  rcases h with h | h | h | h
  · exact call_isT pins s σ H xs us Q I r h
  · obtain ⟨a, C, D, f, T, b, rfl, hH, F0, e, q⟩ := h
    obtain ⟨u1, u2, rfl, r1, r2⟩ := r.two
    cases (show _ = Value.ref a from r1)
    cases (show _ = Value.type T from r2)
    obtain ⟨⟨o, e1, e2, _⟩, _⟩ := I.hok a _ hH
    exact PySem.W.kia_one (kitx_exI F0) I.kIn ⟨o, e1, e2⟩ e (fun z => nomatch z) fun tk => ⟨.bl b, H, I.tok _, rfl, q⟩
  · obtain ⟨a, C, D, f, C', b, rfl, hH, F0, e, q⟩ := h
    obtain ⟨u1, u2, rfl, r1, r2⟩ := r.two
    cases (show _ = Value.ref a from r1)
    cases (show _ = Value.ref C' from r2)
    obtain ⟨⟨o, e1, e2, _⟩, _⟩ := I.hok a _ hH
    exact PySem.W.kia_one (kitx_exI F0) I.kIn ⟨o, e1, e2⟩ e (fun z => nomatch z) fun tk => ⟨.bl b, H, I.tok _, rfl, q⟩
  · obtain ⟨a, C, D, f, p, cs, b, rfl, hH, F0, hp, e, q⟩ := h
    obtain ⟨u1, u2, rfl, r1, r2⟩ := r.two
    cases (show _ = Value.ref a from r1)
    cases (show _ = Value.ref p from r2)
    obtain ⟨⟨o, e1, e2, _⟩, _⟩ := I.hok a _ hH
    obtain ⟨_, its, rv, ob, h1, h2, n, h3⟩ := I.hok p _ hp
    have := valsRef rv
    subst this
    obtain ⟨oc, od, odt, osl⟩ := ob
    dsimp only at h2 h3
    subst h2 h3
    exact PySem.W.kia_tup (kitx_exI F0) I.kIn ⟨o, e1, e2⟩ h1 e (fun z => nomatch z) fun tk => ⟨.bl b, H, I.tok _, rfl, q⟩
theorem call_isI {K : PySem.W.Frag} (h : X.K = K) : CallR X (.builtin "isinstance") (rIsI K) := h ▸ call_isI0
/-- e.fl, an int -/
def tFldE (K : PySem.W.Frag) (ta : TE) (fl : Str) : TE := fun σ H Q => ta σ H fun x H1 => ∃ a C D f fs n, x = .ref a ∧ H1 a = some (excD a (.ref C) D) ∧ ExS K C f ∧ PySem.W.findIn K (.ref C) fl = some none ∧ H1 D = some (.xd fs) ∧ fs.lookup fl = some (.int n) ∧ Q (.int n) H1
end
/-! ### try: .. except C as n: .. of such ones -/
def tTryAs2 (K : PySem.W.Frag) (CT : Addr) (i : Nat) (tb : XS2 → TS) (ts : TS) : TS := fun D σ H =>
  tb (fun σ' cls Dx H' => PySem.W.exmOne K cls (.ref CT) = some true ∧ ∀ a, H' a = none → ts (D.gone i) (σ'.set i (some (.ref a))) (upd H' a (excD a cls Dx))) D σ H
end L2

set_option maxHeartbeats 4000000
namespace L2
open PySem PySem.Spec PyProof.Rows
/-! ### defs called within an except suite -/
structure FnOkH (P : Program) (w : World) (K : PySem.W.Frag) (mg : Str → Option Value) (base : Heap) (k : Nat) (f : Addr) (fd : FuncData) (ps : List Str) (sp : Sp) : Prop where
  len : ∀ vs H Q E, sp vs H Q E → vs.length = ps.length
  run : ∀ (A : Around) (ea : Addr) (outer : List Env) (s : Shared) (H : Hp) (args : Args) (us : List Value) (vs : List V) (Q : VK), Room k A → Env0 P w K mg base A outer s H → BindsTo s fd args (ps.zip us) → Vals vs us → sp vs H Q E0 →
    codeAny (model P w) (A.mark (some (.ref ea))) (.call (.ref f) args) (CR CX0 outer P w H s Q E0) s
section
variable {P : Program} {w : World} {K : PySem.W.Frag} {mg : Str → Option Value} {base : Heap}
end
section
variable {X : Cx} {k : Nat} {f ea : Addr} {fd : FuncData} {ps : List Str} {sp : Sp} {x : Str} {p pos : Pos} {e : Expr} {es : List Expr} {t : TA}
end
end L2

set_option maxHeartbeats 4000000
namespace L2
open PySem PySem.Spec PyProof.Rows
theorem ix_seqK {X : Cx} {K : PySem.W.Frag} (h : X.K = K) : IxR X (rIx K) := h ▸ ix_seq
/-! ### refusals with a dict and without, passed along by one def -/
def CX3 (P : Program) (w : World) : CXT := fun outer H s E ev s' =>
  ∃ a cls od H' G, ev = .ref a ∧ s'.os = s.os ∧ AllBare s'.gens ∧ Un (frs outer) [] H H' s.heap G ∧ HOk P w H' G ∧ Fly outer G a cls s'.heap ∧ (∀ D, od = some D → DictIs D a s'.heap) ∧ E cls od H'
section
variable {P : Program} {w : World} {K : PySem.W.Frag} {mg : Str → Option Value} {base : Heap}
theorem cx1_3 {outer : List Env} {H : Hp} {s : Shared} {E : XK} {ev : Value} {s' : Shared} (h : CX1 P w outer H s E ev s') : CX3 P w outer H s E ev s' := by
  obtain ⟨a, cls, H', G, e, os, bare, un, hok, fly, q⟩ := h
  exact ⟨a, cls, none, H', G, e, os, bare, un, hok, fly, fun _ z => (nomatch z), q⟩
theorem cx2_3 {outer : List Env} {H : Hp} {s : Shared} {E : XK} {ev : Value} {s' : Shared} (h : CX2 P w outer H s E ev s') : CX3 P w outer H s E ev s' := by
  obtain ⟨a, cls, D, H', G, e, os, bare, un, hok, fly, dk, q⟩ := h
  exact ⟨a, cls, some D, H', G, e, os, bare, un, hok, fly, fun _ z => Option.some.inj z ▸ dk, q⟩
theorem FnOk.to3 {CX : CXT} (hc : ∀ {outer H s E ev s'}, CX outer H s E ev s' → CX3 P w outer H s E ev s') {k : Nat} {f : Addr} {fd : FuncData} {ps : List Str} {sp : Sp} (F : FnOk P w K mg base CX k f fd ps sp) : FnOk P w K mg base (CX3 P w) k f fd ps sp :=
  ⟨F.len, fun A outer s H args us vs Q E hr e0 hb r h => codeAny_mono (F.run A outer s H args us vs Q E hr e0 hb r h) fun rr s' z => by
    cases rr with
    | error e => exact hc z
    | ok fl => cases fl <;> exact z⟩
end
abbrev XS3 := St → Value → Option Addr → Hp → Prop
def WX3 (X : Cx) (XS : XS3) : Value → Shared → Prop := fun ev s' =>
  ∃ pins σ H' G a cls od, ev = .ref a ∧ Inv X pins σ H' { s' with heap := G } ∧ Fly X.stack G a cls s'.heap ∧ (∀ D, od = some D → DictIs D a s'.heap) ∧ XS σ cls od H'
/-- out of a def's frame, on its way -/
theorem leave3 {P : Program} {w : World} {K : PySem.W.Frag} {mg : Str → Option Value} {base : Heap} {N : List Str} {qual : Str} {scope : Scope} {f : Addr} {cdv : Value} {A : Around} {outer : List Env} {s : Shared} {H : Hp} {E : XK} {ev : Value} {s' : Shared}
    (h : WX3 (cxOf (CX3 P w) P w K mg base N qual scope f cdv A outer s H E) (fun _ cls od H' => E cls od H') ev s') : (cxOf (CX3 P w) P w K mg base N qual scope f cdv A outer s H E).xe ev s' := by
  obtain ⟨pins, σ, H', G, a, cls, od, rfl, I, ⟨B, a0, cov, fl, up, hn⟩, dk, q⟩ := h
  show wpAny (model P w) _ (leaving _ (.ref a)) _ _ s'
  have key : ∀ (Q : Unit → Shared → Prop), (∀ h', Heap.FlyingW B outer a cls a0 h' → s'.heap.UpToSlots h' → (∀ D, od = some D → DictIs D a h') → Q () { s' with heap := h' }) → wpAny (model P w) (cxOf (CX3 P w) P w K mg base N qual scope f cdv A outer s H E).A (leaving (cxOf (CX3 P w) P w K mg base N qual scope f cdv A outer s H E).env (.ref a)) Q (fun _ _ => False) s' := fun Q k => by
    cases od with
    | none => exact wpAny_leaves_onW I.ok.frames rfl fl fun h' fl' up' => k h' fl' up' fun _ z => (nomatch z)
    | some D =>
      refine wpAny_mono ((tame_leaving _ _).any (D := D) (e := a) (wpAny_leaves_onW (E := fun _ _ => False) (Q := fun _ s2 => ∃ h', s2 = { s' with heap := h' } ∧ Heap.FlyingW B outer a cls a0 h' ∧ s'.heap.UpToSlots h') I.ok.frames rfl fl fun h' z1 z2 => ⟨h', rfl, z1, z2⟩) (dk D rfl)) (fun _ s2 z => ?_) fun _ _ z => z.1.elim
      obtain ⟨⟨h', rfl, z1, z2⟩, z3⟩ := z
      exact k h' z1 z2 fun D' e => Option.some.inj e ▸ z3
  refine wpAny_mono (key _ fun h' fl' up' dk' => ?_) (fun _ _ z => z) fun _ _ z => z.elim
  obtain ⟨un, hok⟩ := strike I.base I.hok I.ok.above I.free
  exact ⟨a, cls, od, H', _, rfl, I.os, I.bare, un, hok, Fly.strike rfl cov fl' (up.trans up') hn, dk', q⟩
section
variable {P : Program} {w : World} {K : PySem.W.Frag} {mg : Str → Option Value} {base : Heap}
end
section
variable {P : Program} {w : World} {K : PySem.W.Frag} {mg : Str → Option Value} {base : Heap}
/-- the same, the body in the plain context (loops out of which an exception may come) -/
theorem Fun.ok3p {x qual : Str} {st : Stmt} {f : Addr} {fd : FuncData} {N ps : List Str} {k : Nat} {sp : Sp} (F : Fun K x qual st f fd) (S : FnScope N ps (defScope st)) (len : ∀ vs H Q E, sp vs H Q E → vs.length = ps.length)
    (hbody : ∀ (cdv : Value) (A : Around) (outer : List Env) (s : Shared) (H : Hp) (vs : List V) (Q : VK) (E : XK), Room k (A.deeper (envOfC qual (defScope st) s.heap.objs.size f cdv)) → sp vs H Q E →
      ∃ t, PSs (cxOf (CX3 P w) P w K mg base N qual (defScope st) f cdv A outer s H E) (defBody st) t ∧ t { nx := fun _ H' => Q .non H', rt := Q } (start N vs) H) : FnOk P w K mg base (CX3 P w) (k + 1) f fd ps sp := by
  obtain ⟨oc, od, kV, doc, pm, an, cdv, ct, osl, rfl, lk, hcd⟩ := F.ex
  exact fn_of lk hcd S len fun A outer s H vs Q E hr hsp => hbody cdv A outer s H vs Q E hr hsp
end
def tCall3 (sp : Sp) (dvs : List V) (XS : XS3) (t : TA) : TE := fun σ H Q => t σ H fun vs H1 => sp (vs ++ dvs) H1 Q (XS σ)
def tMeth3 (C : Addr) (m : Str) (sp : Sp) (dvs : List V) (XS : XS3) (ta : TE) (t : TA) : TE := fun σ H Q => ta σ H fun x H1 => ∃ a dx fs, x = .ref a ∧ H1 a = some (.ins C dx fs) ∧ fs.lookup m = none ∧
  t σ H1 fun vs H2 => sp (x :: (vs ++ dvs)) H2 Q (XS σ)
section
variable {X : Cx} {W : Value → Shared → Prop} {XS : XS3} {k : Nat} {f C : Addr} {fd : FuncData} {ps : List Str} {sp : Sp} {dvs : List V} {ds : List Value} {x m : Str} {p pos apos : Pos} {e o : Expr} {es : List Expr} {ta : TE} {t : TA}
theorem passX3 {pins : List (Addr × Obj)} {σ : St} {H : Hp} {s s' : Shared} {ev : Value} (I : Inv X pins σ H s) (h : CX3 X.prog X.w X.stack H s (XS σ) ev s') : WX3 X XS ev s' := by
  obtain ⟨a, cls, od, H', G, e, os, bare, un, hok, fly, dk, q⟩ := h
  exact ⟨pins, σ, H', G, a, cls, od, e, I.call' (s' := { s' with heap := G }) (ch := []) os un hok bare fun b z => absurd z (by simp), fly, dk, q⟩
theorem run_fn3 {pins : List (Addr × Obj)} {σ : St} {H : Hp} {s : Shared} {Q : VK} {us : List Value} {vs : List V} (F : FnOk X.prog X.w X.K X.mg X.base (CX3 X.prog X.w) k f fd ps sp) (hr : Room k X.A) (hb : Binds X.K fd ps ds) (hd : Vals dvs ds) (hx : ∀ ev s', WX3 X XS ev s' → W ev s')
    (I : Inv (X.wish W) pins σ H s) (r : Vals vs us) (h : sp (vs ++ dvs) H Q (XS σ)) : wpAny (model X.prog X.w) X.A (call (.ref f) us) (EP (X.wish W) pins σ Q) W s := by
  have I0 := I.unwish
  have r2 : Vals (vs ++ dvs) (us ++ ds) := r.append hd
  have hl : (us ++ ds).length = ps.length := by rw [← r2.length]; exact F.len _ _ _ _ h
  refine wpAny_call (codeAny_mono (F.run X.A X.stack s H ⟨us, []⟩ (us ++ ds) (vs ++ dvs) Q _ hr I0.env0 (hb s us I0.kIn hl) r2 h) fun r s' hq => ?_)
  cases r with
  | error e => exact hx _ _ (passX3 I0 hq)
  | ok fl =>
    cases fl with
    | ret u => exact I.after hq
    | next => exact False.elim hq
    | brk => exact False.elim hq
    | cont => exact False.elim hq
theorem pe_call3 (F : FnOk X.prog X.w X.K X.mg X.base (CX3 X.prog X.w) k f fd ps sp) (hr : Room k X.A) (hg : Gl (X.wish W) x) (hm : X.mg x = some (.ref f)) (hk : PySem.W.keepIn X.K (.ref f) = true) (hb : Binds X.K fd ps ds) (hd : Vals dvs ds) (hx : ∀ ev s', WX3 X XS ev s' → W ev s')
    (ha : PA (X.wish W) (e :: es) t) (hdb : (x == ("__debug__" : Str)) = false := by decide) (he : starEach (e :: es) X.env = (false, eval e X.env) :: starEach es X.env := by rfl) (hpl : (backTo pos (starEach es X.env)).any (·.1) = false := by rfl) :
    PE (X.wish W) (.Call (.Name x p) (e :: es) [] pos) (tCall3 sp dvs XS t) := by
  intro pins s σ H Q I h
  refine wpAny_Call_Name_kw (ld_glob I hg hm ?_ hdb)
  refine PySem.W.callWith_K (h₀ := X.base) I.ok.mod.kin hk (thn (ha pos pins s σ H _ I h) fun us s1 ⟨vs, H1, I1, r, q⟩ => ⟨I1.kIn, ?_⟩) he hpl
  exact run_fn3 (X := X) F hr hb hd hx I1 r q
theorem pe_meth3 {pl : Sem Bool} (ho : PE (X.wish W) o ta) (c : Cls X.K C) (hm : Meth X.K C m f) (F : FnOk X.prog X.w X.K X.mg X.base (CX3 X.prog X.w) k f fd ps sp) (hr : Room k X.A) (hb : Binds X.K fd ps ds) (hd : Vals dvs ds) (hx : ∀ ev s', WX3 X XS ev s' → W ev s') (ha : PA (X.wish W) (e :: es) t)
    (hst : starEach (e :: es) X.env = (false, eval e X.env) :: starEach es X.env := by rfl) (hpl : (backTo pos (starEach es X.env)).any (·.1) = false := by rfl)
    (ht : eval (.Call (.Attribute o m apos) (e :: es) [] pos) X.env = (do
      let ov ← eval o X.env
      standAt apos.atName
      let (f, first) ← holding [ov] (getMethod ov m pl)
      callWith pos f first (backTo pos (starEach (e :: es) X.env)) (backToKw pos (keywordEach [] X.env))) := by rfl) :
    PE (X.wish W) (.Call (.Attribute o m apos) (e :: es) [] pos) (tMeth3 C m sp dvs XS ta t) := by
  intro pins s σ H Q I h
  refine PySem.W.methodCall_KW (pl := pl) (thn (ho pins s σ H _ I h) fun u s1 ⟨x, H1, I1, rx, a, dx, fs, ex, ea, l, q⟩ => ?_) ht
  subst ex
  obtain rfl : u = Value.ref a := rx
  refine getmeth_ok I1 ea c hm l ?_
  refine PySem.W.callWith_K (first := [.ref a]) (h₀ := X.base) I.ok.mod.kin hm.kp (thn (ha pos pins s1 σ H1 _ I1 q) fun us s2 ⟨vs, H2, I2, r, q2⟩ => ⟨I2.kIn, ?_⟩) hst hpl
  exact run_fn3 (X := X) (us := .ref a :: us) (vs := .ref a :: vs) F hr hb hd hx I2 (.cons rfl r) q2
theorem pe_meth30 {pl : Sem Bool} (ho : PE (X.wish W) o ta) (c : Cls X.K C) (hm : Meth X.K C m f) (F : FnOk X.prog X.w X.K X.mg X.base (CX3 X.prog X.w) k f fd ps sp) (hr : Room k X.A) (hb : Binds X.K fd ps ds) (hd : Vals dvs ds) (hx : ∀ ev s', WX3 X XS ev s' → W ev s')
    (ht : eval (.Call (.Attribute o m apos) [] [] pos) X.env = (do
      let ov ← eval o X.env
      standAt apos.atName
      let (f, first) ← holding [ov] (getMethod ov m pl)
      callWith pos f first (backTo pos (starEach [] X.env)) (backToKw pos (keywordEach [] X.env))) := by rfl) :
    PE (X.wish W) (.Call (.Attribute o m apos) [] [] pos) (tMeth3 C m sp dvs XS ta tNil) := by
  intro pins s σ H Q I h
  refine PySem.W.methodCall_KW (pl := pl) (thn (ho pins s σ H _ I h) fun u s1 ⟨x, H1, I1, rx, a, dx, fs, ex, ea, l, q⟩ => ?_) ht
  subst ex
  obtain rfl : u = Value.ref a := rx
  refine getmeth_ok I1 ea c hm l ?_
  exact PySem.W.callWith_K0 (first := [.ref a]) I1.kIn hm.kp (run_fn3 (X := X) (us := [.ref a]) (vs := [.ref a]) F hr hb hd hx I1 (.cons rfl .nil) q)
end
theorem Tame.anyO {α : Type} {M : Model} {A : Around} {od : Option Addr} {e : Addr} {m : Sem α} (t : Tame m) {Q : α → Shared → Prop} {E : Value → Shared → Prop} {s : Shared} (h : wpAny M A m Q E s) (d : ∀ D, od = some D → DictIs D e s.heap) : wpAny M A m (fun a s' => Q a s' ∧ ∀ D, od = some D → DictIs D e s'.heap) (fun x s' => E x s' ∧ ∀ D, od = some D → DictIs D e s'.heap) s := by
  cases od with
  | none => exact wpAny_mono h (fun _ _ z => ⟨z, fun _ y => (nomatch y)⟩) fun _ _ z => ⟨z, fun _ y => (nomatch y)⟩
  | some D => exact wpAny_mono (t.any h (d D rfl)) (fun _ _ z => ⟨z.1, fun _ y => Option.some.inj y ▸ z.2⟩) fun _ _ z => ⟨z.1, fun _ y => Option.some.inj y ▸ z.2⟩
def excV (a : Addr) (cls : Value) : Option Addr → HO
  | none => excO a cls
  | some D => excD a cls D
theorem excV_ok {P : Program} {w : World} {H : Hp} {h : Heap} {a : Addr} {od : Option Addr} {cls : Value} {o : Obj} {vs : Array Value} (e : h.get? a = some o) (hc : o.cls = cls) (hd : o.data = .fields vs) (hx : ∀ D, od = some D → DictIs D a h) : ObjOk P w H h a (excV a cls od) := by
  cases od with
  | none => exact excO_ok e hc hd
  | some D =>
    obtain ⟨o', e', hod⟩ := hx D rfl
    obtain rfl : o' = o := Option.some.inj (e'.symm.trans e)
    exact excD_ok e hc hd hod
def tTryAs3 (K : PySem.W.Frag) (CT : Addr) (i : Nat) (tb : XS3 → TS) (ts : TS) : TS := fun D σ H =>
  tb (fun σ' cls od H' => PySem.W.exmOne K cls (.ref CT) = some true ∧ ∀ a, H' a = none → ts (D.gone i) (σ'.set i (some (.ref a))) (upd H' a (excV a cls od))) D σ H
theorem ps_tryAs3 {X : Cx} {CT : Addr} {i : Nat} {x n : Str} {body : List Stmt} {b₀ : Stmt} {suite : List Stmt} {np hpos pos : Pos} {tb : XS3 → TS} {ts : TS}
    (hb : ∀ pn XS, PSs ((X.pnd pn).wish (WX3 (X.pnd pn) XS)) body (tb XS)) (hs : ∀ pn a, PSs ((X.pnd pn).hand a) (b₀ :: suite) ts) (hN : X.N.Nodup) (hi : X.N[i]? = some n) (hl : X.env.scope.names.lookup n = some .local) (hst : X.stack = X.env :: X.outer) (hfr : X.env.frame = some X.env.locals)
    (hg : Gl X x) (hm : X.mg x = some (.ref CT)) (hd : (x == ("__debug__" : Str)) = false := by decide) :
    PS X (.Try body [.ExceptHandler (some (.Name x np)) (some n) (b₀ :: suite) hpos] [] [] pos) (tTryAs3 X.K CT i tb ts) := by
  intro pins s σ H D I h
  refine wpAny_Try_except (wpAny_mono (hb (X.pn ++ pins) _ [] s σ H D (I.pnd.wish _) h) (fun f s1 q => ?_) fun ev s1 z => ?_)
  · have q' : SP X pins D f s1 := q.unwish.unpnd I.ok
    cases f with
    | next => exact wpAny_execs_nil q'
    | brk => exact q'
    | cont => exact q'
    | ret u => exact q'
  · obtain ⟨pins', σ', H', G, a, cls, od, rfl, I', ⟨B, a0, cov, fl, up, hn⟩, dk, hx, q⟩ := z
    have I1 : Inv X pins σ' H' { s1 with heap := G } := I'.unpnd I.ok
    have hH := I1.untracked hn
    have q := q a hH
    have hF : X.A.frames = some (X.env :: X.outer) := by rw [← hst]; exact I.ok.frames
    have fl : Heap.FlyingW B (X.env :: X.outer) a cls a0 s1.heap := by rw [← hst]; exact fl
    refine wpAny_mono ((tame_noteFrame _ _).anyO (od := od) (e := a) (wpAny_looks_onW (E := fun _ _ => False) (Q := fun _ s2 => ∃ h', s2 = { s1 with heap := h' } ∧ Heap.HeldW B (X.env :: X.outer) a cls a0 X.env.locals h' ∧ s1.heap.UpToSlots h') hF hfr fl fun h' z1 z2 => ⟨h', rfl, z1, z2⟩) dk) (fun _ s2 z => ?_) fun _ _ z => z.1.elim
    obtain ⟨⟨h4, rfl, held4, up4⟩, dk4⟩ := z
    refine wpAny_mono ((tame_setFlight _ _).anyO (od := od) (e := a) (wpAny_landsW (E := fun _ _ => False) (Q := fun _ s2 => ∃ h', s2 = { s1 with heap := h' } ∧ Heap.FlyingW B (X.env :: X.outer) a cls a0 h' ∧ h4.UpToSlots h') held4 fun h' z1 z2 => ⟨h', rfl, z1, z2⟩) dk4) (fun _ s3 z => ?_) fun _ _ z => z.1.elim
    obtain ⟨⟨h5, rfl, fl5, up5⟩, dk5⟩ := z
    have U5 := (up.trans up4).trans up5
    have I5 : Inv X pins σ' H' { s1 with heap := h5 } := I1.flown cov fl5.1 U5
    have I5h := I5.hand a
    refine wpAny_handleBy_cons (codeAny_handlers_test (ld_glob I5h hg hm ?_ hd)) (by intro q; cases q)
    obtain ⟨ob, hob, hobc⟩ := fl5.there
    refine (PySem.W.exm_one (M := model X.prog X.w) I5.kIn (hobc ▸ (PySem.W.Looks.ld hob).andThen .now) hx).here ?_
    refine codeAny_handlers_suite_as ?_
    refine wpAny_mono ((tame_setFlight _ _).anyO (od := od) (e := a) (lands_againW (E := fun _ _ => False) (Q := fun _ s2 => ∃ h' t, s2 = { s1 with heap := h', toks := t } ∧ Heap.FlyingW B (X.env :: X.outer) a cls a0 h' ∧ h5.UpToSlots h') fl5 fun h' z1 z2 => ⟨h', _, rfl, z1, z2⟩) dk5) (fun _ s3 z => ?_) fun _ _ z => z.1.elim
    obtain ⟨⟨h6, t6, rfl, fl6, up6⟩, dk6⟩ := z
    have U6 := U5.trans up6
    have I6 : Inv X pins σ' H' { s1 with heap := h6, toks := t6 } := (I1.flown cov fl6.1 U6).tok _
    obtain ⟨oe, vs, hoe, hoec, hoed, _⟩ := fl6.first
    have I7 := Inv.track (s := { s1 with heap := h6, toks := t6 }) (I1.tok t6) hn I6 (excV_ok hoe hoec hoed dk6)
    refine store_ok I7 hN hi (.inl hl) (show RelV (.ref a) (.ref a) from rfl) (fun s8 I8 => ?_) (.inr hl)
    refine wpAny_mono ((hs (X.pn ++ pins) a) [] s8 _ _ _ (I8.pnd.hand a) q) (fun f s9 z => ?_) fun _ _ z => z.elim
    have gone : ∀ {σ9 : St} {H9 : Hp} {R : Prop}, Inv ((X.pnd (X.pn ++ pins)).hand a) [] σ9 H9 s9 → (∀ s', Inv X pins (σ9.set i none) H9 s' → SP X pins D f s') → wpAny (model X.prog X.w) X.A (do bindName X.env n .none; unbindBehindTheSuite X.env n hpos) (fun _ s' => SP X pins D f s') X.xe s9 := fun {σ9 H9 _} J k =>
      unbind_ok (X := X) ((J.unhand (I.ok.pnd _)).unpnd I.ok) hN hi hl fun s' J' => k s' J'
    cases f with
    | next => obtain ⟨σ9, H9, J, w⟩ := z; exact gone (R := True) J fun s' J' => ⟨_, H9, J', w⟩
    | brk => obtain ⟨σ9, H9, J, w⟩ := z; exact gone (R := True) J fun s' J' => ⟨_, H9, J', w⟩
    | cont => obtain ⟨σ9, H9, J, w⟩ := z; exact gone (R := True) J fun s' J' => ⟨_, H9, J', w⟩
    | ret u => obtain ⟨v, σ9, H9, J, r, w⟩ := z; exact gone (R := True) J fun s' J' => ⟨v, _, H9, J', r, w⟩
end L2

set_option maxHeartbeats 1000000
namespace Mine
open PySem L2
/-! ### the nine kinds -/
inductive Kd where
  | G | D | R | s | d | r | dot | three | two
  deriving DecidableEq, Repr
def Kd.str : Kd → Str
  | .G => "G" | .D => "D" | .R => "R" | .s => "s" | .d => "d" | .r => "r" | .dot => "." | .three => "3" | .two => "2"
def Kd.cp : Kd → Nat
  | .G => 71 | .D => 68 | .R => 82 | .s => 115 | .d => 100 | .r => 114 | .dot => 46 | .three => 51 | .two => 50
def Kd.great : Kd → Bool
  | .G => true | .D => true | .R => true | _ => false
def Kd.small : Kd → Bool
  | .s => true | .d => true | .r => true | _ => false
def Kd.parting : Kd → Bool
  | .dot => true | .three => true | .two => true | _ => false
def Kd.meas : Kd → Bool
  | .three => true | .two => true | _ => false
def Kd.sounds : Kd → Bool
  | .G => true | .D => true | .s => true | .d => true | _ => false
/-- a kind that may be lacking -/
def okstr : Option Kd → Str
  | some k => k.str
  | none => ""
abbrev Sg := Kd × Int
def inS (x y : Str) : Bool := !(Builtin.Str.occurrences y x 0 y.length 1).isEmpty
/-! ### signs and lines in the heap -/
def SgAt (H : Hp) (v : V) (s : Sg) : Prop := ∃ p, v = .ref p ∧ H p = some (.tup [.str s.1.str, .int s.2])
theorem SgAt.same {H H' : Hp} {v : V} {s : Sg} (e : Same H H') (h : SgAt H v s) : SgAt H' v s := by
  obtain ⟨p, rfl, q⟩ := h
  exact ⟨p, rfl, e _ _ q⟩
abbrev Sgs (H : Hp) : List V → List Sg → Prop := Paired (SgAt H)
theorem Sgs.same {H H' : Hp} (e : Same H H') : ∀ {xs : List V} {ss : List Sg}, Sgs H xs ss → Sgs H' xs ss
  | _, _, .nil => .nil
  | _, _, .cons a b => .cons (a.same e) (Sgs.same e b)
theorem pget {α β : Type} {F : α → β → Prop} : ∀ {xs : List α} {ys : List β} {i : Nat} {x : α}, Paired F xs ys → xs[i]? = some x → ∃ y, ys[i]? = some y ∧ F x y
  | _, _, _, _, .nil, e => by simp at e
  | _, _, 0, _, .cons r _, e => by simp at e; subst e; exact ⟨_, rfl, r⟩
  | _, _, i + 1, x, .cons _ t, e => by
    obtain ⟨u, h1, h2⟩ := pget (i := i) (x := x) t (by simpa using e)
    exact ⟨u, by simpa using h1, h2⟩
theorem pgetR {α β : Type} {F : α → β → Prop} : ∀ {xs : List α} {ys : List β} {i : Nat} {y : β}, Paired F xs ys → ys[i]? = some y → ∃ x, xs[i]? = some x ∧ F x y
  | _, _, _, _, .nil, e => by simp at e
  | _, _, 0, _, .cons r _, e => by simp at e; subst e; exact ⟨_, rfl, r⟩
  | _, _, i + 1, x, .cons _ t, e => by
    obtain ⟨u, h1, h2⟩ := pgetR (i := i) t (by simpa using e)
    exact ⟨u, by simpa using h1, h2⟩
theorem plen {α β : Type} {F : α → β → Prop} {xs : List α} {ys : List β} (h : Paired F xs ys) : xs.length = ys.length := Paired.length h
theorem psnoc {α β : Type} {F : α → β → Prop} : ∀ {xs : List α} {ys : List β} {x : α} {y : β}, Paired F xs ys → F x y → Paired F (xs ++ [x]) (ys ++ [y])
  | _, _, _, _, .nil, h => .cons h .nil
  | _, _, _, _, .cons a b, h => .cons a (psnoc b h)
theorem pmono {α β : Type} {F G : α → β → Prop} (h : ∀ x y, F x y → G x y) : ∀ {xs : List α} {ys : List β}, Paired F xs ys → Paired G xs ys
  | _, _, .nil => .nil
  | _, _, .cons a b => .cons (h _ _ a) (pmono h b)
section
variable {K : PySem.W.Frag} {H : Hp} {p : Addr} {Q : VK}
/-- an item of a list, by its place -/
theorem ixL {xs : List V} {i : Int} {n : Nat} {v : V} (h : SqL K H p xs) (hn : i = n) (e : xs[n]? = some v) (q : Q v H) : rIxL K (.ref p) (.int i) H Q ∨ rIxT K (.ref p) (.int i) H Q ∨ rIxS (.ref p) (.int i) H Q := .inl ⟨p, xs, i, v, rfl, rfl, h, by rw [hn]; exact atI_nat e, q⟩
end
end Mine

set_option maxHeartbeats 1000000
namespace Mine
open PySem L2
/-! ### the reading of a line, as functions of its kinds -/
def nm (m : Int) : Kd → Int
  | .three => 3
  | .two => 2
  | _ => m
def Ms (m : Int) : Prop := m = 3 ∨ m = 2
def measL (m : Int) : List Kd → List Int
  | [] => []
  | k :: t => nm m k :: measL (nm m k) t
def pw : Kd → Int → Int
  | .G, m => if m = 2 then 2 else 3
  | .R, m => if m = 2 then 2 else 3
  | .D, _ => 2
  | .s, _ => 1
  | .d, _ => 1
  | .r, _ => 1
  | _, _ => 0
def bw (m : Int) (k : Kd) (n : Option Kd) : Int := if m = 2 ∧ k = .G ∧ n = some .dot then 3 else pw k m
def baseL (m : Int) : List Kd → List Int
  | [] => []
  | k :: t => bw (nm m k) k t.head? :: baseL (nm m k) t
def baseOn : List Kd → List Int → List Int
  | k :: t, m :: ms => bw m k t.head? :: baseOn t ms
  | _, _ => []
def inR (m : Int) (k : Kd) : Bool := decide (m ≠ 2) && k.small
def insL (m : Int) : List Kd → List Bool
  | [] => []
  | k :: t => inR (nm m k) k :: insL (nm m k) t
def insOn : List Kd → List Int → List Bool
  | k :: t, m :: ms => inR m k :: insOn t ms
  | _, _ => []
/-- the runs of a row of marks, from a place on, a run begun at `first` -/
def runsF (at' first : Nat) : List Bool → List (Nat × Nat)
  | [] => if first < at' then [(first, at')] else []
  | true :: t => runsF (at' + 1) first t
  | false :: t => (if first < at' then [(first, at')] else []) ++ runsF (at' + 1) (at' + 1) t
def runsL (m : Int) (ks : List Kd) : List (Nat × Nat) := runsF 0 0 (insL m ks)
def kAt (ks : List Kd) (i : Int) : Option Kd := if 0 ≤ i then ks[i.toNat]? else none
def greatO : Option Kd → Bool
  | some k => k.great
  | none => false
def leftN (ks : List Kd) (f : List Int) (a : Nat) : Bool := decide (kAt ks ((a : Int) - 1) = some .G) && decide (f.getD (a - 1) 0 = 3)
def rightN (ks : List Kd) (z : Nat) : Bool := decide (ks[z]? = some .G) && !greatO ks[z + 1]?
def settle1 (ks : List Kd) (f : List Int) (a z : Nat) : Bool × List Int := if leftN ks f a then (true, f.set (a - 1) 2) else if rightN ks z then (true, f.set z 2) else (false, f)
def settle2 (ks : List Kd) (f : List Int) (a z : Nat) : Bool × List Int := if greatO ks[z]? && decide (ks[z - 1]? = some .s) then (true, f.set (z - 1) 2) else if leftN ks f a && rightN ks z then (true, (f.set (a - 1) 2).set z 2) else (false, f)
def settle (ks : List Kd) (f : List Int) (a z : Nat) : Bool × List Int := if (z - a) % 3 = 1 then settle1 ks f a z else if (z - a) % 3 = 2 then settle2 ks f a z else (true, f)
abbrev RdS := List Int × List (Nat × Nat)
def rdStep (ks : List Kd) (c : RdS) (p : Nat × Nat) : RdS := ((settle ks c.1 p.1 p.2).2, if (settle ks c.1 p.1 p.2).1 then c.2 else c.2 ++ [p])
def readL (m : Int) (ks : List Kd) : RdS := (runsL m ks).foldl (rdStep ks) (baseL m ks, [])
/-- pairs of places in the heap -/
def PrAt (H : Hp) (v : V) (q : Nat × Nat) : Prop := ∃ p, v = .ref p ∧ H p = some (.tup [.int (q.1 : Int), .int (q.2 : Int)])
abbrev Prs (H : Hp) : List V → List (Nat × Nat) → Prop := Paired (PrAt H)
abbrev kds (ss : List Sg) : List Kd := ss.map Prod.fst
theorem big {n : Nat} (h : n ≤ 1000) : n ≤ sizeLine := Nat.le_of_lt (small1000 h)
def threeL (m : Int) : List Kd → List Bool
  | [] => []
  | k :: t => decide (nm m k = 3) :: threeL (nm m k) t
/-- how many marks stand at the head -/
def lead : List Bool → Nat
  | true :: t => lead t + 1
  | _ => 0
end Mine

set_option maxHeartbeats 1000000
namespace Mine
open PySem L2
/-! ### what the laws have in common -/
/-- pairs of whole numbers in the heap -/
def PrI (H : Hp) (v : V) (q : Int × Int) : Prop := ∃ p, v = .ref p ∧ H p = some (.tup [.int q.1, .int q.2])
abbrev PrsI (H : Hp) : List V → List (Int × Int) → Prop := Paired (PrI H)
/-- a law's line stands in the heap, new -/
structure LineAt (H0 H : Hp) (l : Addr) (xs : List V) (ss : List Sg) : Prop where
  same : Same H0 H
  new : H0 l = none
  at' : H l = some (.lst xs)
  sg : Sgs H xs ss
def sp_law (K : PySem.W.Frag) : Sp := fun vs H Q _ => ∃ (a : Addr) (ns : List Int), vs = [.ref a] ∧ SqL K H a (ns.map V.int) ∧ ns.length ≤ 63 ∧ ∀ H', Q (.bl true) H'
theorem law_start {K : PySem.W.Frag} {H : Hp} {a : Addr} {ns : List Int} (hl : ns.length ≤ 63) (_ : Only H) (hS : SqL K H a (ns.map V.int)) : sp_law K [.ref a] H (fun v _ => v = .bl true) fun _ _ _ => False :=
  ⟨a, ns, rfl, hS, hl, fun _ => rfl⟩
end Mine

set_option maxHeartbeats 1000000
namespace Mine
open PySem L2
/-! ### objects of a book -/
theorem lk_hit {k : Str} {v : V} {r : List (Str × V)} : ((k, v) :: r).lookup k = some v := by simp [List.lookup]
theorem lk_miss {k g : Str} {v : V} {r : List (Str × V)} (h : ¬ g = k) : ((k, v) :: r).lookup g = r.lookup g := by
  have : (g == k) = false := beq_eq_false_iff_ne.mpr h
  simp [List.lookup, this]
theorem pf_hit {k : Str} {v y : V} {r : List (Str × V)} : putF k y ((k, v) :: r) = (k, y) :: r := if_pos rfl
theorem pf_miss {k g : Str} {x y : V} {r : List (Str × V)} (h : ¬ g = k) : putF k y ((g, x) :: r) = (g, x) :: putF k y r := if_neg h
def voF (n : Str) (tm : V) (L : Addr) : List (Str × V) := [("name", V.str n), ("terms", tm), ("signs", V.ref L)]
theorem voF_name (n : Str) (tm : V) (L : Addr) : (voF n tm L).lookup ("name" : Str) = some (V.str n) := lk_hit
theorem voF_terms (n : Str) (tm : V) (L : Addr) : (voF n tm L).lookup ("terms" : Str) = some (tm) := (lk_miss (by decide +kernel)).trans (lk_hit)
theorem voF_signs (n : Str) (tm : V) (L : Addr) : (voF n tm L).lookup ("signs" : Str) = some (V.ref L) := (lk_miss (by decide +kernel)).trans ((lk_miss (by decide +kernel)).trans (lk_hit))
theorem voF_mk0 (v0 : V) : putF "name" v0 ([] : List (Str × V)) = ([("name", v0)] : List (Str × V)) := rfl
theorem voF_mk1 (v0 v1 : V) : putF "terms" v1 ([("name", v0)] : List (Str × V)) = ([("name", v0), ("terms", v1)] : List (Str × V)) := (pf_miss (by decide +kernel)).trans (congrArg _ (rfl))
theorem voF_mk2 (v0 v1 v2 : V) : putF "signs" v2 ([("name", v0), ("terms", v1)] : List (Str × V)) = ([("name", v0), ("terms", v1), ("signs", v2)] : List (Str × V)) := (pf_miss (by decide +kernel)).trans (congrArg _ ((pf_miss (by decide +kernel)).trans (congrArg _ (rfl))))
def deF (T : Addr) (at_ : Int) (B A : Addr) : List (Str × V) := [("things", V.ref T), ("at", V.int at_), ("before", V.ref B), ("after", V.ref A)]
theorem deF_things (T : Addr) (at_ : Int) (B A : Addr) : (deF T at_ B A).lookup ("things" : Str) = some (V.ref T) := lk_hit
theorem deF_at (T : Addr) (at_ : Int) (B A : Addr) : (deF T at_ B A).lookup ("at" : Str) = some (V.int at_) := (lk_miss (by decide +kernel)).trans (lk_hit)
theorem deF_before (T : Addr) (at_ : Int) (B A : Addr) : (deF T at_ B A).lookup ("before" : Str) = some (V.ref B) := (lk_miss (by decide +kernel)).trans ((lk_miss (by decide +kernel)).trans (lk_hit))
theorem deF_after (T : Addr) (at_ : Int) (B A : Addr) : (deF T at_ B A).lookup ("after" : Str) = some (V.ref A) := (lk_miss (by decide +kernel)).trans ((lk_miss (by decide +kernel)).trans ((lk_miss (by decide +kernel)).trans (lk_hit)))
theorem deF_no_do (T : Addr) (at_ : Int) (B A : Addr) : (deF T at_ B A).lookup ("do" : Str) = none := (lk_miss (by decide +kernel)).trans ((lk_miss (by decide +kernel)).trans ((lk_miss (by decide +kernel)).trans ((lk_miss (by decide +kernel)).trans (rfl))))
theorem deF_mk0 (v0 : V) : putF "things" v0 ([] : List (Str × V)) = ([("things", v0)] : List (Str × V)) := rfl
theorem deF_mk1 (v0 v1 : V) : putF "at" v1 ([("things", v0)] : List (Str × V)) = ([("things", v0), ("at", v1)] : List (Str × V)) := (pf_miss (by decide +kernel)).trans (congrArg _ (rfl))
theorem deF_mk2 (v0 v1 v2 : V) : putF "before" v2 ([("things", v0), ("at", v1)] : List (Str × V)) = ([("things", v0), ("at", v1), ("before", v2)] : List (Str × V)) := (pf_miss (by decide +kernel)).trans (congrArg _ ((pf_miss (by decide +kernel)).trans (congrArg _ (rfl))))
theorem deF_mk3 (v0 v1 v2 v3 : V) : putF "after" v3 ([("things", v0), ("at", v1), ("before", v2)] : List (Str × V)) = ([("things", v0), ("at", v1), ("before", v2), ("after", v3)] : List (Str × V)) := (pf_miss (by decide +kernel)).trans (congrArg _ ((pf_miss (by decide +kernel)).trans (congrArg _ ((pf_miss (by decide +kernel)).trans (congrArg _ (rfl))))))
def boF (V_ D U : Addr) : List (Str × V) := [("voices", V.ref V_), ("done", V.ref D), ("undone", V.ref U)]
theorem boF_voices (V_ D U : Addr) : (boF V_ D U).lookup ("voices" : Str) = some (V.ref V_) := lk_hit
theorem boF_done (V_ D U : Addr) : (boF V_ D U).lookup ("done" : Str) = some (V.ref D) := (lk_miss (by decide +kernel)).trans (lk_hit)
theorem boF_undone (V_ D U : Addr) : (boF V_ D U).lookup ("undone" : Str) = some (V.ref U) := (lk_miss (by decide +kernel)).trans ((lk_miss (by decide +kernel)).trans (lk_hit))
theorem boF_no_add_voice (V_ D U : Addr) : (boF V_ D U).lookup ("add_voice" : Str) = none := (lk_miss (by decide +kernel)).trans ((lk_miss (by decide +kernel)).trans ((lk_miss (by decide +kernel)).trans (rfl)))
theorem boF_no_add_canon (V_ D U : Addr) : (boF V_ D U).lookup ("add_canon" : Str) = none := (lk_miss (by decide +kernel)).trans ((lk_miss (by decide +kernel)).trans ((lk_miss (by decide +kernel)).trans (rfl)))
theorem boF_no_drop (V_ D U : Addr) : (boF V_ D U).lookup ("drop" : Str) = none := (lk_miss (by decide +kernel)).trans ((lk_miss (by decide +kernel)).trans ((lk_miss (by decide +kernel)).trans (rfl)))
theorem boF_no_cut (V_ D U : Addr) : (boF V_ D U).lookup ("cut" : Str) = none := (lk_miss (by decide +kernel)).trans ((lk_miss (by decide +kernel)).trans ((lk_miss (by decide +kernel)).trans (rfl)))
theorem boF_no_redo (V_ D U : Addr) : (boF V_ D U).lookup ("redo" : Str) = none := (lk_miss (by decide +kernel)).trans ((lk_miss (by decide +kernel)).trans ((lk_miss (by decide +kernel)).trans (rfl)))
theorem boF_no_names (V_ D U : Addr) : (boF V_ D U).lookup ("names" : Str) = none := (lk_miss (by decide +kernel)).trans ((lk_miss (by decide +kernel)).trans ((lk_miss (by decide +kernel)).trans (rfl)))
theorem boF_no_line (V_ D U : Addr) : (boF V_ D U).lookup ("line" : Str) = none := (lk_miss (by decide +kernel)).trans ((lk_miss (by decide +kernel)).trans ((lk_miss (by decide +kernel)).trans (rfl)))
theorem boF_no_canon (V_ D U : Addr) : (boF V_ D U).lookup ("canon" : Str) = none := (lk_miss (by decide +kernel)).trans ((lk_miss (by decide +kernel)).trans ((lk_miss (by decide +kernel)).trans (rfl)))
theorem boF_no_perform (V_ D U : Addr) : (boF V_ D U).lookup ("perform" : Str) = none := (lk_miss (by decide +kernel)).trans ((lk_miss (by decide +kernel)).trans ((lk_miss (by decide +kernel)).trans (rfl)))
theorem boF_no_put_in (V_ D U : Addr) : (boF V_ D U).lookup ("put_in" : Str) = none := (lk_miss (by decide +kernel)).trans ((lk_miss (by decide +kernel)).trans ((lk_miss (by decide +kernel)).trans (rfl)))
theorem boF_no_refuse_new (V_ D U : Addr) : (boF V_ D U).lookup ("refuse_new" : Str) = none := (lk_miss (by decide +kernel)).trans ((lk_miss (by decide +kernel)).trans ((lk_miss (by decide +kernel)).trans (rfl)))
theorem boF_no_voice_called (V_ D U : Addr) : (boF V_ D U).lookup ("voice_called" : Str) = none := (lk_miss (by decide +kernel)).trans ((lk_miss (by decide +kernel)).trans ((lk_miss (by decide +kernel)).trans (rfl)))
theorem boF_no_plain_voice (V_ D U : Addr) : (boF V_ D U).lookup ("plain_voice" : Str) = none := (lk_miss (by decide +kernel)).trans ((lk_miss (by decide +kernel)).trans ((lk_miss (by decide +kernel)).trans (rfl)))
theorem boF_mk0 (v0 : V) : putF "voices" v0 ([] : List (Str × V)) = ([("voices", v0)] : List (Str × V)) := rfl
theorem boF_mk1 (v0 v1 : V) : putF "done" v1 ([("voices", v0)] : List (Str × V)) = ([("voices", v0), ("done", v1)] : List (Str × V)) := (pf_miss (by decide +kernel)).trans (congrArg _ (rfl))
theorem boF_mk2 (v0 v1 v2 : V) : putF "undone" v2 ([("voices", v0), ("done", v1)] : List (Str × V)) = ([("voices", v0), ("done", v1), ("undone", v2)] : List (Str × V)) := (pf_miss (by decide +kernel)).trans (congrArg _ ((pf_miss (by decide +kernel)).trans (congrArg _ (rfl))))
end Mine

set_option maxHeartbeats 1000000
namespace Mine
open PySem L2
/-! ### a book: its voices, its deeds, and how it stood -/
structure Vx where
  o : Addr
  d : Addr
  n : Str
  tm : V
  l : Addr
def VxAt (C : Addr) (H : Hp) (v : V) (a : Vx) : Prop := v = .ref a.o ∧ H a.o = some (.ins C a.d (voF a.n a.tm a.l))
structure Dd where
  o : Addr
  d : Addr
  T : Addr
  i : Nat
  B : Addr
  A : Addr
  bs : List V
  as : List V
def DdAt (C : Addr) (H : Hp) (v : V) (e : Dd) : Prop := v = .ref e.o ∧ H e.o = some (.ins C e.d (deF e.T (e.i : Int) e.B e.A)) ∧ H e.B = some (.lst e.bs) ∧ H e.A = some (.lst e.as)
abbrev MM := Addr → List V
def putAt (S : MM) (T : Addr) (zs : List V) : MM := fun b => if b = T then zs else S b
theorem putAt_same {S : MM} {T : Addr} {zs : List V} : putAt S T zs T = zs := if_pos rfl
theorem putAt_ne {S : MM} {T b : Addr} {zs : List V} (h : b ≠ T) : putAt S T zs b = S b := if_neg h
def doD (e : Dd) (S : MM) : MM := putAt S e.T ((S e.T).take e.i ++ e.as ++ (S e.T).drop (e.i + e.bs.length))
def unD (e : Dd) (S : MM) : MM := putAt S e.T ((S e.T).take e.i ++ e.bs ++ (S e.T).drop (e.i + e.as.length))
def Fits (e : Dd) (S : MM) : Prop := e.i + e.bs.length ≤ (S e.T).length ∧ ((S e.T).drop e.i).take e.bs.length = e.bs
inductive Path : List MM → List Dd → MM → Prop
  | nil {M : MM} : Path [] [] M
  | snoc {Ps : List MM} {es : List Dd} {S : MM} {e : Dd} : Path Ps es S → Fits e S → Path (Ps ++ [S]) (es ++ [e]) (doD e S)
inductive Fut : MM → List Dd → List MM → Prop
  | nil {M : MM} : Fut M [] []
  | snoc {M : MM} {us : List Dd} {Fs : List MM} {e : Dd} : Fits e M → Fut (doD e M) us Fs → Fut M (us ++ [e]) (Fs ++ [doD e M])
theorem Path.len {Ps : List MM} {es : List Dd} {M : MM} (h : Path Ps es M) : Ps.length = es.length := by
  induction h with
  | nil => rfl
  | snoc _ _ ih => rw [List.length_append, List.length_append, ih]; rfl
theorem Fut.len {us : List Dd} {M : MM} {Fs : List MM} (h : Fut M us Fs) : Fs.length = us.length := by
  induction h with
  | nil => rfl
  | snoc _ _ ih => rw [List.length_append, List.length_append, ih]; rfl
/-- a good sign in the heap -/
def GoodT (s : Sg) : Prop := (s.1.sounds = true → 0 ≤ s.2 ∧ s.2 < 100) ∧ (s.1.sounds = false → s.2 = 0)
def GV (H : Hp) (v : V) : Prop := ∃ s, SgAt H v s ∧ GoodT s
structure WF (H : Hp) (L : Addr) (all : List Vx) (S : MM) : Prop where
  vs : ∃ vx : List Vx, Paired (fun v a => v = V.ref a.o ∧ a ∈ all) (S L) vx
  ln : ∀ a ∈ all, (S a.l).length ≤ 200 ∧ ∀ v ∈ S a.l, GV H v
  len : (S L).length ≤ 12
  out : ∀ b, b ≠ L → (∀ a ∈ all, b ≠ a.l) → S b = []
inductive Th where
  | pl (ss : List Sg)
  | cn (ld : Str) (lt sl : Int) (tn : Bool)
abbrev Vw := List (Str × Th)
def ThAt (H : Hp) (S : MM) (a : Vx) : Th → Prop
  | .pl ss => a.tm = .non ∧ Sgs H (S a.l) ss
  | .cn ld lt sl tn => ∃ p, a.tm = .ref p ∧ H p = some (.tup [.str ld, .int lt, .int sl, .bl tn])
def VwAt (H : Hp) (all : List Vx) (S : MM) (v : V) (q : Str × Th) : Prop := ∃ a ∈ all, v = .ref a.o ∧ a.n = q.1 ∧ ThAt H S a q.2
abbrev Is (H : Hp) (L : Addr) (all : List Vx) (S : MM) (vw : Vw) : Prop := Paired (VwAt H all S) (S L) vw
structure WFV (vw : Vw) : Prop where
  nd : (vw.map (·.1)).Nodup
  ld : ∀ n ld lt sl tn, (n, Th.cn ld lt sl tn) ∈ vw → (∃ ss, (ld, Th.pl ss) ∈ vw) ∧ 0 ≤ lt ∧ lt ≤ 999 ∧ 1 ≤ sl ∧ sl ≤ 9
  gd : ∀ n ss, (n, Th.pl ss) ∈ vw → ss.length ≤ 200 ∧ ∀ s ∈ ss, GoodT s
  len : vw.length ≤ 12
structure BkI (CB CV CD : Addr) (H : Hp) (x L D U : Addr) (all : List Vx) (M : MM) (Ps Fs : List MM) (es us : List Dd) : Prop where
  hx : ∃ dx, H x = some (.ins CB dx (boF L D U))
  hL : H L = some (.lst (M L))
  hD : ∃ xs, H D = some (.lst xs) ∧ Paired (DdAt CD H) xs es
  hU : ∃ xs, H U = some (.lst xs) ∧ Paired (DdAt CD H) xs us
  ha : ∀ a ∈ all, H a.o = some (.ins CV a.d (voF a.n a.tm a.l)) ∧ H a.l = some (.lst (M a.l))
  LD : L ≠ D
  LU : L ≠ U
  DU : D ≠ U
  nl : ∀ a ∈ all, a.l ≠ L ∧ a.l ≠ D ∧ a.l ≠ U
  ni : ∀ a ∈ all, ∀ b ∈ all, a.l = b.l → a = b
  no : ∀ a ∈ all, ∀ b ∈ all, a.o = b.o → a = b
  dd : ∀ e, e ∈ es ∨ e ∈ us → (e.T = L ∨ ∃ a ∈ all, e.T = a.l) ∧ (e.B ≠ L ∧ e.B ≠ D ∧ e.B ≠ U ∧ ∀ a ∈ all, e.B ≠ a.l) ∧ (e.A ≠ L ∧ e.A ≠ D ∧ e.A ≠ U ∧ ∀ a ∈ all, e.A ≠ a.l) ∧ e.bs.length ≤ 1 ∧ e.as.length ≤ 1
  past : Path Ps es M
  fut : Fut M us Fs
  wf : ∀ S, S ∈ Ps ∨ S = M ∨ S ∈ Fs → WF H L all S
/-- the lists that are a book's own -/
structure Foot (F : Addr → Prop) (L D U : Addr) (all : List Vx) (es us : List Dd) : Prop where
  L : F L
  D : F D
  U : F U
  l : ∀ a ∈ all, F a.l
  d : ∀ e, e ∈ es ∨ e ∈ us → F e.B ∧ F e.A
structure Bk (CB CV CD : Addr) (H : Hp) (x : Addr) (F : Addr → Prop) (vw : Vw) (ps fs : List Vw) : Prop where
  ex : ∃ (L D U : Addr) (all : List Vx) (M : MM) (Ps Fs : List MM) (es us : List Dd), BkI CB CV CD H x L D U all M Ps Fs es us ∧ Is H L all M vw ∧ Paired (Is H L all) Ps ps ∧ Paired (Is H L all) Fs fs ∧ Foot F L D U all es us
  wv : ∀ v, v ∈ ps ∨ v = vw ∨ v ∈ fs → WFV v
/-- all stays but lists that are not the book's -/
def Kept (F : Addr → Prop) (H H' : Hp) : Prop := ∀ y o, H y = some o → (F y ∨ ∀ xs, o ≠ .lst xs) → H' y = some o
theorem Kept.same {F : Addr → Prop} {H H' : Hp} (s : Same H H') : Kept F H H' := fun y o e _ => s y o e
section
variable {CB CV CD : Addr} {H H' : Hp} {x L D U : Addr} {all : List Vx} {M S : MM} {Ps Fs : List MM} {es us : List Dd} {F : Addr → Prop} {vw : Vw} {ps fs : List Vw}
theorem Kept.sgs (k : Kept F H H') {xs : List V} {ss : List Sg} (h : Sgs H xs ss) : Sgs H' xs ss := pmono (fun _ _ ⟨p, e1, e2⟩ => ⟨p, e1, k _ _ e2 (.inr fun _ z => nomatch z)⟩) h
theorem Kept.gv (k : Kept F H H') {v : V} (h : GV H v) : GV H' v := by
  obtain ⟨s, ⟨p, e1, e2⟩, g⟩ := h
  exact ⟨s, ⟨p, e1, k _ _ e2 (.inr fun _ z => nomatch z)⟩, g⟩
theorem WF.kept (k : Kept F H H') (h : WF H L all S) : WF H' L all S := ⟨h.vs, fun a ha => ⟨(h.ln a ha).1, fun v hv => k.gv ((h.ln a ha).2 v hv)⟩, h.len, h.out⟩
theorem VwAt.kept (k : Kept F H H') {v : V} {q : Str × Th} (h : VwAt H all S v q) : VwAt H' all S v q := by
  obtain ⟨a, ha, e1, e2, t⟩ := h
  refine ⟨a, ha, e1, e2, ?_⟩
  cases hq : q.2 with
  | pl ss => rw [hq] at t; exact ⟨t.1, k.sgs t.2⟩
  | cn ld lt sl tn =>
    rw [hq] at t
    obtain ⟨p, e3, e4⟩ := t
    exact ⟨p, e3, k _ _ e4 (.inr fun _ z => nomatch z)⟩
theorem Is.kept (k : Kept F H H') (h : Is H L all S vw) : Is H' L all S vw := pmono (fun _ _ q => VwAt.kept k q) h
theorem ddAt_kept (k : Kept F H H') {v : V} {e : Dd} (f : F e.B ∧ F e.A) (h : DdAt CD H v e) : DdAt CD H' v e := ⟨h.1, k _ _ h.2.1 (.inr fun _ z => nomatch z), k _ _ h.2.2.1 (.inl f.1), k _ _ h.2.2.2 (.inl f.2)⟩
theorem pmonoM {α β : Type} {F G : α → β → Prop} : ∀ {xs : List α} {ys : List β}, (∀ x y, y ∈ ys → F x y → G x y) → Paired F xs ys → Paired G xs ys
  | _, _, _, .nil => .nil
  | _, _, h, .cons a b => .cons (h _ _ (List.mem_cons_self ..) a) (pmonoM (fun x y hy => h x y (List.mem_cons_of_mem _ hy)) b)
theorem BkI.kept (h : BkI CB CV CD H x L D U all M Ps Fs es us) (f : Foot F L D U all es us) (k : Kept F H H') : BkI CB CV CD H' x L D U all M Ps Fs es us :=
  { h with
    hx := let ⟨dx, e⟩ := h.hx; ⟨dx, k _ _ e (.inr fun _ z => nomatch z)⟩
    hL := k _ _ h.hL (.inl f.L)
    hD := let ⟨xs, e, p⟩ := h.hD; ⟨xs, k _ _ e (.inl f.D), pmonoM (fun _ e he q => ddAt_kept k (f.d e (.inl he)) q) p⟩
    hU := let ⟨xs, e, p⟩ := h.hU; ⟨xs, k _ _ e (.inl f.U), pmonoM (fun _ e he q => ddAt_kept k (f.d e (.inr he)) q) p⟩
    ha := fun a m => ⟨k _ _ (h.ha a m).1 (.inr fun _ z => nomatch z), k _ _ (h.ha a m).2 (.inl (f.l a m))⟩
    wf := fun S hS => (h.wf S hS).kept k }
theorem Bk.kept (h : Bk CB CV CD H x F vw ps fs) (k : Kept F H H') : Bk CB CV CD H' x F vw ps fs := by
  obtain ⟨L, D, U, all, M, Ps, Fs, es, us, b, i, pp, pf, f⟩ := h.ex
  exact ⟨⟨L, D, U, all, M, Ps, Fs, es, us, b.kept f k, Is.kept k i, pmono (fun _ _ q => Is.kept k q) pp, pmono (fun _ _ q => Is.kept k q) pf, f⟩, h.wv⟩
theorem Bk.same (h : Bk CB CV CD H x F vw ps fs) (s : Same H H') : Bk CB CV CD H' x F vw ps fs := h.kept (.same s)
/-- the objects of the voices that stand -/
theorem BkI.voices (b : BkI CB CV CD H x L D U all M Ps Fs es us) (i : Is H L all M vw) : ∃ vx : List Vx, Paired (VxAt CV H) (M L) vx ∧ Paired (fun a q => a ∈ all ∧ a.n = q.1 ∧ ThAt H M a q.2) vx vw := by
  have go : ∀ {xs : List V} {vw : Vw}, Paired (VwAt H all M) xs vw → ∃ vx : List Vx, Paired (VxAt CV H) xs vx ∧ Paired (fun a q => a ∈ all ∧ a.n = q.1 ∧ ThAt H M a q.2) vx vw := by
    intro xs vw h
    induction h with
    | nil => exact ⟨[], .nil, .nil⟩
    | cons q _ ih =>
      obtain ⟨a, ha, e1, e2, e3⟩ := q
      obtain ⟨vx, p1, p2⟩ := ih
      exact ⟨a :: vx, .cons ⟨e1, (b.ha a ha).1⟩ p1, .cons ⟨ha, e2, e3⟩ p2⟩
  exact go i
def DdOk (L D U : Addr) (all : List Vx) (e : Dd) : Prop := (e.T = L ∨ ∃ a ∈ all, e.T = a.l) ∧ (e.B ≠ L ∧ e.B ≠ D ∧ e.B ≠ U ∧ ∀ a ∈ all, e.B ≠ a.l) ∧ (e.A ≠ L ∧ e.A ≠ D ∧ e.A ≠ U ∧ ∀ a ∈ all, e.A ≠ a.l) ∧ e.bs.length ≤ 1 ∧ e.as.length ≤ 1
theorem BkI.lists (b : BkI CB CV CD H x L D U all M Ps Fs es us) {T : Addr} (tg : T = L ∨ ∃ a ∈ all, T = a.l) : H T = some (.lst (M T)) ∧ T ≠ D ∧ T ≠ U := by
  rcases tg with rfl | ⟨a, ha, rfl⟩
  · exact ⟨b.hL, b.LD, b.LU⟩
  · exact ⟨(b.ha a ha).2, (b.nl a ha).2.1, (b.nl a ha).2.2⟩
/-- the three lists of a deed are written -/
theorem BkI.chg (b : BkI CB CV CD H x L D U all M Ps Fs es us) {T : Addr} (tg : T = L ∨ ∃ a ∈ all, T = a.l) {H2 : Hp} (fr : ∀ y o, H y = some o → y ≠ T → y ≠ D → y ≠ U → H2 y = some o) {M' : MM} (m1 : ∀ c, c ≠ T → M' c = M c) (hT : H2 T = some (.lst (M' T)))
    {dx : List V} {es' : List Dd} (hD : H2 D = some (.lst dx)) (pD : Paired (DdAt CD H) dx es') {ux : List V} {us' : List Dd} (hU : H2 U = some (.lst ux)) (pU : Paired (DdAt CD H) ux us') (dd' : ∀ e, e ∈ es' ∨ e ∈ us' → DdOk L D U all e)
    {Ps' Fs' : List MM} (past' : Path Ps' es' M') (fut' : Fut M' us' Fs') (wf' : ∀ S, S ∈ Ps' ∨ S = M' ∨ S ∈ Fs' → WF H L all S) : BkI CB CV CD H2 x L D U all M' Ps' Fs' es' us' ∧ Kept (fun _ => False) H H2 := by
  obtain ⟨hT0, TD, TU⟩ := b.lists tg
  obtain ⟨dx0, hD0, _⟩ := b.hD
  obtain ⟨ux0, hU0, _⟩ := b.hU
  have kN : ∀ y o, H y = some o → (∀ zs, o ≠ .lst zs) → H2 y = some o := fun y o hy hn => fr y o hy
    (fun e => by rw [e, hT0] at hy; cases hy; exact hn _ rfl) (fun e => by rw [e, hD0] at hy; cases hy; exact hn _ rfl) (fun e => by rw [e, hU0] at hy; cases hy; exact hn _ rfl)
  have k : Kept (fun _ => False) H H2 := fun y o hy h => kN y o hy (h.elim False.elim id)
  have dk : ∀ {v e}, DdOk L D U all e → DdAt CD H v e → DdAt CD H2 v e := fun {v e} ok h => by
    have nT : ∀ {c : Addr}, c ≠ L ∧ c ≠ D ∧ c ≠ U ∧ (∀ a ∈ all, c ≠ a.l) → c ≠ T := fun {c} q z => by
      rcases tg with rfl | ⟨a, ha, rfl⟩
      · exact q.1 z
      · exact q.2.2.2 a ha z
    exact ⟨h.1, kN _ _ h.2.1 (fun _ z => nomatch z), fr _ _ h.2.2.1 (nT ok.2.1) ok.2.1.2.1 ok.2.1.2.2.1, fr _ _ h.2.2.2 (nT ok.2.2.1) ok.2.2.1.2.1 ok.2.2.1.2.2.1⟩
  have at_ : ∀ {c : Addr}, (c = L ∨ ∃ a ∈ all, c = a.l) → H2 c = some (.lst (M' c)) := fun {c} hc => by
    by_cases e : c = T
    · rw [e]; exact hT
    · obtain ⟨h1, h2, h3⟩ := b.lists hc
      rw [m1 c e]
      exact fr _ _ h1 e h2 h3
  refine ⟨{ hx := let ⟨dx, e⟩ := b.hx; ⟨dx, kN _ _ e (fun _ z => nomatch z)⟩
            hL := at_ (.inl rfl)
            hD := ⟨_, hD, pmonoM (fun _ e he q => dk (dd' e (.inl he)) q) pD⟩
            hU := ⟨_, hU, pmonoM (fun _ e he q => dk (dd' e (.inr he)) q) pU⟩
            ha := fun a ha => ⟨kN _ _ (b.ha a ha).1 (fun _ z => nomatch z), at_ (.inr ⟨a, ha, rfl⟩)⟩
            LD := b.LD, LU := b.LU, DU := b.DU, nl := b.nl, ni := b.ni, no := b.no, dd := dd'
            past := past'
            fut := fut'
            wf := fun S hS => (wf' S hS).kept k }, k⟩
/-- a voice is made -/
theorem BkI.grow (b : BkI CB CV CD H x L D U all M Ps Fs es us) {a : Vx} {H1 : Hp} (s : Same H H1) (n1 : H a.o = none) (n2 : H a.l = none) (h1 : H1 a.o = some (.ins CV a.d (voF a.n a.tm a.l))) (h2 : H1 a.l = some (.lst [])) : BkI CB CV CD H1 x L D U (all ++ [a]) M Ps Fs es us := by
  have b1 := b.kept (F := fun _ => True) ⟨trivial, trivial, trivial, fun _ _ => trivial, fun _ _ => ⟨trivial, trivial⟩⟩ (.same s)
  obtain ⟨dx0, hD0, pD0⟩ := b.hD
  obtain ⟨ux0, hU0, pU0⟩ := b.hU
  have nL : a.l ≠ L := Ne.symm (ne_of_none b.hL n2)
  have nD : a.l ≠ D := Ne.symm (ne_of_none hD0 n2)
  have nU : a.l ≠ U := Ne.symm (ne_of_none hU0 n2)
  have nA : ∀ c ∈ all, a.l ≠ c.l := fun c hc => Ne.symm (ne_of_none (b.ha c hc).2 n2)
  have nO : ∀ c ∈ all, a.o ≠ c.o := fun c hc => Ne.symm (ne_of_none (b.ha c hc).1 n1)
  have mem : ∀ {c : Vx}, c ∈ all ++ [a] → c ∈ all ∨ c = a := fun h => by simpa using h
  have wf2 : ∀ S, WF H1 L all S → WF H1 L (all ++ [a]) S := fun S w =>
    { vs := let ⟨vx, p⟩ := w.vs; ⟨vx, pmono (fun _ _ q => ⟨q.1, List.mem_append_left _ q.2⟩) p⟩
      ln := fun c hc => by
        rcases mem hc with hc | rfl
        · exact w.ln c hc
        · have e : S c.l = [] := w.out c.l nL fun d hd => nA d hd
          rw [e]
          exact ⟨Nat.zero_le _, fun _ z => nomatch z⟩
      len := w.len
      out := fun c h h' => w.out c h fun d hd => h' d (List.mem_append_left _ hd) }
  have dds : ∀ {v e}, DdAt CD H v e → e.B ≠ a.l ∧ e.A ≠ a.l := fun h => ⟨ne_of_none h.2.2.1 n2, ne_of_none h.2.2.2 n2⟩
  have ddn : ∀ e, e ∈ es ∨ e ∈ us → e.B ≠ a.l ∧ e.A ≠ a.l := fun e he => by
    rcases he with he | he
    · obtain ⟨i, hi⟩ := List.getElem?_of_mem he
      obtain ⟨v, _, q⟩ := pgetR pD0 hi
      exact dds q
    · obtain ⟨i, hi⟩ := List.getElem?_of_mem he
      obtain ⟨v, _, q⟩ := pgetR pU0 hi
      exact dds q
  exact { b1 with
    ha := fun c hc => by
      rcases mem hc with hc | rfl
      · exact b1.ha c hc
      · refine ⟨h1, ?_⟩
        rw [(b.wf M (.inr (.inl rfl))).out c.l nL fun d hd => nA d hd]
        exact h2
    nl := fun c hc => by
      rcases mem hc with hc | rfl
      · exact b1.nl c hc
      · exact ⟨nL, nD, nU⟩
    ni := fun c hc d hd e => by
      rcases mem hc with z1 | z1 <;> rcases mem hd with z2 | z2
      · exact b1.ni c z1 d z2 e
      · rw [z2] at e; exact absurd e.symm (nA c z1)
      · rw [z1] at e; exact absurd e (nA d z2)
      · rw [z1, z2]
    no := fun c hc d hd e => by
      rcases mem hc with z1 | z1 <;> rcases mem hd with z2 | z2
      · exact b1.no c z1 d z2 e
      · rw [z2] at e; exact absurd e.symm (nO c z1)
      · rw [z1] at e; exact absurd e (nO d z2)
      · rw [z1, z2]
    dd := fun e he => by
      obtain ⟨q1, q2, q3, q4⟩ := b1.dd e he
      refine ⟨q1.imp id fun ⟨c, hc, z⟩ => ⟨c, List.mem_append_left _ hc, z⟩, ⟨q2.1, q2.2.1, q2.2.2.1, fun c hc => ?_⟩, ⟨q3.1, q3.2.1, q3.2.2.1, fun c hc => ?_⟩, q4⟩
      · rcases mem hc with hc | rfl
        · exact q2.2.2.2 c hc
        · exact (ddn e he).1
      · rcases mem hc with hc | rfl
        · exact q3.2.2.2 c hc
        · exact (ddn e he).2
    wf := fun S hS => wf2 S (b1.wf S hS) }
theorem Is.grow {a : Vx} (h : Is H L all S vw) : Is H L (all ++ [a]) S vw := pmono (fun _ _ ⟨c, hc, q⟩ => ⟨c, List.mem_append_left _ hc, q⟩) h
end
end Mine

set_option maxHeartbeats 1000000
namespace Mine
open PySem L2
section
variable {CB CV CD : Addr} {H H1 H2 H' : Hp} {x L D U : Addr} {all : List Vx} {M S : MM} {Ps Fs : List MM} {es us : List Dd} {F : Addr → Prop} {vw vw' : Vw} {ps fs : List Vw}
/-- a new deed -/
theorem Bk.deed (b : BkI CB CV CD H1 x L D U all M Ps Fs es us) (i : Is H1 L all M vw) (pp : Paired (Is H1 L all) Ps ps) (f : Foot F L D U all es us) (wv : ∀ v, v ∈ ps ∨ v = vw → WFV v) {e : Dd} (hd : DdAt CD H1 (.ref e.o) e) (ok : DdOk L D U all e) (ft : Fits e M) (w : WF H1 L all (doD e M))
    (i' : Is H1 L all (doD e M) vw') (wv' : WFV vw') {dx : List V} (pD : Paired (DdAt CD H1) dx es) (fr : ∀ y o, H1 y = some o → y ≠ e.T → y ≠ D → y ≠ U → H2 y = some o) (hT : H2 e.T = some (.lst (doD e M e.T))) (hD2 : H2 D = some (.lst (dx ++ [.ref e.o]))) (hU2 : H2 U = some (.lst [])) :
    Bk CB CV CD H2 x (fun y => F y ∨ y = e.B ∨ y = e.A) vw' (ps ++ [vw]) [] := by
  obtain ⟨b2, k⟩ := b.chg ok.1 fr (M' := doD e M) (fun c hc => putAt_ne hc) hT hD2 (psnoc pD hd) hU2 .nil (fun e' he => by
    rcases he with he | he
    · rcases List.mem_append.mp he with he | he
      · exact b.dd e' (.inl he)
      · rw [List.mem_singleton.mp he]; exact ok
    · cases he) (b.past.snoc ft) .nil (fun S hS => by
    rcases hS with hS | hS | hS
    · rcases List.mem_append.mp hS with hS | hS
      · exact b.wf S (.inl hS)
      · exact b.wf S (.inr (.inl (List.mem_singleton.mp hS)))
    · rw [hS]; exact w
    · cases hS)
  refine ⟨⟨L, D, U, all, _, _, _, _, _, b2, Is.kept k i', psnoc (pmono (fun _ _ q => Is.kept k q) pp) (Is.kept k i), .nil, ⟨.inl f.L, .inl f.D, .inl f.U, fun a ha => .inl (f.l a ha), fun e' he => ?_⟩⟩, fun v hv => ?_⟩
  · rcases he with he | he
    · rcases List.mem_append.mp he with he | he
      · exact ⟨.inl (f.d e' (.inl he)).1, .inl (f.d e' (.inl he)).2⟩
      · rw [List.mem_singleton.mp he]; exact ⟨.inr (.inl rfl), .inr (.inr rfl)⟩
    · cases he
  · rcases hv with hv | hv | hv
    · rcases List.mem_append.mp hv with hv | hv
      · exact wv v (.inl hv)
      · exact wv v (.inr (List.mem_singleton.mp hv))
    · rw [hv]; exact wv'
    · cases hv
/-! ### views -/
def findV (vw : Vw) (n : Str) : Option Th := (vw.find? fun q => decide (q.1 = n)).map (·.2)
def setV (vw : Vw) (n : Str) (th : Th) : Vw := vw.map fun q => if q.1 = n then (n, th) else q
theorem findV_mem {n : Str} {th : Th} (h : findV vw n = some th) : (n, th) ∈ vw := by
  unfold findV at h
  cases e : vw.find? (fun q => decide (q.1 = n)) with
  | none => rw [e] at h; cases h
  | some q =>
    rw [e] at h
    have h1 := List.mem_of_find?_eq_some e
    have h2 := List.find?_some e
    have h3 : q.1 = n := of_decide_eq_true h2
    have h4 : q.2 = th := Option.some.inj h
    rw [← h3, ← h4]
    exact h1
theorem findV_none {n : Str} (h : findV vw n = none) : ∀ q ∈ vw, q.1 ≠ n := by
  unfold findV at h
  rw [Option.map_eq_none_iff] at h
  intro q hq e
  exact List.find?_eq_none.mp h q hq (decide_eq_true e)
theorem WFV.addPl (w : WFV vw) {n : Str} (hn : ∀ q ∈ vw, q.1 ≠ n) (hl : vw.length < 12) : WFV (vw ++ [(n, .pl [])]) where
  nd := by
    rw [List.map_append, List.nodup_append]
    refine ⟨w.nd, by simp, ?_⟩
    intro a ha c hc e
    obtain ⟨q, hq, e1⟩ := List.mem_map.mp ha
    have : c = n := by simpa using hc
    exact hn q hq (by rw [e1, e, this])
  ld := fun m ld lt sl tn hm => by
    rcases List.mem_append.mp hm with hm | hm
    · obtain ⟨⟨s0, h0⟩, r⟩ := w.ld m ld lt sl tn hm
      exact ⟨⟨s0, List.mem_append_left _ h0⟩, r⟩
    · have := List.mem_singleton.mp hm
      cases this
  gd := fun m s0 hm => by
    rcases List.mem_append.mp hm with hm | hm
    · exact w.gd m s0 hm
    · have := List.mem_singleton.mp hm
      cases this
      exact ⟨Nat.zero_le _, fun _ z => nomatch z⟩
  len := by rw [List.length_append]; exact hl
theorem WFV.addCn (w : WFV vw) {n ld : Str} {lt sl : Int} {tn : Bool} {ss : List Sg} (hn : ∀ q ∈ vw, q.1 ≠ n) (hl : vw.length < 12) (h : (ld, Th.pl ss) ∈ vw) (h1 : 0 ≤ lt) (h2 : lt ≤ 999) (h3 : 1 ≤ sl) (h4 : sl ≤ 9) : WFV (vw ++ [(n, .cn ld lt sl tn)]) where
  nd := by
    rw [List.map_append, List.nodup_append]
    refine ⟨w.nd, by simp, ?_⟩
    intro a ha c hc e
    obtain ⟨q, hq, e1⟩ := List.mem_map.mp ha
    have : c = n := by simpa using hc
    exact hn q hq (by rw [e1, e, this])
  ld := fun m l2 t2 s2 n2 hm => by
    rcases List.mem_append.mp hm with hm | hm
    · obtain ⟨⟨s0, h0⟩, r⟩ := w.ld m l2 t2 s2 n2 hm
      exact ⟨⟨s0, List.mem_append_left _ h0⟩, r⟩
    · have := List.mem_singleton.mp hm
      cases this
      exact ⟨⟨ss, List.mem_append_left _ h⟩, h1, h2, h3, h4⟩
  gd := fun m s0 hm => by
    rcases List.mem_append.mp hm with hm | hm
    · exact w.gd m s0 hm
    · have := List.mem_singleton.mp hm
      cases this
  len := by rw [List.length_append]; exact hl
end
end Mine

set_option maxHeartbeats 1000000
namespace Mine
open PySem L2
/-! ### signs with any text as their kind -/
abbrev Sn := Str × Int
def soundV : List V := [.str "G", .str "D", .str "s", .str "d"]
def silentV : List V := [.str "R", .str "r", .str ".", .str "3", .str "2"]
def goodB (s : Sn) : Bool := if inV (.str s.1) soundV = true then (if decide (0 ≤ s.2) = true then decide (s.2 ≤ 99) else false) else (if inV (.str s.1) silentV = true then decide (s.2 = 0) else false)
def fig (n : Int) : Str := Str.ofString (toString n)
def wordN (s : Sn) : Str := if inV (.str s.1) soundV = true then s.1 ++ fig s.2 else s.1
def SnAt (H : Hp) (v : V) (s : Sn) : Prop := ∃ p, v = .ref p ∧ H p = some (.tup [.str s.1, .int s.2])
end Mine

set_option maxHeartbeats 1000000
namespace Mine
open PySem L2
/-! ### the classes of a book and its refusals -/
inductive Rf where
  | BadSign | BadName | NameTaken | Full | NoVoice | NotPlain | NoPlace | BadTerm | Leaned | NoMore
structure Cs where
  B : Addr
  V : Addr
  D : Addr
  on : Bool
  x : Rf → Addr
/-- a refusal that comes out, where refusals are told at all -/
def RX (E : XK) (c : Cs) (r : Rf) (H : Hp) : Prop := c.on = true ∧ E (.ref (c.x r)) none H
abbrev BkC (c : Cs) := Bk c.B c.V c.D
def Fr (F : Addr → Prop) (H H' : Hp) : Prop := ∀ y o, H y = some o → ¬ F y → H' y = some o
def Gr (F F' : Addr → Prop) (H : Hp) : Prop := ∀ y, F' y → F y ∨ H y = none
theorem Gr.old {F F' : Addr → Prop} {H H' : Hp} (s : Same H H') (g : Gr F F' H') : Gr F F' H := fun y z => (g y z).imp id fun q => s.free q
/-! ### names and signs -/
def nameB (x : Str) : Bool := decide (1 ≤ x.length) && (decide (x.length ≤ 8) && x.cps.toList.all fun c => inS ⟨#[c]⟩ "abcdefghijklmnopqrstuvwxyz")
/-! ### lines and worths of a view -/
def turnK : Kd → Kd
  | .three => .two
  | .two => .three
  | k => k
def turnS (s : Sg) : Sg := (turnK s.1, s.2)
def lineV (vw : Vw) (n : Str) : List Sg := match findV vw n with
  | some (.pl ss) => ss
  | some (.cn ld _ _ tn) => match findV vw ld with
    | some (.pl ss) => if tn then ss.map turnS else ss
    | _ => []
  | none => []
def keptV (vw : Vw) (n : Str) : List Int := match findV vw n with
  | some (.pl ss) => (readL 3 (kds ss)).1
  | some (.cn ld _ sl tn) => match findV vw ld with
    | some (.pl ss) => (readL (if tn then 2 else 3) (kds (if tn then ss.map turnS else ss))).1.map fun w => sl * w
    | _ => []
  | none => []
theorem mkSame {H H' : Hp} {x dx C : Addr} (hx : H x = none) (hdx : H dx = none) (kp : ∀ y o, (upd (upd H dx (.own x)) x (.ins C dx [])) y = some o → y ≠ x → H' y = some o) : Same H H' := fun y o hy =>
  kp y o (by rw [upd_ne (ne_of_none hy hx), upd_ne (ne_of_none hy hdx)]; exact hy) (ne_of_none hy hx)
theorem mkFree {H : Hp} {x dx D : Addr} {o1 o2 : HO} (h : upd (upd H dx o1) x o2 D = none) : H D = none := by
  unfold upd at h
  split at h
  · cases h
  · split at h
    · cases h
    · exact h
theorem updFree {H : Hp} {B A : Addr} {o : HO} (h : upd H B o A = none) : H A = none := by
  unfold upd at h
  split at h
  · cases h
  · exact h
theorem modN (z : Int) {k : Int} (hk : 0 < k) : ∃ m : Nat, z % k = (m : Int) ∧ (m : Int) < k := by
  have z1 := Int.emod_nonneg z (show k ≠ 0 by omega)
  have z2 := Int.emod_lt_of_pos z hk
  exact ⟨(z % k).toNat, by omega, by omega⟩
/-- the empty book -/
theorem Bk.new {c : Cs} {H : Hp} {x dx L D U : Addr} (hx : H x = some (.ins c.B dx (boF L D U))) (hL : H L = some (.lst [])) (hD : H D = some (.lst [])) (hU : H U = some (.lst [])) (LD : L ≠ D) (LU : L ≠ U) (DU : D ≠ U) : BkC c H x (fun y => y = L ∨ y = D ∨ y = U) [] [] [] where
  ex := ⟨L, D, U, [], fun _ => [], [], [], [], [],
    { hx := ⟨dx, hx⟩, hL := hL, hD := ⟨[], hD, .nil⟩, hU := ⟨[], hU, .nil⟩, ha := fun _ h => (nomatch h), LD := LD, LU := LU, DU := DU, nl := fun _ h => (nomatch h), ni := fun _ h => (nomatch h), no := fun _ h => (nomatch h)
      dd := fun _ h => h.elim (fun z => (nomatch z)) fun z => (nomatch z)
      past := .nil
      fut := .nil
      wf := fun S hS => by
        rcases hS with hS | hS | hS
        · cases hS
        · subst hS
          exact ⟨⟨[], .nil⟩, fun _ h => (nomatch h), Nat.zero_le _, fun _ _ _ => rfl⟩
        · cases hS },
    .nil, .nil, .nil, ⟨.inl rfl, .inr (.inl rfl), .inr (.inr rfl), fun _ h => (nomatch h), fun _ h => h.elim (fun z => (nomatch z)) fun z => (nomatch z)⟩⟩
  wv := fun v hv => by
    rcases hv with hv | hv | hv
    · cases hv
    · subst hv
      exact ⟨.nil, fun _ _ _ _ _ h => (nomatch h), fun _ _ h => (nomatch h), Nat.zero_le _⟩
    · cases hv
theorem pnames {R : Vx → Str × Th → Prop} {vx : List Vx} {vw : Vw} (h : Paired R vx vw) (hn : ∀ a q, R a q → a.n = q.1) : vx.map (fun a => V.str a.n) = vw.map (fun a => V.str a.1) := by
  induction h with
  | nil => rfl
  | cons r _ ih => rw [List.map_cons, List.map_cons, ih, hn _ _ r]
theorem pfind {vx : List Vx} {vw : Vw} {R : Vx → Str × Th → Prop} (h : Paired R vx vw) (hn : ∀ a q, R a q → a.n = q.1) (n : Str) :
    (vx.find? (fun a => decide (a.n = n)) = none ∧ findV vw n = none) ∨ ∃ a th, ∃ j : Nat, vx.find? (fun a => decide (a.n = n)) = some a ∧ findV vw n = some th ∧ R a (n, th) ∧ a.n = n ∧ vx[j]? = some a ∧ vw[j]? = some (n, th) := by
  induction h with
  | nil => exact .inl ⟨rfl, rfl⟩
  | @cons a q as qs r t ih =>
    have e := hn a q r
    by_cases hq : q.1 = n
    · refine .inr ⟨a, q.2, 0, ?_, ?_, ?_, e.trans hq, rfl, by rw [← hq]; rfl⟩
      · rw [List.find?_cons_of_pos]
        exact decide_eq_true (e.trans hq)
      · unfold findV
        rw [List.find?_cons_of_pos (p := fun q : Str × Th => decide (q.1 = n)) (decide_eq_true hq)]
        rfl
      · rw [← hq]; exact r
    · have h1 : ¬ decide (a.n = n) = true := fun z => hq (e ▸ of_decide_eq_true z)
      have h2 : ¬ decide (q.1 = n) = true := fun z => hq (of_decide_eq_true z)
      have f1 : (a :: as).find? (fun a => decide (a.n = n)) = as.find? (fun a => decide (a.n = n)) := List.find?_cons_of_neg h1
      have f2 : findV (q :: qs) n = findV qs n := by
        unfold findV
        rw [List.find?_cons_of_neg (p := fun q : Str × Th => decide (q.1 = n)) h2]
      rw [f1, f2]
      exact ih.imp id fun ⟨a, th, j, h1, h2, h3, h4, h5, h6⟩ => ⟨a, th, j + 1, h1, h2, h3, h4, by simpa using h5, by simpa using h6⟩
/-- a voice that is new stands behind the others -/
theorem Bk.added {c : Cs} {H H1 H2 H' : Hp} {x L D U : Addr} {all : List Vx} {M : MM} {Ps Fs : List MM} {es us : List Dd} {F : Addr → Prop} {vw : Vw} {ps fs : List Vw} (b : BkI c.B c.V c.D H x L D U all M Ps Fs es us) (i : Is H L all M vw) (pp : Paired (Is H L all) Ps ps) (f : Foot F L D U all es us) (wv : ∀ v, v ∈ ps ∨ v = vw ∨ v ∈ fs → WFV v)
    {a : Vx} {th : Th} (s1 : Same H H1) (n1 : H a.o = none) (n2 : H a.l = none) (h1 : H1 a.o = some (.ins c.V a.d (voF a.n a.tm a.l))) (h2 : H1 a.l = some (.lst [])) (ht : ∀ M', M' a.l = [] → ThAt H1 M' a th) (w' : WFV (vw ++ [(a.n, th)]))
    {e : Dd} (eT : e.T = L) (ei : e.i = (M L).length) (eb : e.bs = []) (ea : e.as = [.ref a.o]) (s2 : Same H1 H2) (nB : H1 e.B = none) (nA : H1 e.A = none) (hd : DdAt c.D H2 (.ref e.o) e) {ds : List V} (hD : H D = some (.lst ds)) (pD : Paired (DdAt c.D H) ds es)
    (fr : ∀ y o, H2 y = some o → y ≠ L → y ≠ D → y ≠ U → H' y = some o) (hL' : H' L = some (.lst (M L ++ [.ref a.o]))) (hD' : H' D = some (.lst (ds ++ [.ref e.o]))) (hU' : H' U = some (.lst [])) :
    ∃ F', Gr F F' H ∧ Fr F H H' ∧ BkC c H' x F' (vw ++ [(a.n, th)]) (ps ++ [vw]) [] := by
  have s12 := s1.trans s2
  have kT : Kept (fun _ => True) H H2 := .same s12
  have b2 := (b.grow s1 n1 n2 h1 h2).kept (F := fun _ => True) ⟨trivial, trivial, trivial, fun _ _ => trivial, fun _ _ => ⟨trivial, trivial⟩⟩ (.same s2)
  have w2 := w'.len
  rw [List.length_append] at w2
  have ll := plen i
  have w2' : vw.length + 1 ≤ 12 := w2
  have hM : doD e M L = M L ++ [.ref a.o] := by
    unfold doD
    rw [eT, putAt_same, ei, eb, ea]
    simp
  have mo : ∀ y, y ≠ L → doD e M y = M y := fun y hy => by
    unfold doD
    exact putAt_ne (by rw [eT]; exact hy)
  have wM := b2.wf M (.inr (.inl rfl))
  have naL : ∀ z ∈ all ++ [a], z.l ≠ L := fun z hz => (b2.nl z hz).1
  obtain ⟨ux, hU, _⟩ := b2.hU
  have old : ∀ {y : Addr}, H1 y = none → ∀ {z o}, H z = some o → y ≠ z := fun {y} hy {z o} hz q => by rw [q, s1 _ _ hz] at hy; cases hy
  have oA : ∀ {y : Addr}, H1 y = none → y ≠ L ∧ y ≠ D ∧ y ≠ U ∧ ∀ z ∈ all ++ [a], y ≠ z.l := fun {y} hy => by
    obtain ⟨u0, hU0, _⟩ := b.hU
    refine ⟨old hy b.hL, old hy hD, old hy hU0, fun z hz => ?_⟩
    rcases List.mem_append.mp hz with hz | hz
    · exact old hy (b.ha z hz).2
    · rw [List.mem_singleton.mp hz]
      exact fun q => by rw [q, h2] at hy; cases hy
  have ok : DdOk L D U (all ++ [a]) e := ⟨.inl eT, oA nB, oA nA, by rw [eb]; simp, by rw [ea]; simp⟩
  have ft : Fits e M := ⟨by rw [ei, eb, eT]; simp, by rw [eb]; simp⟩
  have wf2 : WF H2 L (all ++ [a]) (doD e M) :=
    { vs := (let ⟨vx, p⟩ := wM.vs; ⟨vx ++ [a], by rw [hM]; exact psnoc p ⟨rfl, List.mem_append_right _ (List.mem_singleton_self _)⟩⟩)
      ln := fun z hz => by rw [mo _ (naL z hz)]; exact wM.ln z hz
      len := by rw [hM, List.length_append, ll]; exact w2'
      out := fun y h1 h2 => by rw [mo y h1]; exact wM.out y h1 h2 }
  have i2 : Is H2 L (all ++ [a]) M vw := Is.kept kT (Is.grow i)
  have i' : Is H2 L (all ++ [a]) (doD e M) (vw ++ [(a.n, th)]) := by
    show Paired _ (doD e M L) _
    rw [hM]
    refine psnoc ?_ ?_
    · refine pmono (fun v q hq => ?_) i2
      obtain ⟨z, hz, e1, e2, e3⟩ := hq
      refine ⟨z, hz, e1, e2, ?_⟩
      cases hq2 : q.2 with
      | pl ss => rw [hq2] at e3; exact ⟨e3.1, by rw [mo _ (naL z hz)]; exact e3.2⟩
      | cn ld lt sl tn => rw [hq2] at e3; exact e3
    · refine ⟨a, List.mem_append_right _ (List.mem_singleton_self _), rfl, rfl, ?_⟩
      have nal : a.l ≠ L := naL a (List.mem_append_right _ (List.mem_singleton_self _))
      have := ht (doD e M) (by rw [mo _ nal]; exact (b.wf M (.inr (.inl rfl))).out _ nal fun z hz q => by rw [q, (b.ha z hz).2] at n2; cases n2)
      show ThAt H2 (doD e M) a th
      cases th with
      | pl ss => exact ⟨this.1, this.2.same s2⟩
      | cn ld lt sl tn => obtain ⟨p, e1, e2⟩ := this; exact ⟨p, e1, s2 _ _ e2⟩
  have B := Bk.deed b2 i2 (pmono (fun _ _ q => Is.kept kT (Is.grow q)) pp) (F := fun y => F y ∨ y = a.l) ⟨.inl f.L, .inl f.D, .inl f.U, fun z hz => by
      rcases List.mem_append.mp hz with hz | hz
      · exact .inl (f.l z hz)
      · rw [List.mem_singleton.mp hz]; exact .inr rfl, fun e' he => ⟨.inl (f.d e' he).1, .inl (f.d e' he).2⟩⟩ (fun v hv => wv v (hv.imp id .inl)) hd ok ft wf2 i' w' (pmonoM (fun _ e' he q => ddAt_kept (F := fun _ => True) kT ⟨trivial, trivial⟩ q) pD) (H2 := H')
    (fun y o hy y1 y2 y3 => fr y o hy (by rw [← eT]; exact y1) y2 y3) (by rw [eT, hM]; exact hL') hD' hU'
  refine ⟨_, fun y hy => ?_, fun y o hy hn => fr y o (s12 y o hy) (fun q => hn (q ▸ f.L)) (fun q => hn (q ▸ f.D)) (fun q => hn (q ▸ f.U)), B⟩
  rcases hy with (hy | hy) | hy | hy
  · exact .inl hy
  · rw [hy]; exact .inr n2
  · rw [hy]; exact .inr (s1.free nB)
  · rw [hy]; exact .inr (s1.free nA)
/-! ### a law's dict of voices -/
def ThV (H : Hp) (v : V) : Th → Prop
  | .pl ss => ∃ l ys, v = .ref l ∧ H l = some (.lst ys) ∧ Sgs H ys ss
  | .cn ld lt sl tn => ∃ p, v = .ref p ∧ H p = some (.tup [.str ld, .int lt, .int sl, .bl tn])
def KvAt (H : Hp) (kv : Key × V) (q : Str × Th) : Prop := kv.1 = Sum.inr q.1 ∧ ThV H kv.2 q.2
def DvAt (H : Hp) (d : Addr) (vw : Vw) : Prop := ∃ kvs, H d = some (.dK kvs) ∧ Paired (KvAt H) kvs vw
end Mine

set_option maxHeartbeats 1000000
namespace Mine
open PySem L2
theorem Bk.tight {CB CV CD : Addr} {H : Hp} {x : Addr} {F : Addr → Prop} {vw : Vw} {ps fs : List Vw} (h : Bk CB CV CD H x F vw ps fs) : ∃ F0 : Addr → Prop, (∀ y, F0 y → F y) ∧ (∀ y, F0 y → ∃ xs, H y = some (.lst xs)) ∧ Bk CB CV CD H x F0 vw ps fs := by
  obtain ⟨L, D, U, all, M, Ps, Fs, es, us, b, i, pp, pf, f⟩ := h.ex
  obtain ⟨ds, hD, pD⟩ := b.hD
  obtain ⟨ux, hU, pU⟩ := b.hU
  have dd : ∀ e, e ∈ es ∨ e ∈ us → H e.B = some (.lst e.bs) ∧ H e.A = some (.lst e.as) := fun e he => by
    rcases he with he | he
    · obtain ⟨k, hk⟩ := List.getElem?_of_mem he
      obtain ⟨v, _, q⟩ := pgetR pD hk
      exact ⟨q.2.2.1, q.2.2.2⟩
    · obtain ⟨k, hk⟩ := List.getElem?_of_mem he
      obtain ⟨v, _, q⟩ := pgetR pU hk
      exact ⟨q.2.2.1, q.2.2.2⟩
  refine ⟨fun y => y = L ∨ y = D ∨ y = U ∨ (∃ a ∈ all, y = a.l) ∨ ∃ e, (e ∈ es ∨ e ∈ us) ∧ (y = e.B ∨ y = e.A), fun y hy => ?_, fun y hy => ?_, ⟨⟨L, D, U, all, M, Ps, Fs, es, us, b, i, pp, pf, ⟨.inl rfl, .inr (.inl rfl), .inr (.inr (.inl rfl)), fun a ha => .inr (.inr (.inr (.inl ⟨a, ha, rfl⟩))), fun e he => ⟨.inr (.inr (.inr (.inr ⟨e, he, .inl rfl⟩))), .inr (.inr (.inr (.inr ⟨e, he, .inr rfl⟩)))⟩⟩⟩, h.wv⟩⟩
  · rcases hy with rfl | rfl | rfl | ⟨a, ha, rfl⟩ | ⟨e, he, rfl | rfl⟩
    · exact f.L
    · exact f.D
    · exact f.U
    · exact f.l a ha
    · exact (f.d e he).1
    · exact (f.d e he).2
  · rcases hy with rfl | rfl | rfl | ⟨a, ha, rfl⟩ | ⟨e, he, rfl | rfl⟩
    · exact ⟨_, b.hL⟩
    · exact ⟨_, hD⟩
    · exact ⟨_, hU⟩
    · exact ⟨_, (b.ha a ha).2⟩
    · exact ⟨_, (dd e he).1⟩
    · exact ⟨_, (dd e he).2⟩
/-- a book beside lists that are not its own -/
structure Bq (c : Cs) (H : Hp) (x : Addr) (own : List Addr) (vw : Vw) (ps fs : List Vw) : Prop where
  ex : ∃ F, BkC c H x F vw ps fs ∧ (∀ y, F y → ∃ xs, H y = some (.lst xs)) ∧ ∀ a ∈ own, ¬ F a ∧ ∃ o, H a = some o
/-- what a deed leaves as it is -/
def Keep (own : List Addr) (H H' : Hp) : Prop := ∀ y o, H y = some o → ((∀ xs, o ≠ .lst xs) ∨ y ∈ own) → H' y = some o
section
variable {c : Cs} {H H' H1 : Hp} {x : Addr} {own : List Addr} {vw vw' : Vw} {ps ps' fs fs' : List Vw} {F F' : Addr → Prop}
end
end Mine

set_option maxHeartbeats 1000000
namespace Mine
open PySem L2
/-! ### a law's list of voices, as it draws them -/
def TvAt (H : Hp) (y : V) (q : Str × Th) : Prop := ∃ p v, y = .ref p ∧ H p = some (.tup [.str q.1, v]) ∧ ThV H v q.2
def ToldAt (H : Hp) (l : Addr) (vw : Vw) : Prop := ∃ ys, H l = some (.lst ys) ∧ Paired (TvAt H) ys vw
/-- voices that a book takes one after the other -/
structure EntOk (vw : Vw) : Prop where
  w : WFV vw
  nm : ∀ q ∈ vw, nameB q.1 = true ∧ q.1 ≠ "zed" ∧ q.1.length ≤ 1000
  ld : ∀ (i : Nat) n ld lt sl tn, vw[i]? = some (n, Th.cn ld lt sl tn) → ∃ ss, (ld, Th.pl ss) ∈ vw.take i
  sh : ∀ n ss, (n, Th.pl ss) ∈ vw → ss.length ≤ 24
/-- pairs of a name and a number -/
def PnAt (H : Hp) (y : V) (r : Str × Int) : Prop := ∃ p, y = .ref p ∧ H p = some (.tup [.str r.1, .int r.2])
/-- how the voices stood ahead of the last deed -/
def beforeV (vw : Vw) : Vw := match vw.getLast? with
  | none => []
  | some (n, .pl ss) => if ss = [] then vw.dropLast else vw.dropLast ++ [(n, .pl ss.dropLast)]
  | some (_, .cn _ _ _ _) => vw.dropLast
end Mine

set_option maxHeartbeats 1000000
namespace L2
open PySem PySem.Spec PyProof.Rows
variable {X : Cx}
/-! ### the first place of a text in a list of texts -/
def rIndex : V → List V → Hp → VK → Prop := fun x vs H Q => ∃ (l : Addr) (ys : List Str) (z : Str) (j : Nat), x = .ref l ∧ vs = [.str z] ∧ H l = some (.lst (ys.map V.str)) ∧ ys[j]? = some z ∧ (∀ i, i < j → ys[i]? ≠ some z) ∧ Q (.int j) H
end L2
namespace Mine
open PySem L2
/-! ### a voice dropped, in views -/
def ledBy (n : Str) (q : Str × Th) : Bool := match q.2 with
  | .cn ld _ _ _ => decide (ld = n)
  | .pl _ => false
def leans (vw : Vw) (n : Str) : Bool := vw.any (ledBy n)
def dropV (vw : Vw) (n : Str) : Vw := vw.filter fun q => !decide (q.1 = n)
end Mine

set_option maxHeartbeats 1000000
namespace L2
open PySem PySem.Spec PyProof.Rows
end L2
namespace Mine
open PySem L2
/-! ### windows -/
def lowGo (ks : List Kd) : Nat → Nat → Nat
  | 0, _ => 0
  | p + 1, met => if (if (ks.getD p .dot).small = true then met else met + 1) = 2 then p else lowGo ks p (if (ks.getD p .dot).small = true then met else met + 1)
def stopK (wide : Bool) (k : Kd) : Bool := if wide = true then k.meas else k.parting
def highE (ks : List Kd) (i : Nat) (wide : Bool) : Nat := i + ((ks.drop i).takeWhile fun k => !stopK wide k).length
def kindsV (wide : Bool) : List V := if wide = true then [.str "3", .str "2"] else [.str ".", .str "3", .str "2"]
def winV (ss : List Sg) (i b : Nat) (ch : List Sg) : List V := [.int (lowGo (kds ss) i 0 : Nat), .int (highE (kds ss) b (ch.any fun s => s.1.meas) : Nat)]
/-! ### deeds -/
def kdOf (k : Str) : Kd := if k = "G" then .G else if k = "D" then .D else if k = "R" then .R else if k = "s" then .s else if k = "d" then .d else if k = "r" then .r else if k = "." then .dot else if k = "3" then .three else .two
def sgOf (s : Sn) : Sg := (kdOf s.1, s.2)
inductive Wy where
  | put | cut | swap | add | canon | drop | undo | redo
  deriving DecidableEq
def Wy.str : Wy → Str
  | .put => "put" | .cut => "cut" | .swap => "swap" | .add => "add" | .canon => "canon" | .drop => "drop" | .undo => "undo" | .redo => "redo"
structure De where
  wy : Wy
  n : Str
  ld : Str
  pl : Int
  sg : Sn
  lt : Int
  sl : Int
  tn : Bool
/-- what a deed's tuple holds, as far as it is read when it is done -/
structure DeS (H : Hp) (v : V) (d : De) : Prop where
  ex : ∃ p xs, v = .ref p ∧ H p = some (.tup xs) ∧ xs[0]? = some (.str d.wy.str) ∧ xs[1]? = some (.str d.n) ∧ (d.wy = .put ∨ d.wy = .swap → ∃ ps, xs[4]? = some (.ref ps) ∧ H ps = some (.tup [.str d.sg.1, .int d.sg.2])) ∧ (d.wy = .canon → xs[2]? = some (.str d.ld) ∧ xs[5]? = some (.int d.lt) ∧ xs[6]? = some (.int d.sl) ∧ xs[7]? = some (.bl d.tn))
def DeAt (H : Hp) (v : V) (d : De) : Prop := ∃ p ps, v = .ref p ∧ H p = some (.tup [.str d.wy.str, .str d.n, .str d.ld, .int d.pl, .ref ps, .int d.lt, .int d.sl, .bl d.tn]) ∧ H ps = some (.tup [.str d.sg.1, .int d.sg.2])
/-- how a book stands, as a law keeps it: voices, the past, the future -/
def DvR (H : Hp) (v : V) (vw : Vw) : Prop := ∃ d, v = .ref d ∧ DvAt H d vw
structure Std where
  vw : Vw
  ps : List Vw
  fs : List Vw
def StAt (H : Hp) (v : V) (st : Std) : Prop := ∃ p d a b xs ys, v = .ref p ∧ H p = some (.tup [.ref d, .ref a, .ref b]) ∧ DvAt H d st.vw ∧ H a = some (.lst xs) ∧ Paired (DvR H) xs st.ps ∧ H b = some (.lst ys) ∧ Paired (DvR H) ys st.fs
/-! ### what is refused, and how it stands behind a deed -/
def TermOk (lt sl : Int) : Prop := 0 ≤ lt ∧ lt ≤ 999 ∧ 1 ≤ sl ∧ sl ≤ 9
instance (lt sl : Int) : Decidable (TermOk lt sl) := by unfold TermOk; exact inferInstance
def newOut (vw : Vw) (n : Str) : Option Rf := if nameB n = false then some .BadName else if (findV vw n).isSome then some .NameTaken else if 12 ≤ vw.length then some .Full else none
def canonOut (vw : Vw) (ld : Str) (lt sl : Int) : Option Rf := match findV vw ld with
  | none => some .NoVoice
  | some (.cn _ _ _ _) => some .NotPlain
  | some (.pl _) => if TermOk lt sl then none else some .BadTerm
def dropOut (vw : Vw) (n : Str) : Option Rf := match findV vw n with
  | none => some .NoVoice
  | some _ => if leans vw n = true then some .Leaned else none
def lineOut (vw : Vw) (wy : Wy) (n : Str) (at_ : Int) (sg : Sn) : Option Rf := match findV vw n with
  | none => some .NoVoice
  | some (.cn _ _ _ _) => some .NotPlain
  | some (.pl ss) => if at_ < 0 ∨ (ss.length : Int) + (if wy = .put then 1 else 0) ≤ at_ then some .NoPlace else if wy ≠ .cut ∧ goodB sg = false then some .BadSign else if wy = .put ∧ 200 ≤ ss.length then some .Full else none
def outA (st : Std) (d : De) (at_ : Int) : Option Rf := match d.wy with
  | .undo => if st.ps = [] then some .NoMore else none
  | .redo => if st.fs = [] then some .NoMore else none
  | .drop => dropOut st.vw d.n
  | .add => newOut st.vw d.n
  | .canon => match newOut st.vw d.n with
    | some r => some r
    | none => canonOut st.vw d.ld d.lt d.sl
  | w => lineOut st.vw w d.n at_ d.sg
def lineBeh (ss : List Sg) (wy : Wy) (sg : Sn) (i : Nat) : List Sg := match wy with
  | .cut => ss.take i ++ [] ++ ss.drop (i + 1)
  | .swap => ss.take i ++ [sgOf sg] ++ ss.drop (i + 1)
  | _ => ss.take i ++ [sgOf sg] ++ ss.drop i
def plainV (vw : Vw) (n : Str) : List Sg := match findV vw n with
  | some (.pl ss) => ss
  | _ => []
def behA (st : Std) (d : De) (at_ : Int) : Std := match d.wy with
  | .undo => ⟨st.ps.getLast?.getD [], st.ps.dropLast, st.fs ++ [st.vw]⟩
  | .redo => ⟨st.fs.getLast?.getD [], st.ps ++ [st.vw], st.fs.dropLast⟩
  | .drop => ⟨dropV st.vw d.n, st.ps ++ [st.vw], []⟩
  | .add => ⟨st.vw ++ [(d.n, .pl [])], st.ps ++ [st.vw], []⟩
  | .canon => ⟨st.vw ++ [(d.n, .cn d.ld d.lt d.sl d.tn)], st.ps ++ [st.vw], []⟩
  | w => ⟨setV st.vw d.n (.pl (lineBeh (plainV st.vw d.n) w d.sg at_.toNat)), st.ps ++ [st.vw], []⟩
/-- the answer of a deed that is done -/
def AnsAt (H : Hp) (st : Std) (d : De) (at_ : Int) (v : V) : Prop := match d.wy with
  | .put => ∃ w, v = .ref w ∧ H w = some (.tup (winV (lineBeh (plainV st.vw d.n) .put d.sg at_.toNat) at_.toNat (at_.toNat + 1) [sgOf d.sg]))
  | .cut => ∃ w, v = .ref w ∧ ∃ s, (plainV st.vw d.n)[at_.toNat]? = some s ∧ H w = some (.tup (winV (lineBeh (plainV st.vw d.n) .cut d.sg at_.toNat) at_.toNat at_.toNat [s]))
  | .swap => ∃ w, v = .ref w ∧ ∃ s, (plainV st.vw d.n)[at_.toNat]? = some s ∧ H w = some (.tup (winV (lineBeh (plainV st.vw d.n) .swap d.sg at_.toNat) at_.toNat (at_.toNat + 1) [s, sgOf d.sg]))
  | _ => v = .non
def Rf.str : Rf → Str
  | .BadSign => "BadSign" | .BadName => "BadName" | .NameTaken => "NameTaken" | .Full => "Full" | .NoVoice => "NoVoice" | .NotPlain => "NotPlain" | .NoPlace => "NoPlace" | .BadTerm => "BadTerm" | .Leaned => "Leaned" | .NoMore => "NoMore"
def whyS : Option Rf → Str
  | none => ""
  | some r => r.str
/-- the place that a law takes -/
def sizeA (vw : Vw) (n : Str) : Int := match findV vw n with
  | some (.pl ss) => ss.length
  | _ => 5
def placeA (vw : Vw) (d : De) : Int := if d.pl % 16 = 7 then ([-1, -sizeA vw d.n - 1, sizeA vw d.n + 40, 10 ^ 12].getD (d.pl / 16 % 4).toNat 0) else d.pl / 16 % (sizeA vw d.n + 2)
/-! ### reading -/
--% include y_ix
/-! ### signs of deeds -/
def sgKinds : List Str := ["G", "D", "R", "s", "d", "r", ".", "3", "2", "g", ""]
def fineB (s : Sn) : Bool := decide (s.1.length = 1) && (inS s.1 "GDRsdr.32" && (decide (0 ≤ s.2) && decide (s.2 < 100)))
def noX (n : Str) : Bool := !decide (n.cps[0]? = ("x" : Str).cps[0]?)
structure DeOk (d : De) : Prop where
  nl : d.n.length ≤ 1000
  ll : d.ld.length ≤ 1000
  sk : d.sg.1 ∈ sgKinds
  nx : noX d.n = true
end Mine

set_option maxHeartbeats 1000000
namespace Mine
open PySem L2
/-! ### an ear that has heard nothing -/
def eaG (D : Addr) (c : Bool) : List (Str × V) := [("measure", V.int 3), ("held", V.ref D), ("left", V.bl false), ("right", V.bl false), ("counted", V.int 0), ("last", V.str ""), ("is_closed", V.bl c)]
theorem eaG_measure (D : Addr) (c : Bool) : (eaG D c).lookup ("measure" : Str) = some (V.int 3) := lk_hit
theorem eaG_held (D : Addr) (c : Bool) : (eaG D c).lookup ("held" : Str) = some (V.ref D) := (lk_miss (by decide +kernel)).trans (lk_hit)
theorem eaG_put_held (D : Addr) (c : Bool) (y : V) : putF "held" y (eaG D c) = ([("measure", V.int 3), ("held", y), ("left", V.bl false), ("right", V.bl false), ("counted", V.int 0), ("last", V.str ""), ("is_closed", V.bl c)] : List (Str × V)) := (pf_miss (by decide +kernel)).trans (congrArg _ (pf_hit))
theorem eaG_left (D : Addr) (c : Bool) : (eaG D c).lookup ("left" : Str) = some (V.bl false) := (lk_miss (by decide +kernel)).trans ((lk_miss (by decide +kernel)).trans (lk_hit))
theorem eaG_put_left (D : Addr) (c : Bool) (y : V) : putF "left" y (eaG D c) = ([("measure", V.int 3), ("held", V.ref D), ("left", y), ("right", V.bl false), ("counted", V.int 0), ("last", V.str ""), ("is_closed", V.bl c)] : List (Str × V)) := (pf_miss (by decide +kernel)).trans (congrArg _ ((pf_miss (by decide +kernel)).trans (congrArg _ (pf_hit))))
theorem eaG_right (D : Addr) (c : Bool) : (eaG D c).lookup ("right" : Str) = some (V.bl false) := (lk_miss (by decide +kernel)).trans ((lk_miss (by decide +kernel)).trans ((lk_miss (by decide +kernel)).trans (lk_hit)))
theorem eaG_counted (D : Addr) (c : Bool) : (eaG D c).lookup ("counted" : Str) = some (V.int 0) := (lk_miss (by decide +kernel)).trans ((lk_miss (by decide +kernel)).trans ((lk_miss (by decide +kernel)).trans ((lk_miss (by decide +kernel)).trans (lk_hit))))
theorem eaG_put_counted (D : Addr) (c : Bool) (y : V) : putF "counted" y (eaG D c) = ([("measure", V.int 3), ("held", V.ref D), ("left", V.bl false), ("right", V.bl false), ("counted", y), ("last", V.str ""), ("is_closed", V.bl c)] : List (Str × V)) := (pf_miss (by decide +kernel)).trans (congrArg _ ((pf_miss (by decide +kernel)).trans (congrArg _ ((pf_miss (by decide +kernel)).trans (congrArg _ ((pf_miss (by decide +kernel)).trans (congrArg _ (pf_hit))))))))
theorem eaG_is_closed (D : Addr) (c : Bool) : (eaG D c).lookup ("is_closed" : Str) = some (V.bl c) := (lk_miss (by decide +kernel)).trans ((lk_miss (by decide +kernel)).trans ((lk_miss (by decide +kernel)).trans ((lk_miss (by decide +kernel)).trans ((lk_miss (by decide +kernel)).trans ((lk_miss (by decide +kernel)).trans (lk_hit))))))
theorem eaG_put_is_closed (D : Addr) (c : Bool) (y : V) : putF "is_closed" y (eaG D c) = ([("measure", V.int 3), ("held", V.ref D), ("left", V.bl false), ("right", V.bl false), ("counted", V.int 0), ("last", V.str ""), ("is_closed", y)] : List (Str × V)) := (pf_miss (by decide +kernel)).trans (congrArg _ ((pf_miss (by decide +kernel)).trans (congrArg _ ((pf_miss (by decide +kernel)).trans (congrArg _ ((pf_miss (by decide +kernel)).trans (congrArg _ ((pf_miss (by decide +kernel)).trans (congrArg _ ((pf_miss (by decide +kernel)).trans (congrArg _ (pf_hit))))))))))))
theorem eaG_no_hear (D : Addr) (c : Bool) : (eaG D c).lookup ("hear" : Str) = none := (lk_miss (by decide +kernel)).trans ((lk_miss (by decide +kernel)).trans ((lk_miss (by decide +kernel)).trans ((lk_miss (by decide +kernel)).trans ((lk_miss (by decide +kernel)).trans ((lk_miss (by decide +kernel)).trans ((lk_miss (by decide +kernel)).trans (rfl)))))))
theorem eaG_no_close (D : Addr) (c : Bool) : (eaG D c).lookup ("close" : Str) = none := (lk_miss (by decide +kernel)).trans ((lk_miss (by decide +kernel)).trans ((lk_miss (by decide +kernel)).trans ((lk_miss (by decide +kernel)).trans ((lk_miss (by decide +kernel)).trans ((lk_miss (by decide +kernel)).trans ((lk_miss (by decide +kernel)).trans (rfl)))))))
theorem eaG_no_refuse_where_closed (D : Addr) (c : Bool) : (eaG D c).lookup ("refuse_where_closed" : Str) = none := (lk_miss (by decide +kernel)).trans ((lk_miss (by decide +kernel)).trans ((lk_miss (by decide +kernel)).trans ((lk_miss (by decide +kernel)).trans ((lk_miss (by decide +kernel)).trans ((lk_miss (by decide +kernel)).trans ((lk_miss (by decide +kernel)).trans (rfl)))))))
theorem eaG_no_settled_by (D : Addr) (c : Bool) : (eaG D c).lookup ("settled_by" : Str) = none := (lk_miss (by decide +kernel)).trans ((lk_miss (by decide +kernel)).trans ((lk_miss (by decide +kernel)).trans ((lk_miss (by decide +kernel)).trans ((lk_miss (by decide +kernel)).trans ((lk_miss (by decide +kernel)).trans ((lk_miss (by decide +kernel)).trans (rfl)))))))
theorem eaG_no_close_run (D : Addr) (c : Bool) : (eaG D c).lookup ("close_run" : Str) = none := (lk_miss (by decide +kernel)).trans ((lk_miss (by decide +kernel)).trans ((lk_miss (by decide +kernel)).trans ((lk_miss (by decide +kernel)).trans ((lk_miss (by decide +kernel)).trans ((lk_miss (by decide +kernel)).trans ((lk_miss (by decide +kernel)).trans (rfl)))))))
theorem eaG_no_let_go (D : Addr) (c : Bool) : (eaG D c).lookup ("let_go" : Str) = none := (lk_miss (by decide +kernel)).trans ((lk_miss (by decide +kernel)).trans ((lk_miss (by decide +kernel)).trans ((lk_miss (by decide +kernel)).trans ((lk_miss (by decide +kernel)).trans ((lk_miss (by decide +kernel)).trans ((lk_miss (by decide +kernel)).trans (rfl)))))))
theorem eaG_mk0 (v0 : V) : putF "measure" v0 ([] : List (Str × V)) = ([("measure", v0)] : List (Str × V)) := rfl
theorem eaG_mk1 (v0 v1 : V) : putF "held" v1 ([("measure", v0)] : List (Str × V)) = ([("measure", v0), ("held", v1)] : List (Str × V)) := (pf_miss (by decide +kernel)).trans (congrArg _ (rfl))
theorem eaG_mk2 (v0 v1 v2 : V) : putF "left" v2 ([("measure", v0), ("held", v1)] : List (Str × V)) = ([("measure", v0), ("held", v1), ("left", v2)] : List (Str × V)) := (pf_miss (by decide +kernel)).trans (congrArg _ ((pf_miss (by decide +kernel)).trans (congrArg _ (rfl))))
theorem eaG_mk3 (v0 v1 v2 v3 : V) : putF "right" v3 ([("measure", v0), ("held", v1), ("left", v2)] : List (Str × V)) = ([("measure", v0), ("held", v1), ("left", v2), ("right", v3)] : List (Str × V)) := (pf_miss (by decide +kernel)).trans (congrArg _ ((pf_miss (by decide +kernel)).trans (congrArg _ ((pf_miss (by decide +kernel)).trans (congrArg _ (rfl))))))
theorem eaG_mk4 (v0 v1 v2 v3 v4 : V) : putF "counted" v4 ([("measure", v0), ("held", v1), ("left", v2), ("right", v3)] : List (Str × V)) = ([("measure", v0), ("held", v1), ("left", v2), ("right", v3), ("counted", v4)] : List (Str × V)) := (pf_miss (by decide +kernel)).trans (congrArg _ ((pf_miss (by decide +kernel)).trans (congrArg _ ((pf_miss (by decide +kernel)).trans (congrArg _ ((pf_miss (by decide +kernel)).trans (congrArg _ (rfl))))))))
theorem eaG_mk5 (v0 v1 v2 v3 v4 v5 : V) : putF "last" v5 ([("measure", v0), ("held", v1), ("left", v2), ("right", v3), ("counted", v4)] : List (Str × V)) = ([("measure", v0), ("held", v1), ("left", v2), ("right", v3), ("counted", v4), ("last", v5)] : List (Str × V)) := (pf_miss (by decide +kernel)).trans (congrArg _ ((pf_miss (by decide +kernel)).trans (congrArg _ ((pf_miss (by decide +kernel)).trans (congrArg _ ((pf_miss (by decide +kernel)).trans (congrArg _ ((pf_miss (by decide +kernel)).trans (congrArg _ (rfl))))))))))
theorem eaG_mk6 (v0 v1 v2 v3 v4 v5 v6 : V) : putF "is_closed" v6 ([("measure", v0), ("held", v1), ("left", v2), ("right", v3), ("counted", v4), ("last", v5)] : List (Str × V)) = ([("measure", v0), ("held", v1), ("left", v2), ("right", v3), ("counted", v4), ("last", v5), ("is_closed", v6)] : List (Str × V)) := (pf_miss (by decide +kernel)).trans (congrArg _ ((pf_miss (by decide +kernel)).trans (congrArg _ ((pf_miss (by decide +kernel)).trans (congrArg _ ((pf_miss (by decide +kernel)).trans (congrArg _ ((pf_miss (by decide +kernel)).trans (congrArg _ ((pf_miss (by decide +kernel)).trans (congrArg _ (rfl))))))))))))
theorem eaG_put_counted0 (D : Addr) (c : Bool) : putF "counted" (V.int 0) (eaG D c) = eaG D c := eaG_put_counted D c _
theorem eaG_put_left0 (D : Addr) (c : Bool) : putF "left" (V.bl false) (eaG D c) = eaG D c := eaG_put_left D c _
/-! ### the book of the law, and what it refuses -/
def w50 (lt sl : Int) : Vw := [("ann", .pl []), ("bo", .cn "ann" lt sl false)]
theorem findV_no {vw : Vw} {n : Str} (h : ∀ q ∈ vw, q.1 ≠ n) : findV vw n = none := by
  unfold findV
  rw [List.find?_eq_none.mpr fun q hq z => h q hq (of_decide_eq_true z)]
  rfl
theorem f50a {lt sl : Int} : findV (w50 lt sl) "ann" = some (.pl []) := by
  unfold findV w50
  rw [List.find?_cons_of_pos (p := fun q : Str × Th => decide (q.1 = "ann")) (decide_eq_true rfl)]
  rfl
theorem f50b {lt sl : Int} : findV (w50 lt sl) "bo" = some (.cn "ann" lt sl false) := by
  unfold findV w50
  rw [List.find?_cons_of_neg (p := fun q : Str × Th => decide (q.1 = "bo")) (fun z => absurd (of_decide_eq_true z) (by decide +kernel)), List.find?_cons_of_pos (p := fun q : Str × Th => decide (q.1 = "bo")) (decide_eq_true rfl)]
  rfl
theorem f50c {lt sl : Int} {n : Str} (h1 : ¬ (Str.ofString "ann") = n) (h2 : ¬ (Str.ofString "bo") = n) : findV (w50 lt sl) n = none := findV_no fun q hq => by
  unfold w50 at hq
  rcases List.mem_cons.mp hq with rfl | hq
  · exact h1
  · rcases List.mem_cons.mp hq with rfl | hq
    · exact h2
    · exact absurd hq (by simp)
theorem n50_0 {lt sl : Int} : newOut (w50 lt sl) "Ann" = some .BadName := by
  unfold newOut
  rw [if_pos (by decide +kernel)]
theorem n50_1 {lt sl : Int} : newOut (w50 lt sl) "ann" = some .NameTaken := by
  unfold newOut
  rw [if_neg (by decide +kernel), f50a, if_pos (by rfl)]
theorem n50_5 {lt sl : Int} : newOut (w50 lt sl) "cy" = none := by
  unfold newOut
  rw [if_neg (by decide +kernel), f50c (by decide +kernel) (by decide +kernel), if_neg (by simp), if_neg (by show ¬ 12 ≤ 2; decide)]
theorem l50 {lt sl : Int} : leans (w50 lt sl) "ann" = true := by
  unfold leans w50
  rw [List.any_eq_true]
  exact ⟨_, List.mem_cons_of_mem _ (List.mem_cons_self ..), by show decide ((Str.ofString "ann") = (Str.ofString "ann")) = true; exact decide_eq_true rfl⟩
def xn50 : List Str := ["xa", "xb", "xc", "xd", "xe", "xf", "xg", "xh", "xi", "xj", "xk"]
def vx50 (lt sl : Int) (i : Nat) : Vw := w50 lt sl ++ (xn50.take i).map fun n => (n, Th.pl [])
theorem xn50_all : (List.range 11).all (fun i => match xn50[i]?, (Str.ofString "abcdefghijk").cps.toList[i]? with | some n, some c => nameB n && decide ((Str.ofString "x") ++ (⟨#[c]⟩ : Str) = n) && decide ((Str.ofString "x").length + (⟨#[c]⟩ : Str).length ≤ 1000) && decide (n.length ≤ 1000) && decide (¬ (Str.ofString "ann") = n) && decide (¬ (Str.ofString "bo") = n) && (xn50.take i).all (fun m => decide (¬ m = n)) | _, _ => false) = true := by decide +kernel
theorem xn50_at {lt sl : Int} {i : Nat} (h : i < 11) : ∃ n c, xn50[i]? = some n ∧ (Str.ofString "abcdefghijk").cps.toList[i]? = some c ∧ (Str.ofString "x") ++ (⟨#[c]⟩ : Str) = n ∧ (Str.ofString "x").length + (⟨#[c]⟩ : Str).length ≤ 1000 ∧ n.length ≤ 1000 ∧ newOut (vx50 lt sl i) n = (if 10 ≤ i then some .Full else none) := by
  have := List.all_eq_true.mp xn50_all i (List.mem_range.mpr h)
  split at this
  · rename_i n c h1 h2
    simp only [Bool.and_eq_true, decide_eq_true_eq, List.all_eq_true] at this
    obtain ⟨⟨⟨⟨⟨⟨a1, a2⟩, a3⟩, a4⟩, a5⟩, a6⟩, a7⟩ := this
    refine ⟨n, c, h1, h2, a2, a3, a4, ?_⟩
    have hf : findV (vx50 lt sl i) n = none := findV_no fun q hq => by
      unfold vx50 at hq
      rcases List.mem_append.mp hq with hq | hq
      · exact findV_none (f50c a5 a6) q hq
      · obtain ⟨m, hm, rfl⟩ := List.mem_map.mp hq
        exact a7 m hm
    have hl : (vx50 lt sl i).length = 2 + i := by
      unfold vx50
      rw [List.length_append, List.length_map, List.length_take]
      show 2 + min i 11 = 2 + i
      omega
    unfold newOut
    rw [if_neg (by rw [a1]; decide), hf, if_neg (by simp), hl]
    by_cases h10 : 10 ≤ i
    · rw [if_pos h10, if_pos (by omega)]
    · rw [if_neg h10, if_neg (by omega)]
  · cases this
theorem vx50_next {lt sl : Int} {i : Nat} {n : Str} (h : xn50[i]? = some n) : vx50 lt sl i ++ [(n, Th.pl [])] = vx50 lt sl (i + 1) := by
  unfold vx50
  rw [List.take_succ, h]
  simp
theorem eqI {k : Nat} {n : Nat} {i : Int} (hi : i = (n : Int)) (h : decide (V.int (k : Int) = V.int i) = true) : k = n := by
  have := of_decide_eq_true h
  injection this with this
  omega
end Mine

set_option maxHeartbeats 1000000
local macro_rules | `(tactic| array_get_dec) => `(tactic| first
  | refine ⟨_, rfl, ?_⟩
  | refine ⟨_, _, rfl, rfl, ⟨by decide, by decide⟩, ?_⟩
  | refine ⟨_, _, rfl, rfl, (by first | decide | (show (0 : Int) < _; decide)), ?_⟩
  | refine .inl ⟨_, _, rfl, rfl, .inr ⟨by decide, by decide⟩, ?_⟩
  | refine ⟨_, _, rfl, rfl, ?_⟩
  | refine .inl ⟨_, _, rfl, rfl, ?_⟩
  | refine .inl ⟨rfl, ?_⟩
  | refine .inr ⟨_, _, rfl, rfl, ?_⟩
  | refine Mine.ix0 (by assumption) ?_
  | refine Mine.ix1 (by assumption) ?_)

namespace Mine
open PySem L2
def top (i : Nat) : Stmt := PySem.Challenge.pw_noteworth_k50_refusals_kin.main.body.getD i (.Pass ⟨0, 0, 0, 0⟩)
abbrev s_Book___init__ : Stmt := inClass (top 62) 0
abbrev s_is_name : Stmt := top 56
abbrev s_Book_names : Stmt := inClass (top 62) 9
abbrev s_Book_refuse_new : Stmt := inClass (top 62) 16
abbrev s_Deed_do : Stmt := inClass (top 55) 1
abbrev s_Book_perform : Stmt := inClass (top 62) 14
abbrev s_Deed___init__ : Stmt := inClass (top 55) 0
abbrev s_Book_put_in : Stmt := inClass (top 62) 15
abbrev s_Voice___init__ : Stmt := inClass (top 54) 0
abbrev s_Book_add_voice : Stmt := inClass (top 62) 1
abbrev s_Book_voice_called : Stmt := inClass (top 62) 17
abbrev s_Book_plain_voice : Stmt := inClass (top 62) 18
abbrev s_Book_add_canon : Stmt := inClass (top 62) 2
abbrev s_l_cell_at : Stmt := top 73
abbrev s_Book_canon : Stmt := inClass (top 62) 12
abbrev s_Book_line : Stmt := inClass (top 62) 10
abbrev s_refuse_other_places : Stmt := top 57
abbrev s_Book_cut : Stmt := inClass (top 62) 5
abbrev s_Book_drop : Stmt := inClass (top 62) 3
abbrev s_Book_redo : Stmt := inClass (top 62) 8
abbrev s_good : Stmt := top 24
abbrev s_shown_sign : Stmt := top 34
abbrev s_number_of : Stmt := top 31
abbrev s_sign_of : Stmt := top 35
abbrev s_BadWord___init__ : Stmt := inClass (top 4) 0
abbrev s_read_sign : Stmt := top 36
abbrev s_take_voice : Stmt := top 68
abbrev s_take_row : Stmt := top 70
abbrev s_BadRow___init__ : Stmt := inClass (top 15) 0
abbrev s_read_book : Stmt := top 71
abbrev s_Ear___init__ : Stmt := inClass (top 65) 0
abbrev s_Ear_refuse_where_closed : Stmt := inClass (top 65) 4
abbrev s_Ear_close_run : Stmt := inClass (top 65) 8
abbrev s_Ear_let_go : Stmt := inClass (top 65) 11
abbrev s_Ear_settled_by : Stmt := inClass (top 65) 5
abbrev s_Ear_close : Stmt := inClass (top 65) 2
abbrev s_Ear_hear : Stmt := inClass (top 65) 1
abbrev s_l_bring : Stmt := top 74
abbrev s_l_kin : Stmt := top 75
abbrev s_law : Stmt := top 76
theorem sc_Book___init__ : FnScope ["self"] ["self"] (defScope s_Book___init__) := ⟨rfl, rfl, rfl, by decide +kernel, rfl, by decide +kernel, by decide +kernel⟩
theorem sc_is_name : FnScope ["name"] ["name"] (defScope s_is_name) := ⟨rfl, rfl, rfl, by decide +kernel, rfl, by decide +kernel, by decide +kernel⟩
theorem sc_Book_names : FnScope ["self"] ["self"] (defScope s_Book_names) := ⟨rfl, rfl, rfl, by decide +kernel, rfl, by decide +kernel, by decide +kernel⟩
theorem sc_Book_refuse_new : FnScope ["self", "name"] ["self", "name"] (defScope s_Book_refuse_new) := ⟨rfl, rfl, rfl, by decide +kernel, rfl, by decide +kernel, by decide +kernel⟩
theorem sc_Deed_do : FnScope ["self"] ["self"] (defScope s_Deed_do) := ⟨rfl, rfl, rfl, by decide +kernel, rfl, by decide +kernel, by decide +kernel⟩
theorem sc_Book_perform : FnScope ["self", "deed"] ["self", "deed"] (defScope s_Book_perform) := ⟨rfl, rfl, rfl, by decide +kernel, rfl, by decide +kernel, by decide +kernel⟩
theorem sc_Deed___init__ : FnScope ["self", "things", "at", "before", "after"] ["self", "things", "at", "before", "after"] (defScope s_Deed___init__) := ⟨rfl, rfl, rfl, by decide +kernel, rfl, by decide +kernel, by decide +kernel⟩
theorem sc_Book_put_in : FnScope ["self", "voice"] ["self", "voice"] (defScope s_Book_put_in) := ⟨rfl, rfl, rfl, by decide +kernel, rfl, by decide +kernel, by decide +kernel⟩
theorem sc_Voice___init__ : FnScope ["self", "name", "terms"] ["self", "name", "terms"] (defScope s_Voice___init__) := ⟨rfl, rfl, rfl, by decide +kernel, rfl, by decide +kernel, by decide +kernel⟩
theorem sc_Book_add_voice : FnScope ["self", "name"] ["self", "name"] (defScope s_Book_add_voice) := ⟨rfl, rfl, rfl, by decide +kernel, rfl, by decide +kernel, by decide +kernel⟩
theorem sc_Book_voice_called : FnScope ["self", "name", "voice"] ["self", "name"] (defScope s_Book_voice_called) := ⟨rfl, rfl, rfl, by decide +kernel, rfl, by decide +kernel, by decide +kernel⟩
theorem sc_Book_plain_voice : FnScope ["self", "name", "voice"] ["self", "name"] (defScope s_Book_plain_voice) := ⟨rfl, rfl, rfl, by decide +kernel, rfl, by decide +kernel, by decide +kernel⟩
theorem sc_Book_add_canon : FnScope ["self", "name", "leader", "later", "slow", "is_turned"] ["self", "name", "leader", "later", "slow", "is_turned"] (defScope s_Book_add_canon) := ⟨rfl, rfl, rfl, by decide +kernel, rfl, by decide +kernel, by decide +kernel⟩
theorem sc_l_cell_at : FnScope ["_law_script", "_law_k"] ["_law_script", "_law_k"] (defScope s_l_cell_at) := ⟨rfl, rfl, rfl, by decide +kernel, rfl, by decide +kernel, by decide +kernel⟩
theorem sc_Book_canon : FnScope ["self", "name"] ["self", "name"] (defScope s_Book_canon) := ⟨rfl, rfl, rfl, by decide +kernel, rfl, by decide +kernel, by decide +kernel⟩
theorem sc_Book_line : FnScope ["self", "name", "terms", "leader", "later", "slow", "is_turned", "heard"] ["self", "name"] (defScope s_Book_line) := ⟨rfl, rfl, rfl, by decide +kernel, rfl, by decide +kernel, by decide +kernel⟩
theorem sc_refuse_other_places : FnScope ["at", "last"] ["at", "last"] (defScope s_refuse_other_places) := ⟨rfl, rfl, rfl, by decide +kernel, rfl, by decide +kernel, by decide +kernel⟩
theorem sc_Book_cut : FnScope ["self", "name", "at", "signs", "sign"] ["self", "name", "at"] (defScope s_Book_cut) := ⟨rfl, rfl, rfl, by decide +kernel, rfl, by decide +kernel, by decide +kernel⟩
theorem sc_Book_drop : FnScope ["self", "name", "dropped"] ["self", "name"] (defScope s_Book_drop) := ⟨rfl, rfl, rfl, by decide +kernel, rfl, by decide +kernel, by decide +kernel⟩
theorem sc_Book_redo : FnScope ["self", "deed"] ["self"] (defScope s_Book_redo) := ⟨rfl, rfl, rfl, by decide +kernel, rfl, by decide +kernel, by decide +kernel⟩
theorem sc_good : FnScope ["sign", "kind", "tone"] ["sign"] (defScope s_good) := ⟨rfl, rfl, rfl, by decide +kernel, rfl, by decide +kernel, by decide +kernel⟩
theorem sc_shown_sign : FnScope ["sign", "kind", "tone"] ["sign"] (defScope s_shown_sign) := ⟨rfl, rfl, rfl, by decide +kernel, rfl, by decide +kernel, by decide +kernel⟩
theorem sc_number_of : FnScope ["word", "most"] ["word", "most"] (defScope s_number_of) := ⟨rfl, rfl, rfl, by decide +kernel, rfl, by decide +kernel, by decide +kernel⟩
theorem sc_sign_of : FnScope ["word", "kind", "tone"] ["word"] (defScope s_sign_of) := ⟨rfl, rfl, rfl, by decide +kernel, rfl, by decide +kernel, by decide +kernel⟩
theorem sc_BadWord___init__ : FnScope ["self", "at"] ["self", "at"] (defScope s_BadWord___init__) := ⟨rfl, rfl, rfl, by decide +kernel, rfl, by decide +kernel, by decide +kernel⟩
theorem sc_read_sign : FnScope ["word", "sign"] ["word"] (defScope s_read_sign) := ⟨rfl, rfl, rfl, by decide +kernel, rfl, by decide +kernel, by decide +kernel⟩
theorem sc_take_voice : FnScope ["book", "words", "name", "at", "word"] ["book", "words"] (defScope s_take_voice) := ⟨rfl, rfl, rfl, by decide +kernel, rfl, by decide +kernel, by decide +kernel⟩
theorem sc_take_row : FnScope ["book", "row", "words"] ["book", "row"] (defScope s_take_row) := ⟨rfl, rfl, rfl, by decide +kernel, rfl, by decide +kernel, by decide +kernel⟩
theorem sc_BadRow___init__ : FnScope ["self", "at"] ["self", "at"] (defScope s_BadRow___init__) := ⟨rfl, rfl, rfl, by decide +kernel, rfl, by decide +kernel, by decide +kernel⟩
theorem sc_read_book : FnScope ["text", "book", "at", "row"] ["text"] (defScope s_read_book) := ⟨rfl, rfl, rfl, by decide +kernel, rfl, by decide +kernel, by decide +kernel⟩
theorem sc_Ear___init__ : FnScope ["self", "begin"] ["self", "begin"] (defScope s_Ear___init__) := ⟨rfl, rfl, rfl, by decide +kernel, rfl, by decide +kernel, by decide +kernel⟩
theorem sc_Ear_refuse_where_closed : FnScope ["self"] ["self"] (defScope s_Ear_refuse_where_closed) := ⟨rfl, rfl, rfl, by decide +kernel, rfl, by decide +kernel, by decide +kernel⟩
theorem sc_Ear_close_run : FnScope ["self", "kind", "rest"] ["self", "kind"] (defScope s_Ear_close_run) := ⟨rfl, rfl, rfl, by decide +kernel, rfl, by decide +kernel, by decide +kernel⟩
theorem sc_Ear_let_go : FnScope ["self", "settled"] ["self"] (defScope s_Ear_let_go) := ⟨rfl, rfl, rfl, by decide +kernel, rfl, by decide +kernel, by decide +kernel⟩
theorem sc_Ear_settled_by : FnScope ["self", "kind"] ["self", "kind"] (defScope s_Ear_settled_by) := ⟨rfl, rfl, rfl, by decide +kernel, rfl, by decide +kernel, by decide +kernel⟩
theorem sc_Ear_close : FnScope ["self"] ["self"] (defScope s_Ear_close) := ⟨rfl, rfl, rfl, by decide +kernel, rfl, by decide +kernel, by decide +kernel⟩
theorem sc_Ear_hear : FnScope ["self", "sign", "settled"] ["self", "sign"] (defScope s_Ear_hear) := ⟨rfl, rfl, rfl, by decide +kernel, rfl, by decide +kernel, by decide +kernel⟩
theorem sc_l_bring : FnScope ["_law_way", "_law_book", "_law_k", "_law_hark"] ["_law_way", "_law_book"] (defScope s_l_bring) := ⟨rfl, rfl, rfl, by decide +kernel, rfl, by decide +kernel, by decide +kernel⟩
theorem sc_l_kin : FnScope ["_law_way", "_law_book", "e", "_law_met"] ["_law_way", "_law_book"] (defScope s_l_kin) := ⟨rfl, rfl, rfl, by decide +kernel, rfl, by decide +kernel, by decide +kernel⟩
theorem sc_law : FnScope ["_law_script", "_law_way", "_law_book"] ["_law_script"] (defScope s_law) := ⟨rfl, rfl, rfl, by decide +kernel, rfl, by decide +kernel, by decide +kernel⟩
theorem nd_is_name_0 : (["letter", "name"] : List Str).Nodup := by decide +kernel
theorem nd_Book_names_1 : (["voice", "self"] : List Str).Nodup := by decide +kernel
theorem nd_Book_drop_2 : (["voice", "self", "name", "dropped"] : List Str).Nodup := by decide +kernel
theorem nd_law_3 : (["_law_k", "_law_script", "_law_way", "_law_book"] : List Str).Nodup := by decide +kernel
set_option genInjectivity false in
set_option genSizeOf false in
structure Adr where
  f_Book___init__ : Addr
  d_Book___init__ : FuncData
  f_is_name : Addr
  d_is_name : FuncData
  f_Book_names : Addr
  d_Book_names : FuncData
  f_Book_refuse_new : Addr
  d_Book_refuse_new : FuncData
  f_Deed_do : Addr
  d_Deed_do : FuncData
  f_Book_perform : Addr
  d_Book_perform : FuncData
  f_Deed___init__ : Addr
  d_Deed___init__ : FuncData
  f_Book_put_in : Addr
  d_Book_put_in : FuncData
  f_Voice___init__ : Addr
  d_Voice___init__ : FuncData
  f_Book_add_voice : Addr
  d_Book_add_voice : FuncData
  f_Book_voice_called : Addr
  d_Book_voice_called : FuncData
  f_Book_plain_voice : Addr
  d_Book_plain_voice : FuncData
  f_Book_add_canon : Addr
  d_Book_add_canon : FuncData
  df_Book_add_canon : Addr
  dt0_Book_add_canon : Tok
  dt1_Book_add_canon : Tok
  f_l_cell_at : Addr
  d_l_cell_at : FuncData
  f_Book_canon : Addr
  d_Book_canon : FuncData
  f_Book_line : Addr
  d_Book_line : FuncData
  f_refuse_other_places : Addr
  d_refuse_other_places : FuncData
  f_Book_cut : Addr
  d_Book_cut : FuncData
  f_Book_drop : Addr
  d_Book_drop : FuncData
  f_Book_redo : Addr
  d_Book_redo : FuncData
  f_good : Addr
  d_good : FuncData
  f_shown_sign : Addr
  d_shown_sign : FuncData
  f_number_of : Addr
  d_number_of : FuncData
  f_sign_of : Addr
  d_sign_of : FuncData
  f_BadWord___init__ : Addr
  d_BadWord___init__ : FuncData
  f_read_sign : Addr
  d_read_sign : FuncData
  f_take_voice : Addr
  d_take_voice : FuncData
  f_take_row : Addr
  d_take_row : FuncData
  f_BadRow___init__ : Addr
  d_BadRow___init__ : FuncData
  f_read_book : Addr
  d_read_book : FuncData
  f_Ear___init__ : Addr
  d_Ear___init__ : FuncData
  df_Ear___init__ : Addr
  dt0_Ear___init__ : Tok
  f_Ear_refuse_where_closed : Addr
  d_Ear_refuse_where_closed : FuncData
  f_Ear_close_run : Addr
  d_Ear_close_run : FuncData
  f_Ear_let_go : Addr
  d_Ear_let_go : FuncData
  f_Ear_settled_by : Addr
  d_Ear_settled_by : FuncData
  f_Ear_close : Addr
  d_Ear_close : FuncData
  f_Ear_hear : Addr
  d_Ear_hear : FuncData
  f_l_bring : Addr
  d_l_bring : FuncData
  f_l_kin : Addr
  d_l_kin : FuncData
  f_law : Addr
  d_law : FuncData
  a_GREAT_KINDS : Addr
  a_SMALL_KINDS : Addr
  a_SOUNDING_KINDS : Addr
  a_SILENT_KINDS : Addr
  t_HIGHEST_TONE : Tok
  a_FIGURES : Addr
  t_MOST_FIGURES_texts : Tok
  t_SHORTENED_WORTH : Tok
  t_DOUBLED_WORTH : Tok
  t_LETTERS : Tok
  t_LONGEST_NAME : Tok
  t_MOST_VOICES : Tok
  t_LATEST : Tok
  t_SLOWEST : Tok
  t_NOTHING_MORE : Tok
  C_Voice : Addr
  C_Deed : Addr
  C_Book : Addr
  C_Ear : Addr
  C_BadName : Addr
  C_NameTaken : Addr
  C_Full : Addr
  C_NoVoice : Addr
  C_NotPlain : Addr
  C_BadTerm : Addr
  C_NoPlace : Addr
  C_Leaned : Addr
  C_NoMore : Addr
  C_BadSign : Addr
  C_NoteError : Addr
  C_BadWord : Addr
  C_BadRow : Addr
  C_Closed : Addr
structure Txt (K : PySem.W.Frag) (w : World) (mg : Str → Option Value) (t : Adr) : Prop where
  F_Book___init__ : Fun K "__init__" "Book.__init__" s_Book___init__ t.f_Book___init__ t.d_Book___init__
  b_Book___init__ : Binds K t.d_Book___init__ ["self"] []
  F_is_name : Fun K "is_name" "is_name" s_is_name t.f_is_name t.d_is_name
  b_is_name : Binds K t.d_is_name ["name"] []
  mg_is_name : mg "is_name" = some (.ref t.f_is_name)
  F_Book_names : Fun K "names" "Book.names" s_Book_names t.f_Book_names t.d_Book_names
  b_Book_names : Binds K t.d_Book_names ["self"] []
  me_Book_names : Meth K t.C_Book "names" t.f_Book_names
  F_Book_refuse_new : Fun K "refuse_new" "Book.refuse_new" s_Book_refuse_new t.f_Book_refuse_new t.d_Book_refuse_new
  b_Book_refuse_new : Binds K t.d_Book_refuse_new ["self", "name"] []
  me_Book_refuse_new : Meth K t.C_Book "refuse_new" t.f_Book_refuse_new
  F_Deed_do : Fun K "do" "Deed.do" s_Deed_do t.f_Deed_do t.d_Deed_do
  b_Deed_do : Binds K t.d_Deed_do ["self"] []
  me_Deed_do : Meth K t.C_Deed "do" t.f_Deed_do
  F_Book_perform : Fun K "perform" "Book.perform" s_Book_perform t.f_Book_perform t.d_Book_perform
  b_Book_perform : Binds K t.d_Book_perform ["self", "deed"] []
  me_Book_perform : Meth K t.C_Book "perform" t.f_Book_perform
  F_Deed___init__ : Fun K "__init__" "Deed.__init__" s_Deed___init__ t.f_Deed___init__ t.d_Deed___init__
  b_Deed___init__ : Binds K t.d_Deed___init__ ["self", "things", "at", "before", "after"] []
  F_Book_put_in : Fun K "put_in" "Book.put_in" s_Book_put_in t.f_Book_put_in t.d_Book_put_in
  b_Book_put_in : Binds K t.d_Book_put_in ["self", "voice"] []
  me_Book_put_in : Meth K t.C_Book "put_in" t.f_Book_put_in
  F_Voice___init__ : Fun K "__init__" "Voice.__init__" s_Voice___init__ t.f_Voice___init__ t.d_Voice___init__
  b_Voice___init__ : Binds K t.d_Voice___init__ ["self", "name", "terms"] []
  F_Book_add_voice : Fun K "add_voice" "Book.add_voice" s_Book_add_voice t.f_Book_add_voice t.d_Book_add_voice
  b_Book_add_voice : Binds K t.d_Book_add_voice ["self", "name"] []
  me_Book_add_voice : Meth K t.C_Book "add_voice" t.f_Book_add_voice
  F_Book_voice_called : Fun K "voice_called" "Book.voice_called" s_Book_voice_called t.f_Book_voice_called t.d_Book_voice_called
  b_Book_voice_called : Binds K t.d_Book_voice_called ["self", "name"] []
  me_Book_voice_called : Meth K t.C_Book "voice_called" t.f_Book_voice_called
  F_Book_plain_voice : Fun K "plain_voice" "Book.plain_voice" s_Book_plain_voice t.f_Book_plain_voice t.d_Book_plain_voice
  b_Book_plain_voice : Binds K t.d_Book_plain_voice ["self", "name"] []
  me_Book_plain_voice : Meth K t.C_Book "plain_voice" t.f_Book_plain_voice
  F_Book_add_canon : FunD K "add_canon" "Book.add_canon" s_Book_add_canon t.f_Book_add_canon t.d_Book_add_canon (.ref t.df_Book_add_canon)
  bd_Book_add_canon : Binds K t.d_Book_add_canon ["self", "name", "leader", "later", "slow", "is_turned"] [.int 0 t.dt0_Book_add_canon, .int 1 t.dt1_Book_add_canon, .bool false]
  bd1_Book_add_canon : Binds K t.d_Book_add_canon ["self", "name", "leader", "later", "slow", "is_turned"] [.bool false]
  bd2_Book_add_canon : Binds K t.d_Book_add_canon ["self", "name", "leader", "later", "slow", "is_turned"] [.int 1 t.dt1_Book_add_canon, .bool false]
  b_Book_add_canon : Binds K t.d_Book_add_canon ["self", "name", "leader", "later", "slow", "is_turned"] []
  me_Book_add_canon : Meth K t.C_Book "add_canon" t.f_Book_add_canon
  F_l_cell_at : Fun K "_law_cell_at" "_law_cell_at" s_l_cell_at t.f_l_cell_at t.d_l_cell_at
  b_l_cell_at : Binds K t.d_l_cell_at ["_law_script", "_law_k"] []
  mg_l_cell_at : mg "_law_cell_at" = some (.ref t.f_l_cell_at)
  F_Book_canon : Fun K "canon" "Book.canon" s_Book_canon t.f_Book_canon t.d_Book_canon
  b_Book_canon : Binds K t.d_Book_canon ["self", "name"] []
  me_Book_canon : Meth K t.C_Book "canon" t.f_Book_canon
  F_Book_line : Fun K "line" "Book.line" s_Book_line t.f_Book_line t.d_Book_line
  b_Book_line : Binds K t.d_Book_line ["self", "name"] []
  me_Book_line : Meth K t.C_Book "line" t.f_Book_line
  F_refuse_other_places : Fun K "refuse_other_places" "refuse_other_places" s_refuse_other_places t.f_refuse_other_places t.d_refuse_other_places
  b_refuse_other_places : Binds K t.d_refuse_other_places ["at", "last"] []
  mg_refuse_other_places : mg "refuse_other_places" = some (.ref t.f_refuse_other_places)
  F_Book_cut : Fun K "cut" "Book.cut" s_Book_cut t.f_Book_cut t.d_Book_cut
  b_Book_cut : Binds K t.d_Book_cut ["self", "name", "at"] []
  me_Book_cut : Meth K t.C_Book "cut" t.f_Book_cut
  F_Book_drop : Fun K "drop" "Book.drop" s_Book_drop t.f_Book_drop t.d_Book_drop
  b_Book_drop : Binds K t.d_Book_drop ["self", "name"] []
  me_Book_drop : Meth K t.C_Book "drop" t.f_Book_drop
  F_Book_redo : Fun K "redo" "Book.redo" s_Book_redo t.f_Book_redo t.d_Book_redo
  b_Book_redo : Binds K t.d_Book_redo ["self"] []
  me_Book_redo : Meth K t.C_Book "redo" t.f_Book_redo
  F_good : Fun K "good" "good" s_good t.f_good t.d_good
  b_good : Binds K t.d_good ["sign"] []
  mg_good : mg "good" = some (.ref t.f_good)
  F_shown_sign : Fun K "shown_sign" "shown_sign" s_shown_sign t.f_shown_sign t.d_shown_sign
  b_shown_sign : Binds K t.d_shown_sign ["sign"] []
  mg_shown_sign : mg "shown_sign" = some (.ref t.f_shown_sign)
  F_number_of : Fun K "number_of" "number_of" s_number_of t.f_number_of t.d_number_of
  b_number_of : Binds K t.d_number_of ["word", "most"] []
  mg_number_of : mg "number_of" = some (.ref t.f_number_of)
  F_sign_of : Fun K "sign_of" "sign_of" s_sign_of t.f_sign_of t.d_sign_of
  b_sign_of : Binds K t.d_sign_of ["word"] []
  mg_sign_of : mg "sign_of" = some (.ref t.f_sign_of)
  F_BadWord___init__ : Fun K "__init__" "BadWord.__init__" s_BadWord___init__ t.f_BadWord___init__ t.d_BadWord___init__
  b_BadWord___init__ : Binds K t.d_BadWord___init__ ["self", "at"] []
  F_read_sign : Fun K "read_sign" "read_sign" s_read_sign t.f_read_sign t.d_read_sign
  b_read_sign : Binds K t.d_read_sign ["word"] []
  mg_read_sign : mg "read_sign" = some (.ref t.f_read_sign)
  F_take_voice : Fun K "take_voice" "take_voice" s_take_voice t.f_take_voice t.d_take_voice
  b_take_voice : Binds K t.d_take_voice ["book", "words"] []
  mg_take_voice : mg "take_voice" = some (.ref t.f_take_voice)
  F_take_row : Fun K "take_row" "take_row" s_take_row t.f_take_row t.d_take_row
  b_take_row : Binds K t.d_take_row ["book", "row"] []
  mg_take_row : mg "take_row" = some (.ref t.f_take_row)
  F_BadRow___init__ : Fun K "__init__" "BadRow.__init__" s_BadRow___init__ t.f_BadRow___init__ t.d_BadRow___init__
  b_BadRow___init__ : Binds K t.d_BadRow___init__ ["self", "at"] []
  F_read_book : Fun K "read_book" "read_book" s_read_book t.f_read_book t.d_read_book
  b_read_book : Binds K t.d_read_book ["text"] []
  mg_read_book : mg "read_book" = some (.ref t.f_read_book)
  F_Ear___init__ : FunD K "__init__" "Ear.__init__" s_Ear___init__ t.f_Ear___init__ t.d_Ear___init__ (.ref t.df_Ear___init__)
  bd_Ear___init__ : Binds K t.d_Ear___init__ ["self", "begin"] [.int 3 t.dt0_Ear___init__]
  b_Ear___init__ : Binds K t.d_Ear___init__ ["self", "begin"] []
  F_Ear_refuse_where_closed : Fun K "refuse_where_closed" "Ear.refuse_where_closed" s_Ear_refuse_where_closed t.f_Ear_refuse_where_closed t.d_Ear_refuse_where_closed
  b_Ear_refuse_where_closed : Binds K t.d_Ear_refuse_where_closed ["self"] []
  me_Ear_refuse_where_closed : Meth K t.C_Ear "refuse_where_closed" t.f_Ear_refuse_where_closed
  F_Ear_close_run : Fun K "close_run" "Ear.close_run" s_Ear_close_run t.f_Ear_close_run t.d_Ear_close_run
  b_Ear_close_run : Binds K t.d_Ear_close_run ["self", "kind"] []
  me_Ear_close_run : Meth K t.C_Ear "close_run" t.f_Ear_close_run
  F_Ear_let_go : Fun K "let_go" "Ear.let_go" s_Ear_let_go t.f_Ear_let_go t.d_Ear_let_go
  b_Ear_let_go : Binds K t.d_Ear_let_go ["self"] []
  me_Ear_let_go : Meth K t.C_Ear "let_go" t.f_Ear_let_go
  F_Ear_settled_by : Fun K "settled_by" "Ear.settled_by" s_Ear_settled_by t.f_Ear_settled_by t.d_Ear_settled_by
  b_Ear_settled_by : Binds K t.d_Ear_settled_by ["self", "kind"] []
  me_Ear_settled_by : Meth K t.C_Ear "settled_by" t.f_Ear_settled_by
  F_Ear_close : Fun K "close" "Ear.close" s_Ear_close t.f_Ear_close t.d_Ear_close
  b_Ear_close : Binds K t.d_Ear_close ["self"] []
  me_Ear_close : Meth K t.C_Ear "close" t.f_Ear_close
  F_Ear_hear : Fun K "hear" "Ear.hear" s_Ear_hear t.f_Ear_hear t.d_Ear_hear
  b_Ear_hear : Binds K t.d_Ear_hear ["self", "sign"] []
  me_Ear_hear : Meth K t.C_Ear "hear" t.f_Ear_hear
  F_l_bring : Fun K "_law_bring" "_law_bring" s_l_bring t.f_l_bring t.d_l_bring
  b_l_bring : Binds K t.d_l_bring ["_law_way", "_law_book"] []
  mg_l_bring : mg "_law_bring" = some (.ref t.f_l_bring)
  F_l_kin : Fun K "_law_kin" "_law_kin" s_l_kin t.f_l_kin t.d_l_kin
  b_l_kin : Binds K t.d_l_kin ["_law_way", "_law_book"] []
  mg_l_kin : mg "_law_kin" = some (.ref t.f_l_kin)
  F_law : Fun K "law" "law" s_law t.f_law t.d_law
  b_law : Binds K t.d_law ["_law_script"] []
  mg_law : mg "law" = some (.ref t.f_law)
  nb_ValueError : mg "ValueError" = none
  nb_all : mg "all" = none
  nb_any : mg "any" = none
  nb_enumerate : mg "enumerate" = none
  nb_int : mg "int" = none
  nb_isinstance : mg "isinstance" = none
  nb_len : mg "len" = none
  nb_list : mg "list" = none
  nb_min : mg "min" = none
  nb_range : mg "range" = none
  c_GREAT_KINDS : mg "GREAT_KINDS" = some (.ref t.a_GREAT_KINDS)
  q_GREAT_KINDS : ∀ H, SqT K H t.a_GREAT_KINDS [.str "G", .str "D", .str "R"]
  c_SMALL_KINDS : mg "SMALL_KINDS" = some (.ref t.a_SMALL_KINDS)
  q_SMALL_KINDS : ∀ H, SqT K H t.a_SMALL_KINDS [.str "s", .str "d", .str "r"]
  c_SOUNDING_KINDS : mg "SOUNDING_KINDS" = some (.ref t.a_SOUNDING_KINDS)
  q_SOUNDING_KINDS : ∀ H, SqT K H t.a_SOUNDING_KINDS [.str "G", .str "D", .str "s", .str "d"]
  c_SILENT_KINDS : mg "SILENT_KINDS" = some (.ref t.a_SILENT_KINDS)
  q_SILENT_KINDS : ∀ H, SqT K H t.a_SILENT_KINDS [.str "R", .str "r", .str ".", .str "3", .str "2"]
  c_HIGHEST_TONE : mg "HIGHEST_TONE" = some (.int 99 t.t_HIGHEST_TONE)
  c_FIGURES : mg "FIGURES" = some (.ref t.a_FIGURES)
  q_FIGURES : ∀ H, SqT K H t.a_FIGURES [.str "0", .str "1", .str "2", .str "3", .str "4", .str "5", .str "6", .str "7", .str "8", .str "9"]
  c_MOST_FIGURES_texts : mg "MOST_FIGURES_texts" = some (.int 2 t.t_MOST_FIGURES_texts)
  c_SHORTENED_WORTH : mg "SHORTENED_WORTH" = some (.int 2 t.t_SHORTENED_WORTH)
  c_DOUBLED_WORTH : mg "DOUBLED_WORTH" = some (.int 2 t.t_DOUBLED_WORTH)
  c_LETTERS : mg "LETTERS" = some (.str "abcdefghijklmnopqrstuvwxyz" t.t_LETTERS)
  c_LONGEST_NAME : mg "LONGEST_NAME" = some (.int 8 t.t_LONGEST_NAME)
  c_MOST_VOICES : mg "MOST_VOICES" = some (.int 12 t.t_MOST_VOICES)
  c_LATEST : mg "LATEST" = some (.int 999 t.t_LATEST)
  c_SLOWEST : mg "SLOWEST" = some (.int 9 t.t_SLOWEST)
  c_NOTHING_MORE : mg "NOTHING_MORE" = some (.str "" t.t_NOTHING_MORE)
  mg_Voice : mg "Voice" = some (.ref t.C_Voice)
  mk_Voice : Mk K t.C_Voice t.f_Voice___init__
  cl_Voice : Cls K t.C_Voice
  na_Voice_name : NoAttr K t.C_Voice "name"
  na_Voice_terms : NoAttr K t.C_Voice "terms"
  na_Voice_signs : NoAttr K t.C_Voice "signs"
  mg_Deed : mg "Deed" = some (.ref t.C_Deed)
  mk_Deed : Mk K t.C_Deed t.f_Deed___init__
  cl_Deed : Cls K t.C_Deed
  na_Deed_things : NoAttr K t.C_Deed "things"
  na_Deed_at : NoAttr K t.C_Deed "at"
  na_Deed_before : NoAttr K t.C_Deed "before"
  na_Deed_after : NoAttr K t.C_Deed "after"
  mg_Book : mg "Book" = some (.ref t.C_Book)
  mk_Book : Mk K t.C_Book t.f_Book___init__
  cl_Book : Cls K t.C_Book
  na_Book_voices : NoAttr K t.C_Book "voices"
  na_Book_done : NoAttr K t.C_Book "done"
  na_Book_undone : NoAttr K t.C_Book "undone"
  mg_Ear : mg "Ear" = some (.ref t.C_Ear)
  mk_Ear : Mk K t.C_Ear t.f_Ear___init__
  cl_Ear : Cls K t.C_Ear
  na_Ear_measure : NoAttr K t.C_Ear "measure"
  na_Ear_held : NoAttr K t.C_Ear "held"
  na_Ear_left : NoAttr K t.C_Ear "left"
  na_Ear_right : NoAttr K t.C_Ear "right"
  na_Ear_counted : NoAttr K t.C_Ear "counted"
  na_Ear_last : NoAttr K t.C_Ear "last"
  na_Ear_is_closed : NoAttr K t.C_Ear "is_closed"
  mg_BadName : mg "BadName" = some (.ref t.C_BadName)
  mg_NameTaken : mg "NameTaken" = some (.ref t.C_NameTaken)
  mg_Full : mg "Full" = some (.ref t.C_Full)
  mg_NoVoice : mg "NoVoice" = some (.ref t.C_NoVoice)
  mg_NotPlain : mg "NotPlain" = some (.ref t.C_NotPlain)
  mg_BadTerm : mg "BadTerm" = some (.ref t.C_BadTerm)
  mg_NoPlace : mg "NoPlace" = some (.ref t.C_NoPlace)
  mg_Leaned : mg "Leaned" = some (.ref t.C_Leaned)
  mg_NoMore : mg "NoMore" = some (.ref t.C_NoMore)
  mg_BadSign : mg "BadSign" = some (.ref t.C_BadSign)
  mg_NoteError : mg "NoteError" = some (.ref t.C_NoteError)
  mg_BadWord : mg "BadWord" = some (.ref t.C_BadWord)
  mg_BadRow : mg "BadRow" = some (.ref t.C_BadRow)
  mg_Closed : mg "Closed" = some (.ref t.C_Closed)
  xa_BadName : ExA K t.C_BadName
  xa_NameTaken : ExA K t.C_NameTaken
  xa_Full : ExA K t.C_Full
  xa_NoVoice : ExA K t.C_NoVoice
  xa_NotPlain : ExA K t.C_NotPlain
  xa_BadTerm : ExA K t.C_BadTerm
  xa_NoPlace : ExA K t.C_NoPlace
  xa_Leaned : ExA K t.C_Leaned
  xa_NoMore : ExA K t.C_NoMore
  xa_BadSign : ExA K t.C_BadSign
  xa_Closed : ExA K t.C_Closed
  xs_BadWord : ExS K t.C_BadWord t.f_BadWord___init__
  na_BadWord_at : PySem.W.findIn K (.ref t.C_BadWord) "at" = some none
  xs_BadRow : ExS K t.C_BadRow t.f_BadRow___init__
  na_BadRow_at : PySem.W.findIn K (.ref t.C_BadRow) "at" = some none
  xb_NoteError : ExB K t.C_NoteError
  xm_BadName_NoteError : PySem.W.exmOne K (.ref t.C_BadName) (.ref t.C_NoteError) = some true
  xm_NameTaken_NoteError : PySem.W.exmOne K (.ref t.C_NameTaken) (.ref t.C_NoteError) = some true
  xm_Full_NoteError : PySem.W.exmOne K (.ref t.C_Full) (.ref t.C_NoteError) = some true
  xm_NoVoice_NoteError : PySem.W.exmOne K (.ref t.C_NoVoice) (.ref t.C_NoteError) = some true
  xm_NotPlain_NoteError : PySem.W.exmOne K (.ref t.C_NotPlain) (.ref t.C_NoteError) = some true
  xm_BadTerm_NoteError : PySem.W.exmOne K (.ref t.C_BadTerm) (.ref t.C_NoteError) = some true
  xm_NoPlace_NoteError : PySem.W.exmOne K (.ref t.C_NoPlace) (.ref t.C_NoteError) = some true
  xm_Leaned_NoteError : PySem.W.exmOne K (.ref t.C_Leaned) (.ref t.C_NoteError) = some true
  xm_NoMore_NoteError : PySem.W.exmOne K (.ref t.C_NoMore) (.ref t.C_NoteError) = some true
  xm_BadSign_NoteError : PySem.W.exmOne K (.ref t.C_BadSign) (.ref t.C_NoteError) = some true
  xm_Closed_NoteError : PySem.W.exmOne K (.ref t.C_Closed) (.ref t.C_NoteError) = some true
  xm_BadWord_NoteError : PySem.W.exmOne K (.ref t.C_BadWord) (.ref t.C_NoteError) = some true
  xm_BadRow_NoteError : PySem.W.exmOne K (.ref t.C_BadRow) (.ref t.C_NoteError) = some true
  ki_BadName_BadName : PySem.W.kitOne K (.ref t.C_BadName) (.ref t.C_BadName) = some true
  ki_NameTaken_BadName : PySem.W.kitOne K (.ref t.C_NameTaken) (.ref t.C_BadName) = some false
  ki_Full_BadName : PySem.W.kitOne K (.ref t.C_Full) (.ref t.C_BadName) = some false
  ki_NoVoice_BadName : PySem.W.kitOne K (.ref t.C_NoVoice) (.ref t.C_BadName) = some false
  ki_NotPlain_BadName : PySem.W.kitOne K (.ref t.C_NotPlain) (.ref t.C_BadName) = some false
  ki_BadTerm_BadName : PySem.W.kitOne K (.ref t.C_BadTerm) (.ref t.C_BadName) = some false
  ki_NoPlace_BadName : PySem.W.kitOne K (.ref t.C_NoPlace) (.ref t.C_BadName) = some false
  ki_Leaned_BadName : PySem.W.kitOne K (.ref t.C_Leaned) (.ref t.C_BadName) = some false
  ki_NoMore_BadName : PySem.W.kitOne K (.ref t.C_NoMore) (.ref t.C_BadName) = some false
  ki_BadSign_BadName : PySem.W.kitOne K (.ref t.C_BadSign) (.ref t.C_BadName) = some false
  ki_Closed_BadName : PySem.W.kitOne K (.ref t.C_Closed) (.ref t.C_BadName) = some false
  ki_BadWord_BadName : PySem.W.kitOne K (.ref t.C_BadWord) (.ref t.C_BadName) = some false
  ki_BadRow_BadName : PySem.W.kitOne K (.ref t.C_BadRow) (.ref t.C_BadName) = some false
  ki_BadName_NameTaken : PySem.W.kitOne K (.ref t.C_BadName) (.ref t.C_NameTaken) = some false
  ki_NameTaken_NameTaken : PySem.W.kitOne K (.ref t.C_NameTaken) (.ref t.C_NameTaken) = some true
  ki_Full_NameTaken : PySem.W.kitOne K (.ref t.C_Full) (.ref t.C_NameTaken) = some false
  ki_NoVoice_NameTaken : PySem.W.kitOne K (.ref t.C_NoVoice) (.ref t.C_NameTaken) = some false
  ki_NotPlain_NameTaken : PySem.W.kitOne K (.ref t.C_NotPlain) (.ref t.C_NameTaken) = some false
  ki_BadTerm_NameTaken : PySem.W.kitOne K (.ref t.C_BadTerm) (.ref t.C_NameTaken) = some false
  ki_NoPlace_NameTaken : PySem.W.kitOne K (.ref t.C_NoPlace) (.ref t.C_NameTaken) = some false
  ki_Leaned_NameTaken : PySem.W.kitOne K (.ref t.C_Leaned) (.ref t.C_NameTaken) = some false
  ki_NoMore_NameTaken : PySem.W.kitOne K (.ref t.C_NoMore) (.ref t.C_NameTaken) = some false
  ki_BadSign_NameTaken : PySem.W.kitOne K (.ref t.C_BadSign) (.ref t.C_NameTaken) = some false
  ki_Closed_NameTaken : PySem.W.kitOne K (.ref t.C_Closed) (.ref t.C_NameTaken) = some false
  ki_BadWord_NameTaken : PySem.W.kitOne K (.ref t.C_BadWord) (.ref t.C_NameTaken) = some false
  ki_BadRow_NameTaken : PySem.W.kitOne K (.ref t.C_BadRow) (.ref t.C_NameTaken) = some false
  ki_BadName_NoVoice : PySem.W.kitOne K (.ref t.C_BadName) (.ref t.C_NoVoice) = some false
  ki_NameTaken_NoVoice : PySem.W.kitOne K (.ref t.C_NameTaken) (.ref t.C_NoVoice) = some false
  ki_Full_NoVoice : PySem.W.kitOne K (.ref t.C_Full) (.ref t.C_NoVoice) = some false
  ki_NoVoice_NoVoice : PySem.W.kitOne K (.ref t.C_NoVoice) (.ref t.C_NoVoice) = some true
  ki_NotPlain_NoVoice : PySem.W.kitOne K (.ref t.C_NotPlain) (.ref t.C_NoVoice) = some false
  ki_BadTerm_NoVoice : PySem.W.kitOne K (.ref t.C_BadTerm) (.ref t.C_NoVoice) = some false
  ki_NoPlace_NoVoice : PySem.W.kitOne K (.ref t.C_NoPlace) (.ref t.C_NoVoice) = some false
  ki_Leaned_NoVoice : PySem.W.kitOne K (.ref t.C_Leaned) (.ref t.C_NoVoice) = some false
  ki_NoMore_NoVoice : PySem.W.kitOne K (.ref t.C_NoMore) (.ref t.C_NoVoice) = some false
  ki_BadSign_NoVoice : PySem.W.kitOne K (.ref t.C_BadSign) (.ref t.C_NoVoice) = some false
  ki_Closed_NoVoice : PySem.W.kitOne K (.ref t.C_Closed) (.ref t.C_NoVoice) = some false
  ki_BadWord_NoVoice : PySem.W.kitOne K (.ref t.C_BadWord) (.ref t.C_NoVoice) = some false
  ki_BadRow_NoVoice : PySem.W.kitOne K (.ref t.C_BadRow) (.ref t.C_NoVoice) = some false
  ki_BadName_NotPlain : PySem.W.kitOne K (.ref t.C_BadName) (.ref t.C_NotPlain) = some false
  ki_NameTaken_NotPlain : PySem.W.kitOne K (.ref t.C_NameTaken) (.ref t.C_NotPlain) = some false
  ki_Full_NotPlain : PySem.W.kitOne K (.ref t.C_Full) (.ref t.C_NotPlain) = some false
  ki_NoVoice_NotPlain : PySem.W.kitOne K (.ref t.C_NoVoice) (.ref t.C_NotPlain) = some false
  ki_NotPlain_NotPlain : PySem.W.kitOne K (.ref t.C_NotPlain) (.ref t.C_NotPlain) = some true
  ki_BadTerm_NotPlain : PySem.W.kitOne K (.ref t.C_BadTerm) (.ref t.C_NotPlain) = some false
  ki_NoPlace_NotPlain : PySem.W.kitOne K (.ref t.C_NoPlace) (.ref t.C_NotPlain) = some false
  ki_Leaned_NotPlain : PySem.W.kitOne K (.ref t.C_Leaned) (.ref t.C_NotPlain) = some false
  ki_NoMore_NotPlain : PySem.W.kitOne K (.ref t.C_NoMore) (.ref t.C_NotPlain) = some false
  ki_BadSign_NotPlain : PySem.W.kitOne K (.ref t.C_BadSign) (.ref t.C_NotPlain) = some false
  ki_Closed_NotPlain : PySem.W.kitOne K (.ref t.C_Closed) (.ref t.C_NotPlain) = some false
  ki_BadWord_NotPlain : PySem.W.kitOne K (.ref t.C_BadWord) (.ref t.C_NotPlain) = some false
  ki_BadRow_NotPlain : PySem.W.kitOne K (.ref t.C_BadRow) (.ref t.C_NotPlain) = some false
  ki_BadName_NoPlace : PySem.W.kitOne K (.ref t.C_BadName) (.ref t.C_NoPlace) = some false
  ki_NameTaken_NoPlace : PySem.W.kitOne K (.ref t.C_NameTaken) (.ref t.C_NoPlace) = some false
  ki_Full_NoPlace : PySem.W.kitOne K (.ref t.C_Full) (.ref t.C_NoPlace) = some false
  ki_NoVoice_NoPlace : PySem.W.kitOne K (.ref t.C_NoVoice) (.ref t.C_NoPlace) = some false
  ki_NotPlain_NoPlace : PySem.W.kitOne K (.ref t.C_NotPlain) (.ref t.C_NoPlace) = some false
  ki_BadTerm_NoPlace : PySem.W.kitOne K (.ref t.C_BadTerm) (.ref t.C_NoPlace) = some false
  ki_NoPlace_NoPlace : PySem.W.kitOne K (.ref t.C_NoPlace) (.ref t.C_NoPlace) = some true
  ki_Leaned_NoPlace : PySem.W.kitOne K (.ref t.C_Leaned) (.ref t.C_NoPlace) = some false
  ki_NoMore_NoPlace : PySem.W.kitOne K (.ref t.C_NoMore) (.ref t.C_NoPlace) = some false
  ki_BadSign_NoPlace : PySem.W.kitOne K (.ref t.C_BadSign) (.ref t.C_NoPlace) = some false
  ki_Closed_NoPlace : PySem.W.kitOne K (.ref t.C_Closed) (.ref t.C_NoPlace) = some false
  ki_BadWord_NoPlace : PySem.W.kitOne K (.ref t.C_BadWord) (.ref t.C_NoPlace) = some false
  ki_BadRow_NoPlace : PySem.W.kitOne K (.ref t.C_BadRow) (.ref t.C_NoPlace) = some false
  ki_BadName_BadTerm : PySem.W.kitOne K (.ref t.C_BadName) (.ref t.C_BadTerm) = some false
  ki_NameTaken_BadTerm : PySem.W.kitOne K (.ref t.C_NameTaken) (.ref t.C_BadTerm) = some false
  ki_Full_BadTerm : PySem.W.kitOne K (.ref t.C_Full) (.ref t.C_BadTerm) = some false
  ki_NoVoice_BadTerm : PySem.W.kitOne K (.ref t.C_NoVoice) (.ref t.C_BadTerm) = some false
  ki_NotPlain_BadTerm : PySem.W.kitOne K (.ref t.C_NotPlain) (.ref t.C_BadTerm) = some false
  ki_BadTerm_BadTerm : PySem.W.kitOne K (.ref t.C_BadTerm) (.ref t.C_BadTerm) = some true
  ki_NoPlace_BadTerm : PySem.W.kitOne K (.ref t.C_NoPlace) (.ref t.C_BadTerm) = some false
  ki_Leaned_BadTerm : PySem.W.kitOne K (.ref t.C_Leaned) (.ref t.C_BadTerm) = some false
  ki_NoMore_BadTerm : PySem.W.kitOne K (.ref t.C_NoMore) (.ref t.C_BadTerm) = some false
  ki_BadSign_BadTerm : PySem.W.kitOne K (.ref t.C_BadSign) (.ref t.C_BadTerm) = some false
  ki_Closed_BadTerm : PySem.W.kitOne K (.ref t.C_Closed) (.ref t.C_BadTerm) = some false
  ki_BadWord_BadTerm : PySem.W.kitOne K (.ref t.C_BadWord) (.ref t.C_BadTerm) = some false
  ki_BadRow_BadTerm : PySem.W.kitOne K (.ref t.C_BadRow) (.ref t.C_BadTerm) = some false
  ki_BadName_Leaned : PySem.W.kitOne K (.ref t.C_BadName) (.ref t.C_Leaned) = some false
  ki_NameTaken_Leaned : PySem.W.kitOne K (.ref t.C_NameTaken) (.ref t.C_Leaned) = some false
  ki_Full_Leaned : PySem.W.kitOne K (.ref t.C_Full) (.ref t.C_Leaned) = some false
  ki_NoVoice_Leaned : PySem.W.kitOne K (.ref t.C_NoVoice) (.ref t.C_Leaned) = some false
  ki_NotPlain_Leaned : PySem.W.kitOne K (.ref t.C_NotPlain) (.ref t.C_Leaned) = some false
  ki_BadTerm_Leaned : PySem.W.kitOne K (.ref t.C_BadTerm) (.ref t.C_Leaned) = some false
  ki_NoPlace_Leaned : PySem.W.kitOne K (.ref t.C_NoPlace) (.ref t.C_Leaned) = some false
  ki_Leaned_Leaned : PySem.W.kitOne K (.ref t.C_Leaned) (.ref t.C_Leaned) = some true
  ki_NoMore_Leaned : PySem.W.kitOne K (.ref t.C_NoMore) (.ref t.C_Leaned) = some false
  ki_BadSign_Leaned : PySem.W.kitOne K (.ref t.C_BadSign) (.ref t.C_Leaned) = some false
  ki_Closed_Leaned : PySem.W.kitOne K (.ref t.C_Closed) (.ref t.C_Leaned) = some false
  ki_BadWord_Leaned : PySem.W.kitOne K (.ref t.C_BadWord) (.ref t.C_Leaned) = some false
  ki_BadRow_Leaned : PySem.W.kitOne K (.ref t.C_BadRow) (.ref t.C_Leaned) = some false
  ki_BadName_NoMore : PySem.W.kitOne K (.ref t.C_BadName) (.ref t.C_NoMore) = some false
  ki_NameTaken_NoMore : PySem.W.kitOne K (.ref t.C_NameTaken) (.ref t.C_NoMore) = some false
  ki_Full_NoMore : PySem.W.kitOne K (.ref t.C_Full) (.ref t.C_NoMore) = some false
  ki_NoVoice_NoMore : PySem.W.kitOne K (.ref t.C_NoVoice) (.ref t.C_NoMore) = some false
  ki_NotPlain_NoMore : PySem.W.kitOne K (.ref t.C_NotPlain) (.ref t.C_NoMore) = some false
  ki_BadTerm_NoMore : PySem.W.kitOne K (.ref t.C_BadTerm) (.ref t.C_NoMore) = some false
  ki_NoPlace_NoMore : PySem.W.kitOne K (.ref t.C_NoPlace) (.ref t.C_NoMore) = some false
  ki_Leaned_NoMore : PySem.W.kitOne K (.ref t.C_Leaned) (.ref t.C_NoMore) = some false
  ki_NoMore_NoMore : PySem.W.kitOne K (.ref t.C_NoMore) (.ref t.C_NoMore) = some true
  ki_BadSign_NoMore : PySem.W.kitOne K (.ref t.C_BadSign) (.ref t.C_NoMore) = some false
  ki_Closed_NoMore : PySem.W.kitOne K (.ref t.C_Closed) (.ref t.C_NoMore) = some false
  ki_BadWord_NoMore : PySem.W.kitOne K (.ref t.C_BadWord) (.ref t.C_NoMore) = some false
  ki_BadRow_NoMore : PySem.W.kitOne K (.ref t.C_BadRow) (.ref t.C_NoMore) = some false
  ki_BadName_BadSign : PySem.W.kitOne K (.ref t.C_BadName) (.ref t.C_BadSign) = some false
  ki_NameTaken_BadSign : PySem.W.kitOne K (.ref t.C_NameTaken) (.ref t.C_BadSign) = some false
  ki_Full_BadSign : PySem.W.kitOne K (.ref t.C_Full) (.ref t.C_BadSign) = some false
  ki_NoVoice_BadSign : PySem.W.kitOne K (.ref t.C_NoVoice) (.ref t.C_BadSign) = some false
  ki_NotPlain_BadSign : PySem.W.kitOne K (.ref t.C_NotPlain) (.ref t.C_BadSign) = some false
  ki_BadTerm_BadSign : PySem.W.kitOne K (.ref t.C_BadTerm) (.ref t.C_BadSign) = some false
  ki_NoPlace_BadSign : PySem.W.kitOne K (.ref t.C_NoPlace) (.ref t.C_BadSign) = some false
  ki_Leaned_BadSign : PySem.W.kitOne K (.ref t.C_Leaned) (.ref t.C_BadSign) = some false
  ki_NoMore_BadSign : PySem.W.kitOne K (.ref t.C_NoMore) (.ref t.C_BadSign) = some false
  ki_BadSign_BadSign : PySem.W.kitOne K (.ref t.C_BadSign) (.ref t.C_BadSign) = some true
  ki_Closed_BadSign : PySem.W.kitOne K (.ref t.C_Closed) (.ref t.C_BadSign) = some false
  ki_BadWord_BadSign : PySem.W.kitOne K (.ref t.C_BadWord) (.ref t.C_BadSign) = some false
  ki_BadRow_BadSign : PySem.W.kitOne K (.ref t.C_BadRow) (.ref t.C_BadSign) = some false
  ki_BadName_BadWord : PySem.W.kitOne K (.ref t.C_BadName) (.ref t.C_BadWord) = some false
  ki_NameTaken_BadWord : PySem.W.kitOne K (.ref t.C_NameTaken) (.ref t.C_BadWord) = some false
  ki_Full_BadWord : PySem.W.kitOne K (.ref t.C_Full) (.ref t.C_BadWord) = some false
  ki_NoVoice_BadWord : PySem.W.kitOne K (.ref t.C_NoVoice) (.ref t.C_BadWord) = some false
  ki_NotPlain_BadWord : PySem.W.kitOne K (.ref t.C_NotPlain) (.ref t.C_BadWord) = some false
  ki_BadTerm_BadWord : PySem.W.kitOne K (.ref t.C_BadTerm) (.ref t.C_BadWord) = some false
  ki_NoPlace_BadWord : PySem.W.kitOne K (.ref t.C_NoPlace) (.ref t.C_BadWord) = some false
  ki_Leaned_BadWord : PySem.W.kitOne K (.ref t.C_Leaned) (.ref t.C_BadWord) = some false
  ki_NoMore_BadWord : PySem.W.kitOne K (.ref t.C_NoMore) (.ref t.C_BadWord) = some false
  ki_BadSign_BadWord : PySem.W.kitOne K (.ref t.C_BadSign) (.ref t.C_BadWord) = some false
  ki_Closed_BadWord : PySem.W.kitOne K (.ref t.C_Closed) (.ref t.C_BadWord) = some false
  ki_BadWord_BadWord : PySem.W.kitOne K (.ref t.C_BadWord) (.ref t.C_BadWord) = some true
  ki_BadRow_BadWord : PySem.W.kitOne K (.ref t.C_BadRow) (.ref t.C_BadWord) = some false
  ki_BadName_BadRow : PySem.W.kitOne K (.ref t.C_BadName) (.ref t.C_BadRow) = some false
  ki_NameTaken_BadRow : PySem.W.kitOne K (.ref t.C_NameTaken) (.ref t.C_BadRow) = some false
  ki_Full_BadRow : PySem.W.kitOne K (.ref t.C_Full) (.ref t.C_BadRow) = some false
  ki_NoVoice_BadRow : PySem.W.kitOne K (.ref t.C_NoVoice) (.ref t.C_BadRow) = some false
  ki_NotPlain_BadRow : PySem.W.kitOne K (.ref t.C_NotPlain) (.ref t.C_BadRow) = some false
  ki_BadTerm_BadRow : PySem.W.kitOne K (.ref t.C_BadTerm) (.ref t.C_BadRow) = some false
  ki_NoPlace_BadRow : PySem.W.kitOne K (.ref t.C_NoPlace) (.ref t.C_BadRow) = some false
  ki_Leaned_BadRow : PySem.W.kitOne K (.ref t.C_Leaned) (.ref t.C_BadRow) = some false
  ki_NoMore_BadRow : PySem.W.kitOne K (.ref t.C_NoMore) (.ref t.C_BadRow) = some false
  ki_BadSign_BadRow : PySem.W.kitOne K (.ref t.C_BadSign) (.ref t.C_BadRow) = some false
  ki_Closed_BadRow : PySem.W.kitOne K (.ref t.C_Closed) (.ref t.C_BadRow) = some false
  ki_BadWord_BadRow : PySem.W.kitOne K (.ref t.C_BadWord) (.ref t.C_BadRow) = some false
  ki_BadRow_BadRow : PySem.W.kitOne K (.ref t.C_BadRow) (.ref t.C_BadRow) = some true
  ki_BadName_Full : PySem.W.kitOne K (.ref t.C_BadName) (.ref t.C_Full) = some false
  ki_NameTaken_Full : PySem.W.kitOne K (.ref t.C_NameTaken) (.ref t.C_Full) = some false
  ki_Full_Full : PySem.W.kitOne K (.ref t.C_Full) (.ref t.C_Full) = some true
  ki_NoVoice_Full : PySem.W.kitOne K (.ref t.C_NoVoice) (.ref t.C_Full) = some false
  ki_NotPlain_Full : PySem.W.kitOne K (.ref t.C_NotPlain) (.ref t.C_Full) = some false
  ki_BadTerm_Full : PySem.W.kitOne K (.ref t.C_BadTerm) (.ref t.C_Full) = some false
  ki_NoPlace_Full : PySem.W.kitOne K (.ref t.C_NoPlace) (.ref t.C_Full) = some false
  ki_Leaned_Full : PySem.W.kitOne K (.ref t.C_Leaned) (.ref t.C_Full) = some false
  ki_NoMore_Full : PySem.W.kitOne K (.ref t.C_NoMore) (.ref t.C_Full) = some false
  ki_BadSign_Full : PySem.W.kitOne K (.ref t.C_BadSign) (.ref t.C_Full) = some false
  ki_Closed_Full : PySem.W.kitOne K (.ref t.C_Closed) (.ref t.C_Full) = some false
  ki_BadWord_Full : PySem.W.kitOne K (.ref t.C_BadWord) (.ref t.C_Full) = some false
  ki_BadRow_Full : PySem.W.kitOne K (.ref t.C_BadRow) (.ref t.C_Full) = some false
  ki_BadName_Closed : PySem.W.kitOne K (.ref t.C_BadName) (.ref t.C_Closed) = some false
  ki_NameTaken_Closed : PySem.W.kitOne K (.ref t.C_NameTaken) (.ref t.C_Closed) = some false
  ki_Full_Closed : PySem.W.kitOne K (.ref t.C_Full) (.ref t.C_Closed) = some false
  ki_NoVoice_Closed : PySem.W.kitOne K (.ref t.C_NoVoice) (.ref t.C_Closed) = some false
  ki_NotPlain_Closed : PySem.W.kitOne K (.ref t.C_NotPlain) (.ref t.C_Closed) = some false
  ki_BadTerm_Closed : PySem.W.kitOne K (.ref t.C_BadTerm) (.ref t.C_Closed) = some false
  ki_NoPlace_Closed : PySem.W.kitOne K (.ref t.C_NoPlace) (.ref t.C_Closed) = some false
  ki_Leaned_Closed : PySem.W.kitOne K (.ref t.C_Leaned) (.ref t.C_Closed) = some false
  ki_NoMore_Closed : PySem.W.kitOne K (.ref t.C_NoMore) (.ref t.C_Closed) = some false
  ki_BadSign_Closed : PySem.W.kitOne K (.ref t.C_BadSign) (.ref t.C_Closed) = some false
  ki_Closed_Closed : PySem.W.kitOne K (.ref t.C_Closed) (.ref t.C_Closed) = some true
  ki_BadWord_Closed : PySem.W.kitOne K (.ref t.C_BadWord) (.ref t.C_Closed) = some false
  ki_BadRow_Closed : PySem.W.kitOne K (.ref t.C_BadRow) (.ref t.C_Closed) = some false
  kb_BadName_ValueError : PySem.W.kitOne K (.ref t.C_BadName) (.type "ValueError") = some true
  kb_NameTaken_ValueError : PySem.W.kitOne K (.ref t.C_NameTaken) (.type "ValueError") = some true
  kb_Full_ValueError : PySem.W.kitOne K (.ref t.C_Full) (.type "ValueError") = some true
  kb_NoVoice_ValueError : PySem.W.kitOne K (.ref t.C_NoVoice) (.type "ValueError") = some true
  kb_NotPlain_ValueError : PySem.W.kitOne K (.ref t.C_NotPlain) (.type "ValueError") = some true
  kb_BadTerm_ValueError : PySem.W.kitOne K (.ref t.C_BadTerm) (.type "ValueError") = some true
  kb_NoPlace_ValueError : PySem.W.kitOne K (.ref t.C_NoPlace) (.type "ValueError") = some true
  kb_Leaned_ValueError : PySem.W.kitOne K (.ref t.C_Leaned) (.type "ValueError") = some true
  kb_NoMore_ValueError : PySem.W.kitOne K (.ref t.C_NoMore) (.type "ValueError") = some true
  kb_BadSign_ValueError : PySem.W.kitOne K (.ref t.C_BadSign) (.type "ValueError") = some true
  kb_Closed_ValueError : PySem.W.kitOne K (.ref t.C_Closed) (.type "ValueError") = some true
  kb_BadWord_ValueError : PySem.W.kitOne K (.ref t.C_BadWord) (.type "ValueError") = some true
  kb_BadRow_ValueError : PySem.W.kitOne K (.ref t.C_BadRow) (.type "ValueError") = some true
end Mine

namespace Mine
open PySem L2
def cs (t : Adr) : Cs := ⟨t.C_Book, t.C_Voice, t.C_Deed, true, fun r => match r with
  | .BadSign => t.C_BadSign
  | .BadName => t.C_BadName
  | .NameTaken => t.C_NameTaken
  | .Full => t.C_Full
  | .NoVoice => t.C_NoVoice
  | .NotPlain => t.C_NotPlain
  | .NoPlace => t.C_NoPlace
  | .BadTerm => t.C_BadTerm
  | .Leaned => t.C_Leaned
  | .NoMore => t.C_NoMore⟩
end Mine

namespace Mine
open PySem L2
inductive sp_Book_init (C : Addr) (vs : List V) (H : Hp) (Q : VK) (E : XK) : Prop
  | mk (x dx : Addr) (h0_ : vs = [.ref x]) (h1_ : H x = some (.ins C dx [])) (h2_ : ∀ (L D U : Addr) (H' : Hp), (∀ y o, H y = some o → y ≠ x → H' y = some o) → H L = none → H D = none → H U = none → L ≠ D → L ≠ U → D ≠ U → H' x = some (.ins C dx (boF L D U)) → H' L = some (.lst []) → H' D = some (.lst []) → H' U = some (.lst []) → Q .non H') : sp_Book_init C vs H Q E
theorem ok_Book___init__ {P : Program} {w : World} {K : PySem.W.Frag} {mg : Str → Option Value} {base : Heap} {t : Adr} (T : Txt K w mg t) : FnOk P w K mg base CX0 (0 + 1) t.f_Book___init__ t.d_Book___init__ ["self"] (sp_Book_init t.C_Book) := by
  refine T.F_Book___init__.ok sc_Book___init__ (fun vs H Q E h => ?_) (fun cdv A outer s H vs Q E hr h => ?_)
  · obtain ⟨_, _, rfl, _⟩ := h
    rfl
  · obtain ⟨x, dx, rfl, hx, q⟩ := h
    refine bodyOk (pss_cons (ps_fld (pv 0) (pe_lst pa_nil) rfl) (pss_cons (ps_fld (pv 0) (pe_lst pa_nil) rfl) (pss_one (ps_fld (pv 0) (pe_lst pa_nil) rfl)))) ?_
    refine ⟨big (by show 0 ≤ 1000; omega), fun L hL => ?_⟩
    have xL : x ≠ L := ne_of_none hx hL
    refine ⟨_, rfl, x, _, dx, _, rfl, by rw [upd_ne xL]; exact hx, T.cl_Book, T.na_Book_voices, by show 0 < 1000; decide, ?_⟩
    refine ⟨big (by show 0 ≤ 1000; omega), fun D hD => ?_⟩
    have xD : x ≠ D := ne_of_none upd_same hD
    have DL : L ≠ D := ne_of_none (show upd (upd H L (.lst [])) x _ L = some (.lst []) by rw [upd_ne (Ne.symm xL)]; exact upd_same) hD
    have hD0 : H D = none := by rw [upd_ne (Ne.symm xD), upd_ne (Ne.symm DL)] at hD; exact hD
    refine ⟨_, rfl, x, _, dx, _, rfl, by rw [upd_ne xD]; exact upd_same, T.cl_Book, T.na_Book_done, by rw [boF_mk0]; show 1 < 1000; decide, ?_⟩
    refine ⟨big (by show 0 ≤ 1000; omega), fun U hU => ?_⟩
    have xU : x ≠ U := ne_of_none upd_same hU
    have DU : D ≠ U := by
      rintro rfl
      rw [upd_ne (Ne.symm xU), upd_same] at hU
      cases hU
    have LU : L ≠ U := by
      rintro rfl
      rw [upd_ne (Ne.symm xU), upd_ne DL, upd_ne (Ne.symm xU), upd_same] at hU
      cases hU
    have hU0 : H U = none := by rw [upd_ne (Ne.symm xU), upd_ne (Ne.symm DU), upd_ne (Ne.symm xU), upd_ne (Ne.symm LU)] at hU; exact hU
    refine ⟨_, rfl, x, _, dx, _, rfl, by rw [upd_ne xU]; exact upd_same, T.cl_Book, T.na_Book_undone, by rw [boF_mk0, boF_mk1]; show 2 < 1000; decide, ?_⟩
    rw [boF_mk0, boF_mk1, boF_mk2]
    refine q L D U _ (fun y o hy ny => ?_) hL hD0 hU0 DL LU DU upd_same ?_ ?_ ?_
    · rw [upd_ne ny, upd_ne (ne_of_none hy hU0), upd_ne ny, upd_ne (ne_of_none hy hD0), upd_ne ny, upd_ne (ne_of_none hy hL)]; exact hy
    · rw [upd_ne (Ne.symm xL), upd_ne LU, upd_ne (Ne.symm xL), upd_ne DL, upd_ne (Ne.symm xL)]; exact upd_same
    · rw [upd_ne (Ne.symm xD), upd_ne DU, upd_ne (Ne.symm xD)]; exact upd_same
    · rw [upd_ne (Ne.symm xU)]; exact upd_same

end Mine

namespace Mine
open PySem L2
inductive sp_is_name (vs : List V) (H : Hp) (Q : VK) (E : XK) : Prop
  | mk (x : Str) (h0_ : vs = [.str x]) (h1_ : x.length ≤ 1000) (h2_ : ∀ H', Same H H' → Q (.bl (nameB x)) H') : sp_is_name vs H Q E
theorem ok_is_name {P : Program} {w : World} {K : PySem.W.Frag} {mg : Str → Option Value} {base : Heap} {t : Adr} (T : Txt K w mg t) : FnOk P w K mg base CX0 (0 + 1) t.f_is_name t.d_is_name ["name"] sp_is_name := by
  refine T.F_is_name.ok sc_is_name (fun vs H Q E h => ?_) (fun cdv A outer s H vs Q E hr h => ?_)
  · obtain ⟨_, rfl, _⟩ := h
    rfl
  · obtain ⟨x, rfl, hx, q⟩ := h
    refine bodyOk (pss_one (ps_ret (pe_mid (pe_and (pe_chain op_le op_le pe_int (pe_callB (call_len_seq.or call_len_str) rfl T.nb_len bt_len (pa_cons (pv 0) pa_nil)) (pe_glob (v := .int 8) rfl T.c_LONGEST_NAME ⟨_, rfl⟩)) (pe_one (pe_callB call_all rfl T.nb_all bt_all (pa_cons (pe_comp (cn := ["letter"]) rfl (CompFit.of rfl) (pi_str (pv 0)) (fun _ => (pg_name (i := 0) nd_is_name_0 rfl (Or.inl rfl))) (fun _ => pf_nil) (fun _ => (pe_cmpR (op_in_seq.or op_in_str) (pv 0) (pe_glob (v := .str "abcdefghijklmnopqrstuvwxyz") rfl T.c_LETTERS ⟨_, rfl⟩) rfl))) pa_nil))))))) ?_
    have xb : x.length ≤ sizeLine := Nat.le_trans hx (by decide)
    refine ⟨fun v H' => v = .bl (nameB x) ∧ Same H H', ?_, fun _ _ ⟨e1, e2⟩ => by rw [e1]; exact q _ e2⟩
    unfold nameB
    refine ⟨_, rfl, .inr ⟨_, rfl, xb, _, _, rfl, rfl, _, rfl, ?_⟩⟩
    refine ite2 (fun h1 => ?_) (fun h1 => ?_)
    rotate_left
    · have e1 : decide (1 ≤ x.length) = false := decide_eq_false fun z => h1 (decide_eq_true (by omega))
      rw [e1]
      exact ⟨_, rfl, iteF ⟨rfl, Same.refl _⟩⟩
    have e1 : decide (1 ≤ x.length) = true := decide_eq_true (by have := of_decide_eq_true h1; omega)
    rw [e1, Bool.true_and]
    refine ⟨_, _, rfl, rfl, _, rfl, ?_⟩
    refine ite2 (fun h2 => ?_) (fun h2 => ?_)
    rotate_left
    · have e2 : decide (x.length ≤ 8) = false := decide_eq_false fun z => h2 (decide_eq_true (by omega))
      rw [e2]
      exact ⟨rfl, Same.refl _⟩
    have n2 : x.length ≤ 8 := by have := of_decide_eq_true h2; omega
    have e2 : decide (x.length ≤ 8) = true := decide_eq_true n2
    rw [e2, Bool.true_and]
    refine ⟨_, rfl, _, rfl, fun D b hD => ?_⟩
    refine comp_str (fun i ys σ H' => ∃ v, σ = [v, some (.str x)] ∧ H' = upd H D (.lst ys) ∧ ys = ((x.cps.toList.take i).map fun c => inS ⟨#[c]⟩ "abcdefghijklmnopqrstuvwxyz").map V.bl ∧ i ≤ x.cps.size) ⟨none, rfl, rfl, rfl, Nat.zero_le _⟩ ?_ ?_
    · rintro i ys c σ H' hc ⟨v, rfl, rfl, rfl, hi⟩ N hN
      have hi2 : i < x.cps.size := (Array.getElem?_eq_some_iff.mp hc).1
      have hcm : x.cps.toList[i]? = some c := by simpa using hc
      have sz : x.cps.size ≤ 8 := n2
      refine compT_name ?_
      refine ⟨_, rfl, .inr ⟨_, _, rfl, rfl, upd_same, ?_, ?_⟩⟩
      · rw [List.length_map, List.length_map, List.length_take]
        exact small1000 (by omega)
      · refine hN _ _ _ ⟨_, rfl, upd_upd, ?_, hi2⟩
        rw [List.take_succ, hcm, List.map_append, List.map_append]
        rfl
    · rintro ys σ H' ⟨v, rfl, rfl, rfl, hi⟩
      refine ⟨rfl, D, _, rfl, SqL.of upd_same, ?_, Same.upd hD⟩
      rw [show x.cps.size = x.cps.toList.length from rfl, List.take_length]
      refine congrArg V.bl ?_
      rw [List.all_map]
      rfl

end Mine

namespace Mine
open PySem L2
inductive sp_Book_names (c : Cs) (vs : List V) (H : Hp) (Q : VK) (E : XK) : Prop
  | mk (x : Addr) (F : Addr → Prop) (vw : Vw) (ps fs : List Vw) (h0_ : vs = [.ref x]) (h1_ : BkC c H x F vw ps fs) (h2_ : ∀ (l : Addr) (H' : Hp), H l = none → Same H H' → H' l = some (.lst (vw.map fun a => V.str a.1)) → Q (.ref l) H') : sp_Book_names c vs H Q E
theorem ok_Book_names {P : Program} {w : World} {K : PySem.W.Frag} {mg : Str → Option Value} {base : Heap} {t : Adr} (T : Txt K w mg t) : FnOk P w K mg base CX0 (0 + 1) t.f_Book_names t.d_Book_names ["self"] (sp_Book_names (cs t)) := by
  refine T.F_Book_names.ok sc_Book_names (fun vs H Q E h => ?_) (fun cdv A outer s H vs Q E hr h => ?_)
  · obtain ⟨_, _, _, _, _, rfl, _⟩ := h
    rfl
  · obtain ⟨x, F, vw, ps, fs, rfl, B, q⟩ := h
    refine bodyOk (pss_one (ps_ret (pe_comp (cn := ["voice"]) rfl (CompFit.of rfl) (pi_list (pe_fld (pv 0) rfl)) (fun _ => (pg_name (i := 0) nd_Book_names_1 rfl (Or.inl rfl))) (fun _ => pf_nil) (fun _ => (pe_fld (pv 0) rfl))))) ?_
    obtain ⟨L, D, U, all, M, Ps, Fs, es, us, b, i, pp, pf, f⟩ := B.ex
    obtain ⟨dx, hx⟩ := b.hx
    obtain ⟨vx, g, gv⟩ := b.voices i
    have hL := b.hL
    have xl := plen g
    have vl := plen gv
    have ln := (b.wf M (.inr (.inl rfl))).len
    have hn := pnames gv fun _ _ r => r.2.1
    refine ⟨_, rfl, x, _, dx, _, _, rfl, hx, T.cl_Book, T.na_Book_voices, boF_voices _ _ _, L, rfl, ⟨_, SqL.of hL⟩, fun D' b' hD' => ?_⟩
    refine comp_list (K := K) (xs := M L) (fun i ys σ H' => ∃ v, σ = [v, some (.ref x)] ∧ H' = upd H D' (.lst ys) ∧ ys = (vx.take i).map fun a => V.str a.n) ⟨none, rfl, rfl, by simp⟩ ?_ ?_ ?_
    · rintro i ys σ H' ⟨v, rfl, rfl, _⟩
      exact seq_upd (SqL.of hL) hD'
    · rintro i ys y σ H' hy ⟨v, rfl, rfl, rfl⟩ N hN
      obtain ⟨a, e1, rfl, ha⟩ := pget g hy
      have hi : i < vx.length := (List.getElem?_eq_some_iff.mp e1).1
      refine compT_name ?_
      refine ⟨_, rfl, a.o, _, a.d, _, _, rfl, by rw [upd_ne (ne_of_none ha hD')]; exact ha, T.cl_Voice, T.na_Voice_name, voF_name _ _ _, upd_same, ?_, ?_⟩
      · rw [List.length_map, List.length_take]
        exact small1000 (by omega)
      · refine hN _ _ _ ⟨_, rfl, upd_upd, ?_⟩
        rw [List.take_succ, e1]
        simp
    · rintro ys σ H' ⟨v, rfl, rfl, rfl⟩
      rw [xl, List.take_length, hn]
      exact q D' _ hD' (Same.upd hD') upd_same

end Mine

namespace Mine
open PySem L2
theorem inV_mem' {x : Str} {l : List V} (h : inV (.str x) l = true) : V.str x ∈ l := by
  unfold inV at h
  obtain ⟨y, hy, e⟩ := List.any_eq_true.mp h
  cases y with
  | str z =>
    have : z = x := by simpa [eqV] using e
    rw [← this]
    exact hy
  | _ => simp [eqV] at e
theorem inV_of_mem {x : Str} {l : List V} (h : V.str x ∈ l) : inV (.str x) l = true := by
  unfold inV
  exact List.any_eq_true.mpr ⟨_, h, by simp [eqV]⟩
theorem newOut_none {vw : Vw} {n : Str} (h : newOut vw n = none) : nameB n = true ∧ findV vw n = none ∧ vw.length < 12 := by
  unfold newOut at h
  split at h
  · cases h
  · next h1 =>
    split at h
    · cases h
    · next h2 =>
      split at h
      · cases h
      · next h3 => exact ⟨by simpa using h1, by cases e : findV vw n with | none => rfl | some _ => rw [e] at h2; exact absurd rfl h2, by omega⟩
inductive sp_Book_refuse_new (c : Cs) (vs : List V) (H : Hp) (Q : VK) (E : XK) : Prop
  | mk (x : Addr) (F : Addr → Prop) (vw : Vw) (ps fs : List Vw) (n : Str) (h0_ : vs = [.ref x, .str n]) (h1_ : BkC c H x F vw ps fs) (h2_ : n.length ≤ 1000) (h3_ : match newOut vw n with
  | some r => ∀ H', Same H H' → RX E c r H'
  | none => ∀ H', Same H H' → Q .non H') : sp_Book_refuse_new c vs H Q E
theorem ok_Book_refuse_new {P : Program} {w : World} {K : PySem.W.Frag} {mg : Str → Option Value} {base : Heap} {t : Adr} (T : Txt K w mg t) : FnOk P w K mg base (CX1 P w) (0 + 2) t.f_Book_refuse_new t.d_Book_refuse_new ["self", "name"] (sp_Book_refuse_new (cs t)) := by
  have G_is_name := ok_is_name (P := P) (w := w) (base := base) T
  have G_Book_names := ok_Book_names (P := P) (w := w) (base := base) T
  refine T.F_Book_refuse_new.okX sc_Book_refuse_new (fun vs H Q E h => ?_) (fun cdv A outer s H vs Q E hr h => ?_)
  · obtain ⟨_, _, _, _, _, _, rfl, _⟩ := h
    rfl
  · obtain ⟨x, F, vw, ps, fs, n, rfl, B, hlen, q⟩ := h
    refine bodyOk (pss_cons (ps_if (pt_not (pt_val (pe_call G_is_name (hr.mono (by decide)) rfl T.mg_is_name T.F_is_name.kp T.b_is_name .nil pass0 (pa_cons (pv 1) pa_nil)))) (pss_one (ps_raise (X := (cxOf (CX1 P w) P w K mg base ["self", "name"] "Book.refuse_new" (defScope s_Book_refuse_new) t.f_Book_refuse_new cdv A outer s H E)) (fun _ _ z => z) rfl T.xa_BadName.exc rfl T.mg_BadName (pa_cons pe_str pa_nil))) pss_nil) (pss_cons (ps_if (pt_cmpR (op_in_seq.or op_in_str) (pv 1) (pe_meth0 (pv 0) T.cl_Book T.me_Book_names G_Book_names (hr.mono (by decide)) T.b_Book_names .nil pass0) rfl) (pss_one (ps_raise (X := (cxOf (CX1 P w) P w K mg base ["self", "name"] "Book.refuse_new" (defScope s_Book_refuse_new) t.f_Book_refuse_new cdv A outer s H E)) (fun _ _ z => z) rfl T.xa_NameTaken.exc rfl T.mg_NameTaken (pa_cons pe_str pa_nil))) pss_nil) (pss_one (ps_if (pt_cmpR op_ge (pe_callB (call_len_seq.or call_len_str) rfl T.nb_len bt_len (pa_cons (pe_fld (pv 0) rfl) pa_nil)) (pe_glob (v := .int 12) rfl T.c_MOST_VOICES ⟨_, rfl⟩) (nomark _)) (pss_one (ps_raise (X := (cxOf (CX1 P w) P w K mg base ["self", "name"] "Book.refuse_new" (defScope s_Book_refuse_new) t.f_Book_refuse_new cdv A outer s H E)) (fun _ _ z => z) rfl T.xa_Full.exc rfl T.mg_Full (pa_cons pe_str pa_nil))) pss_nil)))) ?_
    refine ⟨_, rfl, n, rfl, hlen, fun H1 s1 => ?_⟩
    unfold newOut at q
    refine ⟨_, rfl, ?_⟩
    cases hnb : nameB n with
    | false =>
      rw [if_pos hnb] at q
      have q := q H1 s1
      exact iteT ⟨by show 1 ≤ sizeLine; decide, q.2⟩
    | true =>
      rw [if_neg (by rw [hnb]; decide)] at q
      refine iteF ?_
      have B1 := B.same s1
      obtain ⟨L, D, U, all, M, Ps, Fs, es, us, b, i, pp, pf, f⟩ := B1.ex
      obtain ⟨dx, hx⟩ := b.hx
      refine ⟨_, rfl, _, rfl, x, dx, _, rfl, hx, boF_no_names _ _ _, ?_⟩
      refine ⟨x, F, vw, ps, fs, rfl, B1, fun l H2 hl s2 hl2 => ?_⟩
      refine .inl ⟨l, _, rfl, .inl (SqL.of hl2), rfl, ?_, _, rfl, ?_⟩
      · rw [List.all_map]
        exact List.all_eq_true.mpr fun _ _ => rfl
      have mem : inV (.str n) (vw.map fun a => V.str a.1) = true ↔ (findV vw n).isSome = true := by
        constructor
        · intro h
          obtain ⟨a, ha, e⟩ := List.mem_map.mp (inV_mem' h)
          cases e2 : findV vw n with
          | some _ => rfl
          | none => exact absurd (V.str.inj e) (findV_none e2 a ha)
        · intro h
          cases e2 : findV vw n with
          | none => rw [e2] at h; cases h
          | some th => exact inV_of_mem (List.mem_map.mpr ⟨_, findV_mem e2, rfl⟩)
      refine ite2 (fun h => ?_) (fun h => ?_)
      · rw [if_pos (mem.mp h)] at q
        have q := q H2 (s1.trans s2)
        exact ⟨by show 1 ≤ sizeLine; decide, q.2⟩
      rw [if_neg (fun z => h (mem.mpr z))] at q
      refine ⟨_, rfl, x, _, dx, _, _, rfl, s2 _ _ hx, T.cl_Book, T.na_Book_voices, boF_voices _ _ _, ?_⟩
      refine .inl ⟨L, M L, rfl, .inl (SqL.of (s2 _ _ b.hL)), ?_⟩
      refine ⟨_, _, rfl, rfl, _, rfl, ?_⟩
      have ll := plen i
      refine ite2 (fun h => ?_) (fun h => ?_)
      · have h' := of_decide_eq_true h
        rw [if_pos (by omega)] at q
        have q := q H2 (s1.trans s2)
        exact ⟨by show 1 ≤ sizeLine; decide, q.2⟩
      · rw [if_neg (fun z => h (decide_eq_true (by omega)))] at q
        exact q _ (s1.trans s2)

end Mine

namespace Mine
open PySem L2
inductive sp_Deed_do (C : Addr) (vs : List V) (H : Hp) (Q : VK) (E : XK) : Prop
  | mk (x dx T_ B A : Addr) (i : Nat) (xs bs as : List V) (h0_ : vs = [.ref x]) (h1_ : H x = some (.ins C dx (deF T_ (i : Int) B A))) (h2_ : H T_ = some (.lst xs)) (h3_ : H B = some (.lst bs)) (h4_ : H A = some (.lst as)) (h5_ : T_ ≠ A) (h6_ : i + bs.length ≤ xs.length) (h7_ : xs.length + as.length ≤ 1000) (h8_ : Q .non (upd H T_ (.lst (xs.take i ++ as ++ xs.drop (i + bs.length))))) : sp_Deed_do C vs H Q E
theorem ok_Deed_do {P : Program} {w : World} {K : PySem.W.Frag} {mg : Str → Option Value} {base : Heap} {t : Adr} (T : Txt K w mg t) : FnOk P w K mg base CX0 (0 + 1) t.f_Deed_do t.d_Deed_do ["self"] (sp_Deed_do t.C_Deed) := by
  refine T.F_Deed_do.ok sc_Deed_do (fun vs H Q E h => ?_) (fun cdv A outer s H vs Q E hr h => ?_)
  · obtain ⟨_, _, _, _, _, _, _, _, _, rfl, _⟩ := h
    rfl
  · obtain ⟨x, dx, T_, B, A_, i, xs, bs, as, rfl, hx, hT, hB, hA, hne, hi, hz, q⟩ := h
    refine bodyOk (pss_one (ps_asg (pe_fld (pv 0) rfl) (pg_slice (pe_fld (pv 0) rfl) (po_some (pe_fld (pv 0) rfl)) (po_some (pe_op (op_add.or (op_add_str.or op_cat)) (pe_fld (pv 0) rfl) (pe_callB (call_len_seq.or call_len_str) rfl T.nb_len bt_len (pa_cons (pe_fld (pv 0) rfl) pa_nil))))))) ?_
    refine ⟨_, rfl, x, _, dx, _, _, rfl, hx, T.cl_Deed, T.na_Deed_after, deF_after _ _ _ _, ?_⟩
    refine ⟨_, rfl, x, _, dx, _, _, rfl, hx, T.cl_Deed, T.na_Deed_things, deF_things _ _ _ _, ?_⟩
    refine ⟨_, rfl, x, _, dx, _, _, rfl, hx, T.cl_Deed, T.na_Deed_at, deF_at _ _ _ _, _, rfl, ?_⟩
    refine ⟨_, rfl, x, _, dx, _, _, rfl, hx, T.cl_Deed, T.na_Deed_at, deF_at _ _ _ _, ?_⟩
    refine ⟨_, rfl, x, _, dx, _, _, rfl, hx, T.cl_Deed, T.na_Deed_before, deF_before _ _ _ _, ?_⟩
    refine .inl ⟨B, bs, rfl, .inl (SqL.of hB), .inl ⟨_, _, rfl, rfl, _, rfl, ?_⟩⟩
    refine ⟨T_, A_, xs, as, (i : Int), ((i + bs.length : Nat) : Int), rfl, rfl, rfl, by simp, hT, hA, hne, by omega, by omega, by omega, Nat.le_trans hz (by decide), ?_⟩
    rw [Int.toNat_natCast, Int.toNat_natCast]
    exact q

end Mine

namespace Mine
open PySem L2
inductive sp_Book_perform (CB CD : Addr) (vs : List V) (H : Hp) (Q : VK) (E : XK) : Prop
  | mk (x dx L D U d dd T_ B A : Addr) (i : Nat) (ds us xs bs as : List V) (h0_ : vs = [.ref x, .ref d]) (h1_ : H x = some (.ins CB dx (boF L D U))) (h2_ : H D = some (.lst ds)) (h3_ : H U = some (.lst us)) (h4_ : H d = some (.ins CD dd (deF T_ (i : Int) B A))) (h5_ : H T_ = some (.lst xs)) (h6_ : H B = some (.lst bs)) (h7_ : H A = some (.lst as)) (h8_ : T_ ≠ A) (h9_ : T_ ≠ D) (h10_ : T_ ≠ U) (h11_ : D ≠ U) (h12_ : i + bs.length ≤ xs.length) (h13_ : xs.length + as.length ≤ 1000) (h14_ : ds.length ≤ 900) (h15_ : Q .non (upd (upd (upd H T_ (.lst (xs.take i ++ as ++ xs.drop (i + bs.length)))) D (.lst (ds ++ [.ref d]))) U (.lst []))) : sp_Book_perform CB CD vs H Q E
theorem ok_Book_perform {P : Program} {w : World} {K : PySem.W.Frag} {mg : Str → Option Value} {base : Heap} {t : Adr} (T : Txt K w mg t) : FnOk P w K mg base CX0 (0 + 2) t.f_Book_perform t.d_Book_perform ["self", "deed"] (sp_Book_perform t.C_Book t.C_Deed) := by
  have G_Deed_do := ok_Deed_do (P := P) (w := w) (base := base) T
  refine T.F_Book_perform.ok sc_Book_perform (fun vs H Q E h => ?_) (fun cdv A outer s H vs Q E hr h => ?_)
  · obtain ⟨_, _, _, _, _, _, _, _, _, _, _, _, _, _, _, _, rfl, _⟩ := h
    rfl
  · obtain ⟨x, dx, L, D, U, d, dd, T_, B, A_, i, ds, us, xs, bs, as, rfl, hx, hD, hU, hd, hT, hB, hA, n1, n2, n3, n4, hi, hz, hds, q⟩ := h
    refine bodyOk (pss_cons (ps_expr (pe_meth0 (pv 1) T.cl_Deed T.me_Deed_do G_Deed_do (hr.mono (by decide)) T.b_Deed_do .nil pass0)) (pss_cons (ps_expr (pe_bm PySem.F.plainAttrs_list PySem.F.slot_list_append PySem.F.type_list_append mt_append (pe_fld (pv 0) rfl) (pa_cons (pv 1) pa_nil))) (pss_one (ps_expr (pe_bm0 PySem.F.plainAttrs_list PySem.F.slot_list_clear PySem.F.type_list_clear mt_clear (pe_fld (pv 0) rfl)))))) ?_
    have xT : x ≠ T_ := ne_of hx hT (by intro z; cases z)
    have xD : x ≠ D := ne_of hx hD (by intro z; cases z)
    refine ⟨_, rfl, d, dd, _, rfl, hd, deF_no_do _ _ _ _, ?_⟩
    refine ⟨d, dd, T_, B, A_, i, xs, bs, as, rfl, hd, hT, hB, hA, n1, hi, hz, ?_⟩
    refine ⟨_, rfl, x, _, dx, _, _, rfl, by rw [upd_ne xT]; exact hx, T.cl_Book, T.na_Book_done, boF_done _ _ _, ?_⟩
    refine ⟨.inl ⟨rfl, _, SqL.of (show upd H T_ _ D = some (.lst ds) by rw [upd_ne (Ne.symm n2)]; exact hD)⟩, _, rfl, D, _, _, rfl, rfl, by rw [upd_ne (Ne.symm n2)]; exact hD, small1000 (by omega), ?_⟩
    refine ⟨_, rfl, x, _, dx, _, _, rfl, by rw [upd_ne xD, upd_ne xT]; exact hx, T.cl_Book, T.na_Book_undone, boF_undone _ _ _, ?_⟩
    have hU2 : upd (upd H T_ (.lst (xs.take i ++ as ++ xs.drop (i + bs.length)))) D (.lst (ds ++ [.ref d])) U = some (.lst us) := by rw [upd_ne (Ne.symm n4), upd_ne (Ne.symm n3)]; exact hU
    exact ⟨.inl ⟨rfl, _, SqL.of hU2⟩, U, _, rfl, rfl, hU2, q⟩

end Mine

namespace Mine
open PySem L2
inductive sp_Deed_init (C : Addr) (vs : List V) (H : Hp) (Q : VK) (E : XK) : Prop
  | mk (x dx : Addr) (T_ : Addr) (i : Int) (B A : Addr) (h0_ : vs = [.ref x, .ref T_, .int i, .ref B, .ref A]) (h1_ : H x = some (.ins C dx [])) (h2_ : Q .non (upd H x (.ins C dx (deF T_ i B A)))) : sp_Deed_init C vs H Q E
theorem ok_Deed___init__ {P : Program} {w : World} {K : PySem.W.Frag} {mg : Str → Option Value} {base : Heap} {t : Adr} (T : Txt K w mg t) : FnOk P w K mg base CX0 (0 + 1) t.f_Deed___init__ t.d_Deed___init__ ["self", "things", "at", "before", "after"] (sp_Deed_init t.C_Deed) := by
  refine T.F_Deed___init__.ok sc_Deed___init__ (fun vs H Q E h => ?_) (fun cdv A outer s H vs Q E hr h => ?_)
  · obtain ⟨_, _, _, _, _, _, rfl, _⟩ := h
    rfl
  · obtain ⟨x, dx, T_, i, B, A_, rfl, hx, q⟩ := h
    refine bodyOk (pss_cons (ps_fld (pv 0) (pv 1) rfl) (pss_cons (ps_fld (pv 0) (pv 2) rfl) (pss_cons (ps_fld (pv 0) (pv 3) rfl) (pss_one (ps_fld (pv 0) (pv 4) rfl))))) ?_
    refine ⟨_, rfl, _, rfl, x, _, dx, _, rfl, hx, T.cl_Deed, T.na_Deed_things, by show 0 < 1000; decide, ?_⟩
    refine ⟨_, rfl, _, rfl, x, _, dx, _, rfl, upd_same, T.cl_Deed, T.na_Deed_at, by rw [deF_mk0]; show 1 < 1000; decide, ?_⟩
    refine ⟨_, rfl, _, rfl, x, _, dx, _, rfl, upd_same, T.cl_Deed, T.na_Deed_before, by rw [deF_mk0, deF_mk1]; show 2 < 1000; decide, ?_⟩
    refine ⟨_, rfl, _, rfl, x, _, dx, _, rfl, upd_same, T.cl_Deed, T.na_Deed_after, by rw [deF_mk0, deF_mk1, deF_mk2]; show 3 < 1000; decide, ?_⟩
    rw [deF_mk0, deF_mk1, deF_mk2, deF_mk3]
    simp only [upd_upd]
    exact q

end Mine

namespace Mine
open PySem L2
inductive sp_Book_put_in (c : Cs) (vs : List V) (H : Hp) (Q : VK) (E : XK) : Prop
  | mk (x dx L D U v : Addr) (xs ds us : List V) (h0_ : vs = [.ref x, .ref v]) (h1_ : H x = some (.ins c.B dx (boF L D U))) (h2_ : H L = some (.lst xs)) (h3_ : H D = some (.lst ds)) (h4_ : H U = some (.lst us)) (h5_ : L ≠ D) (h6_ : L ≠ U) (h7_ : D ≠ U) (h8_ : xs.length ≤ 12) (h9_ : ds.length ≤ 900) (h10_ : ∀ (e : Dd) (H1 H' : Hp), e.T = L → e.i = xs.length → e.bs = [] → e.as = [.ref v] → Same H H1 → H e.B = none → H e.A = none → DdAt c.D H1 (.ref e.o) e → (∀ y o, H1 y = some o → y ≠ L → y ≠ D → y ≠ U → H' y = some o) → H' L = some (.lst (xs ++ [.ref v])) → H' D = some (.lst (ds ++ [.ref e.o])) → H' U = some (.lst []) → Q .non H') : sp_Book_put_in c vs H Q E
theorem ok_Book_put_in {P : Program} {w : World} {K : PySem.W.Frag} {mg : Str → Option Value} {base : Heap} {t : Adr} (T : Txt K w mg t) : FnOk P w K mg base CX0 (0 + 3) t.f_Book_put_in t.d_Book_put_in ["self", "voice"] (sp_Book_put_in (cs t)) := by
  have G_Book_perform := ok_Book_perform (P := P) (w := w) (base := base) T
  have G_Deed___init__ := ok_Deed___init__ (P := P) (w := w) (base := base) T
  refine T.F_Book_put_in.ok sc_Book_put_in (fun vs H Q E h => ?_) (fun cdv A outer s H vs Q E hr h => ?_)
  · obtain ⟨_, _, _, _, _, _, _, _, _, rfl, _⟩ := h
    rfl
  · obtain ⟨x, dx, L, D, U, v, xs, ds, us, rfl, hx, hL, hD, hU, n1, n2, n3, hxs, hds, q⟩ := h
    refine bodyOk (pss_one (ps_expr (pe_meth (pv 0) T.cl_Book T.me_Book_perform G_Book_perform (hr.mono (by decide)) T.b_Book_perform .nil pass0 (pa_cons (pe_make T.mk_Deed G_Deed___init__ (hr.mono (by decide)) rfl T.mg_Deed T.b_Deed___init__ .nil pass0 (pa_cons (pe_fld (pv 0) rfl) (pa_cons (pe_callB (call_len_seq.or call_len_str) rfl T.nb_len bt_len (pa_cons (pe_fld (pv 0) rfl) pa_nil)) (pa_cons (pe_lst pa_nil) (pa_cons (pe_lst (pa_cons (pv 1) pa_nil)) pa_nil))))) pa_nil)))) ?_
    refine ⟨_, rfl, x, dx, _, rfl, hx, boF_no_perform _ _ _, ?_⟩
    refine ⟨_, rfl, x, _, dx, _, _, rfl, hx, T.cl_Book, T.na_Book_voices, boF_voices _ _ _, ?_⟩
    refine ⟨_, rfl, x, _, dx, _, _, rfl, hx, T.cl_Book, T.na_Book_voices, boF_voices _ _ _, ?_⟩
    refine .inl ⟨L, xs, rfl, .inl (SqL.of hL), ?_⟩
    refine ⟨big (by show 0 ≤ 1000; omega), fun B hB => ?_⟩
    refine ⟨_, rfl, big (by show 1 ≤ 1000; omega), fun A_ hA => ?_⟩
    have hA0 := updFree hA
    have LA : L ≠ A_ := ne_of_none (Same.upd (o := .lst []) hB _ _ hL) hA
    have sB := (Same.upd (o := .lst []) hB).trans (Same.upd (o := .lst [V.ref v]) hA)
    have hB2 := Same.upd (o := .lst [V.ref v]) hA _ _ (upd_same (H := H) (a := B) (o := .lst []))
    have hA2 := upd_same (H := upd H B (.lst [])) (a := A_) (o := .lst [V.ref v])
    generalize upd (upd H B (.lst [])) A_ (.lst [V.ref v]) = H2 at sB hB2 hA2
    intro d dd nd ndd ne
    refine ⟨d, dd, L, (xs.length : Int), B, A_, rfl, upd_same, rfl, ?_⟩
    rw [upd_upd]
    have s3 : Same H2 (upd (upd H2 dd (.own d)) d (.ins t.C_Deed dd (deF L (xs.length : Int) B A_))) := fun y o hy => by
      rw [upd_ne (ne_of_none hy nd), upd_ne (ne_of_none hy ndd)]
      exact hy
    have hd3 := upd_same (H := upd H2 dd (.own d)) (a := d) (o := .ins t.C_Deed dd (deF L (xs.length : Int) B A_))
    generalize upd (upd H2 dd (.own d)) d (.ins t.C_Deed dd (deF L (xs.length : Int) B A_)) = H3 at s3 hd3
    have s4 := sB.trans s3
    refine ⟨x, dx, L, D, U, d, dd, L, B, A_, xs.length, ds, us, xs, [], [.ref v], rfl, s4 _ _ hx, s4 _ _ hD, s4 _ _ hU, hd3, s4 _ _ hL, s3 _ _ hB2, s3 _ _ hA2, LA, n1, n2, n3, by simp, by simp; omega, hds, ?_⟩
    refine q ⟨d, dd, L, xs.length, B, A_, [], [.ref v]⟩ H3 _ rfl rfl rfl rfl s4 hB hA0 ⟨rfl, hd3, s3 _ _ hB2, s3 _ _ hA2⟩ (fun y o hy y1 y2 y3 => ?_) ?_ ?_ upd_same
    · rw [upd_ne y3, upd_ne y2, upd_ne y1]
      exact hy
    · rw [upd_ne n2, upd_ne n1, upd_same]
      simp
    · rw [upd_ne n3, upd_same]

end Mine

namespace Mine
open PySem L2
inductive sp_Voice_init (C : Addr) (vs : List V) (H : Hp) (Q : VK) (E : XK) : Prop
  | mk (x dx : Addr) (n : Str) (tm : V) (h0_ : vs = [.ref x, .str n, tm]) (h1_ : H x = some (.ins C dx [])) (h2_ : ∀ (L : Addr) (H' : Hp), (∀ y o, H y = some o → y ≠ x → H' y = some o) → H L = none → L ≠ x → H' x = some (.ins C dx (voF n tm L)) → H' L = some (.lst []) → Q .non H') : sp_Voice_init C vs H Q E
theorem ok_Voice___init__ {P : Program} {w : World} {K : PySem.W.Frag} {mg : Str → Option Value} {base : Heap} {t : Adr} (T : Txt K w mg t) : FnOk P w K mg base CX0 (0 + 1) t.f_Voice___init__ t.d_Voice___init__ ["self", "name", "terms"] (sp_Voice_init t.C_Voice) := by
  refine T.F_Voice___init__.ok sc_Voice___init__ (fun vs H Q E h => ?_) (fun cdv A outer s H vs Q E hr h => ?_)
  · obtain ⟨_, _, _, _, rfl, _⟩ := h
    rfl
  · obtain ⟨x, dx, n, tm, rfl, hx, q⟩ := h
    refine bodyOk (pss_cons (ps_fld (pv 0) (pv 1) rfl) (pss_cons (ps_fld (pv 0) (pv 2) rfl) (pss_one (ps_fld (pv 0) (pe_lst pa_nil) rfl)))) ?_
    refine ⟨_, rfl, _, rfl, x, _, dx, _, rfl, hx, T.cl_Voice, T.na_Voice_name, by show 0 < 1000; decide, ?_⟩
    refine ⟨_, rfl, _, rfl, x, _, dx, _, rfl, upd_same, T.cl_Voice, T.na_Voice_terms, by rw [voF_mk0]; show 1 < 1000; decide, ?_⟩
    refine ⟨big (by show 0 ≤ 1000; omega), fun L hL => ?_⟩
    rw [upd_upd] at hL
    have nx : x ≠ L := fun e => by rw [← e, upd_same] at hL; cases hL
    have hL0 : H L = none := by rw [upd_ne (Ne.symm nx)] at hL; exact hL
    refine ⟨_, rfl, x, _, dx, _, rfl, by rw [upd_ne nx, upd_upd]; exact upd_same, T.cl_Voice, T.na_Voice_signs, by rw [voF_mk0, voF_mk1]; show 2 < 1000; decide, ?_⟩
    rw [voF_mk0, voF_mk1, voF_mk2]
    simp only [upd_upd]
    refine q L _ (fun y o hy ny => ?_) hL0 (Ne.symm nx) upd_same ?_
    · rw [upd_ne ny, upd_ne (ne_of_none hy hL0), upd_ne ny]; exact hy
    · rw [upd_ne (Ne.symm nx)]; exact upd_same

end Mine

namespace Mine
open PySem L2
inductive sp_Book_add_voice (c : Cs) (vs : List V) (H : Hp) (Q : VK) (E : XK) : Prop
  | mk (x : Addr) (F : Addr → Prop) (vw : Vw) (ps fs : List Vw) (n : Str) (h0_ : vs = [.ref x, .str n]) (h1_ : BkC c H x F vw ps fs) (h2_ : n.length ≤ 1000) (h3_ : ps.length ≤ 900) (h4_ : match newOut vw n with
  | some r => ∀ H', Same H H' → RX E c r H'
  | none => ∀ F' H', Gr F F' H → Fr F H H' → BkC c H' x F' (vw ++ [(n, .pl [])]) (ps ++ [vw]) [] → Q .non H') : sp_Book_add_voice c vs H Q E
theorem ok_Book_add_voice {P : Program} {w : World} {K : PySem.W.Frag} {mg : Str → Option Value} {base : Heap} {t : Adr} (T : Txt K w mg t) : FnOk P w K mg base (CX1 P w) (0 + 4) t.f_Book_add_voice t.d_Book_add_voice ["self", "name"] (sp_Book_add_voice (cs t)) := by
  have G_Book_refuse_new := ok_Book_refuse_new (P := P) (w := w) (base := base) T
  have G_Book_put_in := ok_Book_put_in (P := P) (w := w) (base := base) T
  have G_Voice___init__ := ok_Voice___init__ (P := P) (w := w) (base := base) T
  refine T.F_Book_add_voice.okX sc_Book_add_voice (fun vs H Q E h => ?_) (fun cdv A outer s H vs Q E hr h => ?_)
  · obtain ⟨_, _, _, _, _, _, rfl, _⟩ := h
    rfl
  · obtain ⟨x, F, vw, ps, fs, n, rfl, B, hlen, hps, q⟩ := h
    refine bodyOk (pss_cons (ps_expr (pe_methX (X := (cxOf (CX1 P w) P w K mg base ["self", "name"] "Book.add_voice" (defScope s_Book_add_voice) t.f_Book_add_voice cdv A outer s H E)) (pv 0) T.cl_Book T.me_Book_refuse_new G_Book_refuse_new (hr.mono (by decide)) T.b_Book_refuse_new .nil (fun _ _ z => Or.inl z) (pa_cons (pv 1) pa_nil))) (pss_one (ps_expr (pe_meth (pv 0) T.cl_Book T.me_Book_put_in G_Book_put_in (hr.mono (by decide)) T.b_Book_put_in .nil pass0 (pa_cons (pe_make T.mk_Voice G_Voice___init__ (hr.mono (by decide)) rfl T.mg_Voice T.b_Voice___init__ .nil pass0 (pa_cons (pv 1) (pa_cons pe_non pa_nil))) pa_nil))))) ?_
    obtain ⟨L, D, U, all, M, Ps, Fs, es, us, b, i, pp, pf, f⟩ := B.ex
    obtain ⟨dx, hx⟩ := b.hx
    refine ⟨_, rfl, x, dx, _, rfl, hx, boF_no_refuse_new _ _ _, _, rfl, x, F, vw, ps, fs, n, rfl, B, hlen, ?_⟩
    cases ho : newOut vw n with
    | some r =>
      rw [ho] at q
      intro H' s'
      have q := q H' s'
      exact q
    | none =>
      rw [ho] at q
      obtain ⟨_, hf, hl12⟩ := newOut_none ho
      intro H1 s1
      have b1 := b.kept f (.same s1)
      obtain ⟨ds, hD, pD⟩ := b1.hD
      obtain ⟨ux, hU, pU⟩ := b1.hU
      have ll := plen i
      have dl := plen pD
      have pl := plen pp
      have pe := b.past.len
      refine ⟨_, rfl, x, dx, _, rfl, s1 _ _ hx, boF_no_put_in _ _ _, _, rfl, ?_⟩
      intro v dv nv ndv ne
      refine ⟨v, dv, n, .non, rfl, upd_same, fun l H2 kp hl hlv hv2 hl2 => ⟨rfl, ?_⟩⟩
      have s2 : Same H1 H2 := fun y o hy => kp y o (by rw [upd_ne (ne_of_none hy nv), upd_ne (ne_of_none hy ndv)]; exact hy) (ne_of_none hy nv)
      have hl1 : H1 l = none := mkFree hl
      refine ⟨x, dx, L, D, U, v, M L, ds, ux, rfl, s2 _ _ (s1 _ _ hx), s2 _ _ b1.hL, s2 _ _ hD, s2 _ _ hU, b.LD, b.LU, b.DU, by omega, by omega, fun e H3 H' eT ei eb ea s3 nB nA hd fr hL' hD' hU' => ?_⟩
      obtain ⟨F', g, fr', B'⟩ := Bk.added b1 (Is.kept (F := F) (.same s1) i) (pmono (fun _ _ q => Is.kept (F := F) (.same s1) q) pp) f B.wv (a := ⟨v, dv, n, .non, l⟩) (th := .pl []) s2 nv hl1 hv2 hl2 (fun M' h0 => ⟨rfl, by rw [h0]; exact .nil⟩) ((B.wv vw (.inr (.inl rfl))).addPl (findV_none hf) hl12) eT ei eb ea s3 nB nA hd hD pD fr hL' hD' hU'
      exact q F' H' (g.old s1) (fun y o hy hn => fr' y o (s1 y o hy) hn) B'

end Mine

namespace Mine
open PySem L2
inductive sp_Book_voice_called (c : Cs) (vs : List V) (H : Hp) (Q : VK) (E : XK) : Prop
  | mk (x dx L D U : Addr) (xs : List V) (vx : List Vx) (n : Str) (h0_ : vs = [.ref x, .str n]) (h1_ : H x = some (.ins c.B dx (boF L D U))) (h2_ : H L = some (.lst xs)) (h3_ : Paired (VxAt c.V H) xs vx) (h4_ : match vx.find? (fun a => decide (a.n = n)) with
  | none => RX E c .NoVoice H
  | some a => Q (.ref a.o) H) : sp_Book_voice_called c vs H Q E
theorem find_take {vx : List Vx} {n : Str} : ∀ {i : Nat}, (∀ j a, j < i → vx[j]? = some a → a.n ≠ n) → ∀ {b}, vx[i]? = some b → b.n = n → vx.find? (fun a => decide (a.n = n)) = some b := by
  induction vx with
  | nil => intro i _ b h; simp at h
  | cons v vs ih =>
    intro i hi b hb he
    cases i with
    | zero =>
      simp at hb
      subst hb
      exact List.find?_cons_of_pos (decide_eq_true he)
    | succ i =>
      have h0 := hi 0 v (by omega) rfl
      have h1 : (v :: vs).find? (fun a => decide (a.n = n)) = vs.find? (fun a => decide (a.n = n)) := List.find?_cons_of_neg (fun z => h0 (of_decide_eq_true z))
      rw [h1]
      exact ih (i := i) (fun j a hj ha => hi (j + 1) a (Nat.succ_lt_succ hj) (by simpa using ha)) (by simpa using hb) he
theorem ok_Book_voice_called {P : Program} {w : World} {K : PySem.W.Frag} {mg : Str → Option Value} {base : Heap} {t : Adr} (T : Txt K w mg t) : FnOk P w K mg base (CX1 P w) (0 + 1) t.f_Book_voice_called t.d_Book_voice_called ["self", "name"] (sp_Book_voice_called (cs t)) := by
  refine T.F_Book_voice_called.okX sc_Book_voice_called (fun vs H Q E h => ?_) (fun cdv A outer s H vs Q E hr h => ?_)
  · obtain ⟨_, _, _, _, _, _, _, _, rfl, _⟩ := h
    rfl
  · obtain ⟨x, dx, L, D, U, xs, vx, n, rfl, hx, hL, g, q⟩ := h
    refine bodyOk (pss_cons (ps_nox (ps_for PassesOwn.never rfl (pi_list (pe_fld (pv 0) rfl)) (pg_name (i := 2) sc_Book_voice_called.nd rfl (Or.inl rfl)) (pss_one (ps_if (pt_cmpR (op_eq.or (op_eqD (hu_of64 hr))) (pe_fld (pv 2) rfl) (pv 1) (nomark _)) (pss_one (ps_ret (pv 2))) pss_nil)))) (pss_one (ps_raise (X := (cxOf (CX1 P w) P w K mg base ["self", "name", "voice"] "Book.voice_called" (defScope s_Book_voice_called) t.f_Book_voice_called cdv A outer s H E)) (fun _ _ z => z) rfl T.xa_NoVoice.exc rfl T.mg_NoVoice (pa_cons pe_str pa_nil)))) ?_
    have xl := plen g
    refine ⟨_, rfl, x, _, dx, _, _, rfl, hx, T.cl_Book, T.na_Book_voices, boF_voices _ _ _, L, rfl, ⟨_, SqL.of hL⟩, for_list (K := K) (xs := xs) (fun i σ H' => ∃ v, σ = [some (.ref x), some (.str n), v] ∧ H' = H ∧ ∀ j a, j < i → vx[j]? = some a → a.n ≠ n) ⟨none, rfl, rfl, fun j a hj => by omega⟩ ?_ ?_ ?_⟩
    · rintro i σ H1 _ ⟨v, rfl, eH, _⟩
      rw [eH]
      exact SqL.of hL
    · rintro i y σ H1 hy ⟨v, rfl, eH, hi⟩
      have eH := eH.symm
      subst eH
      obtain ⟨b, e1, rfl, hb⟩ := pget g hy
      refine ⟨_, rfl, b.o, _, b.d, _, _, rfl, hb, T.cl_Voice, T.na_Voice_name, voF_name _ _ _, ?_⟩
      refine ⟨_, rfl, .inl ⟨rfl, _, rfl, ?_⟩⟩
      refine ite2 (fun h => ?_) (fun h => ?_)
      · have e : b.n = n := V.str.inj (of_decide_eq_true h)
        rw [find_take hi e1 e] at q
        exact ⟨_, rfl, q⟩
      · refine ⟨_, rfl, rfl, fun j a hj ha => ?_⟩
        rcases Nat.lt_or_ge j i with z | z
        · exact hi j a z ha
        · have hij : j = i := by omega
          rw [hij, e1] at ha
          cases ha
          exact fun z => h (decide_eq_true (congrArg V.str z))
    · rintro σ H1 ⟨v, rfl, eH, hi⟩
      have eH := eH.symm
      subst eH
      have hn : vx.find? (fun a => decide (a.n = n)) = none := List.find?_eq_none.mpr fun a ha z => by
        obtain ⟨j, hj⟩ := List.getElem?_of_mem ha
        have hjl : j < vx.length := (List.getElem?_eq_some_iff.mp hj).1
        exact hi j a (by omega) hj (of_decide_eq_true z)
      rw [hn] at q
      exact ⟨by show 1 ≤ sizeLine; decide, q.2⟩

end Mine

namespace Mine
open PySem L2
inductive sp_Book_plain_voice (c : Cs) (vs : List V) (H : Hp) (Q : VK) (E : XK) : Prop
  | mk (x dx L D U : Addr) (xs : List V) (vx : List Vx) (n : Str) (h0_ : vs = [.ref x, .str n]) (h1_ : H x = some (.ins c.B dx (boF L D U))) (h2_ : H L = some (.lst xs)) (h3_ : Paired (VxAt c.V H) xs vx) (h4_ : match vx.find? (fun a => decide (a.n = n)) with
  | none => RX E c .NoVoice H
  | some a => (a.tm = .non → Q (.ref a.o) H) ∧ (∀ p, a.tm = .ref p → RX E c .NotPlain H) ∧ (a.tm = .non ∨ ∃ p, a.tm = .ref p)) : sp_Book_plain_voice c vs H Q E
theorem ok_Book_plain_voice {P : Program} {w : World} {K : PySem.W.Frag} {mg : Str → Option Value} {base : Heap} {t : Adr} (T : Txt K w mg t) : FnOk P w K mg base (CX1 P w) (0 + 2) t.f_Book_plain_voice t.d_Book_plain_voice ["self", "name"] (sp_Book_plain_voice (cs t)) := by
  have G_Book_voice_called := ok_Book_voice_called (P := P) (w := w) (base := base) T
  refine T.F_Book_plain_voice.okX sc_Book_plain_voice (fun vs H Q E h => ?_) (fun cdv A outer s H vs Q E hr h => ?_)
  · obtain ⟨_, _, _, _, _, _, _, _, rfl, _⟩ := h
    rfl
  · obtain ⟨x, dx, L, D, U, xs, vx, n, rfl, hx, hL, g, q⟩ := h
    refine bodyOk (pss_cons (ps_set (i := 2) sc_Book_plain_voice.nd rfl (Or.inl rfl) (pe_methX (X := (cxOf (CX1 P w) P w K mg base ["self", "name", "voice"] "Book.plain_voice" (defScope s_Book_plain_voice) t.f_Book_plain_voice cdv A outer s H E)) (pv 0) T.cl_Book T.me_Book_voice_called G_Book_voice_called (hr.mono (by decide)) T.b_Book_voice_called .nil (fun _ _ z => Or.inl z) (pa_cons (pv 1) pa_nil))) (pss_cons (ps_if (pt_cmpR op_notN (pe_fld (pv 2) rfl) pe_non (nomark _)) (pss_one (ps_raise (X := (cxOf (CX1 P w) P w K mg base ["self", "name", "voice"] "Book.plain_voice" (defScope s_Book_plain_voice) t.f_Book_plain_voice cdv A outer s H E)) (fun _ _ z => z) rfl T.xa_NotPlain.exc rfl T.mg_NotPlain (pa_cons pe_str pa_nil))) pss_nil) (pss_one (ps_ret (pv 2))))) ?_
    refine ⟨_, rfl, x, dx, _, rfl, hx, boF_no_voice_called _ _ _, _, rfl, x, dx, L, D, U, xs, vx, n, rfl, hx, hL, g, ?_⟩
    cases hf : vx.find? (fun a => decide (a.n = n)) with
    | none =>
      rw [hf] at q
      exact q
    | some a =>
      rw [hf] at q
      obtain ⟨q1, q2, q3⟩ := q
      obtain ⟨j, hj⟩ := List.getElem?_of_mem (List.mem_of_find?_eq_some hf)
      obtain ⟨v, hv, rfl, ha⟩ := pgetR g hj
      refine ⟨_, rfl, a.o, _, a.d, _, _, rfl, ha, T.cl_Voice, T.na_Voice_terms, voF_terms _ _ _, ?_⟩
      rcases q3 with e | ⟨p, e⟩
      · rw [e]
        refine ⟨rfl, _, rfl, ?_⟩
        exact ite2 (fun h => absurd h (by decide)) (fun _ => ⟨_, rfl, q1 e⟩)
      · have q := q2 p e
        rw [e]
        refine ⟨rfl, _, rfl, ?_⟩
        exact ite2 (fun _ => ⟨by show 1 ≤ sizeLine; decide, q.2⟩) (fun h => absurd (show (!decide (V.ref p = V.non)) = true by rw [decide_eq_false (fun z => nomatch z)]; rfl) h)

end Mine

namespace Mine
open PySem L2
inductive sp_Book_add_canon (c : Cs) (vs : List V) (H : Hp) (Q : VK) (E : XK) : Prop
  | mk (x : Addr) (F : Addr → Prop) (vw : Vw) (ps fs : List Vw) (n ld : Str) (lt sl : Int) (tn : Bool) (h0_ : vs = [.ref x, .str n, .str ld, .int lt, .int sl, .bl tn]) (h1_ : BkC c H x F vw ps fs) (h2_ : n.length ≤ 1000) (h3_ : ps.length ≤ 900) (h4_ : match newOut vw n with
  | some r => ∀ H', Same H H' → RX E c r H'
  | none => match findV vw ld with
    | none => ∀ H', Same H H' → RX E c .NoVoice H'
    | some (.cn _ _ _ _) => ∀ H', Same H H' → RX E c .NotPlain H'
    | some (.pl _) => (¬ TermOk lt sl → ∀ H', Same H H' → RX E c .BadTerm H') ∧ (TermOk lt sl → ∀ F' H', Gr F F' H → Fr F H H' → BkC c H' x F' (vw ++ [(n, .cn ld lt sl tn)]) (ps ++ [vw]) [] → Q .non H')) : sp_Book_add_canon c vs H Q E
theorem ok_Book_add_canon {P : Program} {w : World} {K : PySem.W.Frag} {mg : Str → Option Value} {base : Heap} {t : Adr} (T : Txt K w mg t) : FnOk P w K mg base (CX1 P w) (0 + 4) t.f_Book_add_canon t.d_Book_add_canon ["self", "name", "leader", "later", "slow", "is_turned"] (sp_Book_add_canon (cs t)) := by
  have G_Book_refuse_new := ok_Book_refuse_new (P := P) (w := w) (base := base) T
  have G_Book_plain_voice := ok_Book_plain_voice (P := P) (w := w) (base := base) T
  have G_Book_put_in := ok_Book_put_in (P := P) (w := w) (base := base) T
  have G_Voice___init__ := ok_Voice___init__ (P := P) (w := w) (base := base) T
  refine T.F_Book_add_canon.okX sc_Book_add_canon (fun vs H Q E h => ?_) (fun cdv A outer s H vs Q E hr h => ?_)
  · obtain ⟨_, _, _, _, _, _, _, _, _, _, rfl, _⟩ := h
    rfl
  · obtain ⟨x, F, vw, ps, fs, n, ld, lt, sl, tn, rfl, B, hlen, hps, q⟩ := h
    refine bodyOk (pss_cons (ps_expr (pe_methX (X := (cxOf (CX1 P w) P w K mg base ["self", "name", "leader", "later", "slow", "is_turned"] "Book.add_canon" (defScope s_Book_add_canon) t.f_Book_add_canon cdv A outer s H E)) (pv 0) T.cl_Book T.me_Book_refuse_new G_Book_refuse_new (hr.mono (by decide)) T.b_Book_refuse_new .nil (fun _ _ z => Or.inl z) (pa_cons (pv 1) pa_nil))) (pss_cons (ps_expr (pe_methX (X := (cxOf (CX1 P w) P w K mg base ["self", "name", "leader", "later", "slow", "is_turned"] "Book.add_canon" (defScope s_Book_add_canon) t.f_Book_add_canon cdv A outer s H E)) (pv 0) T.cl_Book T.me_Book_plain_voice G_Book_plain_voice (hr.mono (by decide)) T.b_Book_plain_voice .nil (fun _ _ z => Or.inl z) (pa_cons (pv 2) pa_nil))) (pss_cons (ps_if (pt_not (pt_mid (PW.pt (pw_and (pt_chain op_le op_le pe_int (pv 3) (pe_glob (v := .int 999) rfl T.c_LATEST ⟨_, rfl⟩)) (pw_and1 (pt_chain op_le op_le pe_int (pv 4) (pe_glob (v := .int 9) rfl T.c_SLOWEST ⟨_, rfl⟩))))))) (pss_one (ps_raise (X := (cxOf (CX1 P w) P w K mg base ["self", "name", "leader", "later", "slow", "is_turned"] "Book.add_canon" (defScope s_Book_add_canon) t.f_Book_add_canon cdv A outer s H E)) (fun _ _ z => z) rfl T.xa_BadTerm.exc rfl T.mg_BadTerm (pa_cons pe_str pa_nil))) pss_nil) (pss_one (ps_expr (pe_meth (pv 0) T.cl_Book T.me_Book_put_in G_Book_put_in (hr.mono (by decide)) T.b_Book_put_in .nil pass0 (pa_cons (pe_make T.mk_Voice G_Voice___init__ (hr.mono (by decide)) rfl T.mg_Voice T.b_Voice___init__ .nil pass0 (pa_cons (pv 1) (pa_cons (pe_tup (pa_cons (pv 2) (pa_cons (pv 3) (pa_cons (pv 4) (pa_cons (pv 5) pa_nil))))) pa_nil))) pa_nil))))))) ?_
    obtain ⟨L, D, U, all, M, Ps, Fs, es, us, b, i, pp, pf, f⟩ := B.ex
    obtain ⟨dx, hx⟩ := b.hx
    have wv := B.wv vw (.inr (.inl rfl))
    refine ⟨_, rfl, x, dx, _, rfl, hx, boF_no_refuse_new _ _ _, _, rfl, x, F, vw, ps, fs, n, rfl, B, hlen, ?_⟩
    cases ho : newOut vw n with
    | some r =>
      rw [ho] at q
      intro H' s'
      have q := q H' s'
      exact q
    | none =>
      rw [ho] at q
      obtain ⟨_, hf, hl12⟩ := newOut_none ho
      intro H1 s1
      have b1 := b.kept f (.same s1)
      have i1 : Is H1 L all M vw := Is.kept (F := F) (.same s1) i
      obtain ⟨vx, g, gv⟩ := b1.voices i1
      have hx1 := s1 _ _ hx
      refine ⟨_, rfl, x, dx, _, rfl, hx1, boF_no_plain_voice _ _ _, _, rfl, x, dx, L, D, U, M L, vx, ld, rfl, hx1, b1.hL, g, ?_⟩
      rcases pfind gv (fun _ _ r => r.2.1) ld with ⟨f1, f2⟩ | ⟨a, th, j, f1, f2, r, an, fj, fw⟩
      · rw [f1]
        rw [f2] at q
        have q := q H1 s1
        exact q
      rw [f1]
      rw [f2] at q
      cases th with
      | cn ld2 lt2 sl2 tn2 =>
        obtain ⟨pt, hpt, _⟩ := r.2.2
        have q := q H1 s1
        refine ⟨(fun z => by rw [hpt] at z; cases z), (fun _ _ => q), .inr ⟨pt, hpt⟩⟩
      | pl ss =>
        obtain ⟨htm, hg⟩ := r.2.2
        obtain ⟨q1, q2⟩ := q
        refine ⟨fun _ => ?_, (fun pz z => by rw [htm] at z; cases z), .inl htm⟩
        refine ⟨fun bb H' => bb = decide (TermOk lt sl) ∧ H' = H1, ?_, ?_⟩
        · refine ⟨_, rfl, _, _, rfl, rfl, _, rfl, ?_⟩
          refine ite2 (fun h1 => ?_) (fun h1 => ?_)
          rotate_left
          · have e : decide (TermOk lt sl) = false := decide_eq_false fun z => h1 (decide_eq_true z.1)
            rw [e]
            exact ⟨_, rfl, iteF ⟨rfl, rfl⟩⟩
          refine ⟨_, _, rfl, rfl, _, rfl, ?_⟩
          refine ite2 (fun h2 => ?_) (fun h2 => ?_)
          rotate_left
          · have e : decide (TermOk lt sl) = false := decide_eq_false fun z => h2 (decide_eq_true z.2.1)
            rw [e]
            exact ⟨rfl, rfl⟩
          refine ⟨_, rfl, _, _, rfl, rfl, _, rfl, ?_⟩
          refine ite2 (fun h3 => ?_) (fun h3 => ?_)
          rotate_left
          · have e : decide (TermOk lt sl) = false := decide_eq_false fun z => h3 (decide_eq_true z.2.2.1)
            rw [e]
            exact ⟨_, rfl, rfl, rfl⟩
          refine ⟨_, _, rfl, rfl, _, rfl, ?_, rfl⟩
          refine decide_eq_decide.mpr ⟨fun z => ⟨of_decide_eq_true h1, of_decide_eq_true h2, of_decide_eq_true h3, z⟩, fun z => z.2.2.2⟩
        intro bb H1' ⟨e1, e2⟩
        rw [e1, e2]
        by_cases hok : TermOk lt sl
        rotate_left
        · rw [decide_eq_false hok]
          have q := q1 hok H1 s1
          exact iteT ⟨by show 1 ≤ sizeLine; decide, q.2⟩
        rw [decide_eq_true hok]
        refine iteF ?_
        obtain ⟨ds, hD, pD⟩ := b1.hD
        obtain ⟨ux, hU, pU⟩ := b1.hU
        have ll := plen i
        have dl := plen pD
        have pl := plen pp
        have pe := b.past.len
        refine ⟨_, rfl, x, dx, _, rfl, hx1, boF_no_put_in _ _ _, _, rfl, _, rfl, _, rfl, _, rfl, _, rfl, (by show 4 ≤ sizeLine; decide), fun tp htp => ?_⟩
        have st := Same.upd (o := .tup [V.str ld, V.int lt, V.int sl, V.bl tn]) htp
        have htp2 := upd_same (H := H1) (a := tp) (o := .tup [V.str ld, V.int lt, V.int sl, V.bl tn])
        generalize upd H1 tp (.tup [V.str ld, V.int lt, V.int sl, V.bl tn]) = H1t at st htp2
        intro v dv nv ndv ne
        refine ⟨v, dv, n, .ref tp, rfl, upd_same, fun l H2 kp hl hlv hv2 hl2 => ⟨rfl, ?_⟩⟩
        have s2t : Same H1t H2 := fun y o hy => kp y o (by rw [upd_ne (ne_of_none hy nv), upd_ne (ne_of_none hy ndv)]; exact hy) (ne_of_none hy nv)
        have s2 := st.trans s2t
        have hl1 : H1 l = none := st.free (mkFree hl)
        refine ⟨x, dx, L, D, U, v, M L, ds, ux, rfl, s2 _ _ hx1, s2 _ _ b1.hL, s2 _ _ hD, s2 _ _ hU, b.LD, b.LU, b.DU, by omega, by omega, fun e H3 H' eT ei eb ea s3 nB nA hd fr hL' hD' hU' => ?_⟩
        obtain ⟨F', gr, fr', B'⟩ := Bk.added b1 i1 (pmono (fun _ _ q => Is.kept (F := F) (.same s1) q) pp) f B.wv (a := ⟨v, dv, n, .ref tp, l⟩) (th := .cn ld lt sl tn) s2 (st.free nv) hl1 hv2 hl2 (fun M' h0 => ⟨tp, rfl, s2t _ _ htp2⟩) (wv.addCn (findV_none hf) hl12 (findV_mem f2) hok.1 hok.2.1 hok.2.2.1 hok.2.2.2) eT ei eb ea s3 nB nA hd hD pD fr hL' hD' hU'
        exact q2 hok F' H' (gr.old s1) (fun y o hy hn => fr' y o (s1 y o hy) hn) B'

end Mine

namespace Mine
open PySem L2
/-! ### a cell of the script -/
def cellN (ns : List Int) (k : Nat) : Int := ns.getD k 0
inductive sp_l_cell_at (K : PySem.W.Frag) (vs : List V) (H : Hp) (Q : VK) (E : XK) : Prop
  | mk (a : Addr) (ns : List Int) (k : Nat) (h0_ : vs = [.ref a, .int (k : Int)]) (h1_ : SqL K H a (ns.map V.int)) (h2_ : ns.length ≤ 63) (h3_ : Q (.int (cellN ns k)) H) : sp_l_cell_at K vs H Q E
theorem ok_l_cell_at {P : Program} {w : World} {K : PySem.W.Frag} {mg : Str → Option Value} {base : Heap} {t : Adr} (T : Txt K w mg t) : FnOk P w K mg base CX0 (0 + 1) t.f_l_cell_at t.d_l_cell_at ["_law_script", "_law_k"] (sp_l_cell_at K) := by
  refine T.F_l_cell_at.ok sc_l_cell_at (fun vs H Q E h => ?_) (fun cdv A outer s H vs Q E hr h => ?_)
  · obtain ⟨a, ns, k, rfl, _⟩ := h
    rfl
  · obtain ⟨a, ns, k, rfl, hS, hl, q⟩ := h
    refine bodyOk (pss_cons (ps_if (pt_cmpR op_lt (pv 1) (pe_callB (call_min2 rfl) rfl T.nb_min bt_min (pa_cons pe_int (pa_cons (pe_callB (call_len_seq.or call_len_str) rfl T.nb_len bt_len (pa_cons (pv 0) pa_nil)) pa_nil))) (nomark _)) (pss_one (ps_ret (pe_ix ix_seq (pv 0) (pv 1) (fun _ _ => rfl)))) pss_nil) (pss_one (ps_ret pe_int))) ?_
    refine ⟨_, rfl, _, rfl, .inl ⟨_, _, rfl, .inl hS, _, _, rfl, _, _, rfl, rfl, _, rfl, ?_⟩⟩
    rw [List.length_map]
    refine ite2 (fun h => ?_) (fun h => ?_)
    · have hk : k < ns.length := by
        have := of_decide_eq_true h
        split at this <;> omega
      have e : (ns.map V.int)[k]? = some (V.int (cellN ns k)) := by
        rw [List.getElem?_map, List.getElem?_eq_getElem hk]
        unfold cellN
        rw [List.getD_eq_getElem?_getD, List.getElem?_eq_getElem hk]
        rfl
      exact ⟨_, rfl, _, rfl, .inl ⟨_, _, _, _, rfl, rfl, hS, atI_nat e, q⟩⟩
    · have hk : ns.length ≤ k := by
        have h' : ¬ ((k : Int) < if (ns.length : Int) < 63 then (ns.length : Int) else 63) := fun z => h (decide_eq_true z)
        split at h' <;> omega
      have e : cellN ns k = 0 := by
        unfold cellN
        rw [List.getD_eq_getElem?_getD, List.getElem?_eq_none hk]
        rfl
      rw [e] at q
      exact q

end Mine

namespace Mine
open PySem L2
inductive sp_Book_canon (c : Cs) (vs : List V) (H : Hp) (Q : VK) (E : XK) : Prop
  | mk (x : Addr) (F : Addr → Prop) (vw : Vw) (ps fs : List Vw) (n : Str) (h0_ : vs = [.ref x, .str n]) (h1_ : BkC c H x F vw ps fs) (h2_ : match findV vw n with
  | none => RX E c .NoVoice H
  | some (.pl _) => Q .non H
  | some (.cn ld lt sl tn) => ∀ p, H p = some (.tup [.str ld, .int lt, .int sl, .bl tn]) → Q (.ref p) H) : sp_Book_canon c vs H Q E
theorem ok_Book_canon {P : Program} {w : World} {K : PySem.W.Frag} {mg : Str → Option Value} {base : Heap} {t : Adr} (T : Txt K w mg t) : FnOk P w K mg base (CX1 P w) (0 + 2) t.f_Book_canon t.d_Book_canon ["self", "name"] (sp_Book_canon (cs t)) := by
  have G_Book_voice_called := ok_Book_voice_called (P := P) (w := w) (base := base) T
  refine T.F_Book_canon.okX sc_Book_canon (fun vs H Q E h => ?_) (fun cdv A outer s H vs Q E hr h => ?_)
  · obtain ⟨_, _, _, _, _, _, rfl, _⟩ := h
    rfl
  · obtain ⟨x, F, vw, ps, fs, n, rfl, B, q⟩ := h
    refine bodyOk (pss_one (ps_ret (pe_fld (pe_methX (X := (cxOf (CX1 P w) P w K mg base ["self", "name"] "Book.canon" (defScope s_Book_canon) t.f_Book_canon cdv A outer s H E)) (pv 0) T.cl_Book T.me_Book_voice_called G_Book_voice_called (hr.mono (by decide)) T.b_Book_voice_called .nil (fun _ _ z => Or.inl z) (pa_cons (pv 1) pa_nil)) rfl))) ?_
    obtain ⟨L, D, U, all, M, Ps, Fs, es, us, b, iM, pp, pf, f⟩ := B.ex
    obtain ⟨dx, hx⟩ := b.hx
    obtain ⟨vx, g, gv⟩ := b.voices iM
    refine ⟨_, rfl, x, dx, _, rfl, hx, boF_no_voice_called _ _ _, _, rfl, x, dx, L, D, U, M L, vx, n, rfl, hx, b.hL, g, ?_⟩
    rcases pfind gv (fun _ _ r => r.2.1) n with ⟨f1, f2⟩ | ⟨a, th, j, f1, f2, r, an, fj, fw⟩
    · rw [f1]
      rw [f2] at q
      exact q
    rw [f1]
    rw [f2] at q
    refine ⟨a.o, _, a.d, _, _, rfl, (b.ha a r.1).1, T.cl_Voice, T.na_Voice_terms, voF_terms _ _ _, ?_⟩
    cases th with
    | pl ss => rw [r.2.2.1]; exact q
    | cn ld lt sl tn =>
      obtain ⟨p, e1, e2⟩ := r.2.2
      rw [e1]
      exact q p e2

end Mine

namespace Mine
open PySem L2
inductive sp_Book_line (c : Cs) (vs : List V) (H : Hp) (Q : VK) (E : XK) : Prop
  | mk (x : Addr) (F : Addr → Prop) (vw : Vw) (ps fs : List Vw) (n : Str) (h0_ : vs = [.ref x, .str n]) (h1_ : BkC c H x F vw ps fs) (h2_ : findV vw n = none) (h3_ : RX E c .NoVoice H) : sp_Book_line c vs H Q E
theorem ok_Book_line {P : Program} {w : World} {K : PySem.W.Frag} {mg : Str → Option Value} {base : Heap} {t : Adr} (T : Txt K w mg t) : FnOk P w K mg base (CX1 P w) (0 + 4) t.f_Book_line t.d_Book_line ["self", "name"] (sp_Book_line (cs t)) := by
  have G_Book_canon := ok_Book_canon (P := P) (w := w) (base := base) T
  refine T.F_Book_line.okX sc_Book_line (fun vs H Q E h => ?_) (fun cdv A outer s H vs Q E hr h => ?_)
  · obtain ⟨_, _, _, _, _, _, rfl, _⟩ := h
    rfl
  · obtain ⟨x, F, vw, ps, fs, n, rfl, B, hf, q⟩ := h
    refine bodyOk (pss_cons (ps_set (i := 2) sc_Book_line.nd rfl (Or.inl rfl) (pe_methX (X := (cxOf (CX1 P w) P w K mg base ["self", "name", "terms", "leader", "later", "slow", "is_turned", "heard"] "Book.line" (defScope s_Book_line) t.f_Book_line cdv A outer s H E)) (pv 0) T.cl_Book T.me_Book_canon G_Book_canon (hr.mono (by decide)) T.b_Book_canon .nil (fun _ _ z => Or.inl z) (pa_cons (pv 1) pa_nil))) (pss_cons ps_never (pss_cons ps_never (pss_cons ps_never (pss_one ps_never))))) ?_
    obtain ⟨L, D, U, all, M, Ps, Fs, es, us, b, iM, pp, pf, f⟩ := B.ex
    obtain ⟨dx, hx⟩ := b.hx
    refine ⟨_, rfl, x, dx, _, rfl, hx, boF_no_canon _ _ _, _, rfl, x, F, vw, ps, fs, n, rfl, B, ?_⟩
    rw [hf]
    exact q

end Mine

namespace Mine
open PySem L2
inductive sp_refuse_other_places (c : Cs) (vs : List V) (H : Hp) (Q : VK) (E : XK) : Prop
  | mk (i n : Int) (h0_ : vs = [.int i, .int n]) (h1_ : ((0 ≤ i ∧ i ≤ n → Q .non H) ∧ (¬ (0 ≤ i ∧ i ≤ n) → RX E c .NoPlace H))) : sp_refuse_other_places c vs H Q E
theorem ok_refuse_other_places {P : Program} {w : World} {K : PySem.W.Frag} {mg : Str → Option Value} {base : Heap} {t : Adr} (T : Txt K w mg t) : FnOk P w K mg base (CX1 P w) (0 + 1) t.f_refuse_other_places t.d_refuse_other_places ["at", "last"] (sp_refuse_other_places (cs t)) := by
  refine T.F_refuse_other_places.okX sc_refuse_other_places (fun vs H Q E h => ?_) (fun cdv A outer s H vs Q E hr h => ?_)
  · obtain ⟨_, _, rfl, _⟩ := h
    rfl
  · obtain ⟨i, n, rfl, q1, q2⟩ := h
    refine bodyOk (pss_one (ps_if (pt_not (pt_chain op_le op_le pe_int (pv 0) (pv 1))) (pss_one (ps_raise (X := (cxOf (CX1 P w) P w K mg base ["at", "last"] "refuse_other_places" (defScope s_refuse_other_places) t.f_refuse_other_places cdv A outer s H E)) (fun _ _ z => z) rfl T.xa_NoPlace.exc rfl T.mg_NoPlace (pa_cons pe_str pa_nil))) pss_nil)) ?_
    refine ⟨_, rfl, _, _, rfl, rfl, _, rfl, ?_⟩
    refine ite2 (fun h0 => ?_) (fun h0 => ?_)
    · refine ⟨_, rfl, _, _, rfl, rfl, _, rfl, ?_⟩
      refine ite2 (fun h => ?_) (fun h => ?_)
      · have h' : (!decide (i ≤ n)) = true := h
        have q := q2 fun z => by rw [decide_eq_true z.2] at h'; cases h'
        exact ⟨by show 1 ≤ sizeLine; decide, q.2⟩
      · have h' : ¬ (!decide (i ≤ n)) = true := h
        refine q1 ⟨of_decide_eq_true h0, ?_⟩
        by_cases z : i ≤ n
        · exact z
        · exact absurd (by rw [decide_eq_false z]; rfl) h'
    · have q := q2 fun z => h0 (decide_eq_true z.1)
      exact ⟨_, rfl, iteT ⟨by show 1 ≤ sizeLine; decide, q.2⟩⟩

end Mine

namespace Mine
open PySem L2
inductive sp_Book_cut (c : Cs) (vs : List V) (H : Hp) (Q : VK) (E : XK) : Prop
  | mk (x : Addr) (F : Addr → Prop) (vw : Vw) (ps fs : List Vw) (n : Str) (h0_ : vs = [.ref x, .str n, .int 0]) (h1_ : BkC c H x F vw ps fs) (h2_ : match findV vw n with
  | none => False
  | some (.cn _ _ _ _) => RX E c .NotPlain H
  | some (.pl ss) => ss = [] ∧ RX E c .NoPlace H) : sp_Book_cut c vs H Q E
theorem ok_Book_cut {P : Program} {w : World} {K : PySem.W.Frag} {mg : Str → Option Value} {base : Heap} {t : Adr} (T : Txt K w mg t) : FnOk P w K mg base (CX1 P w) (0 + 3) t.f_Book_cut t.d_Book_cut ["self", "name", "at"] (sp_Book_cut (cs t)) := by
  have G_Book_plain_voice := ok_Book_plain_voice (P := P) (w := w) (base := base) T
  have G_refuse_other_places := ok_refuse_other_places (P := P) (w := w) (base := base) T
  refine T.F_Book_cut.okX sc_Book_cut (fun vs H Q E h => ?_) (fun cdv A outer s H vs Q E hr h => ?_)
  · obtain ⟨_, _, _, _, _, _, rfl, _⟩ := h
    rfl
  · obtain ⟨x, F, vw, ps, fs, n, rfl, B, q⟩ := h
    refine bodyOk (pss_cons (ps_set (i := 3) sc_Book_cut.nd rfl (Or.inl rfl) (pe_fld (pe_methX (X := (cxOf (CX1 P w) P w K mg base ["self", "name", "at", "signs", "sign"] "Book.cut" (defScope s_Book_cut) t.f_Book_cut cdv A outer s H E)) (pv 0) T.cl_Book T.me_Book_plain_voice G_Book_plain_voice (hr.mono (by decide)) T.b_Book_plain_voice .nil (fun _ _ z => Or.inl z) (pa_cons (pv 1) pa_nil)) rfl)) (pss_cons (ps_expr (pe_callX (X := (cxOf (CX1 P w) P w K mg base ["self", "name", "at", "signs", "sign"] "Book.cut" (defScope s_Book_cut) t.f_Book_cut cdv A outer s H E)) G_refuse_other_places (hr.mono (by decide)) rfl T.mg_refuse_other_places T.F_refuse_other_places.kp T.b_refuse_other_places .nil (fun _ _ z => Or.inl z) (pa_cons (pv 2) (pa_cons (pe_op op_sub (pe_callB (call_len_seq.or call_len_str) rfl T.nb_len bt_len (pa_cons (pv 3) pa_nil)) pe_int) pa_nil)))) (pss_cons ps_never (pss_cons ps_never (pss_one ps_never))))) ?_
    obtain ⟨L, D, U, all, M, Ps, Fs, es, us, b, iM, pp, pf, f⟩ := B.ex
    obtain ⟨dx, hx⟩ := b.hx
    obtain ⟨vx, g, gv⟩ := b.voices iM
    refine ⟨_, rfl, x, dx, _, rfl, hx, boF_no_plain_voice _ _ _, _, rfl, x, dx, L, D, U, M L, vx, n, rfl, hx, b.hL, g, ?_⟩
    rcases pfind gv (fun _ _ r => r.2.1) n with ⟨f1, f2⟩ | ⟨a, th, j, f1, f2, r, an, fj, fw⟩
    · rw [f1]
      rw [f2] at q
      exact q.elim
    rw [f1]
    rw [f2] at q
    subst an
    cases th with
    | cn ld lt sl tn =>
      obtain ⟨pt, hpt, _⟩ := r.2.2
      refine ⟨fun z => ?_, fun _ _ => q, .inr ⟨pt, hpt⟩⟩
      rw [hpt] at z
      cases z
    | pl ss =>
      obtain ⟨htm, hg⟩ := r.2.2
      obtain ⟨rfl, q⟩ := q
      have haa := r.1
      obtain ⟨ha, hl⟩ := b.ha a haa
      have yl := plen hg
      refine ⟨fun _ => ?_, (fun pz z => by rw [htm] at z; cases z), .inl htm⟩
      refine ⟨a.o, _, a.d, _, _, rfl, ha, T.cl_Voice, T.na_Voice_signs, voF_signs _ _ _, ?_⟩
      refine ⟨_, rfl, _, rfl, .inl ⟨a.l, M a.l, rfl, .inl (SqL.of hl), ?_⟩⟩
      refine ⟨_, _, rfl, rfl, ?_⟩
      refine ⟨0, ((M a.l).length : Int) - 1, rfl, fun hi => ?_, fun hi => ?_⟩
      · rw [yl] at hi
        exact absurd hi.2 (by decide)
      · exact q

end Mine

namespace Mine
open PySem L2
theorem ixT4 {K : PySem.W.Frag} {H : Hp} {p : Addr} {a b c d : V} {i : Nat} {v : V} {Q : VK} (h : H p = some (.tup [a, b, c, d])) (e : [a, b, c, d][i]? = some v) (q : Q v H) : rIxL K (.ref p) (.int (i : Int)) H Q ∨ rIxT K (.ref p) (.int (i : Int)) H Q ∨ rIxS (.ref p) (.int (i : Int)) H Q := .inr (.inl ⟨p, _, i, v, rfl, rfl, SqT.of h, atI_nat e, q⟩)

inductive sp_Book_drop (c : Cs) (vs : List V) (H : Hp) (Q : VK) (E : XK) : Prop
  | mk (x : Addr) (F : Addr → Prop) (vw : Vw) (ps fs : List Vw) (n : Str) (h0_ : vs = [.ref x, .str n]) (h1_ : BkC c H x F vw ps fs) (h2_ : findV vw n ≠ none) (h3_ : leans vw n = true) (h4_ : ∀ H', Same H H' → RX E c .Leaned H') : sp_Book_drop c vs H Q E
theorem ok_Book_drop {P : Program} {w : World} {K : PySem.W.Frag} {mg : Str → Option Value} {base : Heap} {t : Adr} (T : Txt K w mg t) : FnOk P w K mg base (CX1 P w) (0 + 2) t.f_Book_drop t.d_Book_drop ["self", "name"] (sp_Book_drop (cs t)) := by
  have G_Book_voice_called := ok_Book_voice_called (P := P) (w := w) (base := base) T
  refine T.F_Book_drop.okX sc_Book_drop (fun vs H Q E h => ?_) (fun cdv A outer s H vs Q E hr h => ?_)
  · obtain ⟨_, _, _, _, _, _, rfl, _⟩ := h
    rfl
  · obtain ⟨x, F, vw, ps, fs, n, rfl, B, hfn, hle, q1⟩ := h
    refine bodyOk (pss_cons (ps_set (i := 2) sc_Book_drop.nd rfl (Or.inl rfl) (pe_methX (X := (cxOf (CX1 P w) P w K mg base ["self", "name", "dropped"] "Book.drop" (defScope s_Book_drop) t.f_Book_drop cdv A outer s H E)) (pv 0) T.cl_Book T.me_Book_voice_called G_Book_voice_called (hr.mono (by decide)) T.b_Book_voice_called .nil (fun _ _ z => Or.inl z) (pa_cons (pv 1) pa_nil))) (pss_cons (ps_if (pt_val (pe_callB call_any rfl T.nb_any bt_any (pa_cons (pe_comp (cn := ["voice"]) rfl (CompFit.of rfl) (pi_list (pe_fld (pv 0) rfl)) (fun _ => (pg_name (i := 0) nd_Book_drop_2 rfl (Or.inl rfl))) (fun _ => pf_nil) (fun _ => (pe_mid (pe_and (pe_cmpR op_notN (pe_fld (pv 0) rfl) pe_non (nomark _)) (pe_one (pe_cmpR (op_eq.or (op_eqD (hu_of64 hr))) (pe_ix ix_seq (pe_fld (pv 0) rfl) pe_int (fun _ _ => rfl)) (pv 2) (nomark _))))))) pa_nil))) (pss_one (ps_raise (X := (cxOf (CX1 P w) P w K mg base ["self", "name", "dropped"] "Book.drop" (defScope s_Book_drop) t.f_Book_drop cdv A outer s H E)) (fun _ _ z => z) rfl T.xa_Leaned.exc rfl T.mg_Leaned (pa_cons pe_str pa_nil))) pss_nil) (pss_one ps_never))) ?_
    obtain ⟨L, D, U, all, M, Ps, Fs, es, us, b, iM, pp, pf, f⟩ := B.ex
    obtain ⟨dx, hx⟩ := b.hx
    obtain ⟨vx, g, gv⟩ := b.voices iM
    have wv := B.wv vw (.inr (.inl rfl))
    have hL := b.hL
    have xl := plen g
    have vl := plen gv
    have wl := wv.len
    refine ⟨_, rfl, x, dx, _, rfl, hx, boF_no_voice_called _ _ _, _, rfl, x, dx, L, D, U, M L, vx, n, rfl, hx, b.hL, g, ?_⟩
    rcases pfind gv (fun _ _ r => r.2.1) n with ⟨f1, f2⟩ | ⟨a, th, j, f1, f2, r, an, fj, fw⟩
    · exact absurd f2 hfn
    rw [f1]
    refine ⟨_, rfl, x, _, dx, _, _, rfl, hx, T.cl_Book, T.na_Book_voices, boF_voices _ _ _, L, rfl, ⟨_, SqL.of hL⟩, fun D' b' hD' => ?_⟩
    refine comp_list (K := K) (xs := M L) (fun i ys σ H' => ∃ v, σ = [v, some (.ref x), some (.str n), some (.ref a.o)] ∧ H' = upd H D' (.lst ys) ∧ ys = ((vw.take i).map (ledBy n)).map V.bl) ⟨none, rfl, rfl, rfl⟩ ?_ ?_ ?_
    · rintro i ys σ H' ⟨v, rfl, rfl, _⟩
      exact seq_upd (SqL.of hL) hD'
    · rintro i ys y σ H' hy ⟨v, rfl, rfl, rfl⟩ N hN
      obtain ⟨a1, e1, rfl, ha1⟩ := pget g hy
      obtain ⟨q1', e2, _, an1, t1⟩ := pget gv e1
      have hi : i < vw.length := (List.getElem?_eq_some_iff.mp e2).1
      refine compT_name ?_
      refine ⟨fun v H' => v = .bl (ledBy n q1') ∧ H' = upd H D' (.lst (((vw.take i).map (ledBy n)).map V.bl)), ?_, ?_⟩
      · refine ⟨_, rfl, a1.o, _, a1.d, _, _, rfl, by rw [upd_ne (ne_of_none ha1 hD')]; exact ha1, T.cl_Voice, T.na_Voice_terms, voF_terms _ _ _, rfl, _, rfl, ?_⟩
        obtain ⟨m1, th1⟩ := q1'
        cases th1 with
        | pl ss =>
          obtain ⟨e3, _⟩ := t1
          rw [e3]
          exact iteF ⟨rfl, rfl⟩
        | cn ld lt sl tn =>
          obtain ⟨p, e3, hp⟩ := t1
          have hp' : upd H D' (.lst (((vw.take i).map (ledBy n)).map V.bl)) p = some (.tup [.str ld, .int lt, .int sl, .bl tn]) := by rw [upd_ne (ne_of_none hp hD')]; exact hp
          rw [e3]
          refine iteT ?_
          refine ⟨_, rfl, a1.o, _, a1.d, _, _, rfl, by rw [upd_ne (ne_of_none ha1 hD')]; exact ha1, T.cl_Voice, T.na_Voice_terms, voF_terms _ _ _, ?_⟩
          rw [e3]
          refine ixT4 (i := 0) hp' rfl ?_
          refine ⟨_, rfl, .inl ⟨rfl, ?_, rfl⟩⟩
          show V.bl (decide (V.str ld = V.str n)) = V.bl (decide (ld = n))
          refine congrArg V.bl (decide_eq_decide.mpr ⟨fun z => V.str.inj z, fun z => congrArg V.str z⟩)
      · rintro _ _ ⟨rfl, rfl⟩
        refine ⟨upd_same, ?_, ?_⟩
        · rw [List.length_map, List.length_map, List.length_take]
          exact small1000 (by omega)
        · refine hN _ _ _ ⟨_, rfl, upd_upd, ?_⟩
          rw [List.take_succ, e2]
          simp
    · rintro ys σ H' ⟨v, rfl, rfl, rfl⟩
      have ml : (M L).length = vw.length := xl.trans vl
      refine ⟨rfl, D', _, rfl, SqL.of upd_same, _, rfl, ?_⟩
      rw [ml, List.take_length, List.any_map]
      have sD := Same.upd (o := .lst ((vw.map (ledBy n)).map V.bl)) hD'
      generalize upd H D' (.lst ((vw.map (ledBy n)).map V.bl)) = H1 at sD
      refine ite2 (fun h => ?_) (fun h => ?_)
      · have q := q1 H1 sD
        exact ⟨by show 1 ≤ sizeLine; decide, q.2⟩
      exact absurd hle h

end Mine

namespace Mine
open PySem L2
inductive sp_Book_redo (c : Cs) (vs : List V) (H : Hp) (Q : VK) (E : XK) : Prop
  | mk (x : Addr) (F : Addr → Prop) (vw : Vw) (ps fs : List Vw) (h0_ : vs = [.ref x]) (h1_ : BkC c H x F vw ps fs) (h2_ : fs = []) (h3_ : ∀ H', Same H H' → RX E c .NoMore H') : sp_Book_redo c vs H Q E
theorem ok_Book_redo {P : Program} {w : World} {K : PySem.W.Frag} {mg : Str → Option Value} {base : Heap} {t : Adr} (T : Txt K w mg t) : FnOk P w K mg base (CX1 P w) (0 + 1) t.f_Book_redo t.d_Book_redo ["self"] (sp_Book_redo (cs t)) := by
  refine T.F_Book_redo.okX sc_Book_redo (fun vs H Q E h => ?_) (fun cdv A outer s H vs Q E hr h => ?_)
  · obtain ⟨_, _, _, _, _, rfl, _⟩ := h
    rfl
  · obtain ⟨x, F, vw, ps, fs, rfl, B, hp0, q1⟩ := h
    refine bodyOk (pss_cons (ps_if (pt_cmpR (op_eqE (hu_of64 hr)) (pe_fld (pv 0) rfl) (pe_lst pa_nil) (nomark _)) (pss_one (ps_raise (X := (cxOf (CX1 P w) P w K mg base ["self", "deed"] "Book.redo" (defScope s_Book_redo) t.f_Book_redo cdv A outer s H E)) (fun _ _ z => z) rfl T.xa_NoMore.exc rfl T.mg_NoMore (pa_cons pe_str pa_nil))) pss_nil) (pss_cons ps_never (pss_cons ps_never (pss_one ps_never)))) ?_
    obtain ⟨L, D, U, all, M, Ps, Fs, es, us, b, iM, pp, pf, f⟩ := B.ex
    obtain ⟨dx, hx⟩ := b.hx
    obtain ⟨ux, hU, pU⟩ := b.hU
    have ul := plen pU
    have fl := plen pf
    have fe := b.fut.len
    refine ⟨_, rfl, x, _, dx, _, _, rfl, hx, T.cl_Book, T.na_Book_undone, boF_undone _ _ _, big (by show 0 ≤ 1000; omega), fun e0 he0 => ?_⟩
    have s0 := Same.upd (o := .lst []) he0
    refine ⟨U, e0, ux, rfl, rfl, SqL.of (s0 _ _ hU), SqL.of upd_same, _, rfl, ?_⟩
    generalize upd H e0 (.lst []) = H0 at s0
    refine ite2 (fun h => ?_) (fun h => ?_)
    · have hds : ux = [] := List.isEmpty_iff.mp h
      have q := q1 H0 s0
      exact ⟨by show 1 ≤ sizeLine; decide, q.2⟩
    rw [hp0] at fl
    have : ux.length = 0 := by rw [ul, ← fe, fl]; rfl
    exact absurd (List.isEmpty_iff.mpr (List.length_eq_zero_iff.mp this)) h

end Mine

namespace Mine
open PySem L2
inductive sp_good (vs : List V) (H : Hp) (Q : VK) (E : XK) : Prop
  | mk (p : Addr) (s : Sn) (h0_ : vs = [.ref p]) (h1_ : H p = some (.tup [.str s.1, .int s.2])) (h2_ : Q (.bl (goodB s)) H) : sp_good vs H Q E
theorem ok_good {P : Program} {w : World} {K : PySem.W.Frag} {mg : Str → Option Value} {base : Heap} {t : Adr} (T : Txt K w mg t) : FnOk P w K mg base CX0 (0 + 1) t.f_good t.d_good ["sign"] sp_good := by
  refine T.F_good.ok sc_good (fun vs H Q E h => ?_) (fun cdv A outer s H vs Q E hr h => ?_)
  · obtain ⟨_, _, rfl, _⟩ := h
    rfl
  · obtain ⟨p, s, rfl, hp, q⟩ := h
    unfold goodB at q
    refine bodyOk (pss_cons (ps_asg (pv 0) (pg_tup rfl (pgs_cons (pg_name (i := 1) sc_good.nd rfl (Or.inl rfl)) (pgs_cons (pg_name (i := 2) sc_good.nd rfl (Or.inl rfl)) pgs_nil)))) (pss_cons (ps_if (pt_cmpR (op_in_seq.or op_in_str) (pv 1) (pe_glob (v := .ref t.a_SOUNDING_KINDS) rfl T.c_SOUNDING_KINDS rfl) rfl) (pss_one (ps_ret (pe_chain op_le op_le pe_int (pv 2) (pe_glob (v := .int 99) rfl T.c_HIGHEST_TONE ⟨_, rfl⟩)))) pss_nil) (pss_one (ps_ret (pe_mid (pe_and (pe_cmpR (op_in_seq.or op_in_str) (pv 1) (pe_glob (v := .ref t.a_SILENT_KINDS) rfl T.c_SILENT_KINDS rfl) rfl) (pe_one (pe_cmpR (op_eq.or (op_eqD (hu_of64 hr))) (pv 2) pe_int (nomark _))))))))) ?_
    refine ⟨_, rfl, _, _, rfl, SqT.of hp, rfl, _, _, rfl, _, _, rfl, rfl, _, rfl, .inl ⟨_, _, rfl, .inr (T.q_SOUNDING_KINDS _), rfl, rfl, _, rfl, ?_⟩⟩
    refine ite2 (fun h => ?_) (fun h => ?_)
    · rw [if_pos (show inV (.str s.1) soundV = true from h)] at q
      refine ⟨_, rfl, _, _, rfl, rfl, _, rfl, ?_⟩
      refine ite2 (fun h2 => ?_) (fun h2 => ?_)
      · rw [if_pos h2] at q
        exact ⟨_, _, rfl, rfl, q⟩
      · rw [if_neg h2] at q
        exact q
    · rw [if_neg (show ¬ inV (.str s.1) soundV = true from h)] at q
      refine ⟨fun v H' => v = .bl (if inV (V.str s.fst) silentV = true then decide (s.snd = 0) else false) ∧ H' = H, ?_, fun _ _ ⟨e1, e2⟩ => by rw [e1, e2]; exact q⟩
      refine ⟨_, rfl, .inl ⟨_, _, rfl, .inr (T.q_SILENT_KINDS _), rfl, rfl, _, rfl, ?_⟩⟩
      refine ite2 (fun h2 => ?_) (fun h2 => ?_)
      · rw [if_pos (show inV (.str s.1) silentV = true from h2)]
        refine ⟨_, rfl, .inl ⟨rfl, ?_⟩⟩
        rw [dec_int']
        exact ⟨rfl, rfl⟩
      · rw [if_neg (show ¬ inV (.str s.1) silentV = true from h2)]
        exact ⟨rfl, rfl⟩

end Mine

namespace Mine
open PySem L2
inductive sp_shown_sign (X : Addr) (vs : List V) (H : Hp) (Q : VK) (E : XK) : Prop
  | mk (p : Addr) (h0_ : vs = [.ref p]) (h1_ : H p = some (.tup [.str "G", .int 100])) (h2_ : E (.ref X) none H) : sp_shown_sign X vs H Q E
theorem ok_shown_sign {P : Program} {w : World} {K : PySem.W.Frag} {mg : Str → Option Value} {base : Heap} {t : Adr} (T : Txt K w mg t) : FnOk P w K mg base (CX1 P w) (0 + 2) t.f_shown_sign t.d_shown_sign ["sign"] (sp_shown_sign t.C_BadSign) := by
  have G_good := ok_good (P := P) (w := w) (base := base) T
  refine T.F_shown_sign.okX sc_shown_sign (fun vs H Q E h => ?_) (fun cdv A outer s H vs Q E hr h => ?_)
  · obtain ⟨_, rfl, _⟩ := h
    rfl
  · obtain ⟨p, rfl, hp, qe⟩ := h
    refine bodyOk (pss_cons (ps_if (pt_not (pt_val (pe_call G_good (hr.mono (by decide)) rfl T.mg_good T.F_good.kp T.b_good .nil pass0 (pa_cons (pv 0) pa_nil)))) (pss_one (ps_raise (X := (cxOf (CX1 P w) P w K mg base ["sign", "kind", "tone"] "shown_sign" (defScope s_shown_sign) t.f_shown_sign cdv A outer s H E)) (fun _ _ z => z) rfl T.xa_BadSign.exc rfl T.mg_BadSign (pa_cons pe_str pa_nil))) pss_nil) (pss_cons ps_never (pss_cons ps_never (pss_one ps_never)))) ?_
    have hg : goodB ((Str.ofString "G", 100) : Sn) = false := by decide +kernel
    refine ⟨_, rfl, p, (Str.ofString "G", 100), rfl, hp, _, rfl, ?_⟩
    rw [hg]
    exact iteT ⟨by show 1 ≤ sizeLine; decide, qe⟩

end Mine

namespace Mine
open PySem L2
def sp_number_of : Sp := fun vs H Q _ => vs = [.str "100", .int 2] ∧ Q .non H
theorem ok_number_of {P : Program} {w : World} {K : PySem.W.Frag} {mg : Str → Option Value} {base : Heap} {t : Adr} (T : Txt K w mg t) : FnOk P w K mg base CX0 (0 + 1) t.f_number_of t.d_number_of ["word", "most"] sp_number_of := by
  refine T.F_number_of.ok sc_number_of (fun vs H Q E h => ?_) (fun cdv A outer s H vs Q E hr h => ?_)
  · obtain ⟨rfl, _⟩ := h
    rfl
  · obtain ⟨rfl, q⟩ := h
    refine bodyOk (pss_cons (ps_if (pt_not (pt_chain op_le op_le pe_int (pe_callB (call_len_seq.or call_len_str) rfl T.nb_len bt_len (pa_cons (pv 0) pa_nil)) (pv 1))) (pss_one (ps_ret pe_non)) pss_nil) (pss_cons ps_never (pss_cons ps_never (pss_one ps_never)))) ?_
    refine ⟨_, rfl, .inr ⟨_, rfl, (by decide +kernel), _, _, rfl, rfl, _, rfl, ?_⟩⟩
    refine ite2 (fun _ => ?_) (fun h => absurd (by decide +kernel) h)
    refine ⟨_, rfl, _, _, rfl, rfl, _, rfl, ?_⟩
    exact ite2 (fun _ => q) (fun h => absurd (by decide +kernel) h)

end Mine

namespace Mine
open PySem L2
def sp_sign_of : Sp := fun vs H Q _ => vs = [.str "G100"] ∧ Q .non H
theorem ok_sign_of {P : Program} {w : World} {K : PySem.W.Frag} {mg : Str → Option Value} {base : Heap} {t : Adr} (T : Txt K w mg t) : FnOk P w K mg base CX0 (0 + 2) t.f_sign_of t.d_sign_of ["word"] sp_sign_of := by
  have G_number_of := ok_number_of (P := P) (w := w) (base := base) T
  refine T.F_sign_of.ok sc_sign_of (fun vs H Q E h => ?_) (fun cdv A outer s H vs Q E hr h => ?_)
  · obtain ⟨rfl, _⟩ := h
    rfl
  · obtain ⟨rfl, q⟩ := h
    refine bodyOk (pss_cons (ps_if (pt_cmpR (op_in_seq.or op_in_str) (pv 0) (pe_glob (v := .ref t.a_SILENT_KINDS) rfl T.c_SILENT_KINDS rfl) rfl) (pss_one (ps_ret (pe_tup (pa_cons (pv 0) (pa_cons pe_int pa_nil))))) pss_nil) (pss_cons (ps_set (i := 1) sc_sign_of.nd rfl (Or.inl rfl) (pe_slice (sl_list.or (sl_tup.or sl_str)) (pv 0) po_none (po_some pe_int))) (pss_cons (ps_set (i := 2) sc_sign_of.nd rfl (Or.inl rfl) (pe_call G_number_of (hr.mono (by decide)) rfl T.mg_number_of T.F_number_of.kp T.b_number_of .nil pass0 (pa_cons (pe_slice (sl_list.or (sl_tup.or sl_str)) (pv 0) (po_some pe_int) po_none) (pa_cons (pe_glob (v := .int 2) rfl T.c_MOST_FIGURES_texts ⟨_, rfl⟩) pa_nil)))) (pss_cons (ps_if (pt_mid (PW.pt (pw_or (pt_cmpR (op_notIn_seq.or op_notIn_str) (pv 1) (pe_glob (v := .ref t.a_SOUNDING_KINDS) rfl T.c_SOUNDING_KINDS rfl) rfl) (pw_or1 (pt_cmpR op_isN (pv 2) pe_non (nomark _)))))) (pss_one (ps_ret pe_non)) pss_nil) (pss_one ps_never))))) ?_
    refine ⟨_, rfl, .inl ⟨_, _, rfl, .inr (T.q_SILENT_KINDS _), rfl, rfl, _, rfl, ?_⟩⟩
    refine ite2 (fun h => absurd h (by decide +kernel)) (fun _ => ?_)
    refine ⟨_, rfl, _, rfl, .inr (.inr ⟨_, rfl, (by decide +kernel), ?_⟩)⟩
    refine ⟨_, rfl, _, rfl, .inr (.inr ⟨_, rfl, (by decide +kernel), ?_⟩)⟩
    have e1 : Txt.slice "G100" none (some 1) = Str.ofString "G" := by decide +kernel
    have e2 : Txt.slice "G100" (some 1) none = Str.ofString "100" := by decide +kernel
    rw [e1, e2]
    refine ⟨rfl, ?_⟩
    refine midB true ?_ (iteT q)
    refine ⟨_, rfl, .inl ⟨_, _, rfl, .inr (T.q_SOUNDING_KINDS _), rfl, rfl, _, rfl, ?_⟩⟩
    refine ite2 (fun _ => endB rfl) (fun _ => ?_)
    exact ⟨_, rfl, rfl, _, rfl, endB rfl⟩

end Mine

namespace Mine
open PySem L2
inductive sp_BadWord___init__ (C : Addr) (vs : List V) (H : Hp) (Q : VK) (E : XK) : Prop
  | mk (a : Addr) (n : Nat) (h0_ : vs = [.ref a, .int (n : Int)]) (h1_ : n ≤ 400) (h2_ : H a = some (exN a C none)) (h3_ : ∀ D, H D = none → D ≠ a → Q .non (upd (upd H D (.xd [("at", .int (n : Int))])) a (exN a C (some D)))) : sp_BadWord___init__ C vs H Q E
theorem fig400 : (List.range 401).all (fun n => decide ((Str.ofString (toString (n : Int))).length ≤ 3)) = true := by decide +kernel
theorem fig400_len {n : Nat} (h : n ≤ 400) : (Str.ofString (toString (n : Int))).length ≤ 3 := of_decide_eq_true (List.all_eq_true.mp fig400 n (List.mem_range.mpr (by omega)))
theorem log400 {n : Nat} (h : n ≤ 400) : ((n : Int)).natAbs.log2 < 1920 := by
  have hb : ((n : Int)).natAbs < 2 ^ 1920 := Nat.lt_of_lt_of_le (show ((n : Int)).natAbs < 2 ^ 9 by omega) (Nat.pow_le_pow_right (by decide) (by decide))
  by_cases z : ((n : Int)).natAbs = 0
  · rw [z]
    decide
  · exact (Nat.log2_lt z).mpr hb
theorem ok_BadWord___init__ {P : Program} {w : World} {K : PySem.W.Frag} {mg : Str → Option Value} {base : Heap} {t : Adr} (T : Txt K w mg t) : FnOk P w K mg base CX0 (0 + 1) t.f_BadWord___init__ t.d_BadWord___init__ ["self", "at"] (sp_BadWord___init__ t.C_BadWord) := by
  refine T.F_BadWord___init__.ok sc_BadWord___init__ (fun vs H Q E h => ?_) (fun cdv A outer s H vs Q E hr h => ?_)
  · obtain ⟨_, _, rfl, _⟩ := h
    rfl
  · obtain ⟨a, n, rfl, hn, ha, q⟩ := h
    refine bodyOk (pss_cons (ps_expr (pe_initX (B := t.C_NoteError) rfl T.mg_NoteError T.xb_NoteError T.xs_BadWord.ini (pa_cons (pv 0) (pa_cons (pe_fstr (pps_cons pp_const (pps_cons (pp_val (pv 1)) pps_nil))) pa_nil)))) (pss_one (ps_setX T.xs_BadWord T.na_BadWord_at (pv 0) (pv 1) rfl))) ?_
    have f3 := fig400_len hn
    have big : ∀ {m : Nat}, m ≤ 200 → m ≤ sizeLine := fun h => Nat.le_trans h (by decide)
    have cl : (Str.ofString "no good sign is written by the word at place ").length = 45 := by decide +kernel
    have l2 : (Str.empty ++ Str.ofString "no good sign is written by the word at place " ++ Str.ofString (toString (n : Int))).length ≤ 200 := by
      rw [PySem.Str.empty_append, PySem.Str.length_append]
      omega
    refine ⟨_, rfl, ?_, _, rfl, .inr ⟨_, rfl, log400 hn, ?_, ?_, ?_⟩⟩
    · rw [PySem.Str.empty_append, cl]
      exact big (by decide)
    · exact big l2
    · exact big l2
    refine ⟨a, _, rfl, by show 1 ≤ sizeLine; decide, ha, ?_⟩
    refine ⟨_, rfl, _, rfl, a, rfl, ha, fun D hD hne => q D hD hne⟩

end Mine

namespace Mine
open PySem L2
def sp_read_sign (C : Addr) : Sp := fun vs H Q E => vs = [.str "G100"] ∧ ∀ D H', Same H H' → H' D = some (.xd [("at", .int 0)]) → E (.ref C) (some D) H'
theorem ok_read_sign {P : Program} {w : World} {K : PySem.W.Frag} {mg : Str → Option Value} {base : Heap} {t : Adr} (T : Txt K w mg t) : FnOk P w K mg base (CX2 P w) (0 + 3) t.f_read_sign t.d_read_sign ["word"] (sp_read_sign t.C_BadWord) := by
  have G_sign_of := ok_sign_of (P := P) (w := w) (base := base) T
  have G_BadWord___init__ := ok_BadWord___init__ (P := P) (w := w) (base := base) T
  refine T.F_read_sign.ok2 sc_read_sign (fun vs H Q E h => ?_) (fun cdv A outer s H vs Q E hr h => ?_)
  · obtain ⟨rfl, _⟩ := h
    rfl
  · obtain ⟨rfl, qe⟩ := h
    refine bodyOk (pss_cons (ps_set (i := 1) sc_read_sign.nd rfl (Or.inl rfl) (pe_call G_sign_of (hr.mono (by decide)) rfl T.mg_sign_of T.F_sign_of.kp T.b_sign_of .nil pass0 (pa_cons (pv 0) pa_nil))) (pss_cons (ps_if (pt_cmpR op_isN (pv 1) pe_non (nomark _)) (pss_one (ps_raiseI (fun _ _ z => leave2 z) rfl rfl T.xs_BadWord G_BadWord___init__ (hr.mono (by decide)) T.b_BadWord___init__ rfl T.mg_BadWord (pa_cons pe_int pa_nil))) pss_nil) (pss_one ps_never))) ?_
    refine ⟨_, rfl, rfl, ?_⟩
    refine ⟨_, rfl, rfl, _, rfl, iteT ?_⟩
    refine ⟨by show 1 ≤ sizeLine; decide, fun a ha => ⟨a, 0, rfl, by decide, upd_same, fun D hD hne => ⟨rfl, D, upd_same, ?_⟩⟩⟩
    have hD1 : H D = none := by rw [upd_ne hne] at hD; exact hD
    refine qe D _ (fun b o hb => ?_) ?_
    · have hba : b ≠ a := fun z => by rw [z, ha] at hb; cases hb
      have hbD : b ≠ D := fun z => by rw [z, hD1] at hb; cases hb
      rw [without_ne hba, upd_ne hba, upd_ne hbD, upd_ne hba]
      exact hb
    · rw [without_ne hne, upd_ne hne, upd_same]
      rfl

end Mine

namespace Mine
open PySem L2
inductive sp_take_voice (vs : List V) (H : Hp) (Q : VK) (E : XK) : Prop
  | mk (b l : Addr) (x : V) (h0_ : vs = [.ref b, .ref l]) (h1_ : H l = some (.lst [x])) (h2_ : Q (.bl false) H) : sp_take_voice vs H Q E
theorem ok_take_voice {P : Program} {w : World} {K : PySem.W.Frag} {mg : Str → Option Value} {base : Heap} {t : Adr} (T : Txt K w mg t) : FnOk P w K mg base CX0 (0 + 1) t.f_take_voice t.d_take_voice ["book", "words"] sp_take_voice := by
  refine T.F_take_voice.ok sc_take_voice (fun vs H Q E h => ?_) (fun cdv A outer s H vs Q E hr h => ?_)
  · obtain ⟨_, _, _, rfl, _⟩ := h
    rfl
  · obtain ⟨b, l, x, rfl, hl, q⟩ := h
    refine bodyOk (pss_cons (ps_if (pt_cmpR op_lt (pe_callB (call_len_seq.or call_len_str) rfl T.nb_len bt_len (pa_cons (pv 1) pa_nil)) pe_int (nomark _)) (pss_one (ps_ret pe_bl)) pss_nil) (pss_cons ps_never (pss_cons ps_never (pss_cons ps_never (pss_one ps_never))))) ?_
    refine ⟨_, rfl, .inl ⟨_, _, rfl, .inl (SqL.of hl), _, _, rfl, rfl, _, rfl, iteT q⟩⟩

end Mine

namespace Mine
open PySem L2
theorem sp_voice : Txt.split "voice" " " = [Str.ofString "voice"] := by decide +kernel
inductive sp_take_row (vs : List V) (H : Hp) (Q : VK) (E : XK) : Prop
  | mk (b : Addr) (h0_ : vs = [.ref b, .str "voice"]) (h1_ : ∀ H', Same H H' → Q (.bl false) H') : sp_take_row vs H Q E
theorem ok_take_row {P : Program} {w : World} {K : PySem.W.Frag} {mg : Str → Option Value} {base : Heap} {t : Adr} (T : Txt K w mg t) : FnOk P w K mg base CX0 (0 + 2) t.f_take_row t.d_take_row ["book", "row"] sp_take_row := by
  have G_take_voice := ok_take_voice (P := P) (w := w) (base := base) T
  refine T.F_take_row.ok sc_take_row (fun vs H Q E h => ?_) (fun cdv A outer s H vs Q E hr h => ?_)
  · obtain ⟨_, rfl, _⟩ := h
    rfl
  · obtain ⟨b, rfl, q⟩ := h
    refine bodyOk (pss_cons (ps_set (i := 2) sc_take_row.nd rfl (Or.inl rfl) (pe_bm PySem.F.plainAttrs_str PySem.F.slot_str_split PySem.F.type_str_split mt_split (pv 1) (pa_cons pe_str pa_nil))) (pss_one (ps_tryN (fun pn XS => (pss_cons (ps_if (pt_cmpR op_eq (pe_ix (ix_seqK (K := K) rfl) (pv 2) pe_int (fun _ _ => rfl)) pe_str (nomark _)) (pss_one (ps_ret (pe_call G_take_voice (hr.mono (by decide)) rfl T.mg_take_voice T.F_take_voice.kp T.b_take_voice .nil pass0 (pa_cons (pv 0) (pa_cons (pv 2) pa_nil))))) pss_nil) (pss_one ps_never))) (phs_cons (CT := t.C_NoteError) (fun pn a => (pss_one (ps_ret pe_bl))) rfl T.mg_NoteError phs_nil) rfl rfl))) ?_
    refine ⟨_, rfl, rfl, _, _, rfl, rfl, (by decide +kernel), (by decide +kernel), (by rw [sp_voice]; decide), fun l hl => ?_⟩
    rw [sp_voice]
    have h1 := upd_same (H := H) (a := l) (o := .lst [V.str "voice"])
    have s1 := Same.upd (o := .lst [V.str "voice"]) hl
    rw [show List.map V.str [Str.ofString "voice"] = [V.str "voice"] from rfl]
    generalize upd H l (.lst [V.str "voice"]) = H1 at h1 s1
    refine ⟨_, rfl, ixL (SqL.of h1) (n := 0) rfl rfl ?_⟩
    refine ⟨rfl, _, rfl, iteT ?_⟩
    exact ⟨_, rfl, _, rfl, b, l, V.str "voice", rfl, h1, q H1 s1⟩

end Mine

namespace Mine
open PySem L2
inductive sp_BadRow___init__ (C : Addr) (vs : List V) (H : Hp) (Q : VK) (E : XK) : Prop
  | mk (a : Addr) (n : Nat) (h0_ : vs = [.ref a, .int (n : Int)]) (h1_ : n ≤ 400) (h2_ : H a = some (exN a C none)) (h3_ : ∀ D, H D = none → D ≠ a → Q .non (upd (upd H D (.xd [("at", .int (n : Int))])) a (exN a C (some D)))) : sp_BadRow___init__ C vs H Q E
theorem figR400 : (List.range 401).all (fun n => decide ((Str.ofString (toString (n : Int))).length ≤ 3)) = true := by decide +kernel
theorem figR400_len {n : Nat} (h : n ≤ 400) : (Str.ofString (toString (n : Int))).length ≤ 3 := of_decide_eq_true (List.all_eq_true.mp figR400 n (List.mem_range.mpr (by omega)))
theorem logR400 {n : Nat} (h : n ≤ 400) : ((n : Int)).natAbs.log2 < 1920 := by
  have hb : ((n : Int)).natAbs < 2 ^ 1920 := Nat.lt_of_lt_of_le (show ((n : Int)).natAbs < 2 ^ 9 by omega) (Nat.pow_le_pow_right (by decide) (by decide))
  by_cases z : ((n : Int)).natAbs = 0
  · rw [z]
    decide
  · exact (Nat.log2_lt z).mpr hb
theorem ok_BadRow___init__ {P : Program} {w : World} {K : PySem.W.Frag} {mg : Str → Option Value} {base : Heap} {t : Adr} (T : Txt K w mg t) : FnOk P w K mg base CX0 (0 + 1) t.f_BadRow___init__ t.d_BadRow___init__ ["self", "at"] (sp_BadRow___init__ t.C_BadRow) := by
  refine T.F_BadRow___init__.ok sc_BadRow___init__ (fun vs H Q E h => ?_) (fun cdv A outer s H vs Q E hr h => ?_)
  · obtain ⟨_, _, rfl, _⟩ := h
    rfl
  · obtain ⟨a, n, rfl, hn, ha, q⟩ := h
    refine bodyOk (pss_cons (ps_expr (pe_initX (B := t.C_NoteError) rfl T.mg_NoteError T.xb_NoteError T.xs_BadRow.ini (pa_cons (pv 0) (pa_cons (pe_fstr (pps_cons pp_const (pps_cons (pp_val (pv 1)) pps_nil))) pa_nil)))) (pss_one (ps_setX T.xs_BadRow T.na_BadRow_at (pv 0) (pv 1) rfl))) ?_
    have f3 := figR400_len hn
    have big : ∀ {m : Nat}, m ≤ 200 → m ≤ sizeLine := fun h => Nat.le_trans h (by decide)
    have cl : (Str.ofString "no voice is written by the row at place ").length = 40 := by decide +kernel
    have l2 : (Str.empty ++ Str.ofString "no voice is written by the row at place " ++ Str.ofString (toString (n : Int))).length ≤ 200 := by
      rw [PySem.Str.empty_append, PySem.Str.length_append]
      omega
    refine ⟨_, rfl, ?_, _, rfl, .inr ⟨_, rfl, logR400 hn, ?_, ?_, ?_⟩⟩
    · rw [PySem.Str.empty_append, cl]
      exact big (by decide)
    · exact big l2
    · exact big l2
    refine ⟨a, _, rfl, by show 1 ≤ sizeLine; decide, ha, ?_⟩
    refine ⟨_, rfl, _, rfl, a, rfl, ha, fun D hD hne => q D hD hne⟩

end Mine

namespace Mine
open PySem L2
theorem sp_voiceN : Txt.split "voice" "\n" = [Str.ofString "voice"] := by decide +kernel
def sp_read_book (C : Addr) : Sp := fun vs H Q E => vs = [.str "voice"] ∧ ∀ D H', E (.ref C) (some D) H'
theorem ok_read_book {P : Program} {w : World} {K : PySem.W.Frag} {mg : Str → Option Value} {base : Heap} {t : Adr} (T : Txt K w mg t) : FnOk P w K mg base (CX2 P w) (0 + 3) t.f_read_book t.d_read_book ["text"] (sp_read_book t.C_BadRow) := by
  have G_Book___init__ := ok_Book___init__ (P := P) (w := w) (base := base) T
  have G_take_row := ok_take_row (P := P) (w := w) (base := base) T
  have G_BadRow___init__ := ok_BadRow___init__ (P := P) (w := w) (base := base) T
  refine T.F_read_book.ok2 sc_read_book (fun vs H Q E h => ?_) (fun cdv A outer s H vs Q E hr h => ?_)
  · obtain ⟨rfl, _⟩ := h
    rfl
  · obtain ⟨rfl, qe⟩ := h
    refine bodyOk (pss_cons (ps_set (i := 1) sc_read_book.nd rfl (Or.inl rfl) (pe_make0 T.mk_Book G_Book___init__ (hr.mono (by decide)) rfl T.mg_Book T.b_Book___init__ .nil pass0)) (pss_cons (ps_if (pt_cmpR (op_eq.or (op_eqD (hu_of64 hr))) (pv 0) pe_str (nomark _)) (pss_one ps_never) pss_nil) (pss_cons (ps_for PassesOwn.leaving rfl (pi_enum rfl T.nb_enumerate (pe_bm PySem.F.plainAttrs_str PySem.F.slot_str_split PySem.F.type_str_split mt_split (pv 0) (pa_cons pe_str pa_nil))) (pg_tup rfl (pgs_cons (pg_name (i := 2) sc_read_book.nd rfl (Or.inl rfl)) (pgs_cons (pg_name (i := 3) sc_read_book.nd rfl (Or.inl rfl)) pgs_nil))) (pss_one (ps_if (pt_not (pt_val (pe_call G_take_row (hr.mono (by decide)) rfl T.mg_take_row T.F_take_row.kp T.b_take_row .nil pass0 (pa_cons (pv 1) (pa_cons (pv 3) pa_nil))))) (pss_one (ps_raiseI (fun _ _ z => leave2 z) rfl rfl T.xs_BadRow G_BadRow___init__ (hr.mono (by decide)) T.b_BadRow___init__ rfl T.mg_BadRow (pa_cons (pv 2) pa_nil))) pss_nil))) (pss_cons ps_never (pss_one ps_never))))) ?_
    intro x dx nx ndx _
    refine ⟨x, dx, rfl, upd_same, fun L D U H4 kp4 nL nD nU LD LU DU hx4 hL4 hD4 hU4 => ⟨rfl, ?_⟩⟩
    refine ⟨_, rfl, .inl ⟨rfl, _, rfl, ?_⟩⟩
    refine ite2 (fun h => absurd h (by decide +kernel)) (fun _ => ?_)
    refine ⟨_, rfl, rfl, _, _, rfl, rfl, (by decide +kernel), (by decide +kernel), (by rw [sp_voiceN]; decide), fun l hl => ?_⟩
    rw [sp_voiceN, show List.map V.str [Str.ofString "voice"] = [V.str "voice"] from rfl]
    refine ⟨l, rfl, ⟨_, SqL.of upd_same⟩, for_enum (K := K) (xs := [V.str "voice"]) (fun i σ H' => i = 0 ∧ σ = [some (.str "voice"), some (.ref x), none, none] ∧ H' l = some (.lst [V.str "voice"])) ⟨rfl, rfl, upd_same⟩ ?_ ?_ ?_⟩
    · rintro i σ H' ⟨rfl, rfl, h2⟩
      exact SqL.of h2
    · rintro i y tt σ H' hy ⟨rfl, rfl, h2⟩ hn
      obtain rfl : V.str "voice" = y := Option.some.inj hy
      refine ⟨tt, _, rfl, SqT.of upd_same, rfl, _, _, rfl, _, _, rfl, rfl, ?_⟩
      refine ⟨_, rfl, _, rfl, x, rfl, fun H5 s5 => ?_⟩
      refine ⟨_, rfl, iteT ?_⟩
      refine ⟨_, rfl, by show 1 ≤ sizeLine; decide, fun a ha => ⟨a, 0, rfl, by omega, upd_same, fun D hD hne => ⟨rfl, D, upd_same, qe D _⟩⟩⟩
    · rintro σ H' ⟨z, _⟩
      cases z

end Mine

namespace Mine
open PySem L2
inductive sp_Ear_init (C : Addr) (vs : List V) (H : Hp) (Q : VK) (E : XK) : Prop
  | mk (x dx : Addr) (h0_ : vs = [.ref x, .int 3]) (h1_ : H x = some (.ins C dx [])) (h2_ : ∀ (D : Addr) (H' : Hp), H' x = some (.ins C dx (eaG D false)) → Q .non H') : sp_Ear_init C vs H Q E
theorem ok_Ear___init__ {P : Program} {w : World} {K : PySem.W.Frag} {mg : Str → Option Value} {base : Heap} {t : Adr} (T : Txt K w mg t) : FnOk P w K mg base CX0 (0 + 1) t.f_Ear___init__ t.d_Ear___init__ ["self", "begin"] (sp_Ear_init t.C_Ear) := by
  refine T.F_Ear___init__.ok sc_Ear___init__ (fun vs H Q E h => ?_) (fun cdv A outer s H vs Q E hr h => ?_)
  · obtain ⟨_, _, rfl, _⟩ := h
    rfl
  · obtain ⟨x, dx, rfl, hx, q⟩ := h
    refine bodyOk (pss_cons (ps_fld (pv 0) (pv 1) rfl) (pss_cons (ps_fld (pv 0) (pe_lst pa_nil) rfl) (pss_cons (ps_fld (pv 0) pe_bl rfl) (pss_cons (ps_fld (pv 0) pe_bl rfl) (pss_cons (ps_fld (pv 0) pe_int rfl) (pss_cons (ps_fld (pv 0) (pe_glob (v := .str "") rfl T.c_NOTHING_MORE ⟨_, rfl⟩) rfl) (pss_one (ps_fld (pv 0) pe_bl rfl)))))))) ?_
    refine ⟨_, rfl, _, rfl, x, _, dx, _, rfl, hx, T.cl_Ear, T.na_Ear_measure, by show 0 < 1000; decide, ?_⟩
    refine ⟨big (by show 0 ≤ 1000; omega), fun D hD => ?_⟩
    have nx : x ≠ D := fun e => by rw [← e, upd_same] at hD; cases hD
    refine ⟨_, rfl, x, _, dx, _, rfl, by rw [upd_ne nx]; exact upd_same, T.cl_Ear, T.na_Ear_held, by rw [eaG_mk0]; show 1 < 1000; decide, ?_⟩
    refine ⟨_, rfl, x, _, dx, _, rfl, upd_same, T.cl_Ear, T.na_Ear_left, ?_, ?_⟩
    · rw [eaG_mk0, eaG_mk1]; show 2 < 1000; decide
    refine ⟨_, rfl, x, _, dx, _, rfl, upd_same, T.cl_Ear, T.na_Ear_right, ?_, ?_⟩
    · rw [eaG_mk0, eaG_mk1, eaG_mk2]; show 3 < 1000; decide
    refine ⟨_, rfl, x, _, dx, _, rfl, upd_same, T.cl_Ear, T.na_Ear_counted, ?_, ?_⟩
    · rw [eaG_mk0, eaG_mk1, eaG_mk2, eaG_mk3]; show 4 < 1000; decide
    refine ⟨_, rfl, x, _, dx, _, rfl, upd_same, T.cl_Ear, T.na_Ear_last, ?_, ?_⟩
    · rw [eaG_mk0, eaG_mk1, eaG_mk2, eaG_mk3, eaG_mk4]; show 5 < 1000; decide
    refine ⟨_, rfl, x, _, dx, _, rfl, upd_same, T.cl_Ear, T.na_Ear_is_closed, ?_, ?_⟩
    · rw [eaG_mk0, eaG_mk1, eaG_mk2, eaG_mk3, eaG_mk4, eaG_mk5]; show 6 < 1000; decide
    rw [eaG_mk0, eaG_mk1, eaG_mk2, eaG_mk3, eaG_mk4, eaG_mk5, eaG_mk6]
    exact q D _ upd_same

end Mine

namespace Mine
open PySem L2
inductive sp_Ear_refuse (C X : Addr) (vs : List V) (H : Hp) (Q : VK) (E : XK) : Prop
  | mk (x dx D : Addr) (c : Bool) (h0_ : vs = [.ref x]) (h1_ : H x = some (.ins C dx (eaG D c))) (h2_ : (c = false → Q .non H)) (h3_ : (c = true → E (.ref X) none H)) : sp_Ear_refuse C X vs H Q E
theorem ok_Ear_refuse_where_closed {P : Program} {w : World} {K : PySem.W.Frag} {mg : Str → Option Value} {base : Heap} {t : Adr} (T : Txt K w mg t) : FnOk P w K mg base (CX1 P w) (0 + 1) t.f_Ear_refuse_where_closed t.d_Ear_refuse_where_closed ["self"] (sp_Ear_refuse t.C_Ear t.C_Closed) := by
  refine T.F_Ear_refuse_where_closed.okX sc_Ear_refuse_where_closed (fun vs H Q E h => ?_) (fun cdv A outer s H vs Q E hr h => ?_)
  · obtain ⟨_, _, _, _, rfl, _⟩ := h
    rfl
  · obtain ⟨x, dx, D, c, rfl, hx, q, qe⟩ := h
    refine bodyOk (pss_one (ps_if (pt_val (pe_fld (pv 0) rfl)) (pss_one (ps_raise (X := (cxOf (CX1 P w) P w K mg base ["self"] "Ear.refuse_where_closed" (defScope s_Ear_refuse_where_closed) t.f_Ear_refuse_where_closed cdv A outer s H E)) (fun _ _ z => z) rfl T.xa_Closed.exc rfl T.mg_Closed (pa_cons pe_str pa_nil))) pss_nil)) ?_
    refine ⟨_, rfl, x, _, dx, _, _, rfl, hx, T.cl_Ear, T.na_Ear_is_closed, eaG_is_closed _ _, ?_⟩
    refine ⟨_, rfl, ?_⟩
    cases c with
    | false => exact iteF (q rfl)
    | true => exact iteT ⟨by show 1 ≤ sizeLine; decide, qe rfl⟩

end Mine

namespace Mine
open PySem L2
inductive sp_Ear_close_run (C : Addr) (vs : List V) (H : Hp) (Q : VK) (E : XK) : Prop
  | mk (x dx D : Addr) (h0_ : vs = [.ref x, .str ""]) (h1_ : H x = some (.ins C dx (eaG D true))) (h2_ : ∀ H', H' x = some (.ins C dx (eaG D true)) → Q .non H') : sp_Ear_close_run C vs H Q E
theorem ok_Ear_close_run {P : Program} {w : World} {K : PySem.W.Frag} {mg : Str → Option Value} {base : Heap} {t : Adr} (T : Txt K w mg t) : FnOk P w K mg base CX0 (0 + 1) t.f_Ear_close_run t.d_Ear_close_run ["self", "kind"] (sp_Ear_close_run t.C_Ear) := by
  refine T.F_Ear_close_run.ok sc_Ear_close_run (fun vs H Q E h => ?_) (fun cdv A outer s H vs Q E hr h => ?_)
  · obtain ⟨_, _, _, rfl, _⟩ := h
    rfl
  · obtain ⟨x, dx, D, rfl, hx, q⟩ := h
    refine bodyOk (pss_cons (ps_set (i := 2) sc_Ear_close_run.nd rfl (Or.inl rfl) (pe_op op_mod (pe_fld (pv 0) rfl) pe_int)) (pss_cons (ps_fld (pv 0) pe_int rfl) (pss_cons (ps_mid (ps_if (pt_mid (PW.pt (pw_and (pt_cmpR (op_eq.or (op_eqD (hu_of64 hr))) (pv 2) pe_int (nomark _)) (pw_and (pt_cmpR (op_eq.or (op_eqD (hu_of64 hr))) (pe_fld (pv 0) rfl) pe_str (nomark _)) (pw_and1 (pt_cmpR (op_in_seq.or op_in_str) (pv 1) (pe_glob (v := .ref t.a_GREAT_KINDS) rfl T.c_GREAT_KINDS rfl) rfl)))))) (pss_one ps_never) (pss_one (ps_if (pt_mid (PW.pt (pw_and (pt_cmpR (op_eq.or (op_eqD (hu_of64 hr))) (pv 2) pe_int (nomark _)) (pw_and (pt_val (pe_fld (pv 0) rfl)) (pw_and1 (pt_cmpR (op_eq.or (op_eqD (hu_of64 hr))) (pv 1) pe_str (nomark _))))))) (pss_cons ps_never (pss_one ps_never)) (pss_one (ps_if (pt_mid (PW.pt (pw_and (pt_cmpR (op_eq.or (op_eqD (hu_of64 hr))) (pv 2) pe_int (nomark _)) (pw_and1 (pt_val (pe_fld (pv 0) rfl)))))) (pss_one ps_never) (pss_one (ps_if (pt_mid (PW.pt (pw_and (pt_cmpR (op_eq.or (op_eqD (hu_of64 hr))) (pv 2) pe_int (nomark _)) (pw_and1 (pt_cmpR (op_eq.or (op_eqD (hu_of64 hr))) (pv 1) pe_str (nomark _)))))) (pss_one ps_never) pss_nil)))))))) (pss_one (ps_fld (pv 0) pe_bl rfl))))) ?_
    refine ⟨_, rfl, x, _, dx, _, _, rfl, hx, T.cl_Ear, T.na_Ear_counted, eaG_counted _ _, ?_⟩
    (repeat array_get_dec)
    refine ⟨x, _, dx, _, rfl, hx, T.cl_Ear, T.na_Ear_counted, by show 7 < 1000; decide, ?_⟩
    rw [eaG_put_counted0]
    have hx1 := upd_same (H := H) (a := x) (o := .ins t.C_Ear dx (eaG D true))
    generalize upd H x (.ins t.C_Ear dx (eaG D true)) = H1 at hx1
    refine ⟨fun σ' H' => σ' = [some (.ref x), some (.str ""), some (.int ((0 : Int) % 3))] ∧ H' = H1, ?_, ?_⟩
    · refine midB false ?_ (iteF ?_)
      · (repeat array_get_dec)
        exact ite2 (fun h => absurd h (by decide +kernel)) (fun _ => endB rfl)
      refine midB false ?_ (iteF ?_)
      · (repeat array_get_dec)
        exact ite2 (fun h => absurd h (by decide +kernel)) (fun _ => endB rfl)
      refine midB false ?_ (iteF ?_)
      · (repeat array_get_dec)
        exact ite2 (fun h => absurd h (by decide +kernel)) (fun _ => endB rfl)
      refine midB false ?_ (iteF ?_)
      · (repeat array_get_dec)
        exact ite2 (fun h => absurd h (by decide +kernel)) (fun _ => endB rfl)
      exact ⟨rfl, rfl⟩
    · rintro _ _ ⟨rfl, rfl⟩
      refine ⟨_, rfl, x, _, dx, _, rfl, hx1, T.cl_Ear, T.na_Ear_left, by show 7 < 1000; decide, ?_⟩
      rw [eaG_put_left0]
      exact q _ upd_same

end Mine

namespace Mine
open PySem L2
inductive sp_Ear_let_go (C : Addr) (vs : List V) (H : Hp) (Q : VK) (E : XK) : Prop
  | mk (x dx D : Addr) (h0_ : vs = [.ref x]) (h1_ : H x = some (.ins C dx (eaG D true))) (h2_ : ∀ (D' : Addr) (H' : Hp), H' x = some (.ins C dx (eaG D' true)) → Q (.ref D) H') : sp_Ear_let_go C vs H Q E
theorem ok_Ear_let_go {P : Program} {w : World} {K : PySem.W.Frag} {mg : Str → Option Value} {base : Heap} {t : Adr} (T : Txt K w mg t) : FnOk P w K mg base CX0 (0 + 1) t.f_Ear_let_go t.d_Ear_let_go ["self"] (sp_Ear_let_go t.C_Ear) := by
  refine T.F_Ear_let_go.ok sc_Ear_let_go (fun vs H Q E h => ?_) (fun cdv A outer s H vs Q E hr h => ?_)
  · obtain ⟨_, _, _, rfl, _⟩ := h
    rfl
  · obtain ⟨x, dx, D, rfl, hx, q⟩ := h
    refine bodyOk (pss_cons (ps_set (i := 1) sc_Ear_let_go.nd rfl (Or.inl rfl) (pe_fld (pv 0) rfl)) (pss_cons (ps_fld (pv 0) (pe_lst pa_nil) rfl) (pss_one (ps_ret (pv 1))))) ?_
    refine ⟨_, rfl, x, _, dx, _, _, rfl, hx, T.cl_Ear, T.na_Ear_held, eaG_held _ _, ?_⟩
    refine ⟨big (by show 0 ≤ 1000; omega), fun D' hD' => ?_⟩
    have nx : x ≠ D' := ne_of_none hx hD'
    refine ⟨_, rfl, x, _, dx, _, rfl, by rw [upd_ne nx]; exact hx, T.cl_Ear, T.na_Ear_held, by show 7 < 1000; decide, ?_⟩
    rw [eaG_put_held]
    refine ⟨_, rfl, ?_⟩
    exact q D' _ upd_same

end Mine

namespace Mine
open PySem L2
inductive sp_Ear_settled_by (C : Addr) (vs : List V) (H : Hp) (Q : VK) (E : XK) : Prop
  | mk (x dx D : Addr) (h0_ : vs = [.ref x, .str ""]) (h1_ : H x = some (.ins C dx (eaG D true))) (h2_ : ∀ v D' H', H' x = some (.ins C dx (eaG D' true)) → Q v H') : sp_Ear_settled_by C vs H Q E
theorem ok_Ear_settled_by {P : Program} {w : World} {K : PySem.W.Frag} {mg : Str → Option Value} {base : Heap} {t : Adr} (T : Txt K w mg t) : FnOk P w K mg base CX0 (0 + 2) t.f_Ear_settled_by t.d_Ear_settled_by ["self", "kind"] (sp_Ear_settled_by t.C_Ear) := by
  have G_Ear_close_run := ok_Ear_close_run (P := P) (w := w) (base := base) T
  have G_Ear_let_go := ok_Ear_let_go (P := P) (w := w) (base := base) T
  refine T.F_Ear_settled_by.ok sc_Ear_settled_by (fun vs H Q E h => ?_) (fun cdv A outer s H vs Q E hr h => ?_)
  · obtain ⟨_, _, _, rfl, _⟩ := h
    rfl
  · obtain ⟨x, dx, D, rfl, hx, q⟩ := h
    refine bodyOk (pss_cons (ps_mid (ps_if (pt_cmpR (op_eq.or (op_eqD (hu_of64 hr))) (pe_fld (pv 0) rfl) pe_int (nomark _)) (pss_one ps_never) (pss_one (ps_if (pt_val (pe_fld (pv 0) rfl)) (pss_one ps_never) (pss_one (ps_if (pt_cmpR (op_notIn_seq.or op_notIn_str) (pv 1) (pe_glob (v := .ref t.a_SMALL_KINDS) rfl T.c_SMALL_KINDS rfl) rfl) (pss_one (ps_expr (pe_meth (pv 0) T.cl_Ear T.me_Ear_close_run G_Ear_close_run (hr.mono (by decide)) T.b_Ear_close_run .nil pass0 (pa_cons (pv 1) pa_nil)))) pss_nil)))))) (pss_cons (ps_if (pt_val (pe_fld (pv 0) rfl)) (pss_one (ps_ret (pe_lst pa_nil))) pss_nil) (pss_one (ps_ret (pe_meth0 (pv 0) T.cl_Ear T.me_Ear_let_go G_Ear_let_go (hr.mono (by decide)) T.b_Ear_let_go .nil pass0))))) ?_
    refine ⟨fun σ' H' => σ' = [some (.ref x), some (.str "")] ∧ H' x = some (.ins t.C_Ear dx (eaG D true)), ?_, ?_⟩
    · refine ⟨_, rfl, x, _, dx, _, _, rfl, hx, T.cl_Ear, T.na_Ear_measure, eaG_measure _ _, ?_⟩
      (repeat array_get_dec)
      refine ⟨x, _, dx, _, _, rfl, hx, T.cl_Ear, T.na_Ear_right, eaG_right _ _, ?_⟩
      refine ⟨_, rfl, iteF ?_⟩
      refine ⟨_, rfl, .inl ⟨_, _, rfl, .inr (T.q_SMALL_KINDS _), rfl, rfl, _, rfl, ?_⟩⟩
      refine ite2 (fun _ => ?_) (fun h => absurd (by decide +kernel) h)
      refine ⟨_, rfl, x, dx, _, rfl, hx, eaG_no_close_run _ _, ?_⟩
      exact ⟨_, rfl, x, dx, D, rfl, hx, fun H' h' => ⟨rfl, h'⟩⟩
    · rintro _ H1 ⟨rfl, hx1⟩
      refine ⟨_, rfl, x, _, dx, _, _, rfl, hx1, T.cl_Ear, T.na_Ear_left, eaG_left _ _, ?_⟩
      refine ⟨_, rfl, iteF ?_⟩
      refine ⟨_, rfl, x, dx, _, rfl, hx1, eaG_no_let_go _ _, ?_⟩
      exact ⟨x, dx, D, rfl, hx1, fun D' H' h' => q _ D' H' h'⟩

end Mine

namespace Mine
open PySem L2
inductive sp_Ear_close (C : Addr) (vs : List V) (H : Hp) (Q : VK) (E : XK) : Prop
  | mk (x dx D : Addr) (h0_ : vs = [.ref x]) (h1_ : H x = some (.ins C dx (eaG D false))) (h2_ : ∀ v D' H', H' x = some (.ins C dx (eaG D' true)) → Q v H') : sp_Ear_close C vs H Q E
theorem ok_Ear_close {P : Program} {w : World} {K : PySem.W.Frag} {mg : Str → Option Value} {base : Heap} {t : Adr} (T : Txt K w mg t) : FnOk P w K mg base (CX1 P w) (0 + 3) t.f_Ear_close t.d_Ear_close ["self"] (sp_Ear_close t.C_Ear) := by
  have G_Ear_refuse_where_closed := ok_Ear_refuse_where_closed (P := P) (w := w) (base := base) T
  have G_Ear_settled_by := ok_Ear_settled_by (P := P) (w := w) (base := base) T
  refine T.F_Ear_close.okX sc_Ear_close (fun vs H Q E h => ?_) (fun cdv A outer s H vs Q E hr h => ?_)
  · obtain ⟨_, _, _, rfl, _⟩ := h
    rfl
  · obtain ⟨x, dx, D, rfl, hx, q⟩ := h
    refine bodyOk (pss_cons (ps_expr (pe_methX0 (X := (cxOf (CX1 P w) P w K mg base ["self"] "Ear.close" (defScope s_Ear_close) t.f_Ear_close cdv A outer s H E)) (pv 0) T.cl_Ear T.me_Ear_refuse_where_closed G_Ear_refuse_where_closed (hr.mono (by decide)) T.b_Ear_refuse_where_closed .nil (fun _ _ z => Or.inl z))) (pss_cons (ps_fld (pv 0) pe_bl rfl) (pss_one (ps_ret (pe_meth (pv 0) T.cl_Ear T.me_Ear_settled_by G_Ear_settled_by (hr.mono (by decide)) T.b_Ear_settled_by .nil pass0 (pa_cons (pe_glob (v := .str "") rfl T.c_NOTHING_MORE ⟨_, rfl⟩) pa_nil)))))) ?_
    refine ⟨_, rfl, x, dx, _, rfl, hx, eaG_no_refuse_where_closed _ _, ?_⟩
    refine ⟨x, dx, D, false, rfl, hx, fun _ => ?_, fun z => nomatch z⟩
    refine ⟨_, rfl, x, _, dx, _, rfl, hx, T.cl_Ear, T.na_Ear_is_closed, by show 7 < 1000; decide, ?_⟩
    rw [show putF "is_closed" (V.bl true) (eaG D false) = eaG D true from eaG_put_is_closed _ _ _]
    refine ⟨_, rfl, x, dx, _, rfl, upd_same, eaG_no_settled_by _ _, ?_⟩
    exact ⟨x, dx, D, rfl, upd_same, q⟩

end Mine

namespace Mine
open PySem L2
inductive sp_Ear_hear (C X : Addr) (vs : List V) (H : Hp) (Q : VK) (E : XK) : Prop
  | mk (x dx D p : Addr) (h0_ : vs = [.ref x, .ref p]) (h1_ : H x = some (.ins C dx (eaG D true))) (h2_ : E (.ref X) none H) : sp_Ear_hear C X vs H Q E
theorem ok_Ear_hear {P : Program} {w : World} {K : PySem.W.Frag} {mg : Str → Option Value} {base : Heap} {t : Adr} (T : Txt K w mg t) : FnOk P w K mg base (CX1 P w) (0 + 2) t.f_Ear_hear t.d_Ear_hear ["self", "sign"] (sp_Ear_hear t.C_Ear t.C_Closed) := by
  have G_Ear_refuse_where_closed := ok_Ear_refuse_where_closed (P := P) (w := w) (base := base) T
  refine T.F_Ear_hear.okX sc_Ear_hear (fun vs H Q E h => ?_) (fun cdv A outer s H vs Q E hr h => ?_)
  · obtain ⟨_, _, _, _, rfl, _⟩ := h
    rfl
  · obtain ⟨x, dx, D, p, rfl, hx, q⟩ := h
    refine bodyOk (pss_cons (ps_expr (pe_methX0 (X := (cxOf (CX1 P w) P w K mg base ["self", "sign", "settled"] "Ear.hear" (defScope s_Ear_hear) t.f_Ear_hear cdv A outer s H E)) (pv 0) T.cl_Ear T.me_Ear_refuse_where_closed G_Ear_refuse_where_closed (hr.mono (by decide)) T.b_Ear_refuse_where_closed .nil (fun _ _ z => Or.inl z))) (pss_cons ps_never (pss_cons (ps_mid ps_never) (pss_cons ps_never (pss_cons ps_never (pss_one ps_never)))))) ?_
    refine ⟨_, rfl, x, dx, _, rfl, hx, eaG_no_refuse_where_closed _ _, ?_⟩
    exact ⟨x, dx, D, true, rfl, hx, (fun z => nomatch z), fun _ => q⟩

end Mine

namespace Mine
open PySem L2
def zedV (vw : Vw) : Vw := vw ++ [(("zed" : Str), Th.pl [])]
/-- a book that was made behind H0, beside lists that are not its own -/
structure Bw (c : Cs) (H0 H : Hp) (x : Addr) (own : List Addr) (vw : Vw) (ps fs : List Vw) : Prop where
  ex : ∃ F, BkC c H x F vw ps fs ∧ (∀ y, F y → ∃ xs, H y = some (.lst xs)) ∧ (∀ y, F y → H0 y = none) ∧ ∀ a ∈ own, ¬ F a ∧ ∃ o, H a = some o
  sm : Same H0 H
section
variable {c : Cs} {H0 H H' H1 : Hp} {x : Addr} {own : List Addr} {vw vw' : Vw} {ps ps' fs fs' : List Vw} {F F' : Addr → Prop}
theorem Bw.mk' (b : BkC c H' x F' vw' ps' fs') (sm : Same H0 H) (hF : ∀ y, F y → ∃ xs, H y = some (.lst xs)) (h0 : ∀ y, F y → H0 y = none) (ho : ∀ a ∈ own, ¬ F a ∧ ∃ o, H a = some o) (g : Gr F F' H) (fr : Fr F H H') : Bw c H0 H' x own vw' ps' fs' ∧ Keep own H H' := by
  obtain ⟨F0, h1, h2, b0⟩ := b.tight
  refine ⟨⟨⟨F0, b0, h2, fun y z => ?_, fun a ha => ?_⟩, fun y o e => fr y o (sm y o e) fun z => ?_⟩, fun y o e k => fr y o e fun z => ?_⟩
  · rcases g y (h1 y z) with q | q
    · exact h0 y q
    · exact sm.free q
  · obtain ⟨n, o, e⟩ := ho a ha
    refine ⟨fun z => ?_, o, fr a o e n⟩
    rcases g a (h1 a z) with q | q
    · exact n q
    · rw [e] at q; cases q
  · rw [h0 y z] at e; cases e
  · rcases k with k | k
    · obtain ⟨xs, q⟩ := hF y z
      rw [e] at q
      cases q
      exact k _ rfl
    · exact (ho y k).1 z
theorem Bw.hx (h : Bw c H0 H x own vw ps fs) : ∃ dx L D U, H x = some (.ins c.B dx (boF L D U)) := by
  obtain ⟨F, b, _⟩ := h.ex
  obtain ⟨L, D, U, all, M, Ps, Fs, es, us, b, _⟩ := b.ex
  obtain ⟨dx, e⟩ := b.hx
  exact ⟨dx, L, D, U, e⟩
theorem Bw.new {dx L D U : Addr} (hx : H' x = some (.ins c.B dx (boF L D U))) (hL : H' L = some (.lst [])) (hD : H' D = some (.lst [])) (hU : H' U = some (.lst [])) (LD : L ≠ D) (LU : L ≠ U) (DU : D ≠ U) (s : Same H H') (nL : H L = none) (nD : H D = none) (nU : H U = none) : Bw c H H' x [] [] [] [] := by
  refine ⟨⟨_, Bk.new hx hL hD hU LD LU DU, fun y hy => ?_, fun y hy => ?_, fun a ha => nomatch ha⟩, s⟩
  · rcases hy with rfl | rfl | rfl
    · exact ⟨_, hL⟩
    · exact ⟨_, hD⟩
    · exact ⟨_, hU⟩
  · rcases hy with rfl | rfl | rfl
    · exact nL
    · exact nD
    · exact nU
end

def brC (t : Adr) : List Addr := [t.C_BadName, t.C_NameTaken, t.C_NoVoice, t.C_NotPlain, t.C_NoPlace, t.C_BadTerm, t.C_Leaned, t.C_NoMore, t.C_BadSign, t.C_BadWord, t.C_BadRow, t.C_Full, t.C_Closed]
inductive sp_l_bring (t : Adr) (vs : List V) (H : Hp) (Q : VK) (E : XK) : Prop
  | mk (k : Nat) (x : Addr) (H0 : Hp) (lt sl : Int) (ps : List Vw) (h0_ : vs = [.int (k : Int), .ref x]) (h1_ : k < 13) (h2_ : Bw (cs t) H0 H x [] (w50 lt sl) ps []) (h3_ : ps.length ≤ 2) (h4_ : (∀ C H', (brC t)[k]? = some C → ¬ (k = 9 ∨ k = 10) → E (.ref C) none H')) (h5_ : (∀ C D H', (brC t)[k]? = some C → (k = 9 ∨ k = 10) → E (.ref C) (some D) H')) : sp_l_bring t vs H Q E
set_option maxHeartbeats 4000000 in
theorem ok_l_bring {P : Program} {w : World} {K : PySem.W.Frag} {mg : Str → Option Value} {base : Heap} {t : Adr} (T : Txt K w mg t) : FnOk P w K mg base (CX3 P w) (0 + 5) t.f_l_bring t.d_l_bring ["_law_way", "_law_book"] (sp_l_bring t) := by
  have G_Book_add_voice := ok_Book_add_voice (P := P) (w := w) (base := base) T
  have G_Book_line := ok_Book_line (P := P) (w := w) (base := base) T
  have G_Book_cut := ok_Book_cut (P := P) (w := w) (base := base) T
  have G_Book_add_canon := ok_Book_add_canon (P := P) (w := w) (base := base) T
  have G_Book_drop := ok_Book_drop (P := P) (w := w) (base := base) T
  have G_Book_redo := ok_Book_redo (P := P) (w := w) (base := base) T
  have G_shown_sign := ok_shown_sign (P := P) (w := w) (base := base) T
  have G_read_sign := ok_read_sign (P := P) (w := w) (base := base) T
  have G_read_book := ok_read_book (P := P) (w := w) (base := base) T
  have G_Ear___init__ := ok_Ear___init__ (P := P) (w := w) (base := base) T
  have G_Ear_close := ok_Ear_close (P := P) (w := w) (base := base) T
  have G_Ear_hear := ok_Ear_hear (P := P) (w := w) (base := base) T
  refine T.F_l_bring.ok3p sc_l_bring (fun vs H Q E h => ?_) (fun cdv A outer s H vs Q E hr h => ?_)
  · obtain ⟨_, _, _, _, _, _, rfl, _⟩ := h
    rfl
  · obtain ⟨k, x, H0, lt, sl, ps, rfl, hk, B, hps, qe, qd⟩ := h
    refine bodyOk (pss_cons (ps_mid (ps_if (pt_cmpR (op_eq.or (op_eqD (hu_of64 hr))) (pv 0) pe_int (nomark _)) (pss_one (ps_expr (pe_meth3 (X := (cxOf (CX3 P w) P w K mg base ["_law_way", "_law_book", "_law_k", "_law_hark"] "_law_bring" (defScope s_l_bring) t.f_l_bring cdv A outer s H E)) (W := (cxOf (CX3 P w) P w K mg base ["_law_way", "_law_book", "_law_k", "_law_hark"] "_law_bring" (defScope s_l_bring) t.f_l_bring cdv A outer s H E).xe) (XS := fun _ cls od H' => E cls od H') (pv 1) T.cl_Book T.me_Book_add_voice (G_Book_add_voice.to3 cx1_3) (hr.mono (by decide)) T.b_Book_add_voice .nil (fun _ _ z => leave3 z) (pa_cons pe_str pa_nil)))) pss_nil)) (pss_cons (ps_mid (ps_if (pt_cmpR (op_eq.or (op_eqD (hu_of64 hr))) (pv 0) pe_int (nomark _)) (pss_one (ps_expr (pe_meth3 (X := (cxOf (CX3 P w) P w K mg base ["_law_way", "_law_book", "_law_k", "_law_hark"] "_law_bring" (defScope s_l_bring) t.f_l_bring cdv A outer s H E)) (W := (cxOf (CX3 P w) P w K mg base ["_law_way", "_law_book", "_law_k", "_law_hark"] "_law_bring" (defScope s_l_bring) t.f_l_bring cdv A outer s H E).xe) (XS := fun _ cls od H' => E cls od H') (pv 1) T.cl_Book T.me_Book_add_voice (G_Book_add_voice.to3 cx1_3) (hr.mono (by decide)) T.b_Book_add_voice .nil (fun _ _ z => leave3 z) (pa_cons pe_str pa_nil)))) pss_nil)) (pss_cons (ps_mid (ps_if (pt_cmpR (op_eq.or (op_eqD (hu_of64 hr))) (pv 0) pe_int (nomark _)) (pss_one (ps_expr (pe_meth3 (X := (cxOf (CX3 P w) P w K mg base ["_law_way", "_law_book", "_law_k", "_law_hark"] "_law_bring" (defScope s_l_bring) t.f_l_bring cdv A outer s H E)) (W := (cxOf (CX3 P w) P w K mg base ["_law_way", "_law_book", "_law_k", "_law_hark"] "_law_bring" (defScope s_l_bring) t.f_l_bring cdv A outer s H E).xe) (XS := fun _ cls od H' => E cls od H') (pv 1) T.cl_Book T.me_Book_line (G_Book_line.to3 cx1_3) (hr.mono (by decide)) T.b_Book_line .nil (fun _ _ z => leave3 z) (pa_cons pe_str pa_nil)))) pss_nil)) (pss_cons (ps_mid (ps_if (pt_cmpR (op_eq.or (op_eqD (hu_of64 hr))) (pv 0) pe_int (nomark _)) (pss_one (ps_expr (pe_meth3 (X := (cxOf (CX3 P w) P w K mg base ["_law_way", "_law_book", "_law_k", "_law_hark"] "_law_bring" (defScope s_l_bring) t.f_l_bring cdv A outer s H E)) (W := (cxOf (CX3 P w) P w K mg base ["_law_way", "_law_book", "_law_k", "_law_hark"] "_law_bring" (defScope s_l_bring) t.f_l_bring cdv A outer s H E).xe) (XS := fun _ cls od H' => E cls od H') (pv 1) T.cl_Book T.me_Book_cut (G_Book_cut.to3 cx1_3) (hr.mono (by decide)) T.b_Book_cut .nil (fun _ _ z => leave3 z) (pa_cons pe_str (pa_cons pe_int pa_nil))))) pss_nil)) (pss_cons (ps_mid (ps_if (pt_cmpR (op_eq.or (op_eqD (hu_of64 hr))) (pv 0) pe_int (nomark _)) (pss_one (ps_expr (pe_meth3 (X := (cxOf (CX3 P w) P w K mg base ["_law_way", "_law_book", "_law_k", "_law_hark"] "_law_bring" (defScope s_l_bring) t.f_l_bring cdv A outer s H E)) (W := (cxOf (CX3 P w) P w K mg base ["_law_way", "_law_book", "_law_k", "_law_hark"] "_law_bring" (defScope s_l_bring) t.f_l_bring cdv A outer s H E).xe) (XS := fun _ cls od H' => E cls od H') (pv 1) T.cl_Book T.me_Book_cut (G_Book_cut.to3 cx1_3) (hr.mono (by decide)) T.b_Book_cut .nil (fun _ _ z => leave3 z) (pa_cons pe_str (pa_cons pe_int pa_nil))))) pss_nil)) (pss_cons (ps_mid (ps_if (pt_cmpR (op_eq.or (op_eqD (hu_of64 hr))) (pv 0) pe_int (nomark _)) (pss_one (ps_expr (pe_meth3 (X := (cxOf (CX3 P w) P w K mg base ["_law_way", "_law_book", "_law_k", "_law_hark"] "_law_bring" (defScope s_l_bring) t.f_l_bring cdv A outer s H E)) (W := (cxOf (CX3 P w) P w K mg base ["_law_way", "_law_book", "_law_k", "_law_hark"] "_law_bring" (defScope s_l_bring) t.f_l_bring cdv A outer s H E).xe) (XS := fun _ cls od H' => E cls od H') (pv 1) T.cl_Book T.me_Book_add_canon (G_Book_add_canon.to3 cx1_3) (hr.mono (by decide)) (dvs := [.int 1, .bl false]) T.bd2_Book_add_canon (.cons ⟨_, rfl⟩ (.cons rfl (.nil))) (fun _ _ z => leave3 z) (pa_cons pe_str (pa_cons pe_str (pa_cons pe_int pa_nil)))))) pss_nil)) (pss_cons (ps_mid (ps_if (pt_cmpR (op_eq.or (op_eqD (hu_of64 hr))) (pv 0) pe_int (nomark _)) (pss_one (ps_expr (pe_meth3 (X := (cxOf (CX3 P w) P w K mg base ["_law_way", "_law_book", "_law_k", "_law_hark"] "_law_bring" (defScope s_l_bring) t.f_l_bring cdv A outer s H E)) (W := (cxOf (CX3 P w) P w K mg base ["_law_way", "_law_book", "_law_k", "_law_hark"] "_law_bring" (defScope s_l_bring) t.f_l_bring cdv A outer s H E).xe) (XS := fun _ cls od H' => E cls od H') (pv 1) T.cl_Book T.me_Book_drop (G_Book_drop.to3 cx1_3) (hr.mono (by decide)) T.b_Book_drop .nil (fun _ _ z => leave3 z) (pa_cons pe_str pa_nil)))) pss_nil)) (pss_cons (ps_mid (ps_if (pt_cmpR (op_eq.or (op_eqD (hu_of64 hr))) (pv 0) pe_int (nomark _)) (pss_one (ps_expr (pe_meth30 (X := (cxOf (CX3 P w) P w K mg base ["_law_way", "_law_book", "_law_k", "_law_hark"] "_law_bring" (defScope s_l_bring) t.f_l_bring cdv A outer s H E)) (W := (cxOf (CX3 P w) P w K mg base ["_law_way", "_law_book", "_law_k", "_law_hark"] "_law_bring" (defScope s_l_bring) t.f_l_bring cdv A outer s H E).xe) (XS := fun _ cls od H' => E cls od H') (pv 1) T.cl_Book T.me_Book_redo (G_Book_redo.to3 cx1_3) (hr.mono (by decide)) T.b_Book_redo .nil (fun _ _ z => leave3 z)))) pss_nil)) (pss_cons (ps_mid (ps_if (pt_cmpR (op_eq.or (op_eqD (hu_of64 hr))) (pv 0) pe_int (nomark _)) (pss_one (ps_expr (pe_call3 (X := (cxOf (CX3 P w) P w K mg base ["_law_way", "_law_book", "_law_k", "_law_hark"] "_law_bring" (defScope s_l_bring) t.f_l_bring cdv A outer s H E)) (W := (cxOf (CX3 P w) P w K mg base ["_law_way", "_law_book", "_law_k", "_law_hark"] "_law_bring" (defScope s_l_bring) t.f_l_bring cdv A outer s H E).xe) (XS := fun _ cls od H' => E cls od H') (G_shown_sign.to3 cx1_3) (hr.mono (by decide)) rfl T.mg_shown_sign T.F_shown_sign.kp T.b_shown_sign .nil (fun _ _ z => leave3 z) (pa_cons (pe_tup (pa_cons pe_str (pa_cons pe_int pa_nil))) pa_nil)))) pss_nil)) (pss_cons (ps_mid (ps_if (pt_cmpR (op_eq.or (op_eqD (hu_of64 hr))) (pv 0) pe_int (nomark _)) (pss_one (ps_expr (pe_call3 (X := (cxOf (CX3 P w) P w K mg base ["_law_way", "_law_book", "_law_k", "_law_hark"] "_law_bring" (defScope s_l_bring) t.f_l_bring cdv A outer s H E)) (W := (cxOf (CX3 P w) P w K mg base ["_law_way", "_law_book", "_law_k", "_law_hark"] "_law_bring" (defScope s_l_bring) t.f_l_bring cdv A outer s H E).xe) (XS := fun _ cls od H' => E cls od H') (G_read_sign.to3 cx2_3) (hr.mono (by decide)) rfl T.mg_read_sign T.F_read_sign.kp T.b_read_sign .nil (fun _ _ z => leave3 z) (pa_cons pe_str pa_nil)))) pss_nil)) (pss_cons (ps_mid (ps_if (pt_cmpR (op_eq.or (op_eqD (hu_of64 hr))) (pv 0) pe_int (nomark _)) (pss_one (ps_expr (pe_call3 (X := (cxOf (CX3 P w) P w K mg base ["_law_way", "_law_book", "_law_k", "_law_hark"] "_law_bring" (defScope s_l_bring) t.f_l_bring cdv A outer s H E)) (W := (cxOf (CX3 P w) P w K mg base ["_law_way", "_law_book", "_law_k", "_law_hark"] "_law_bring" (defScope s_l_bring) t.f_l_bring cdv A outer s H E).xe) (XS := fun _ cls od H' => E cls od H') (G_read_book.to3 cx2_3) (hr.mono (by decide)) rfl T.mg_read_book T.F_read_book.kp T.b_read_book .nil (fun _ _ z => leave3 z) (pa_cons pe_str pa_nil)))) pss_nil)) (pss_cons (ps_mid (ps_if (pt_cmpR (op_eq.or (op_eqD (hu_of64 hr))) (pv 0) pe_int (nomark _)) (pss_one (ps_for PassesOwn.leaving rfl (pi_range1 rfl T.nb_range (pa_cons pe_int pa_nil)) (pg_name (i := 2) sc_l_bring.nd rfl (Or.inl rfl)) (pss_one (ps_expr (pe_meth3 (X := (cxOf (CX3 P w) P w K mg base ["_law_way", "_law_book", "_law_k", "_law_hark"] "_law_bring" (defScope s_l_bring) t.f_l_bring cdv A outer s H E)) (W := (cxOf (CX3 P w) P w K mg base ["_law_way", "_law_book", "_law_k", "_law_hark"] "_law_bring" (defScope s_l_bring) t.f_l_bring cdv A outer s H E).xe) (XS := fun _ cls od H' => E cls od H') (pv 1) T.cl_Book T.me_Book_add_voice (G_Book_add_voice.to3 cx1_3) (hr.mono (by decide)) T.b_Book_add_voice .nil (fun _ _ z => leave3 z) (pa_cons (pe_op (op_add.or (op_add_str.or op_cat)) pe_str (pe_ix ix_seq pe_str (pv 2) (fun _ _ => rfl))) pa_nil)))))) pss_nil)) (pss_one (ps_if (pt_cmpR (op_eq.or (op_eqD (hu_of64 hr))) (pv 0) pe_int (nomark _)) (pss_cons (ps_set (i := 3) sc_l_bring.nd rfl (Or.inl rfl) (pe_make0 T.mk_Ear G_Ear___init__ (hr.mono (by decide)) rfl T.mg_Ear (dvs := [.int 3]) T.bd_Ear___init__ (.cons ⟨_, rfl⟩ (.nil)) pass0)) (pss_cons (ps_expr (pe_meth30 (X := (cxOf (CX3 P w) P w K mg base ["_law_way", "_law_book", "_law_k", "_law_hark"] "_law_bring" (defScope s_l_bring) t.f_l_bring cdv A outer s H E)) (W := (cxOf (CX3 P w) P w K mg base ["_law_way", "_law_book", "_law_k", "_law_hark"] "_law_bring" (defScope s_l_bring) t.f_l_bring cdv A outer s H E).xe) (XS := fun _ cls od H' => E cls od H') (pv 3) T.cl_Ear T.me_Ear_close (G_Ear_close.to3 cx1_3) (hr.mono (by decide)) T.b_Ear_close .nil (fun _ _ z => leave3 z))) (pss_one (ps_expr (pe_meth3 (X := (cxOf (CX3 P w) P w K mg base ["_law_way", "_law_book", "_law_k", "_law_hark"] "_law_bring" (defScope s_l_bring) t.f_l_bring cdv A outer s H E)) (W := (cxOf (CX3 P w) P w K mg base ["_law_way", "_law_book", "_law_k", "_law_hark"] "_law_bring" (defScope s_l_bring) t.f_l_bring cdv A outer s H E).xe) (XS := fun _ cls od H' => E cls od H') (pv 3) T.cl_Ear T.me_Ear_hear (G_Ear_hear.to3 cx1_3) (hr.mono (by decide)) T.b_Ear_hear .nil (fun _ _ z => leave3 z) (pa_cons (pe_tup (pa_cons pe_str (pa_cons pe_int pa_nil))) pa_nil)))))) pss_nil)))))))))))))) ?_
    obtain ⟨dx, L, D, U, hx⟩ := B.hx
    obtain ⟨F, b, f, z, o⟩ := B.ex
    refine ⟨fun σ' H' => σ' = [some (.int (k : Int)), some (.ref x), none, none] ∧ H = H' ∧ 0 < k, ?_, ?_⟩
    · (repeat array_get_dec)
      refine ite2 (fun h => ?_) (fun h => ⟨rfl, rfl, by have : k ≠ 0 := (fun e => h (by rw [e]; decide)); omega⟩)
      obtain rfl := eqI (n := 0) rfl h
      refine ⟨_, rfl, x, dx, _, rfl, hx, boF_no_add_voice _ _ _, x, F, _, ps, [], "Ann", rfl, b, by decide +kernel, by omega, ?_⟩
      rw [n50_0]
      exact fun H' _ => ⟨rfl, qe _ _ rfl (by decide)⟩
    rintro _ _ ⟨rfl, rfl, h0⟩
    refine ⟨fun σ' H' => σ' = [some (.int (k : Int)), some (.ref x), none, none] ∧ H = H' ∧ 1 < k, ?_, ?_⟩
    · (repeat array_get_dec)
      refine ite2 (fun h => ?_) (fun h => ⟨rfl, rfl, by have : k ≠ 1 := (fun e => h (by rw [e]; decide)); omega⟩)
      obtain rfl := eqI (n := 1) rfl h
      refine ⟨_, rfl, x, dx, _, rfl, hx, boF_no_add_voice _ _ _, x, F, _, ps, [], "ann", rfl, b, by decide +kernel, by omega, ?_⟩
      rw [n50_1]
      exact fun H' _ => ⟨rfl, qe _ _ rfl (by decide)⟩
    rintro _ _ ⟨rfl, rfl, h1⟩
    refine ⟨fun σ' H' => σ' = [some (.int (k : Int)), some (.ref x), none, none] ∧ H = H' ∧ 2 < k, ?_, ?_⟩
    · (repeat array_get_dec)
      refine ite2 (fun h => ?_) (fun h => ⟨rfl, rfl, by have : k ≠ 2 := (fun e => h (by rw [e]; decide)); omega⟩)
      obtain rfl := eqI (n := 2) rfl h
      exact ⟨_, rfl, x, dx, _, rfl, hx, boF_no_line _ _ _, x, F, _, ps, [], "cy", rfl, b, f50c (by decide +kernel) (by decide +kernel), rfl, qe _ _ rfl (by decide)⟩
    rintro _ _ ⟨rfl, rfl, h2⟩
    refine ⟨fun σ' H' => σ' = [some (.int (k : Int)), some (.ref x), none, none] ∧ H = H' ∧ 3 < k, ?_, ?_⟩
    · (repeat array_get_dec)
      refine ite2 (fun h => ?_) (fun h => ⟨rfl, rfl, by have : k ≠ 3 := (fun e => h (by rw [e]; decide)); omega⟩)
      obtain rfl := eqI (n := 3) rfl h
      refine ⟨_, rfl, x, dx, _, rfl, hx, boF_no_cut _ _ _, x, F, _, ps, [], "bo", rfl, b, ?_⟩
      rw [f50b]
      exact ⟨rfl, qe _ _ rfl (by decide)⟩
    rintro _ _ ⟨rfl, rfl, h3⟩
    refine ⟨fun σ' H' => σ' = [some (.int (k : Int)), some (.ref x), none, none] ∧ H = H' ∧ 4 < k, ?_, ?_⟩
    · (repeat array_get_dec)
      refine ite2 (fun h => ?_) (fun h => ⟨rfl, rfl, by have : k ≠ 4 := (fun e => h (by rw [e]; decide)); omega⟩)
      obtain rfl := eqI (n := 4) rfl h
      refine ⟨_, rfl, x, dx, _, rfl, hx, boF_no_cut _ _ _, x, F, _, ps, [], "ann", rfl, b, ?_⟩
      rw [f50a]
      exact ⟨rfl, rfl, qe _ _ rfl (by decide)⟩
    rintro _ _ ⟨rfl, rfl, h4⟩
    refine ⟨fun σ' H' => σ' = [some (.int (k : Int)), some (.ref x), none, none] ∧ H = H' ∧ 5 < k, ?_, ?_⟩
    · (repeat array_get_dec)
      refine ite2 (fun h => ?_) (fun h => ⟨rfl, rfl, by have : k ≠ 5 := (fun e => h (by rw [e]; decide)); omega⟩)
      obtain rfl := eqI (n := 5) rfl h
      refine ⟨_, rfl, x, dx, _, rfl, hx, boF_no_add_canon _ _ _, x, F, _, ps, [], "cy", "ann", 1000, 1, false, rfl, b, by decide +kernel, by omega, ?_⟩
      rw [n50_5, f50a]
      exact ⟨fun _ H' _ => ⟨rfl, qe _ _ rfl (by decide)⟩, fun z => absurd z (by decide)⟩
    rintro _ _ ⟨rfl, rfl, h5⟩
    refine ⟨fun σ' H' => σ' = [some (.int (k : Int)), some (.ref x), none, none] ∧ H = H' ∧ 6 < k, ?_, ?_⟩
    · (repeat array_get_dec)
      refine ite2 (fun h => ?_) (fun h => ⟨rfl, rfl, by have : k ≠ 6 := (fun e => h (by rw [e]; decide)); omega⟩)
      obtain rfl := eqI (n := 6) rfl h
      exact ⟨_, rfl, x, dx, _, rfl, hx, boF_no_drop _ _ _, x, F, _, ps, [], "ann", rfl, b, (by rw [f50a]; exact Option.some_ne_none _), l50, fun H' _ => ⟨rfl, qe _ _ rfl (by decide)⟩⟩
    rintro _ _ ⟨rfl, rfl, h6⟩
    refine ⟨fun σ' H' => σ' = [some (.int (k : Int)), some (.ref x), none, none] ∧ H = H' ∧ 7 < k, ?_, ?_⟩
    · (repeat array_get_dec)
      refine ite2 (fun h => ?_) (fun h => ⟨rfl, rfl, by have : k ≠ 7 := (fun e => h (by rw [e]; decide)); omega⟩)
      obtain rfl := eqI (n := 7) rfl h
      exact ⟨_, rfl, x, dx, _, rfl, hx, boF_no_redo _ _ _, x, F, _, ps, [], rfl, b, rfl, fun H' _ => ⟨rfl, qe _ _ rfl (by decide)⟩⟩
    rintro _ _ ⟨rfl, rfl, h7⟩
    refine ⟨fun σ' H' => σ' = [some (.int (k : Int)), some (.ref x), none, none] ∧ H = H' ∧ 8 < k, ?_, ?_⟩
    · (repeat array_get_dec)
      refine ite2 (fun h => ?_) (fun h => ⟨rfl, rfl, by have : k ≠ 8 := (fun e => h (by rw [e]; decide)); omega⟩)
      obtain rfl := eqI (n := 8) rfl h
      refine ⟨by show 2 ≤ sizeLine; decide, fun p hp => ?_⟩
      exact ⟨p, rfl, upd_same, qe _ _ rfl (by decide)⟩
    rintro _ _ ⟨rfl, rfl, h8⟩
    refine ⟨fun σ' H' => σ' = [some (.int (k : Int)), some (.ref x), none, none] ∧ H = H' ∧ 9 < k, ?_, ?_⟩
    · (repeat array_get_dec)
      refine ite2 (fun h => ?_) (fun h => ⟨rfl, rfl, by have : k ≠ 9 := (fun e => h (by rw [e]; decide)); omega⟩)
      obtain rfl := eqI (n := 9) rfl h
      exact ⟨rfl, fun D H' _ _ => qd _ _ _ rfl (by decide)⟩
    rintro _ _ ⟨rfl, rfl, h9⟩
    refine ⟨fun σ' H' => σ' = [some (.int (k : Int)), some (.ref x), none, none] ∧ H = H' ∧ 10 < k, ?_, ?_⟩
    · (repeat array_get_dec)
      refine ite2 (fun h => ?_) (fun h => ⟨rfl, rfl, by have : k ≠ 10 := (fun e => h (by rw [e]; decide)); omega⟩)
      obtain rfl := eqI (n := 10) rfl h
      exact ⟨rfl, fun D H' => qd _ _ _ rfl (by decide)⟩
    rintro _ _ ⟨rfl, rfl, h10⟩
    refine ⟨fun σ' H' => σ' = [some (.int (k : Int)), some (.ref x), none, none] ∧ H = H' ∧ 11 < k, ?_, ?_⟩
    · (repeat array_get_dec)
      refine ite2 (fun h => ?_) (fun h => ⟨rfl, rfl, by have : k ≠ 11 := (fun e => h (by rw [e]; decide)); omega⟩)
      obtain rfl := eqI (n := 11) rfl h
      refine ⟨11, rfl, by decide, by decide, ?_⟩
      refine for_range (n := 11) (fun i σ H' => ∃ (u : Option V) (qs : List Vw), i ≤ 10 ∧ σ = [some (.int ((11 : Nat) : Int)), some (.ref x), u, none] ∧ Bw (cs t) H0 H' x [] (vx50 lt sl i) qs [] ∧ qs.length ≤ 2 + i) ⟨none, ps, by decide, rfl, (by unfold vx50; rw [List.take_zero, List.map_nil, List.append_nil]; exact B), by omega⟩ ?_ ?_
      · rintro i σ H1 hi ⟨u, qs, hi10, rfl, B1, hq⟩
        obtain ⟨n, c, e1, e2, e3, e4, e5, e6⟩ := xn50_at (lt := lt) (sl := sl) hi
        obtain ⟨dx1, L1, D1, U1, hx1⟩ := B1.hx
        obtain ⟨F1, b1, f1, z1, o1⟩ := B1.ex
        refine ⟨_, rfl, x, dx1, _, rfl, hx1, boF_no_add_voice _ _ _, ?_⟩
        (repeat array_get_dec)
        refine .inr (.inr ⟨_, _, c, rfl, rfl, big (by decide +kernel), ?_, ?_⟩)
        · rw [show (0 : Int) + (i : Int) = (i : Int) by omega]
          exact atI_nat e2
        (repeat array_get_dec)
        refine .inr (.inl ⟨_, _, rfl, rfl, big e4, ?_⟩)
        rw [e3]
        refine ⟨x, F1, _, qs, [], n, rfl, b1, e5, by omega, ?_⟩
        rw [e6]
        by_cases h10 : 10 ≤ i
        · rw [if_pos h10]
          exact fun H' _ => ⟨rfl, qe _ _ rfl (by decide)⟩
        · rw [if_neg h10]
          intro F2 H2 gr fr b2
          obtain ⟨B2, _⟩ := Bw.mk' b2 B1.sm f1 z1 o1 gr fr
          rw [vx50_next e1] at B2
          exact ⟨_, _, by omega, rfl, B2, by rw [List.length_append]; show _ + 1 ≤ _; omega⟩
      · rintro σ H1 ⟨u, qs, hi10, _⟩
        omega
    rintro _ _ ⟨rfl, rfl, h11⟩
    (repeat array_get_dec)
    refine ite2 (fun h => ?_) (fun h => absurd (show k = 12 by omega) (fun e => h (by rw [e]; decide)))
    obtain rfl := eqI (n := 12) rfl h
    intro y dy ny ndy _
    refine ⟨y, dy, rfl, upd_same, fun D' H1 h1 => ⟨rfl, ?_⟩⟩
    refine ⟨_, rfl, y, dy, _, rfl, h1, eaG_no_close _ _, y, dy, D', rfl, h1, fun v D2 H2 h2 => ?_⟩
    refine ⟨_, rfl, y, dy, _, rfl, h2, eaG_no_hear _ _, ?_⟩
    refine ⟨by show 2 ≤ sizeLine; decide, fun p hp => ?_⟩
    exact ⟨y, dy, D2, p, rfl, Same.upd hp _ _ h2, qe _ _ rfl (by decide)⟩

end Mine

namespace Mine
open PySem L2
def res50 (k : Nat) : List V := (List.range 14).map fun j => V.bl (decide (j = k) || decide (j = 13))
theorem res50_eq {k : Nat} : res50 k = [V.bl (decide (0 = k)), V.bl (decide (1 = k)), V.bl (decide (2 = k)), V.bl (decide (3 = k)), V.bl (decide (4 = k)), V.bl (decide (5 = k)), V.bl (decide (6 = k)), V.bl (decide (7 = k)), V.bl (decide (8 = k)), V.bl (decide (9 = k)), V.bl (decide (10 = k)), V.bl (decide (11 = k)), V.bl (decide (12 = k)), V.bl true] := by
  simp [res50, List.range, List.range.loop]
theorem tryCut {K : PySem.W.Frag} {CT : Addr} {i : Nat} {tb : XS3 → TS} {ts : TS} {D : Ends} {σ : St} {H : Hp} (P : Value → Option Addr → Hp → Prop) (h : ∀ XS : XS3, (∀ cls od H', P cls od H' → XS σ cls od H') → tb XS D σ H)
    (hs : ∀ cls od H', P cls od H' → PySem.W.exmOne K cls (.ref CT) = some true ∧ ∀ a, H' a = none → ts (D.gone i) (σ.set i (some (.ref a))) (upd H' a (excV a cls od))) : tTryAs3 K CT i tb ts D σ H := h _ fun cls od H' p => hs cls od H' p
def OdOk (K : PySem.W.Frag) (C : Addr) : Option Addr → Prop
  | none => ExA K C
  | some _ => ∃ f, ExS K C f
theorem isQ {K : PySem.W.Frag} {H : Hp} {Q : VK} {a C C' : Addr} {od : Option Addr} {b : Bool} (hH : H a = some (excV a (.ref C) od)) (ho : OdOk K C od) (e : PySem.W.kitOne K (.ref C) (.ref C') = some b) (q : Q (.bl b) H) : rIsX K [.ref a, .ref C'] H Q ∨ rIsI K [.ref a, .ref C'] H Q := by
  cases od with
  | none => exact .inl (.inr (.inr (.inl ⟨a, C, C', b, rfl, hH, ho, e, q⟩)))
  | some D =>
    obtain ⟨f, hf⟩ := ho
    exact .inr (.inr (.inr (.inl ⟨a, C, D, f, C', b, rfl, hH, hf, e, q⟩)))
theorem isQt {K : PySem.W.Frag} {H : Hp} {Q : VK} {a C : Addr} {T : String} {od : Option Addr} {b : Bool} (hH : H a = some (excV a (.ref C) od)) (ho : OdOk K C od) (e : PySem.W.kitOne K (.ref C) (.type T) = some b) (q : Q (.bl b) H) : rIsX K [.ref a, .ty T] H Q ∨ rIsI K [.ref a, .ty T] H Q := by
  cases od with
  | none => exact .inl (.inr (.inl ⟨a, C, T, b, rfl, hH, ho, e, q⟩))
  | some D =>
    obtain ⟨f, hf⟩ := ho
    exact .inr (.inr (.inl ⟨a, C, D, f, T, b, rfl, hH, hf, e, q⟩))
theorem kin50_BadName {K : PySem.W.Frag} {w : World} {mg : Str → Option Value} {t : Adr} (T : Txt K w mg t) : ∀ (j : Nat) (C : Addr), (brC t)[j]? = some C → PySem.W.kitOne K (.ref t.C_BadName) (.ref C) = some (decide (j = 0))
  | 0, _, h => Option.some.inj h ▸ T.ki_BadName_BadName
  | 1, _, h => Option.some.inj h ▸ T.ki_BadName_NameTaken
  | 2, _, h => Option.some.inj h ▸ T.ki_BadName_NoVoice
  | 3, _, h => Option.some.inj h ▸ T.ki_BadName_NotPlain
  | 4, _, h => Option.some.inj h ▸ T.ki_BadName_NoPlace
  | 5, _, h => Option.some.inj h ▸ T.ki_BadName_BadTerm
  | 6, _, h => Option.some.inj h ▸ T.ki_BadName_Leaned
  | 7, _, h => Option.some.inj h ▸ T.ki_BadName_NoMore
  | 8, _, h => Option.some.inj h ▸ T.ki_BadName_BadSign
  | 9, _, h => Option.some.inj h ▸ T.ki_BadName_BadWord
  | 10, _, h => Option.some.inj h ▸ T.ki_BadName_BadRow
  | 11, _, h => Option.some.inj h ▸ T.ki_BadName_Full
  | 12, _, h => Option.some.inj h ▸ T.ki_BadName_Closed
  | _ + 13, _, h => nomatch h
theorem kin50_NameTaken {K : PySem.W.Frag} {w : World} {mg : Str → Option Value} {t : Adr} (T : Txt K w mg t) : ∀ (j : Nat) (C : Addr), (brC t)[j]? = some C → PySem.W.kitOne K (.ref t.C_NameTaken) (.ref C) = some (decide (j = 1))
  | 0, _, h => Option.some.inj h ▸ T.ki_NameTaken_BadName
  | 1, _, h => Option.some.inj h ▸ T.ki_NameTaken_NameTaken
  | 2, _, h => Option.some.inj h ▸ T.ki_NameTaken_NoVoice
  | 3, _, h => Option.some.inj h ▸ T.ki_NameTaken_NotPlain
  | 4, _, h => Option.some.inj h ▸ T.ki_NameTaken_NoPlace
  | 5, _, h => Option.some.inj h ▸ T.ki_NameTaken_BadTerm
  | 6, _, h => Option.some.inj h ▸ T.ki_NameTaken_Leaned
  | 7, _, h => Option.some.inj h ▸ T.ki_NameTaken_NoMore
  | 8, _, h => Option.some.inj h ▸ T.ki_NameTaken_BadSign
  | 9, _, h => Option.some.inj h ▸ T.ki_NameTaken_BadWord
  | 10, _, h => Option.some.inj h ▸ T.ki_NameTaken_BadRow
  | 11, _, h => Option.some.inj h ▸ T.ki_NameTaken_Full
  | 12, _, h => Option.some.inj h ▸ T.ki_NameTaken_Closed
  | _ + 13, _, h => nomatch h
theorem kin50_NoVoice {K : PySem.W.Frag} {w : World} {mg : Str → Option Value} {t : Adr} (T : Txt K w mg t) : ∀ (j : Nat) (C : Addr), (brC t)[j]? = some C → PySem.W.kitOne K (.ref t.C_NoVoice) (.ref C) = some (decide (j = 2))
  | 0, _, h => Option.some.inj h ▸ T.ki_NoVoice_BadName
  | 1, _, h => Option.some.inj h ▸ T.ki_NoVoice_NameTaken
  | 2, _, h => Option.some.inj h ▸ T.ki_NoVoice_NoVoice
  | 3, _, h => Option.some.inj h ▸ T.ki_NoVoice_NotPlain
  | 4, _, h => Option.some.inj h ▸ T.ki_NoVoice_NoPlace
  | 5, _, h => Option.some.inj h ▸ T.ki_NoVoice_BadTerm
  | 6, _, h => Option.some.inj h ▸ T.ki_NoVoice_Leaned
  | 7, _, h => Option.some.inj h ▸ T.ki_NoVoice_NoMore
  | 8, _, h => Option.some.inj h ▸ T.ki_NoVoice_BadSign
  | 9, _, h => Option.some.inj h ▸ T.ki_NoVoice_BadWord
  | 10, _, h => Option.some.inj h ▸ T.ki_NoVoice_BadRow
  | 11, _, h => Option.some.inj h ▸ T.ki_NoVoice_Full
  | 12, _, h => Option.some.inj h ▸ T.ki_NoVoice_Closed
  | _ + 13, _, h => nomatch h
theorem kin50_NotPlain {K : PySem.W.Frag} {w : World} {mg : Str → Option Value} {t : Adr} (T : Txt K w mg t) : ∀ (j : Nat) (C : Addr), (brC t)[j]? = some C → PySem.W.kitOne K (.ref t.C_NotPlain) (.ref C) = some (decide (j = 3))
  | 0, _, h => Option.some.inj h ▸ T.ki_NotPlain_BadName
  | 1, _, h => Option.some.inj h ▸ T.ki_NotPlain_NameTaken
  | 2, _, h => Option.some.inj h ▸ T.ki_NotPlain_NoVoice
  | 3, _, h => Option.some.inj h ▸ T.ki_NotPlain_NotPlain
  | 4, _, h => Option.some.inj h ▸ T.ki_NotPlain_NoPlace
  | 5, _, h => Option.some.inj h ▸ T.ki_NotPlain_BadTerm
  | 6, _, h => Option.some.inj h ▸ T.ki_NotPlain_Leaned
  | 7, _, h => Option.some.inj h ▸ T.ki_NotPlain_NoMore
  | 8, _, h => Option.some.inj h ▸ T.ki_NotPlain_BadSign
  | 9, _, h => Option.some.inj h ▸ T.ki_NotPlain_BadWord
  | 10, _, h => Option.some.inj h ▸ T.ki_NotPlain_BadRow
  | 11, _, h => Option.some.inj h ▸ T.ki_NotPlain_Full
  | 12, _, h => Option.some.inj h ▸ T.ki_NotPlain_Closed
  | _ + 13, _, h => nomatch h
theorem kin50_NoPlace {K : PySem.W.Frag} {w : World} {mg : Str → Option Value} {t : Adr} (T : Txt K w mg t) : ∀ (j : Nat) (C : Addr), (brC t)[j]? = some C → PySem.W.kitOne K (.ref t.C_NoPlace) (.ref C) = some (decide (j = 4))
  | 0, _, h => Option.some.inj h ▸ T.ki_NoPlace_BadName
  | 1, _, h => Option.some.inj h ▸ T.ki_NoPlace_NameTaken
  | 2, _, h => Option.some.inj h ▸ T.ki_NoPlace_NoVoice
  | 3, _, h => Option.some.inj h ▸ T.ki_NoPlace_NotPlain
  | 4, _, h => Option.some.inj h ▸ T.ki_NoPlace_NoPlace
  | 5, _, h => Option.some.inj h ▸ T.ki_NoPlace_BadTerm
  | 6, _, h => Option.some.inj h ▸ T.ki_NoPlace_Leaned
  | 7, _, h => Option.some.inj h ▸ T.ki_NoPlace_NoMore
  | 8, _, h => Option.some.inj h ▸ T.ki_NoPlace_BadSign
  | 9, _, h => Option.some.inj h ▸ T.ki_NoPlace_BadWord
  | 10, _, h => Option.some.inj h ▸ T.ki_NoPlace_BadRow
  | 11, _, h => Option.some.inj h ▸ T.ki_NoPlace_Full
  | 12, _, h => Option.some.inj h ▸ T.ki_NoPlace_Closed
  | _ + 13, _, h => nomatch h
theorem kin50_BadTerm {K : PySem.W.Frag} {w : World} {mg : Str → Option Value} {t : Adr} (T : Txt K w mg t) : ∀ (j : Nat) (C : Addr), (brC t)[j]? = some C → PySem.W.kitOne K (.ref t.C_BadTerm) (.ref C) = some (decide (j = 5))
  | 0, _, h => Option.some.inj h ▸ T.ki_BadTerm_BadName
  | 1, _, h => Option.some.inj h ▸ T.ki_BadTerm_NameTaken
  | 2, _, h => Option.some.inj h ▸ T.ki_BadTerm_NoVoice
  | 3, _, h => Option.some.inj h ▸ T.ki_BadTerm_NotPlain
  | 4, _, h => Option.some.inj h ▸ T.ki_BadTerm_NoPlace
  | 5, _, h => Option.some.inj h ▸ T.ki_BadTerm_BadTerm
  | 6, _, h => Option.some.inj h ▸ T.ki_BadTerm_Leaned
  | 7, _, h => Option.some.inj h ▸ T.ki_BadTerm_NoMore
  | 8, _, h => Option.some.inj h ▸ T.ki_BadTerm_BadSign
  | 9, _, h => Option.some.inj h ▸ T.ki_BadTerm_BadWord
  | 10, _, h => Option.some.inj h ▸ T.ki_BadTerm_BadRow
  | 11, _, h => Option.some.inj h ▸ T.ki_BadTerm_Full
  | 12, _, h => Option.some.inj h ▸ T.ki_BadTerm_Closed
  | _ + 13, _, h => nomatch h
theorem kin50_Leaned {K : PySem.W.Frag} {w : World} {mg : Str → Option Value} {t : Adr} (T : Txt K w mg t) : ∀ (j : Nat) (C : Addr), (brC t)[j]? = some C → PySem.W.kitOne K (.ref t.C_Leaned) (.ref C) = some (decide (j = 6))
  | 0, _, h => Option.some.inj h ▸ T.ki_Leaned_BadName
  | 1, _, h => Option.some.inj h ▸ T.ki_Leaned_NameTaken
  | 2, _, h => Option.some.inj h ▸ T.ki_Leaned_NoVoice
  | 3, _, h => Option.some.inj h ▸ T.ki_Leaned_NotPlain
  | 4, _, h => Option.some.inj h ▸ T.ki_Leaned_NoPlace
  | 5, _, h => Option.some.inj h ▸ T.ki_Leaned_BadTerm
  | 6, _, h => Option.some.inj h ▸ T.ki_Leaned_Leaned
  | 7, _, h => Option.some.inj h ▸ T.ki_Leaned_NoMore
  | 8, _, h => Option.some.inj h ▸ T.ki_Leaned_BadSign
  | 9, _, h => Option.some.inj h ▸ T.ki_Leaned_BadWord
  | 10, _, h => Option.some.inj h ▸ T.ki_Leaned_BadRow
  | 11, _, h => Option.some.inj h ▸ T.ki_Leaned_Full
  | 12, _, h => Option.some.inj h ▸ T.ki_Leaned_Closed
  | _ + 13, _, h => nomatch h
theorem kin50_NoMore {K : PySem.W.Frag} {w : World} {mg : Str → Option Value} {t : Adr} (T : Txt K w mg t) : ∀ (j : Nat) (C : Addr), (brC t)[j]? = some C → PySem.W.kitOne K (.ref t.C_NoMore) (.ref C) = some (decide (j = 7))
  | 0, _, h => Option.some.inj h ▸ T.ki_NoMore_BadName
  | 1, _, h => Option.some.inj h ▸ T.ki_NoMore_NameTaken
  | 2, _, h => Option.some.inj h ▸ T.ki_NoMore_NoVoice
  | 3, _, h => Option.some.inj h ▸ T.ki_NoMore_NotPlain
  | 4, _, h => Option.some.inj h ▸ T.ki_NoMore_NoPlace
  | 5, _, h => Option.some.inj h ▸ T.ki_NoMore_BadTerm
  | 6, _, h => Option.some.inj h ▸ T.ki_NoMore_Leaned
  | 7, _, h => Option.some.inj h ▸ T.ki_NoMore_NoMore
  | 8, _, h => Option.some.inj h ▸ T.ki_NoMore_BadSign
  | 9, _, h => Option.some.inj h ▸ T.ki_NoMore_BadWord
  | 10, _, h => Option.some.inj h ▸ T.ki_NoMore_BadRow
  | 11, _, h => Option.some.inj h ▸ T.ki_NoMore_Full
  | 12, _, h => Option.some.inj h ▸ T.ki_NoMore_Closed
  | _ + 13, _, h => nomatch h
theorem kin50_BadSign {K : PySem.W.Frag} {w : World} {mg : Str → Option Value} {t : Adr} (T : Txt K w mg t) : ∀ (j : Nat) (C : Addr), (brC t)[j]? = some C → PySem.W.kitOne K (.ref t.C_BadSign) (.ref C) = some (decide (j = 8))
  | 0, _, h => Option.some.inj h ▸ T.ki_BadSign_BadName
  | 1, _, h => Option.some.inj h ▸ T.ki_BadSign_NameTaken
  | 2, _, h => Option.some.inj h ▸ T.ki_BadSign_NoVoice
  | 3, _, h => Option.some.inj h ▸ T.ki_BadSign_NotPlain
  | 4, _, h => Option.some.inj h ▸ T.ki_BadSign_NoPlace
  | 5, _, h => Option.some.inj h ▸ T.ki_BadSign_BadTerm
  | 6, _, h => Option.some.inj h ▸ T.ki_BadSign_Leaned
  | 7, _, h => Option.some.inj h ▸ T.ki_BadSign_NoMore
  | 8, _, h => Option.some.inj h ▸ T.ki_BadSign_BadSign
  | 9, _, h => Option.some.inj h ▸ T.ki_BadSign_BadWord
  | 10, _, h => Option.some.inj h ▸ T.ki_BadSign_BadRow
  | 11, _, h => Option.some.inj h ▸ T.ki_BadSign_Full
  | 12, _, h => Option.some.inj h ▸ T.ki_BadSign_Closed
  | _ + 13, _, h => nomatch h
theorem kin50_BadWord {K : PySem.W.Frag} {w : World} {mg : Str → Option Value} {t : Adr} (T : Txt K w mg t) : ∀ (j : Nat) (C : Addr), (brC t)[j]? = some C → PySem.W.kitOne K (.ref t.C_BadWord) (.ref C) = some (decide (j = 9))
  | 0, _, h => Option.some.inj h ▸ T.ki_BadWord_BadName
  | 1, _, h => Option.some.inj h ▸ T.ki_BadWord_NameTaken
  | 2, _, h => Option.some.inj h ▸ T.ki_BadWord_NoVoice
  | 3, _, h => Option.some.inj h ▸ T.ki_BadWord_NotPlain
  | 4, _, h => Option.some.inj h ▸ T.ki_BadWord_NoPlace
  | 5, _, h => Option.some.inj h ▸ T.ki_BadWord_BadTerm
  | 6, _, h => Option.some.inj h ▸ T.ki_BadWord_Leaned
  | 7, _, h => Option.some.inj h ▸ T.ki_BadWord_NoMore
  | 8, _, h => Option.some.inj h ▸ T.ki_BadWord_BadSign
  | 9, _, h => Option.some.inj h ▸ T.ki_BadWord_BadWord
  | 10, _, h => Option.some.inj h ▸ T.ki_BadWord_BadRow
  | 11, _, h => Option.some.inj h ▸ T.ki_BadWord_Full
  | 12, _, h => Option.some.inj h ▸ T.ki_BadWord_Closed
  | _ + 13, _, h => nomatch h
theorem kin50_BadRow {K : PySem.W.Frag} {w : World} {mg : Str → Option Value} {t : Adr} (T : Txt K w mg t) : ∀ (j : Nat) (C : Addr), (brC t)[j]? = some C → PySem.W.kitOne K (.ref t.C_BadRow) (.ref C) = some (decide (j = 10))
  | 0, _, h => Option.some.inj h ▸ T.ki_BadRow_BadName
  | 1, _, h => Option.some.inj h ▸ T.ki_BadRow_NameTaken
  | 2, _, h => Option.some.inj h ▸ T.ki_BadRow_NoVoice
  | 3, _, h => Option.some.inj h ▸ T.ki_BadRow_NotPlain
  | 4, _, h => Option.some.inj h ▸ T.ki_BadRow_NoPlace
  | 5, _, h => Option.some.inj h ▸ T.ki_BadRow_BadTerm
  | 6, _, h => Option.some.inj h ▸ T.ki_BadRow_Leaned
  | 7, _, h => Option.some.inj h ▸ T.ki_BadRow_NoMore
  | 8, _, h => Option.some.inj h ▸ T.ki_BadRow_BadSign
  | 9, _, h => Option.some.inj h ▸ T.ki_BadRow_BadWord
  | 10, _, h => Option.some.inj h ▸ T.ki_BadRow_BadRow
  | 11, _, h => Option.some.inj h ▸ T.ki_BadRow_Full
  | 12, _, h => Option.some.inj h ▸ T.ki_BadRow_Closed
  | _ + 13, _, h => nomatch h
theorem kin50_Full {K : PySem.W.Frag} {w : World} {mg : Str → Option Value} {t : Adr} (T : Txt K w mg t) : ∀ (j : Nat) (C : Addr), (brC t)[j]? = some C → PySem.W.kitOne K (.ref t.C_Full) (.ref C) = some (decide (j = 11))
  | 0, _, h => Option.some.inj h ▸ T.ki_Full_BadName
  | 1, _, h => Option.some.inj h ▸ T.ki_Full_NameTaken
  | 2, _, h => Option.some.inj h ▸ T.ki_Full_NoVoice
  | 3, _, h => Option.some.inj h ▸ T.ki_Full_NotPlain
  | 4, _, h => Option.some.inj h ▸ T.ki_Full_NoPlace
  | 5, _, h => Option.some.inj h ▸ T.ki_Full_BadTerm
  | 6, _, h => Option.some.inj h ▸ T.ki_Full_Leaned
  | 7, _, h => Option.some.inj h ▸ T.ki_Full_NoMore
  | 8, _, h => Option.some.inj h ▸ T.ki_Full_BadSign
  | 9, _, h => Option.some.inj h ▸ T.ki_Full_BadWord
  | 10, _, h => Option.some.inj h ▸ T.ki_Full_BadRow
  | 11, _, h => Option.some.inj h ▸ T.ki_Full_Full
  | 12, _, h => Option.some.inj h ▸ T.ki_Full_Closed
  | _ + 13, _, h => nomatch h
theorem kin50_Closed {K : PySem.W.Frag} {w : World} {mg : Str → Option Value} {t : Adr} (T : Txt K w mg t) : ∀ (j : Nat) (C : Addr), (brC t)[j]? = some C → PySem.W.kitOne K (.ref t.C_Closed) (.ref C) = some (decide (j = 12))
  | 0, _, h => Option.some.inj h ▸ T.ki_Closed_BadName
  | 1, _, h => Option.some.inj h ▸ T.ki_Closed_NameTaken
  | 2, _, h => Option.some.inj h ▸ T.ki_Closed_NoVoice
  | 3, _, h => Option.some.inj h ▸ T.ki_Closed_NotPlain
  | 4, _, h => Option.some.inj h ▸ T.ki_Closed_NoPlace
  | 5, _, h => Option.some.inj h ▸ T.ki_Closed_BadTerm
  | 6, _, h => Option.some.inj h ▸ T.ki_Closed_Leaned
  | 7, _, h => Option.some.inj h ▸ T.ki_Closed_NoMore
  | 8, _, h => Option.some.inj h ▸ T.ki_Closed_BadSign
  | 9, _, h => Option.some.inj h ▸ T.ki_Closed_BadWord
  | 10, _, h => Option.some.inj h ▸ T.ki_Closed_BadRow
  | 11, _, h => Option.some.inj h ▸ T.ki_Closed_Full
  | 12, _, h => Option.some.inj h ▸ T.ki_Closed_Closed
  | _ + 13, _, h => nomatch h
structure Kin50 (K : PySem.W.Frag) (t : Adr) (k : Nat) (C : Addr) : Prop where
  xm : PySem.W.exmOne K (.ref C) (.ref t.C_NoteError) = some true
  ki : ∀ (j : Nat) (C' : Addr), (brC t)[j]? = some C' → PySem.W.kitOne K (.ref C) (.ref C') = some (decide (j = k))
  kb : PySem.W.kitOne K (.ref C) (.type "ValueError") = some true
  ok : ∀ od : Option Addr, (od.isSome = true ↔ (k = 9 ∨ k = 10)) → OdOk K C od
theorem kin50 {K : PySem.W.Frag} {w : World} {mg : Str → Option Value} {t : Adr} (T : Txt K w mg t) : ∀ (k : Nat) (C : Addr), (brC t)[k]? = some C → Kin50 K t k C
  | 0, _, h => Option.some.inj h ▸ ⟨T.xm_BadName_NoteError, kin50_BadName T, T.kb_BadName_ValueError, fun od h => by cases od with | none => exact T.xa_BadName | some D => exact absurd (h.mp rfl) (by decide)⟩
  | 1, _, h => Option.some.inj h ▸ ⟨T.xm_NameTaken_NoteError, kin50_NameTaken T, T.kb_NameTaken_ValueError, fun od h => by cases od with | none => exact T.xa_NameTaken | some D => exact absurd (h.mp rfl) (by decide)⟩
  | 2, _, h => Option.some.inj h ▸ ⟨T.xm_NoVoice_NoteError, kin50_NoVoice T, T.kb_NoVoice_ValueError, fun od h => by cases od with | none => exact T.xa_NoVoice | some D => exact absurd (h.mp rfl) (by decide)⟩
  | 3, _, h => Option.some.inj h ▸ ⟨T.xm_NotPlain_NoteError, kin50_NotPlain T, T.kb_NotPlain_ValueError, fun od h => by cases od with | none => exact T.xa_NotPlain | some D => exact absurd (h.mp rfl) (by decide)⟩
  | 4, _, h => Option.some.inj h ▸ ⟨T.xm_NoPlace_NoteError, kin50_NoPlace T, T.kb_NoPlace_ValueError, fun od h => by cases od with | none => exact T.xa_NoPlace | some D => exact absurd (h.mp rfl) (by decide)⟩
  | 5, _, h => Option.some.inj h ▸ ⟨T.xm_BadTerm_NoteError, kin50_BadTerm T, T.kb_BadTerm_ValueError, fun od h => by cases od with | none => exact T.xa_BadTerm | some D => exact absurd (h.mp rfl) (by decide)⟩
  | 6, _, h => Option.some.inj h ▸ ⟨T.xm_Leaned_NoteError, kin50_Leaned T, T.kb_Leaned_ValueError, fun od h => by cases od with | none => exact T.xa_Leaned | some D => exact absurd (h.mp rfl) (by decide)⟩
  | 7, _, h => Option.some.inj h ▸ ⟨T.xm_NoMore_NoteError, kin50_NoMore T, T.kb_NoMore_ValueError, fun od h => by cases od with | none => exact T.xa_NoMore | some D => exact absurd (h.mp rfl) (by decide)⟩
  | 8, _, h => Option.some.inj h ▸ ⟨T.xm_BadSign_NoteError, kin50_BadSign T, T.kb_BadSign_ValueError, fun od h => by cases od with | none => exact T.xa_BadSign | some D => exact absurd (h.mp rfl) (by decide)⟩
  | 9, _, h => Option.some.inj h ▸ ⟨T.xm_BadWord_NoteError, kin50_BadWord T, T.kb_BadWord_ValueError, fun od h => by cases od with | none => exact absurd (h.mpr (by decide)) (by decide) | some D => exact ⟨_, T.xs_BadWord⟩⟩
  | 10, _, h => Option.some.inj h ▸ ⟨T.xm_BadRow_NoteError, kin50_BadRow T, T.kb_BadRow_ValueError, fun od h => by cases od with | none => exact absurd (h.mpr (by decide)) (by decide) | some D => exact ⟨_, T.xs_BadRow⟩⟩
  | 11, _, h => Option.some.inj h ▸ ⟨T.xm_Full_NoteError, kin50_Full T, T.kb_Full_ValueError, fun od h => by cases od with | none => exact T.xa_Full | some D => exact absurd (h.mp rfl) (by decide)⟩
  | 12, _, h => Option.some.inj h ▸ ⟨T.xm_Closed_NoteError, kin50_Closed T, T.kb_Closed_ValueError, fun od h => by cases od with | none => exact T.xa_Closed | some D => exact absurd (h.mp rfl) (by decide)⟩
  | _ + 13, _, h => nomatch h
inductive sp_l_kin (t : Adr) (vs : List V) (H : Hp) (Q : VK) (E : XK) : Prop
  | mk (k : Nat) (x : Addr) (H0 : Hp) (lt sl : Int) (ps : List Vw) (h0_ : vs = [.int (k : Int), .ref x]) (h1_ : k < 13) (h2_ : Bw (cs t) H0 H x [] (w50 lt sl) ps []) (h3_ : ps.length ≤ 2) (h4_ : ∀ (l : Addr) (H' : Hp), H' l = some (.lst (res50 k)) → Q (.ref l) H') : sp_l_kin t vs H Q E
set_option maxHeartbeats 4000000 in
theorem ok_l_kin {P : Program} {w : World} {K : PySem.W.Frag} {mg : Str → Option Value} {base : Heap} {t : Adr} (T : Txt K w mg t) : FnOk P w K mg base CX0 (0 + 6) t.f_l_kin t.d_l_kin ["_law_way", "_law_book"] (sp_l_kin t) := by
  have G_l_bring := ok_l_bring (P := P) (w := w) (base := base) T
  refine T.F_l_kin.ok sc_l_kin (fun vs H Q E h => ?_) (fun cdv A outer s H vs Q E hr h => ?_)
  · obtain ⟨_, _, _, _, _, _, rfl, _⟩ := h
    rfl
  · obtain ⟨k, x, H0, lt, sl, ps, rfl, hk, B, hps, q⟩ := h
    refine bodyOk (pss_cons (ps_tryAs3 (CT := t.C_NoteError) (i := 2) (fun pn XS => (pss_one (ps_expr (pe_call3 (X := Cx.pnd (cxOf CX0 P w K mg base ["_law_way", "_law_book", "e", "_law_met"] "_law_kin" (defScope s_l_kin) t.f_l_kin cdv A outer s H E).nox pn) (XS := XS) G_l_bring (hr.mono (by decide)) rfl T.mg_l_bring T.F_l_bring.kp T.b_l_bring .nil (fun _ _ z => z) (pa_cons (pv 0) (pa_cons (pv 1) pa_nil)))))) (fun pn a => (pss_cons (ps_set (i := 3) sc_l_kin.nd rfl (Or.inl rfl) (pe_lst (pa_cons (pe_callB ((call_isX (K := K) rfl).or (call_isI (K := K) rfl)) rfl T.nb_isinstance bt_isinstance (pa_cons (pv 2) (pa_cons (pe_glob (v := .ref t.C_BadName) rfl T.mg_BadName rfl) pa_nil))) (pa_cons (pe_callB ((call_isX (K := K) rfl).or (call_isI (K := K) rfl)) rfl T.nb_isinstance bt_isinstance (pa_cons (pv 2) (pa_cons (pe_glob (v := .ref t.C_NameTaken) rfl T.mg_NameTaken rfl) pa_nil))) (pa_cons (pe_callB ((call_isX (K := K) rfl).or (call_isI (K := K) rfl)) rfl T.nb_isinstance bt_isinstance (pa_cons (pv 2) (pa_cons (pe_glob (v := .ref t.C_NoVoice) rfl T.mg_NoVoice rfl) pa_nil))) (pa_cons (pe_callB ((call_isX (K := K) rfl).or (call_isI (K := K) rfl)) rfl T.nb_isinstance bt_isinstance (pa_cons (pv 2) (pa_cons (pe_glob (v := .ref t.C_NotPlain) rfl T.mg_NotPlain rfl) pa_nil))) pa_nil)))))) (pss_cons (ps_set (i := 3) sc_l_kin.nd rfl (Or.inl rfl) (pe_op (op_add.or (op_add_str.or op_cat)) (pv 3) (pe_lst (pa_cons (pe_callB ((call_isX (K := K) rfl).or (call_isI (K := K) rfl)) rfl T.nb_isinstance bt_isinstance (pa_cons (pv 2) (pa_cons (pe_glob (v := .ref t.C_NoPlace) rfl T.mg_NoPlace rfl) pa_nil))) (pa_cons (pe_callB ((call_isX (K := K) rfl).or (call_isI (K := K) rfl)) rfl T.nb_isinstance bt_isinstance (pa_cons (pv 2) (pa_cons (pe_glob (v := .ref t.C_BadTerm) rfl T.mg_BadTerm rfl) pa_nil))) (pa_cons (pe_callB ((call_isX (K := K) rfl).or (call_isI (K := K) rfl)) rfl T.nb_isinstance bt_isinstance (pa_cons (pv 2) (pa_cons (pe_glob (v := .ref t.C_Leaned) rfl T.mg_Leaned rfl) pa_nil))) (pa_cons (pe_callB ((call_isX (K := K) rfl).or (call_isI (K := K) rfl)) rfl T.nb_isinstance bt_isinstance (pa_cons (pv 2) (pa_cons (pe_glob (v := .ref t.C_NoMore) rfl T.mg_NoMore rfl) pa_nil))) pa_nil))))))) (pss_cons (ps_set (i := 3) sc_l_kin.nd rfl (Or.inl rfl) (pe_op (op_add.or (op_add_str.or op_cat)) (pv 3) (pe_lst (pa_cons (pe_callB ((call_isX (K := K) rfl).or (call_isI (K := K) rfl)) rfl T.nb_isinstance bt_isinstance (pa_cons (pv 2) (pa_cons (pe_glob (v := .ref t.C_BadSign) rfl T.mg_BadSign rfl) pa_nil))) (pa_cons (pe_callB ((call_isX (K := K) rfl).or (call_isI (K := K) rfl)) rfl T.nb_isinstance bt_isinstance (pa_cons (pv 2) (pa_cons (pe_glob (v := .ref t.C_BadWord) rfl T.mg_BadWord rfl) pa_nil))) (pa_cons (pe_callB ((call_isX (K := K) rfl).or (call_isI (K := K) rfl)) rfl T.nb_isinstance bt_isinstance (pa_cons (pv 2) (pa_cons (pe_glob (v := .ref t.C_BadRow) rfl T.mg_BadRow rfl) pa_nil))) (pa_cons (pe_callB ((call_isX (K := K) rfl).or (call_isI (K := K) rfl)) rfl T.nb_isinstance bt_isinstance (pa_cons (pv 2) (pa_cons (pe_glob (v := .ref t.C_Full) rfl T.mg_Full rfl) pa_nil))) pa_nil))))))) (pss_one (ps_ret (pe_op (op_add.or (op_add_str.or op_cat)) (pv 3) (pe_lst (pa_cons (pe_callB ((call_isX (K := K) rfl).or (call_isI (K := K) rfl)) rfl T.nb_isinstance bt_isinstance (pa_cons (pv 2) (pa_cons (pe_glob (v := .ref t.C_Closed) rfl T.mg_Closed rfl) pa_nil))) (pa_cons (pe_callB ((call_isX (K := K) rfl).or (call_isI (K := K) rfl)) rfl T.nb_isinstance bt_isinstance (pa_cons (pv 2) (pa_cons (pe_bltn (v := .ty "ValueError") rfl T.nb_ValueError bt_ValueError rfl) pa_nil))) pa_nil)))))))))) sc_l_kin.nd rfl rfl rfl rfl rfl T.mg_NoteError) (pss_one (ps_ret (pe_lst pa_nil)))) ?_
    refine tryCut (fun cls od _ => ∃ C, cls = .ref C ∧ (brC t)[k]? = some C ∧ (od.isSome = true ↔ (k = 9 ∨ k = 10))) (fun XS hX => ?_) (fun cls od H1 hP => ?_)
    · refine ⟨_, rfl, _, rfl, k, x, H0, lt, sl, ps, rfl, hk, B, hps, fun C H' h1 h2 => hX _ _ _ ⟨C, rfl, h1, fun z => (nomatch z), fun z => absurd z h2⟩, fun C D H' h1 h2 => hX _ _ _ ⟨C, rfl, h1, fun _ => h2, fun _ => rfl⟩⟩
    obtain ⟨C, rfl, hC, hod⟩ := hP
    have kn := kin50 T k C hC
    have ho := kn.ok od hod
    refine ⟨kn.xm, fun a ha => ?_⟩
    have hH := upd_same (H := H1) (a := a) (o := excV a (.ref C) od)
    generalize upd H1 a (excV a (.ref C) od) = H2 at hH
    refine ⟨_, rfl, isQ hH ho (kn.ki 0 _ rfl) ?_⟩
    refine ⟨_, rfl, isQ hH ho (kn.ki 1 _ rfl) ?_⟩
    refine ⟨_, rfl, isQ hH ho (kn.ki 2 _ rfl) ?_⟩
    refine ⟨_, rfl, isQ hH ho (kn.ki 3 _ rfl) ?_⟩
    refine ⟨by show 4 ≤ sizeLine; decide, fun l1 hl1 => ?_⟩
    have k1 := upd_same (H := H2) (a := l1) (o := .lst [V.bl (decide (0 = k)), V.bl (decide (1 = k)), V.bl (decide (2 = k)), V.bl (decide (3 = k))])
    have hH3 := Same.upd (o := .lst [V.bl (decide (0 = k)), V.bl (decide (1 = k)), V.bl (decide (2 = k)), V.bl (decide (3 = k))]) hl1 _ _ hH
    generalize upd H2 l1 (.lst [V.bl (decide (0 = k)), V.bl (decide (1 = k)), V.bl (decide (2 = k)), V.bl (decide (3 = k))]) = H3 at k1 hH3
    refine ⟨_, rfl, ?_⟩
    refine ⟨_, rfl, isQ hH3 ho (kn.ki 4 _ rfl) ?_⟩
    refine ⟨_, rfl, isQ hH3 ho (kn.ki 5 _ rfl) ?_⟩
    refine ⟨_, rfl, isQ hH3 ho (kn.ki 6 _ rfl) ?_⟩
    refine ⟨_, rfl, isQ hH3 ho (kn.ki 7 _ rfl) ?_⟩
    refine ⟨by show 4 ≤ sizeLine; decide, fun l2 hl2 => ?_⟩
    have k2 := upd_same (H := H3) (a := l2) (o := .lst ([V.bl (decide (4 = k)), V.bl (decide (5 = k)), V.bl (decide (6 = k)), V.bl (decide (7 = k))]))
    have k1a := Same.upd (o := .lst ([V.bl (decide (4 = k)), V.bl (decide (5 = k)), V.bl (decide (6 = k)), V.bl (decide (7 = k))])) hl2 _ _ k1
    have hH4 := Same.upd (o := .lst ([V.bl (decide (4 = k)), V.bl (decide (5 = k)), V.bl (decide (6 = k)), V.bl (decide (7 = k))])) hl2 _ _ hH3
    generalize upd H3 l2 (.lst ([V.bl (decide (4 = k)), V.bl (decide (5 = k)), V.bl (decide (6 = k)), V.bl (decide (7 = k))])) = H4 at k2 k1a hH4
    refine .inr (.inr ⟨l1, l2, _, _, rfl, rfl, k1a, k2, by show 8 ≤ sizeLine; decide, fun l3 hl3 => ?_⟩)
    have k3 := upd_same (H := H4) (a := l3) (o := .lst ([V.bl (decide (0 = k)), V.bl (decide (1 = k)), V.bl (decide (2 = k)), V.bl (decide (3 = k))] ++ [V.bl (decide (4 = k)), V.bl (decide (5 = k)), V.bl (decide (6 = k)), V.bl (decide (7 = k))]))
    have hH5 := Same.upd (o := .lst ([V.bl (decide (0 = k)), V.bl (decide (1 = k)), V.bl (decide (2 = k)), V.bl (decide (3 = k))] ++ [V.bl (decide (4 = k)), V.bl (decide (5 = k)), V.bl (decide (6 = k)), V.bl (decide (7 = k))])) hl3 _ _ hH4
    generalize upd H4 l3 (.lst ([V.bl (decide (0 = k)), V.bl (decide (1 = k)), V.bl (decide (2 = k)), V.bl (decide (3 = k))] ++ [V.bl (decide (4 = k)), V.bl (decide (5 = k)), V.bl (decide (6 = k)), V.bl (decide (7 = k))])) = H5 at k3 hH5
    refine ⟨_, rfl, ?_⟩
    refine ⟨_, rfl, isQ hH5 ho (kn.ki 8 _ rfl) ?_⟩
    refine ⟨_, rfl, isQ hH5 ho (kn.ki 9 _ rfl) ?_⟩
    refine ⟨_, rfl, isQ hH5 ho (kn.ki 10 _ rfl) ?_⟩
    refine ⟨_, rfl, isQ hH5 ho (kn.ki 11 _ rfl) ?_⟩
    refine ⟨by show 4 ≤ sizeLine; decide, fun l4 hl4 => ?_⟩
    have k4 := upd_same (H := H5) (a := l4) (o := .lst ([V.bl (decide (8 = k)), V.bl (decide (9 = k)), V.bl (decide (10 = k)), V.bl (decide (11 = k))]))
    have k3a := Same.upd (o := .lst ([V.bl (decide (8 = k)), V.bl (decide (9 = k)), V.bl (decide (10 = k)), V.bl (decide (11 = k))])) hl4 _ _ k3
    have hH6 := Same.upd (o := .lst ([V.bl (decide (8 = k)), V.bl (decide (9 = k)), V.bl (decide (10 = k)), V.bl (decide (11 = k))])) hl4 _ _ hH5
    generalize upd H5 l4 (.lst ([V.bl (decide (8 = k)), V.bl (decide (9 = k)), V.bl (decide (10 = k)), V.bl (decide (11 = k))])) = H6 at k4 k3a hH6
    refine .inr (.inr ⟨l3, l4, _, _, rfl, rfl, k3a, k4, by show 12 ≤ sizeLine; decide, fun l5 hl5 => ?_⟩)
    have k5 := upd_same (H := H6) (a := l5) (o := .lst ([V.bl (decide (0 = k)), V.bl (decide (1 = k)), V.bl (decide (2 = k)), V.bl (decide (3 = k))] ++ [V.bl (decide (4 = k)), V.bl (decide (5 = k)), V.bl (decide (6 = k)), V.bl (decide (7 = k))] ++ [V.bl (decide (8 = k)), V.bl (decide (9 = k)), V.bl (decide (10 = k)), V.bl (decide (11 = k))]))
    have hH7 := Same.upd (o := .lst ([V.bl (decide (0 = k)), V.bl (decide (1 = k)), V.bl (decide (2 = k)), V.bl (decide (3 = k))] ++ [V.bl (decide (4 = k)), V.bl (decide (5 = k)), V.bl (decide (6 = k)), V.bl (decide (7 = k))] ++ [V.bl (decide (8 = k)), V.bl (decide (9 = k)), V.bl (decide (10 = k)), V.bl (decide (11 = k))])) hl5 _ _ hH6
    generalize upd H6 l5 (.lst ([V.bl (decide (0 = k)), V.bl (decide (1 = k)), V.bl (decide (2 = k)), V.bl (decide (3 = k))] ++ [V.bl (decide (4 = k)), V.bl (decide (5 = k)), V.bl (decide (6 = k)), V.bl (decide (7 = k))] ++ [V.bl (decide (8 = k)), V.bl (decide (9 = k)), V.bl (decide (10 = k)), V.bl (decide (11 = k))])) = H7 at k5 hH7
    refine ⟨_, rfl, ?_⟩
    refine ⟨_, rfl, isQ hH7 ho (kn.ki 12 _ rfl) ?_⟩
    refine ⟨_, rfl, isQt hH7 ho kn.kb ?_⟩
    refine ⟨by show 2 ≤ sizeLine; decide, fun l6 hl6 => ?_⟩
    have k6 := upd_same (H := H7) (a := l6) (o := .lst ([V.bl (decide (12 = k)), V.bl true]))
    have k5a := Same.upd (o := .lst ([V.bl (decide (12 = k)), V.bl true])) hl6 _ _ k5
    generalize upd H7 l6 (.lst ([V.bl (decide (12 = k)), V.bl true])) = H8 at k6 k5a
    refine .inr (.inr ⟨l5, l6, _, _, rfl, rfl, k5a, k6, by show 14 ≤ sizeLine; decide, fun l7 hl7 => ?_⟩)
    refine q l7 _ ?_
    rw [res50_eq]
    exact upd_same

end Mine

namespace Mine
open PySem L2
theorem deq_bls {K : PySem.W.Frag} {H : Hp} {a b : Addr} {xs : List Bool} (ha : SqL K H a (xs.map V.bl)) (hb : SqL K H b (xs.map V.bl)) : Deq K H 60 (.ref a) (.ref b) :=
  .lst (n := 59) ha hb rfl fun i x y hx hy => by
    rw [hx] at hy
    cases hy
    rw [List.getElem?_map] at hx
    cases e : xs[i]? with
    | none => rw [e] at hx; cases hx
    | some z => rw [e] at hx; obtain rfl := Option.some.inj hx; exact .flat rfl
theorem n50a : newOut [] "ann" = none := by
  unfold newOut
  rw [if_neg (by decide +kernel), if_neg (by show ¬ (Option.isSome (findV [] "ann") = true); unfold findV; simp), if_neg (by simp)]
theorem n50b : newOut [("ann", .pl [])] "bo" = none := by
  have hf : findV [("ann", .pl [])] "bo" = none := findV_no fun q hq => by
    rcases List.mem_cons.mp hq with rfl | hq
    · exact fun z => absurd z (by decide +kernel)
    · exact absurd hq (by simp)
  unfold newOut
  rw [if_neg (by decide +kernel), hf, if_neg (by simp), if_neg (by simp)]
theorem f50 : findV [("ann", Th.pl [])] "ann" = some (.pl []) := by
  unfold findV
  rw [List.find?_cons_of_pos (p := fun q : Str × Th => decide (q.1 = "ann")) (decide_eq_true rfl)]
  rfl
set_option maxHeartbeats 8000000 in
theorem ok_law {P : Program} {w : World} {K : PySem.W.Frag} {mg : Str → Option Value} {base : Heap} {t : Adr} (T : Txt K w mg t) : FnOk P w K mg base CX0 (0 + 7) t.f_law t.d_law ["_law_script"] (sp_law K) := by
  have G_Book___init__ := ok_Book___init__ (P := P) (w := w) (base := base) T
  have G_Book_add_voice := ok_Book_add_voice (P := P) (w := w) (base := base) T
  have G_Book_add_canon := ok_Book_add_canon (P := P) (w := w) (base := base) T
  have G_l_cell_at := ok_l_cell_at (P := P) (w := w) (base := base) T
  have G_l_kin := ok_l_kin (P := P) (w := w) (base := base) T
  refine T.F_law.ok sc_law (fun vs H Q E h => ?_) (fun cdv A outer s H vs Q E hr h => ?_)
  · obtain ⟨a, ns, rfl, _⟩ := h
    rfl
  · obtain ⟨a, ns, rfl, hS, hl, q⟩ := h
    refine bodyOk (pss_cons (ps_set (i := 1) sc_law.nd rfl (Or.inr rfl) (pe_op op_mod (pe_call G_l_cell_at (hr.mono (by decide)) rfl T.mg_l_cell_at T.F_l_cell_at.kp T.b_l_cell_at .nil pass0 (pa_cons (pv 0) (pa_cons pe_int pa_nil))) pe_int)) (pss_cons (ps_set (i := 2) sc_law.nd rfl (Or.inl rfl) (pe_make0 T.mk_Book G_Book___init__ (hr.mono (by decide)) rfl T.mg_Book T.b_Book___init__ .nil pass0)) (pss_cons (ps_expr (pe_meth (pv 2) T.cl_Book T.me_Book_add_voice G_Book_add_voice (hr.mono (by decide)) T.b_Book_add_voice .nil pass1 (pa_cons pe_str pa_nil))) (pss_cons (ps_expr (pe_meth (pv 2) T.cl_Book T.me_Book_add_canon G_Book_add_canon (hr.mono (by decide)) (dvs := [.bl false]) T.bd1_Book_add_canon (.cons rfl (.nil)) pass1 (pa_cons pe_str (pa_cons pe_str (pa_cons (pe_op op_mod (pe_call G_l_cell_at (hr.mono (by decide)) rfl T.mg_l_cell_at T.F_l_cell_at.kp T.b_l_cell_at .nil pass0 (pa_cons (pv 0) (pa_cons pe_int pa_nil))) pe_int) (pa_cons (pe_op (op_add.or (op_add_str.or op_cat)) pe_int (pe_op op_mod (pe_call G_l_cell_at (hr.mono (by decide)) rfl T.mg_l_cell_at T.F_l_cell_at.kp T.b_l_cell_at .nil pass0 (pa_cons (pv 0) (pa_cons pe_int pa_nil))) pe_int)) pa_nil)))))) (pss_one (ps_ret (pe_cmpR (op_eq.or (op_eqD (hu_of64 hr))) (pe_call G_l_kin (hr.mono (by decide)) rfl T.mg_l_kin T.F_l_kin.kp T.b_l_kin .nil pass0 (pa_cons (pv 1) (pa_cons (pv 2) pa_nil))) (pe_comp (cn := ["_law_k"]) rfl (CompFit.of rfl) (pi_range1 rfl T.nb_range (pa_cons pe_int pa_nil)) (fun _ => (pg_name (i := 0) nd_law_3 rfl (Or.inl rfl))) (fun _ => pf_nil) (fun _ => (pe_mid (pe_or (pe_cmpR (op_eq.or (op_eqD (hu_of64 hr))) (pv 0) (pv 2) (nomark _)) (pe_one (pe_cmpR (op_eq.or (op_eqD (hu_of64 hr))) (pv 0) pe_int (nomark _))))))) (nomark _)))))))) ?_
    (repeat array_get_dec)
    refine ⟨a, ns, 0, rfl, hS, hl, ?_⟩
    (repeat array_get_dec)
    obtain ⟨k, hk, hk13⟩ := modN (cellN ns 0) (k := 13) (by decide)
    rw [hk]
    intro x dx nx ndx _
    refine ⟨x, dx, rfl, upd_same, fun L D U H4 kp4 nL nD nU LD LU DU hx4 hL4 hD4 hU4 => ⟨rfl, ?_⟩⟩
    have s4 := mkSame nx ndx kp4
    have B4 : Bw (cs t) H H4 x [] [] [] [] := Bw.new hx4 hL4 hD4 hU4 LD LU DU s4 (mkFree nL) (mkFree nD) (mkFree nU)
    clear kp4 nL nD nU LD LU DU hL4 hD4 hU4 s4 nx ndx
    obtain ⟨F4, b4, f4, z4, o4⟩ := B4.ex
    refine ⟨_, rfl, x, dx, _, rfl, hx4, boF_no_add_voice _ _ _, x, F4, [], [], [], "ann", rfl, b4, by decide +kernel, by simp, ?_⟩
    rw [n50a]
    intro F5 H5 gr5 fr5 b5
    obtain ⟨B5, k5⟩ := Bw.mk' b5 B4.sm f4 z4 o4 gr5 fr5
    clear hx4 b4 f4 z4 o4 gr5 fr5 b5 k5 B4 F5 F4
    obtain ⟨dx5, L5, D5, U5, hx5⟩ := B5.hx
    obtain ⟨F5, b5, f5, z5, o5⟩ := B5.ex
    refine ⟨_, rfl, x, dx5, _, rfl, hx5, boF_no_add_canon _ _ _, ?_⟩
    (repeat array_get_dec)
    refine ⟨a, ns, 1, rfl, B5.sm.seq hS, hl, ?_⟩
    (repeat array_get_dec)
    refine ⟨a, ns, 2, rfl, B5.sm.seq hS, hl, ?_⟩
    (repeat array_get_dec)
    refine ⟨x, F5, _, _, [], "bo", "ann", cellN ns 1 % 1000, 1 + cellN ns 2 % 9, false, rfl, b5, by decide +kernel, by simp, ?_⟩
    show match newOut [("ann", .pl [])] "bo" with | some r => _ | none => _
    rw [n50b, show findV ([] ++ [(Str.ofString "ann", Th.pl [])]) (Str.ofString "ann") = some (.pl []) from f50]
    refine ⟨fun z => absurd (show TermOk _ _ from ⟨by omega, by omega, by omega, by omega⟩) z, fun _ F6 H6 gr6 fr6 b6 => ?_⟩
    obtain ⟨B6, k6⟩ := Bw.mk' b6 B5.sm f5 z5 o5 gr6 fr6
    have B6 : Bw (cs t) H H6 x [] (w50 _ _) _ [] := B6
    clear hx5 b5 f5 z5 o5 gr6 fr6 b6 k6 B5 F6 F5
    refine ⟨_, rfl, _, rfl, k, x, H, _, _, _, rfl, by omega, B6, by simp, fun l H7 h7 => ?_⟩
    refine ⟨14, rfl, by decide, by decide, fun D' b' hD' => ?_⟩
    refine comp_range (lo := 0) (n := 14) (fun i ys σ H' => ∃ v, σ = [v, some (.ref a), some (.int (k : Int)), some (.ref x)] ∧ H' = upd H7 D' (.lst ys) ∧ ys = (res50 k).take i) ⟨none, rfl, rfl, rfl⟩ ?_ ?_
    · rintro i ys σ H' hi ⟨v, rfl, rfl, rfl⟩ N hN
      refine compT_name ?_
      refine midV (.bl (decide (i = k) || decide (i = 13))) ?_ ?_
      · (repeat array_get_dec)
        have di : ∀ {j : Nat} {z : Int}, z = (j : Int) → decide (V.int (0 + (i : Int)) = V.int z) = decide (i = j) := fun {j z} e => decide_eq_decide.mpr ⟨fun h => by injection h with h; omega, fun h => by rw [e, h]; exact congrArg V.int (by omega)⟩
        rw [di (j := k) rfl]
        refine ite2 (fun h => ⟨by rw [h]; rfl, rfl⟩) (fun h => ?_)
        refine ⟨_, rfl, .inl ⟨rfl, ?_, rfl⟩⟩
        rw [di (j := 13) (z := 13) rfl, Bool.eq_false_iff.mpr h]
        rfl
      · refine ⟨upd_same, ?_, hN _ _ _ ⟨_, rfl, upd_upd, ?_⟩⟩
        · exact small1000 (by rw [List.length_take]; omega)
        · rw [List.take_succ, show (res50 k)[i]? = some (V.bl (decide (i = k) || decide (i = 13))) by unfold res50; rw [List.getElem?_map, List.getElem?_range hi]; rfl]
          rfl
    · rintro ys σ H' ⟨v, rfl, rfl, rfl⟩
      have e : List.take 14 (res50 k) = ((List.range 14).map fun j => decide (j = k) || decide (j = 13)).map V.bl := by rw [List.take_of_length_le (by unfold res50; simp), List.map_map]; rfl
      have e7 := Same.upd (o := .lst (List.take 14 (res50 k))) hD' _ _ h7
      have e8 : res50 k = ((List.range 14).map fun j => decide (j = k) || decide (j = 13)).map V.bl := by rw [List.map_map]; rfl
      rw [e8] at e7
      exact .inr ⟨l, D', rfl, rfl, deq_bls (SqL.of e7) (SqL.of (by rw [← e]; exact upd_same)), q _⟩

end Mine

namespace Mine
open PySem L2
theorem lenU1 {us : List Value} (h : us.length = 1) : ∃ a0, us = [a0] := match us, h with | [a0], _ => ⟨a0, rfl⟩
theorem lenB1 {p : List Value → Prop} (h : ∀ a0, p [a0]) (us : List Value) (e : us.length = 1) : p us := by obtain ⟨_, rfl⟩ := lenU1 e; exact h _
theorem lenU2 {us : List Value} (h : us.length = 2) : ∃ a0 a1, us = [a0, a1] := match us, h with | [a0, a1], _ => ⟨a0, a1, rfl⟩
theorem lenB2 {p : List Value → Prop} (h : ∀ a0 a1, p [a0, a1]) (us : List Value) (e : us.length = 2) : p us := by obtain ⟨_, _, rfl⟩ := lenU2 e; exact h _ _
theorem lenV2 {us : List Value} (h : (us ++ []).length = 2) : ∃ a0 a1, us = [a0, a1] := lenU2 (by rw [List.append_nil] at h; exact h)
theorem lenU3 {us : List Value} (h : us.length = 3) : ∃ a0 a1 a2, us = [a0, a1, a2] := match us, h with | [a0, a1, a2], _ => ⟨a0, a1, a2, rfl⟩
theorem lenB3 {p : List Value → Prop} (h : ∀ a0 a1 a2, p [a0, a1, a2]) (us : List Value) (e : us.length = 3) : p us := by obtain ⟨_, _, _, rfl⟩ := lenU3 e; exact h _ _ _
theorem lenU4 {us : List Value} (h : us.length = 4) : ∃ a0 a1 a2 a3, us = [a0, a1, a2, a3] := match us, h with | [a0, a1, a2, a3], _ => ⟨a0, a1, a2, a3, rfl⟩
theorem lenU5 {us : List Value} (h : us.length = 5) : ∃ a0 a1 a2 a3 a4, us = [a0, a1, a2, a3, a4] := match us, h with | [a0, a1, a2, a3, a4], _ => ⟨a0, a1, a2, a3, a4, rfl⟩
theorem lenB5 {p : List Value → Prop} (h : ∀ a0 a1 a2 a3 a4, p [a0, a1, a2, a3, a4]) (us : List Value) (e : us.length = 5) : p us := by obtain ⟨_, _, _, _, _, rfl⟩ := lenU5 e; exact h _ _ _ _ _
theorem lenU6 {us : List Value} (h : us.length = 6) : ∃ a0 a1 a2 a3 a4 a5, us = [a0, a1, a2, a3, a4, a5] := match us, h with | [a0, a1, a2, a3, a4, a5], _ => ⟨a0, a1, a2, a3, a4, a5, rfl⟩
theorem lenV6 {us : List Value} (h : (us ++ []).length = 6) : ∃ a0 a1 a2 a3 a4 a5, us = [a0, a1, a2, a3, a4, a5] := lenU6 (by rw [List.append_nil] at h; exact h)
set_option maxHeartbeats 0 in
theorem all_mk {l : PySem.W.OpenLaw} {w : World} {K : PySem.W.Frag} {h : Heap} {mg : Str → Option Value} {fa C_Voice C_Deed C_Book C_Ear C_BadName C_NameTaken C_Full C_NoVoice C_NotPlain C_BadTerm C_NoPlace C_Leaned C_NoMore C_BadSign C_NoteError C_BadWord C_BadRow C_Closed f_Book___init__ f_is_name f_Book_names f_Book_refuse_new f_Deed_do f_Book_perform f_Deed___init__ f_Book_put_in f_Voice___init__ f_Book_add_voice f_Book_voice_called f_Book_plain_voice f_Book_add_canon df_Book_add_canon f_l_cell_at f_Book_canon f_Book_line f_refuse_other_places f_Book_cut f_Book_drop f_Book_redo f_good f_shown_sign f_number_of f_sign_of f_BadWord___init__ f_read_sign f_take_voice f_take_row f_BadRow___init__ f_read_book f_Ear___init__ df_Ear___init__ f_Ear_refuse_where_closed f_Ear_close_run f_Ear_let_go f_Ear_settled_by f_Ear_close f_Ear_hear f_l_bring f_l_kin f_law a_GREAT_KINDS a_SMALL_KINDS a_SOUNDING_KINDS a_SILENT_KINDS a_FIGURES xN_BadWord xN_BadRow : Addr} (X : K.In h) (G : h.Ns mainGlobals mg) (hfa : mg "law" = some (.ref fa))
    {od_Book___init__ an_Book___init__ od_is_name an_is_name od_Book_names an_Book_names od_Book_refuse_new an_Book_refuse_new od_Deed_do an_Deed_do od_Book_perform an_Book_perform od_Deed___init__ an_Deed___init__ od_Book_put_in an_Book_put_in od_Voice___init__ an_Voice___init__ od_Book_add_voice an_Book_add_voice od_Book_voice_called an_Book_voice_called od_Book_plain_voice an_Book_plain_voice od_Book_add_canon an_Book_add_canon ddo_Book_add_canon od_l_cell_at an_l_cell_at od_Book_canon an_Book_canon od_Book_line an_Book_line od_refuse_other_places an_refuse_other_places od_Book_cut an_Book_cut od_Book_drop an_Book_drop od_Book_redo an_Book_redo od_good an_good od_shown_sign an_shown_sign od_number_of an_number_of od_sign_of an_sign_of od_BadWord___init__ an_BadWord___init__ od_read_sign an_read_sign od_take_voice an_take_voice od_take_row an_take_row od_BadRow___init__ an_BadRow___init__ od_read_book an_read_book od_Ear___init__ an_Ear___init__ ddo_Ear___init__ od_Ear_refuse_where_closed an_Ear_refuse_where_closed od_Ear_close_run an_Ear_close_run od_Ear_let_go an_Ear_let_go od_Ear_settled_by an_Ear_settled_by od_Ear_close an_Ear_close od_Ear_hear an_Ear_hear od_l_bring an_l_bring od_l_kin an_l_kin od_law an_law od_GREAT_KINDS od_SMALL_KINDS od_SOUNDING_KINDS od_SILENT_KINDS od_FIGURES : Option Addr} {sl_Book___init__ sl_is_name sl_Book_names sl_Book_refuse_new sl_Deed_do sl_Book_perform sl_Deed___init__ sl_Book_put_in sl_Voice___init__ sl_Book_add_voice sl_Book_voice_called sl_Book_plain_voice sl_Book_add_canon dds_Book_add_canon sl_l_cell_at sl_Book_canon sl_Book_line sl_refuse_other_places sl_Book_cut sl_Book_drop sl_Book_redo sl_good sl_shown_sign sl_number_of sl_sign_of sl_BadWord___init__ sl_read_sign sl_take_voice sl_take_row sl_BadRow___init__ sl_read_book sl_Ear___init__ dds_Ear___init__ sl_Ear_refuse_where_closed sl_Ear_close_run sl_Ear_let_go sl_Ear_settled_by sl_Ear_close sl_Ear_hear sl_l_bring sl_l_kin sl_law sl_GREAT_KINDS sl_SMALL_KINDS sl_SOUNDING_KINDS sl_SILENT_KINDS sl_FIGURES : Array (Option Value)} {oc_Book___init__ kV_Book___init__ dc_Book___init__ pm_Book___init__ cd_Book___init__ ct_Book___init__ oc_is_name kV_is_name dc_is_name pm_is_name cd_is_name ct_is_name oc_Book_names kV_Book_names dc_Book_names pm_Book_names cd_Book_names ct_Book_names oc_Book_refuse_new kV_Book_refuse_new dc_Book_refuse_new pm_Book_refuse_new cd_Book_refuse_new ct_Book_refuse_new oc_Deed_do kV_Deed_do dc_Deed_do pm_Deed_do cd_Deed_do ct_Deed_do oc_Book_perform kV_Book_perform dc_Book_perform pm_Book_perform cd_Book_perform ct_Book_perform oc_Deed___init__ kV_Deed___init__ dc_Deed___init__ pm_Deed___init__ cd_Deed___init__ ct_Deed___init__ oc_Book_put_in kV_Book_put_in dc_Book_put_in pm_Book_put_in cd_Book_put_in ct_Book_put_in oc_Voice___init__ kV_Voice___init__ dc_Voice___init__ pm_Voice___init__ cd_Voice___init__ ct_Voice___init__ oc_Book_add_voice kV_Book_add_voice dc_Book_add_voice pm_Book_add_voice cd_Book_add_voice ct_Book_add_voice oc_Book_voice_called kV_Book_voice_called dc_Book_voice_called pm_Book_voice_called cd_Book_voice_called ct_Book_voice_called oc_Book_plain_voice kV_Book_plain_voice dc_Book_plain_voice pm_Book_plain_voice cd_Book_plain_voice ct_Book_plain_voice oc_Book_add_canon kV_Book_add_canon dc_Book_add_canon pm_Book_add_canon cd_Book_add_canon ct_Book_add_canon ddc_Book_add_canon oc_l_cell_at kV_l_cell_at dc_l_cell_at pm_l_cell_at cd_l_cell_at ct_l_cell_at oc_Book_canon kV_Book_canon dc_Book_canon pm_Book_canon cd_Book_canon ct_Book_canon oc_Book_line kV_Book_line dc_Book_line pm_Book_line cd_Book_line ct_Book_line oc_refuse_other_places kV_refuse_other_places dc_refuse_other_places pm_refuse_other_places cd_refuse_other_places ct_refuse_other_places oc_Book_cut kV_Book_cut dc_Book_cut pm_Book_cut cd_Book_cut ct_Book_cut oc_Book_drop kV_Book_drop dc_Book_drop pm_Book_drop cd_Book_drop ct_Book_drop oc_Book_redo kV_Book_redo dc_Book_redo pm_Book_redo cd_Book_redo ct_Book_redo oc_good kV_good dc_good pm_good cd_good ct_good oc_shown_sign kV_shown_sign dc_shown_sign pm_shown_sign cd_shown_sign ct_shown_sign oc_number_of kV_number_of dc_number_of pm_number_of cd_number_of ct_number_of oc_sign_of kV_sign_of dc_sign_of pm_sign_of cd_sign_of ct_sign_of oc_BadWord___init__ kV_BadWord___init__ dc_BadWord___init__ pm_BadWord___init__ cd_BadWord___init__ ct_BadWord___init__ oc_read_sign kV_read_sign dc_read_sign pm_read_sign cd_read_sign ct_read_sign oc_take_voice kV_take_voice dc_take_voice pm_take_voice cd_take_voice ct_take_voice oc_take_row kV_take_row dc_take_row pm_take_row cd_take_row ct_take_row oc_BadRow___init__ kV_BadRow___init__ dc_BadRow___init__ pm_BadRow___init__ cd_BadRow___init__ ct_BadRow___init__ oc_read_book kV_read_book dc_read_book pm_read_book cd_read_book ct_read_book oc_Ear___init__ kV_Ear___init__ dc_Ear___init__ pm_Ear___init__ cd_Ear___init__ ct_Ear___init__ ddc_Ear___init__ oc_Ear_refuse_where_closed kV_Ear_refuse_where_closed dc_Ear_refuse_where_closed pm_Ear_refuse_where_closed cd_Ear_refuse_where_closed ct_Ear_refuse_where_closed oc_Ear_close_run kV_Ear_close_run dc_Ear_close_run pm_Ear_close_run cd_Ear_close_run ct_Ear_close_run oc_Ear_let_go kV_Ear_let_go dc_Ear_let_go pm_Ear_let_go cd_Ear_let_go ct_Ear_let_go oc_Ear_settled_by kV_Ear_settled_by dc_Ear_settled_by pm_Ear_settled_by cd_Ear_settled_by ct_Ear_settled_by oc_Ear_close kV_Ear_close dc_Ear_close pm_Ear_close cd_Ear_close ct_Ear_close oc_Ear_hear kV_Ear_hear dc_Ear_hear pm_Ear_hear cd_Ear_hear ct_Ear_hear oc_l_bring kV_l_bring dc_l_bring pm_l_bring cd_l_bring ct_l_bring oc_l_kin kV_l_kin dc_l_kin pm_l_kin cd_l_kin ct_l_kin oc_law kV_law dc_law pm_law cd_law ct_law : Value}
    {dt0_Book_add_canon dt1_Book_add_canon dt0_Ear___init__ t0_GREAT_KINDS t1_GREAT_KINDS t2_GREAT_KINDS t0_SMALL_KINDS t1_SMALL_KINDS t2_SMALL_KINDS t0_SOUNDING_KINDS t1_SOUNDING_KINDS t2_SOUNDING_KINDS t3_SOUNDING_KINDS t0_SILENT_KINDS t1_SILENT_KINDS t2_SILENT_KINDS t3_SILENT_KINDS t4_SILENT_KINDS t_HIGHEST_TONE t0_FIGURES t1_FIGURES t2_FIGURES t3_FIGURES t4_FIGURES t5_FIGURES t6_FIGURES t7_FIGURES t8_FIGURES t9_FIGURES t_MOST_FIGURES_texts t_SHORTENED_WORTH t_DOUBLED_WORTH t_LETTERS t_LONGEST_NAME t_MOST_VOICES t_LATEST t_SLOWEST t_NOTHING_MORE : Tok}
    {ddn_Book_add_canon ddn_Ear___init__ n_GREAT_KINDS n_SMALL_KINDS n_SOUNDING_KINDS n_SILENT_KINDS n_FIGURES : Nat}
    {xnm_BadWord xqn_BadWord : Str} {xbs_BadWord xbm_BadWord xsub_BadWord : List Value} {xsn_BadWord : List Str} {xab_BadWord : Bool} {xcol_BadWord : Option Bool} {xdd_BadWord : Option Addr} {xk0_BadWord xk1_BadWord xk2_BadWord xk3_BadWord xk5_BadWord : Option Value} {xcd_BadWord : ClassData}
    {xnm_BadRow xqn_BadRow : Str} {xbs_BadRow xbm_BadRow xsub_BadRow : List Value} {xsn_BadRow : List Str} {xab_BadRow : Bool} {xcol_BadRow : Option Bool} {xdd_BadRow : Option Addr} {xk0_BadRow xk1_BadRow xk2_BadRow xk3_BadRow xk5_BadRow : Option Value} {xcd_BadRow : ClassData}
    (aC_Voice : PySem.W.nsIn K mainGlobals "Voice" = some (some (.ref C_Voice)))
    (aC_Deed : PySem.W.nsIn K mainGlobals "Deed" = some (some (.ref C_Deed)))
    (aC_Book : PySem.W.nsIn K mainGlobals "Book" = some (some (.ref C_Book)))
    (aC_Ear : PySem.W.nsIn K mainGlobals "Ear" = some (some (.ref C_Ear)))
    (aX_BadName : PySem.W.nsIn K mainGlobals "BadName" = some (some (.ref C_BadName)))
    (aX_NameTaken : PySem.W.nsIn K mainGlobals "NameTaken" = some (some (.ref C_NameTaken)))
    (aX_Full : PySem.W.nsIn K mainGlobals "Full" = some (some (.ref C_Full)))
    (aX_NoVoice : PySem.W.nsIn K mainGlobals "NoVoice" = some (some (.ref C_NoVoice)))
    (aX_NotPlain : PySem.W.nsIn K mainGlobals "NotPlain" = some (some (.ref C_NotPlain)))
    (aX_BadTerm : PySem.W.nsIn K mainGlobals "BadTerm" = some (some (.ref C_BadTerm)))
    (aX_NoPlace : PySem.W.nsIn K mainGlobals "NoPlace" = some (some (.ref C_NoPlace)))
    (aX_Leaned : PySem.W.nsIn K mainGlobals "Leaned" = some (some (.ref C_Leaned)))
    (aX_NoMore : PySem.W.nsIn K mainGlobals "NoMore" = some (some (.ref C_NoMore)))
    (aX_BadSign : PySem.W.nsIn K mainGlobals "BadSign" = some (some (.ref C_BadSign)))
    (aX_NoteError : PySem.W.nsIn K mainGlobals "NoteError" = some (some (.ref C_NoteError)))
    (aX_BadWord : PySem.W.nsIn K mainGlobals "BadWord" = some (some (.ref C_BadWord)))
    (aX_BadRow : PySem.W.nsIn K mainGlobals "BadRow" = some (some (.ref C_BadRow)))
    (aX_Closed : PySem.W.nsIn K mainGlobals "Closed" = some (some (.ref C_Closed)))
    (a_Book___init__ : PySem.W.findIn K (.ref C_Book) "__init__" = some (some (.ref f_Book___init__)))
    (l_Book___init__ : K.lookup f_Book___init__ = some ⟨oc_Book___init__, od_Book___init__, .func (PySem.W.fnOf "__init__" "Book.__init__" (defArgs s_Book___init__) (defBody s_Book___init__) (defScope s_Book___init__) .none kV_Book___init__ dc_Book___init__ pm_Book___init__ an_Book___init__ cd_Book___init__ ct_Book___init__), sl_Book___init__⟩)
    (c_Book___init__ : PySem.W.codeIn K cd_Book___init__ "Book.__init__" = true)
    (k_Book___init__ : PySem.W.keepIn K (.ref f_Book___init__) = true)
    (fn_Book___init__ : PySem.W.isFn K (.ref f_Book___init__) = true)
    (a_is_name : PySem.W.nsIn K mainGlobals "is_name" = some (some (.ref f_is_name)))
    (l_is_name : K.lookup f_is_name = some ⟨oc_is_name, od_is_name, .func (PySem.W.fnOf "is_name" "is_name" (defArgs s_is_name) (defBody s_is_name) (defScope s_is_name) .none kV_is_name dc_is_name pm_is_name an_is_name cd_is_name ct_is_name), sl_is_name⟩)
    (c_is_name : PySem.W.codeIn K cd_is_name "is_name" = true)
    (k_is_name : PySem.W.keepIn K (.ref f_is_name) = true)
    (a_Book_names : PySem.W.findIn K (.ref C_Book) "names" = some (some (.ref f_Book_names)))
    (l_Book_names : K.lookup f_Book_names = some ⟨oc_Book_names, od_Book_names, .func (PySem.W.fnOf "names" "Book.names" (defArgs s_Book_names) (defBody s_Book_names) (defScope s_Book_names) .none kV_Book_names dc_Book_names pm_Book_names an_Book_names cd_Book_names ct_Book_names), sl_Book_names⟩)
    (c_Book_names : PySem.W.codeIn K cd_Book_names "Book.names" = true)
    (k_Book_names : PySem.W.keepIn K (.ref f_Book_names) = true)
    (fn_Book_names : PySem.W.isFn K (.ref f_Book_names) = true)
    (a_Book_refuse_new : PySem.W.findIn K (.ref C_Book) "refuse_new" = some (some (.ref f_Book_refuse_new)))
    (l_Book_refuse_new : K.lookup f_Book_refuse_new = some ⟨oc_Book_refuse_new, od_Book_refuse_new, .func (PySem.W.fnOf "refuse_new" "Book.refuse_new" (defArgs s_Book_refuse_new) (defBody s_Book_refuse_new) (defScope s_Book_refuse_new) .none kV_Book_refuse_new dc_Book_refuse_new pm_Book_refuse_new an_Book_refuse_new cd_Book_refuse_new ct_Book_refuse_new), sl_Book_refuse_new⟩)
    (c_Book_refuse_new : PySem.W.codeIn K cd_Book_refuse_new "Book.refuse_new" = true)
    (k_Book_refuse_new : PySem.W.keepIn K (.ref f_Book_refuse_new) = true)
    (fn_Book_refuse_new : PySem.W.isFn K (.ref f_Book_refuse_new) = true)
    (a_Deed_do : PySem.W.findIn K (.ref C_Deed) "do" = some (some (.ref f_Deed_do)))
    (l_Deed_do : K.lookup f_Deed_do = some ⟨oc_Deed_do, od_Deed_do, .func (PySem.W.fnOf "do" "Deed.do" (defArgs s_Deed_do) (defBody s_Deed_do) (defScope s_Deed_do) .none kV_Deed_do dc_Deed_do pm_Deed_do an_Deed_do cd_Deed_do ct_Deed_do), sl_Deed_do⟩)
    (c_Deed_do : PySem.W.codeIn K cd_Deed_do "Deed.do" = true)
    (k_Deed_do : PySem.W.keepIn K (.ref f_Deed_do) = true)
    (fn_Deed_do : PySem.W.isFn K (.ref f_Deed_do) = true)
    (a_Book_perform : PySem.W.findIn K (.ref C_Book) "perform" = some (some (.ref f_Book_perform)))
    (l_Book_perform : K.lookup f_Book_perform = some ⟨oc_Book_perform, od_Book_perform, .func (PySem.W.fnOf "perform" "Book.perform" (defArgs s_Book_perform) (defBody s_Book_perform) (defScope s_Book_perform) .none kV_Book_perform dc_Book_perform pm_Book_perform an_Book_perform cd_Book_perform ct_Book_perform), sl_Book_perform⟩)
    (c_Book_perform : PySem.W.codeIn K cd_Book_perform "Book.perform" = true)
    (k_Book_perform : PySem.W.keepIn K (.ref f_Book_perform) = true)
    (fn_Book_perform : PySem.W.isFn K (.ref f_Book_perform) = true)
    (a_Deed___init__ : PySem.W.findIn K (.ref C_Deed) "__init__" = some (some (.ref f_Deed___init__)))
    (l_Deed___init__ : K.lookup f_Deed___init__ = some ⟨oc_Deed___init__, od_Deed___init__, .func (PySem.W.fnOf "__init__" "Deed.__init__" (defArgs s_Deed___init__) (defBody s_Deed___init__) (defScope s_Deed___init__) .none kV_Deed___init__ dc_Deed___init__ pm_Deed___init__ an_Deed___init__ cd_Deed___init__ ct_Deed___init__), sl_Deed___init__⟩)
    (c_Deed___init__ : PySem.W.codeIn K cd_Deed___init__ "Deed.__init__" = true)
    (k_Deed___init__ : PySem.W.keepIn K (.ref f_Deed___init__) = true)
    (fn_Deed___init__ : PySem.W.isFn K (.ref f_Deed___init__) = true)
    (a_Book_put_in : PySem.W.findIn K (.ref C_Book) "put_in" = some (some (.ref f_Book_put_in)))
    (l_Book_put_in : K.lookup f_Book_put_in = some ⟨oc_Book_put_in, od_Book_put_in, .func (PySem.W.fnOf "put_in" "Book.put_in" (defArgs s_Book_put_in) (defBody s_Book_put_in) (defScope s_Book_put_in) .none kV_Book_put_in dc_Book_put_in pm_Book_put_in an_Book_put_in cd_Book_put_in ct_Book_put_in), sl_Book_put_in⟩)
    (c_Book_put_in : PySem.W.codeIn K cd_Book_put_in "Book.put_in" = true)
    (k_Book_put_in : PySem.W.keepIn K (.ref f_Book_put_in) = true)
    (fn_Book_put_in : PySem.W.isFn K (.ref f_Book_put_in) = true)
    (a_Voice___init__ : PySem.W.findIn K (.ref C_Voice) "__init__" = some (some (.ref f_Voice___init__)))
    (l_Voice___init__ : K.lookup f_Voice___init__ = some ⟨oc_Voice___init__, od_Voice___init__, .func (PySem.W.fnOf "__init__" "Voice.__init__" (defArgs s_Voice___init__) (defBody s_Voice___init__) (defScope s_Voice___init__) .none kV_Voice___init__ dc_Voice___init__ pm_Voice___init__ an_Voice___init__ cd_Voice___init__ ct_Voice___init__), sl_Voice___init__⟩)
    (c_Voice___init__ : PySem.W.codeIn K cd_Voice___init__ "Voice.__init__" = true)
    (k_Voice___init__ : PySem.W.keepIn K (.ref f_Voice___init__) = true)
    (fn_Voice___init__ : PySem.W.isFn K (.ref f_Voice___init__) = true)
    (a_Book_add_voice : PySem.W.findIn K (.ref C_Book) "add_voice" = some (some (.ref f_Book_add_voice)))
    (l_Book_add_voice : K.lookup f_Book_add_voice = some ⟨oc_Book_add_voice, od_Book_add_voice, .func (PySem.W.fnOf "add_voice" "Book.add_voice" (defArgs s_Book_add_voice) (defBody s_Book_add_voice) (defScope s_Book_add_voice) .none kV_Book_add_voice dc_Book_add_voice pm_Book_add_voice an_Book_add_voice cd_Book_add_voice ct_Book_add_voice), sl_Book_add_voice⟩)
    (c_Book_add_voice : PySem.W.codeIn K cd_Book_add_voice "Book.add_voice" = true)
    (k_Book_add_voice : PySem.W.keepIn K (.ref f_Book_add_voice) = true)
    (fn_Book_add_voice : PySem.W.isFn K (.ref f_Book_add_voice) = true)
    (a_Book_voice_called : PySem.W.findIn K (.ref C_Book) "voice_called" = some (some (.ref f_Book_voice_called)))
    (l_Book_voice_called : K.lookup f_Book_voice_called = some ⟨oc_Book_voice_called, od_Book_voice_called, .func (PySem.W.fnOf "voice_called" "Book.voice_called" (defArgs s_Book_voice_called) (defBody s_Book_voice_called) (defScope s_Book_voice_called) .none kV_Book_voice_called dc_Book_voice_called pm_Book_voice_called an_Book_voice_called cd_Book_voice_called ct_Book_voice_called), sl_Book_voice_called⟩)
    (c_Book_voice_called : PySem.W.codeIn K cd_Book_voice_called "Book.voice_called" = true)
    (k_Book_voice_called : PySem.W.keepIn K (.ref f_Book_voice_called) = true)
    (fn_Book_voice_called : PySem.W.isFn K (.ref f_Book_voice_called) = true)
    (a_Book_plain_voice : PySem.W.findIn K (.ref C_Book) "plain_voice" = some (some (.ref f_Book_plain_voice)))
    (l_Book_plain_voice : K.lookup f_Book_plain_voice = some ⟨oc_Book_plain_voice, od_Book_plain_voice, .func (PySem.W.fnOf "plain_voice" "Book.plain_voice" (defArgs s_Book_plain_voice) (defBody s_Book_plain_voice) (defScope s_Book_plain_voice) .none kV_Book_plain_voice dc_Book_plain_voice pm_Book_plain_voice an_Book_plain_voice cd_Book_plain_voice ct_Book_plain_voice), sl_Book_plain_voice⟩)
    (c_Book_plain_voice : PySem.W.codeIn K cd_Book_plain_voice "Book.plain_voice" = true)
    (k_Book_plain_voice : PySem.W.keepIn K (.ref f_Book_plain_voice) = true)
    (fn_Book_plain_voice : PySem.W.isFn K (.ref f_Book_plain_voice) = true)
    (a_Book_add_canon : PySem.W.findIn K (.ref C_Book) "add_canon" = some (some (.ref f_Book_add_canon)))
    (l_Book_add_canon : K.lookup f_Book_add_canon = some ⟨oc_Book_add_canon, od_Book_add_canon, .func (PySem.W.fnOf "add_canon" "Book.add_canon" (defArgs s_Book_add_canon) (defBody s_Book_add_canon) (defScope s_Book_add_canon) (.ref df_Book_add_canon) kV_Book_add_canon dc_Book_add_canon pm_Book_add_canon an_Book_add_canon cd_Book_add_canon ct_Book_add_canon), sl_Book_add_canon⟩)
    (c_Book_add_canon : PySem.W.codeIn K cd_Book_add_canon "Book.add_canon" = true)
    (k_Book_add_canon : PySem.W.keepIn K (.ref f_Book_add_canon) = true)
    (fn_Book_add_canon : PySem.W.isFn K (.ref f_Book_add_canon) = true)
    (dl_Book_add_canon : K.lookup df_Book_add_canon = some ⟨ddc_Book_add_canon, ddo_Book_add_canon, .seq #[.int 0 dt0_Book_add_canon, .int 1 dt1_Book_add_canon, .bool false] ddn_Book_add_canon, dds_Book_add_canon⟩)
    (a_l_cell_at : PySem.W.nsIn K mainGlobals "_law_cell_at" = some (some (.ref f_l_cell_at)))
    (l_l_cell_at : K.lookup f_l_cell_at = some ⟨oc_l_cell_at, od_l_cell_at, .func (PySem.W.fnOf "_law_cell_at" "_law_cell_at" (defArgs s_l_cell_at) (defBody s_l_cell_at) (defScope s_l_cell_at) .none kV_l_cell_at dc_l_cell_at pm_l_cell_at an_l_cell_at cd_l_cell_at ct_l_cell_at), sl_l_cell_at⟩)
    (c_l_cell_at : PySem.W.codeIn K cd_l_cell_at "_law_cell_at" = true)
    (k_l_cell_at : PySem.W.keepIn K (.ref f_l_cell_at) = true)
    (a_Book_canon : PySem.W.findIn K (.ref C_Book) "canon" = some (some (.ref f_Book_canon)))
    (l_Book_canon : K.lookup f_Book_canon = some ⟨oc_Book_canon, od_Book_canon, .func (PySem.W.fnOf "canon" "Book.canon" (defArgs s_Book_canon) (defBody s_Book_canon) (defScope s_Book_canon) .none kV_Book_canon dc_Book_canon pm_Book_canon an_Book_canon cd_Book_canon ct_Book_canon), sl_Book_canon⟩)
    (c_Book_canon : PySem.W.codeIn K cd_Book_canon "Book.canon" = true)
    (k_Book_canon : PySem.W.keepIn K (.ref f_Book_canon) = true)
    (fn_Book_canon : PySem.W.isFn K (.ref f_Book_canon) = true)
    (a_Book_line : PySem.W.findIn K (.ref C_Book) "line" = some (some (.ref f_Book_line)))
    (l_Book_line : K.lookup f_Book_line = some ⟨oc_Book_line, od_Book_line, .func (PySem.W.fnOf "line" "Book.line" (defArgs s_Book_line) (defBody s_Book_line) (defScope s_Book_line) .none kV_Book_line dc_Book_line pm_Book_line an_Book_line cd_Book_line ct_Book_line), sl_Book_line⟩)
    (c_Book_line : PySem.W.codeIn K cd_Book_line "Book.line" = true)
    (k_Book_line : PySem.W.keepIn K (.ref f_Book_line) = true)
    (fn_Book_line : PySem.W.isFn K (.ref f_Book_line) = true)
    (a_refuse_other_places : PySem.W.nsIn K mainGlobals "refuse_other_places" = some (some (.ref f_refuse_other_places)))
    (l_refuse_other_places : K.lookup f_refuse_other_places = some ⟨oc_refuse_other_places, od_refuse_other_places, .func (PySem.W.fnOf "refuse_other_places" "refuse_other_places" (defArgs s_refuse_other_places) (defBody s_refuse_other_places) (defScope s_refuse_other_places) .none kV_refuse_other_places dc_refuse_other_places pm_refuse_other_places an_refuse_other_places cd_refuse_other_places ct_refuse_other_places), sl_refuse_other_places⟩)
    (c_refuse_other_places : PySem.W.codeIn K cd_refuse_other_places "refuse_other_places" = true)
    (k_refuse_other_places : PySem.W.keepIn K (.ref f_refuse_other_places) = true)
    (a_Book_cut : PySem.W.findIn K (.ref C_Book) "cut" = some (some (.ref f_Book_cut)))
    (l_Book_cut : K.lookup f_Book_cut = some ⟨oc_Book_cut, od_Book_cut, .func (PySem.W.fnOf "cut" "Book.cut" (defArgs s_Book_cut) (defBody s_Book_cut) (defScope s_Book_cut) .none kV_Book_cut dc_Book_cut pm_Book_cut an_Book_cut cd_Book_cut ct_Book_cut), sl_Book_cut⟩)
    (c_Book_cut : PySem.W.codeIn K cd_Book_cut "Book.cut" = true)
    (k_Book_cut : PySem.W.keepIn K (.ref f_Book_cut) = true)
    (fn_Book_cut : PySem.W.isFn K (.ref f_Book_cut) = true)
    (a_Book_drop : PySem.W.findIn K (.ref C_Book) "drop" = some (some (.ref f_Book_drop)))
    (l_Book_drop : K.lookup f_Book_drop = some ⟨oc_Book_drop, od_Book_drop, .func (PySem.W.fnOf "drop" "Book.drop" (defArgs s_Book_drop) (defBody s_Book_drop) (defScope s_Book_drop) .none kV_Book_drop dc_Book_drop pm_Book_drop an_Book_drop cd_Book_drop ct_Book_drop), sl_Book_drop⟩)
    (c_Book_drop : PySem.W.codeIn K cd_Book_drop "Book.drop" = true)
    (k_Book_drop : PySem.W.keepIn K (.ref f_Book_drop) = true)
    (fn_Book_drop : PySem.W.isFn K (.ref f_Book_drop) = true)
    (a_Book_redo : PySem.W.findIn K (.ref C_Book) "redo" = some (some (.ref f_Book_redo)))
    (l_Book_redo : K.lookup f_Book_redo = some ⟨oc_Book_redo, od_Book_redo, .func (PySem.W.fnOf "redo" "Book.redo" (defArgs s_Book_redo) (defBody s_Book_redo) (defScope s_Book_redo) .none kV_Book_redo dc_Book_redo pm_Book_redo an_Book_redo cd_Book_redo ct_Book_redo), sl_Book_redo⟩)
    (c_Book_redo : PySem.W.codeIn K cd_Book_redo "Book.redo" = true)
    (k_Book_redo : PySem.W.keepIn K (.ref f_Book_redo) = true)
    (fn_Book_redo : PySem.W.isFn K (.ref f_Book_redo) = true)
    (a_good : PySem.W.nsIn K mainGlobals "good" = some (some (.ref f_good)))
    (l_good : K.lookup f_good = some ⟨oc_good, od_good, .func (PySem.W.fnOf "good" "good" (defArgs s_good) (defBody s_good) (defScope s_good) .none kV_good dc_good pm_good an_good cd_good ct_good), sl_good⟩)
    (c_good : PySem.W.codeIn K cd_good "good" = true)
    (k_good : PySem.W.keepIn K (.ref f_good) = true)
    (a_shown_sign : PySem.W.nsIn K mainGlobals "shown_sign" = some (some (.ref f_shown_sign)))
    (l_shown_sign : K.lookup f_shown_sign = some ⟨oc_shown_sign, od_shown_sign, .func (PySem.W.fnOf "shown_sign" "shown_sign" (defArgs s_shown_sign) (defBody s_shown_sign) (defScope s_shown_sign) .none kV_shown_sign dc_shown_sign pm_shown_sign an_shown_sign cd_shown_sign ct_shown_sign), sl_shown_sign⟩)
    (c_shown_sign : PySem.W.codeIn K cd_shown_sign "shown_sign" = true)
    (k_shown_sign : PySem.W.keepIn K (.ref f_shown_sign) = true)
    (a_number_of : PySem.W.nsIn K mainGlobals "number_of" = some (some (.ref f_number_of)))
    (l_number_of : K.lookup f_number_of = some ⟨oc_number_of, od_number_of, .func (PySem.W.fnOf "number_of" "number_of" (defArgs s_number_of) (defBody s_number_of) (defScope s_number_of) .none kV_number_of dc_number_of pm_number_of an_number_of cd_number_of ct_number_of), sl_number_of⟩)
    (c_number_of : PySem.W.codeIn K cd_number_of "number_of" = true)
    (k_number_of : PySem.W.keepIn K (.ref f_number_of) = true)
    (a_sign_of : PySem.W.nsIn K mainGlobals "sign_of" = some (some (.ref f_sign_of)))
    (l_sign_of : K.lookup f_sign_of = some ⟨oc_sign_of, od_sign_of, .func (PySem.W.fnOf "sign_of" "sign_of" (defArgs s_sign_of) (defBody s_sign_of) (defScope s_sign_of) .none kV_sign_of dc_sign_of pm_sign_of an_sign_of cd_sign_of ct_sign_of), sl_sign_of⟩)
    (c_sign_of : PySem.W.codeIn K cd_sign_of "sign_of" = true)
    (k_sign_of : PySem.W.keepIn K (.ref f_sign_of) = true)
    (a_BadWord___init__ : PySem.W.findIn K (.ref C_BadWord) "__init__" = some (some (.ref f_BadWord___init__)))
    (l_BadWord___init__ : K.lookup f_BadWord___init__ = some ⟨oc_BadWord___init__, od_BadWord___init__, .func (PySem.W.fnOf "__init__" "BadWord.__init__" (defArgs s_BadWord___init__) (defBody s_BadWord___init__) (defScope s_BadWord___init__) .none kV_BadWord___init__ dc_BadWord___init__ pm_BadWord___init__ an_BadWord___init__ cd_BadWord___init__ ct_BadWord___init__), sl_BadWord___init__⟩)
    (c_BadWord___init__ : PySem.W.codeIn K cd_BadWord___init__ "BadWord.__init__" = true)
    (k_BadWord___init__ : PySem.W.keepIn K (.ref f_BadWord___init__) = true)
    (fn_BadWord___init__ : PySem.W.isFn K (.ref f_BadWord___init__) = true)
    (a_read_sign : PySem.W.nsIn K mainGlobals "read_sign" = some (some (.ref f_read_sign)))
    (l_read_sign : K.lookup f_read_sign = some ⟨oc_read_sign, od_read_sign, .func (PySem.W.fnOf "read_sign" "read_sign" (defArgs s_read_sign) (defBody s_read_sign) (defScope s_read_sign) .none kV_read_sign dc_read_sign pm_read_sign an_read_sign cd_read_sign ct_read_sign), sl_read_sign⟩)
    (c_read_sign : PySem.W.codeIn K cd_read_sign "read_sign" = true)
    (k_read_sign : PySem.W.keepIn K (.ref f_read_sign) = true)
    (a_take_voice : PySem.W.nsIn K mainGlobals "take_voice" = some (some (.ref f_take_voice)))
    (l_take_voice : K.lookup f_take_voice = some ⟨oc_take_voice, od_take_voice, .func (PySem.W.fnOf "take_voice" "take_voice" (defArgs s_take_voice) (defBody s_take_voice) (defScope s_take_voice) .none kV_take_voice dc_take_voice pm_take_voice an_take_voice cd_take_voice ct_take_voice), sl_take_voice⟩)
    (c_take_voice : PySem.W.codeIn K cd_take_voice "take_voice" = true)
    (k_take_voice : PySem.W.keepIn K (.ref f_take_voice) = true)
    (a_take_row : PySem.W.nsIn K mainGlobals "take_row" = some (some (.ref f_take_row)))
    (l_take_row : K.lookup f_take_row = some ⟨oc_take_row, od_take_row, .func (PySem.W.fnOf "take_row" "take_row" (defArgs s_take_row) (defBody s_take_row) (defScope s_take_row) .none kV_take_row dc_take_row pm_take_row an_take_row cd_take_row ct_take_row), sl_take_row⟩)
    (c_take_row : PySem.W.codeIn K cd_take_row "take_row" = true)
    (k_take_row : PySem.W.keepIn K (.ref f_take_row) = true)
    (a_BadRow___init__ : PySem.W.findIn K (.ref C_BadRow) "__init__" = some (some (.ref f_BadRow___init__)))
    (l_BadRow___init__ : K.lookup f_BadRow___init__ = some ⟨oc_BadRow___init__, od_BadRow___init__, .func (PySem.W.fnOf "__init__" "BadRow.__init__" (defArgs s_BadRow___init__) (defBody s_BadRow___init__) (defScope s_BadRow___init__) .none kV_BadRow___init__ dc_BadRow___init__ pm_BadRow___init__ an_BadRow___init__ cd_BadRow___init__ ct_BadRow___init__), sl_BadRow___init__⟩)
    (c_BadRow___init__ : PySem.W.codeIn K cd_BadRow___init__ "BadRow.__init__" = true)
    (k_BadRow___init__ : PySem.W.keepIn K (.ref f_BadRow___init__) = true)
    (fn_BadRow___init__ : PySem.W.isFn K (.ref f_BadRow___init__) = true)
    (a_read_book : PySem.W.nsIn K mainGlobals "read_book" = some (some (.ref f_read_book)))
    (l_read_book : K.lookup f_read_book = some ⟨oc_read_book, od_read_book, .func (PySem.W.fnOf "read_book" "read_book" (defArgs s_read_book) (defBody s_read_book) (defScope s_read_book) .none kV_read_book dc_read_book pm_read_book an_read_book cd_read_book ct_read_book), sl_read_book⟩)
    (c_read_book : PySem.W.codeIn K cd_read_book "read_book" = true)
    (k_read_book : PySem.W.keepIn K (.ref f_read_book) = true)
    (a_Ear___init__ : PySem.W.findIn K (.ref C_Ear) "__init__" = some (some (.ref f_Ear___init__)))
    (l_Ear___init__ : K.lookup f_Ear___init__ = some ⟨oc_Ear___init__, od_Ear___init__, .func (PySem.W.fnOf "__init__" "Ear.__init__" (defArgs s_Ear___init__) (defBody s_Ear___init__) (defScope s_Ear___init__) (.ref df_Ear___init__) kV_Ear___init__ dc_Ear___init__ pm_Ear___init__ an_Ear___init__ cd_Ear___init__ ct_Ear___init__), sl_Ear___init__⟩)
    (c_Ear___init__ : PySem.W.codeIn K cd_Ear___init__ "Ear.__init__" = true)
    (k_Ear___init__ : PySem.W.keepIn K (.ref f_Ear___init__) = true)
    (fn_Ear___init__ : PySem.W.isFn K (.ref f_Ear___init__) = true)
    (dl_Ear___init__ : K.lookup df_Ear___init__ = some ⟨ddc_Ear___init__, ddo_Ear___init__, .seq #[.int 3 dt0_Ear___init__] ddn_Ear___init__, dds_Ear___init__⟩)
    (a_Ear_refuse_where_closed : PySem.W.findIn K (.ref C_Ear) "refuse_where_closed" = some (some (.ref f_Ear_refuse_where_closed)))
    (l_Ear_refuse_where_closed : K.lookup f_Ear_refuse_where_closed = some ⟨oc_Ear_refuse_where_closed, od_Ear_refuse_where_closed, .func (PySem.W.fnOf "refuse_where_closed" "Ear.refuse_where_closed" (defArgs s_Ear_refuse_where_closed) (defBody s_Ear_refuse_where_closed) (defScope s_Ear_refuse_where_closed) .none kV_Ear_refuse_where_closed dc_Ear_refuse_where_closed pm_Ear_refuse_where_closed an_Ear_refuse_where_closed cd_Ear_refuse_where_closed ct_Ear_refuse_where_closed), sl_Ear_refuse_where_closed⟩)
    (c_Ear_refuse_where_closed : PySem.W.codeIn K cd_Ear_refuse_where_closed "Ear.refuse_where_closed" = true)
    (k_Ear_refuse_where_closed : PySem.W.keepIn K (.ref f_Ear_refuse_where_closed) = true)
    (fn_Ear_refuse_where_closed : PySem.W.isFn K (.ref f_Ear_refuse_where_closed) = true)
    (a_Ear_close_run : PySem.W.findIn K (.ref C_Ear) "close_run" = some (some (.ref f_Ear_close_run)))
    (l_Ear_close_run : K.lookup f_Ear_close_run = some ⟨oc_Ear_close_run, od_Ear_close_run, .func (PySem.W.fnOf "close_run" "Ear.close_run" (defArgs s_Ear_close_run) (defBody s_Ear_close_run) (defScope s_Ear_close_run) .none kV_Ear_close_run dc_Ear_close_run pm_Ear_close_run an_Ear_close_run cd_Ear_close_run ct_Ear_close_run), sl_Ear_close_run⟩)
    (c_Ear_close_run : PySem.W.codeIn K cd_Ear_close_run "Ear.close_run" = true)
    (k_Ear_close_run : PySem.W.keepIn K (.ref f_Ear_close_run) = true)
    (fn_Ear_close_run : PySem.W.isFn K (.ref f_Ear_close_run) = true)
    (a_Ear_let_go : PySem.W.findIn K (.ref C_Ear) "let_go" = some (some (.ref f_Ear_let_go)))
    (l_Ear_let_go : K.lookup f_Ear_let_go = some ⟨oc_Ear_let_go, od_Ear_let_go, .func (PySem.W.fnOf "let_go" "Ear.let_go" (defArgs s_Ear_let_go) (defBody s_Ear_let_go) (defScope s_Ear_let_go) .none kV_Ear_let_go dc_Ear_let_go pm_Ear_let_go an_Ear_let_go cd_Ear_let_go ct_Ear_let_go), sl_Ear_let_go⟩)
    (c_Ear_let_go : PySem.W.codeIn K cd_Ear_let_go "Ear.let_go" = true)
    (k_Ear_let_go : PySem.W.keepIn K (.ref f_Ear_let_go) = true)
    (fn_Ear_let_go : PySem.W.isFn K (.ref f_Ear_let_go) = true)
    (a_Ear_settled_by : PySem.W.findIn K (.ref C_Ear) "settled_by" = some (some (.ref f_Ear_settled_by)))
    (l_Ear_settled_by : K.lookup f_Ear_settled_by = some ⟨oc_Ear_settled_by, od_Ear_settled_by, .func (PySem.W.fnOf "settled_by" "Ear.settled_by" (defArgs s_Ear_settled_by) (defBody s_Ear_settled_by) (defScope s_Ear_settled_by) .none kV_Ear_settled_by dc_Ear_settled_by pm_Ear_settled_by an_Ear_settled_by cd_Ear_settled_by ct_Ear_settled_by), sl_Ear_settled_by⟩)
    (c_Ear_settled_by : PySem.W.codeIn K cd_Ear_settled_by "Ear.settled_by" = true)
    (k_Ear_settled_by : PySem.W.keepIn K (.ref f_Ear_settled_by) = true)
    (fn_Ear_settled_by : PySem.W.isFn K (.ref f_Ear_settled_by) = true)
    (a_Ear_close : PySem.W.findIn K (.ref C_Ear) "close" = some (some (.ref f_Ear_close)))
    (l_Ear_close : K.lookup f_Ear_close = some ⟨oc_Ear_close, od_Ear_close, .func (PySem.W.fnOf "close" "Ear.close" (defArgs s_Ear_close) (defBody s_Ear_close) (defScope s_Ear_close) .none kV_Ear_close dc_Ear_close pm_Ear_close an_Ear_close cd_Ear_close ct_Ear_close), sl_Ear_close⟩)
    (c_Ear_close : PySem.W.codeIn K cd_Ear_close "Ear.close" = true)
    (k_Ear_close : PySem.W.keepIn K (.ref f_Ear_close) = true)
    (fn_Ear_close : PySem.W.isFn K (.ref f_Ear_close) = true)
    (a_Ear_hear : PySem.W.findIn K (.ref C_Ear) "hear" = some (some (.ref f_Ear_hear)))
    (l_Ear_hear : K.lookup f_Ear_hear = some ⟨oc_Ear_hear, od_Ear_hear, .func (PySem.W.fnOf "hear" "Ear.hear" (defArgs s_Ear_hear) (defBody s_Ear_hear) (defScope s_Ear_hear) .none kV_Ear_hear dc_Ear_hear pm_Ear_hear an_Ear_hear cd_Ear_hear ct_Ear_hear), sl_Ear_hear⟩)
    (c_Ear_hear : PySem.W.codeIn K cd_Ear_hear "Ear.hear" = true)
    (k_Ear_hear : PySem.W.keepIn K (.ref f_Ear_hear) = true)
    (fn_Ear_hear : PySem.W.isFn K (.ref f_Ear_hear) = true)
    (a_l_bring : PySem.W.nsIn K mainGlobals "_law_bring" = some (some (.ref f_l_bring)))
    (l_l_bring : K.lookup f_l_bring = some ⟨oc_l_bring, od_l_bring, .func (PySem.W.fnOf "_law_bring" "_law_bring" (defArgs s_l_bring) (defBody s_l_bring) (defScope s_l_bring) .none kV_l_bring dc_l_bring pm_l_bring an_l_bring cd_l_bring ct_l_bring), sl_l_bring⟩)
    (c_l_bring : PySem.W.codeIn K cd_l_bring "_law_bring" = true)
    (k_l_bring : PySem.W.keepIn K (.ref f_l_bring) = true)
    (a_l_kin : PySem.W.nsIn K mainGlobals "_law_kin" = some (some (.ref f_l_kin)))
    (l_l_kin : K.lookup f_l_kin = some ⟨oc_l_kin, od_l_kin, .func (PySem.W.fnOf "_law_kin" "_law_kin" (defArgs s_l_kin) (defBody s_l_kin) (defScope s_l_kin) .none kV_l_kin dc_l_kin pm_l_kin an_l_kin cd_l_kin ct_l_kin), sl_l_kin⟩)
    (c_l_kin : PySem.W.codeIn K cd_l_kin "_law_kin" = true)
    (k_l_kin : PySem.W.keepIn K (.ref f_l_kin) = true)
    (a_law : PySem.W.nsIn K mainGlobals "law" = some (some (.ref f_law)))
    (l_law : K.lookup f_law = some ⟨oc_law, od_law, .func (PySem.W.fnOf "law" "law" (defArgs s_law) (defBody s_law) (defScope s_law) .none kV_law dc_law pm_law an_law cd_law ct_law), sl_law⟩)
    (c_law : PySem.W.codeIn K cd_law "law" = true)
    (k_law : PySem.W.keepIn K (.ref f_law) = true)
    (z_ValueError : PySem.W.nsIn K mainGlobals "ValueError" = some none)
    (z_all : PySem.W.nsIn K mainGlobals "all" = some none)
    (z_any : PySem.W.nsIn K mainGlobals "any" = some none)
    (z_enumerate : PySem.W.nsIn K mainGlobals "enumerate" = some none)
    (z_int : PySem.W.nsIn K mainGlobals "int" = some none)
    (z_isinstance : PySem.W.nsIn K mainGlobals "isinstance" = some none)
    (z_len : PySem.W.nsIn K mainGlobals "len" = some none)
    (z_list : PySem.W.nsIn K mainGlobals "list" = some none)
    (z_min : PySem.W.nsIn K mainGlobals "min" = some none)
    (z_range : PySem.W.nsIn K mainGlobals "range" = some none)
    (a_GREAT_KINDS_ : PySem.W.nsIn K mainGlobals "GREAT_KINDS" = some (some (.ref a_GREAT_KINDS)))
    (l_GREAT_KINDS_ : K.lookup a_GREAT_KINDS = some ⟨.type "tuple", od_GREAT_KINDS, .seq #[.str (Str.ofString "G") t0_GREAT_KINDS, .str (Str.ofString "D") t1_GREAT_KINDS, .str (Str.ofString "R") t2_GREAT_KINDS] n_GREAT_KINDS, sl_GREAT_KINDS⟩)
    (a_SMALL_KINDS_ : PySem.W.nsIn K mainGlobals "SMALL_KINDS" = some (some (.ref a_SMALL_KINDS)))
    (l_SMALL_KINDS_ : K.lookup a_SMALL_KINDS = some ⟨.type "tuple", od_SMALL_KINDS, .seq #[.str (Str.ofString "s") t0_SMALL_KINDS, .str (Str.ofString "d") t1_SMALL_KINDS, .str (Str.ofString "r") t2_SMALL_KINDS] n_SMALL_KINDS, sl_SMALL_KINDS⟩)
    (a_SOUNDING_KINDS_ : PySem.W.nsIn K mainGlobals "SOUNDING_KINDS" = some (some (.ref a_SOUNDING_KINDS)))
    (l_SOUNDING_KINDS_ : K.lookup a_SOUNDING_KINDS = some ⟨.type "tuple", od_SOUNDING_KINDS, .seq #[.str (Str.ofString "G") t0_SOUNDING_KINDS, .str (Str.ofString "D") t1_SOUNDING_KINDS, .str (Str.ofString "s") t2_SOUNDING_KINDS, .str (Str.ofString "d") t3_SOUNDING_KINDS] n_SOUNDING_KINDS, sl_SOUNDING_KINDS⟩)
    (a_SILENT_KINDS_ : PySem.W.nsIn K mainGlobals "SILENT_KINDS" = some (some (.ref a_SILENT_KINDS)))
    (l_SILENT_KINDS_ : K.lookup a_SILENT_KINDS = some ⟨.type "tuple", od_SILENT_KINDS, .seq #[.str (Str.ofString "R") t0_SILENT_KINDS, .str (Str.ofString "r") t1_SILENT_KINDS, .str (Str.ofString ".") t2_SILENT_KINDS, .str (Str.ofString "3") t3_SILENT_KINDS, .str (Str.ofString "2") t4_SILENT_KINDS] n_SILENT_KINDS, sl_SILENT_KINDS⟩)
    (a_HIGHEST_TONE_ : PySem.W.nsIn K mainGlobals "HIGHEST_TONE" = some (some (.int 99 t_HIGHEST_TONE)))
    (a_FIGURES_ : PySem.W.nsIn K mainGlobals "FIGURES" = some (some (.ref a_FIGURES)))
    (l_FIGURES_ : K.lookup a_FIGURES = some ⟨.type "tuple", od_FIGURES, .seq #[.str (Str.ofString "0") t0_FIGURES, .str (Str.ofString "1") t1_FIGURES, .str (Str.ofString "2") t2_FIGURES, .str (Str.ofString "3") t3_FIGURES, .str (Str.ofString "4") t4_FIGURES, .str (Str.ofString "5") t5_FIGURES, .str (Str.ofString "6") t6_FIGURES, .str (Str.ofString "7") t7_FIGURES, .str (Str.ofString "8") t8_FIGURES, .str (Str.ofString "9") t9_FIGURES] n_FIGURES, sl_FIGURES⟩)
    (a_MOST_FIGURES_texts_ : PySem.W.nsIn K mainGlobals "MOST_FIGURES_texts" = some (some (.int 2 t_MOST_FIGURES_texts)))
    (a_SHORTENED_WORTH_ : PySem.W.nsIn K mainGlobals "SHORTENED_WORTH" = some (some (.int 2 t_SHORTENED_WORTH)))
    (a_DOUBLED_WORTH_ : PySem.W.nsIn K mainGlobals "DOUBLED_WORTH" = some (some (.int 2 t_DOUBLED_WORTH)))
    (a_LETTERS_ : PySem.W.nsIn K mainGlobals "LETTERS" = some (some (.str (Str.ofString "abcdefghijklmnopqrstuvwxyz") t_LETTERS)))
    (a_LONGEST_NAME_ : PySem.W.nsIn K mainGlobals "LONGEST_NAME" = some (some (.int 8 t_LONGEST_NAME)))
    (a_MOST_VOICES_ : PySem.W.nsIn K mainGlobals "MOST_VOICES" = some (some (.int 12 t_MOST_VOICES)))
    (a_LATEST_ : PySem.W.nsIn K mainGlobals "LATEST" = some (some (.int 999 t_LATEST)))
    (a_SLOWEST_ : PySem.W.nsIn K mainGlobals "SLOWEST" = some (some (.int 9 t_SLOWEST)))
    (a_NOTHING_MORE_ : PySem.W.nsIn K mainGlobals "NOTHING_MORE" = some (some (.str (Str.ofString "") t_NOTHING_MORE)))
    (mkm_Voice : PySem.W.makesIn K C_Voice = true)
    (mkk_Voice : PySem.W.keepIn K (.ref C_Voice) = true)
    (pg_Voice : PySem.W.plainGet K C_Voice Str.empty = true)
    (hd_Voice : PySem.W.hasDictIn K C_Voice = true)
    (po_Voice : PySem.W.plainOver K C_Voice = true)
    (sa_Voice : PySem.W.findIn K (.ref C_Voice) "__setattr__" = some (some (.builtin "object.__setattr__")))
    (na_Voice_name : PySem.W.findIn K (.ref C_Voice) "name" = some none)
    (na_Voice_terms : PySem.W.findIn K (.ref C_Voice) "terms" = some none)
    (na_Voice_signs : PySem.W.findIn K (.ref C_Voice) "signs" = some none)
    (mkm_Deed : PySem.W.makesIn K C_Deed = true)
    (mkk_Deed : PySem.W.keepIn K (.ref C_Deed) = true)
    (pg_Deed : PySem.W.plainGet K C_Deed Str.empty = true)
    (hd_Deed : PySem.W.hasDictIn K C_Deed = true)
    (po_Deed : PySem.W.plainOver K C_Deed = true)
    (sa_Deed : PySem.W.findIn K (.ref C_Deed) "__setattr__" = some (some (.builtin "object.__setattr__")))
    (na_Deed_things : PySem.W.findIn K (.ref C_Deed) "things" = some none)
    (na_Deed_at : PySem.W.findIn K (.ref C_Deed) "at" = some none)
    (na_Deed_before : PySem.W.findIn K (.ref C_Deed) "before" = some none)
    (na_Deed_after : PySem.W.findIn K (.ref C_Deed) "after" = some none)
    (mkm_Book : PySem.W.makesIn K C_Book = true)
    (mkk_Book : PySem.W.keepIn K (.ref C_Book) = true)
    (pg_Book : PySem.W.plainGet K C_Book Str.empty = true)
    (hd_Book : PySem.W.hasDictIn K C_Book = true)
    (po_Book : PySem.W.plainOver K C_Book = true)
    (sa_Book : PySem.W.findIn K (.ref C_Book) "__setattr__" = some (some (.builtin "object.__setattr__")))
    (na_Book_voices : PySem.W.findIn K (.ref C_Book) "voices" = some none)
    (na_Book_done : PySem.W.findIn K (.ref C_Book) "done" = some none)
    (na_Book_undone : PySem.W.findIn K (.ref C_Book) "undone" = some none)
    (mkm_Ear : PySem.W.makesIn K C_Ear = true)
    (mkk_Ear : PySem.W.keepIn K (.ref C_Ear) = true)
    (pg_Ear : PySem.W.plainGet K C_Ear Str.empty = true)
    (hd_Ear : PySem.W.hasDictIn K C_Ear = true)
    (po_Ear : PySem.W.plainOver K C_Ear = true)
    (sa_Ear : PySem.W.findIn K (.ref C_Ear) "__setattr__" = some (some (.builtin "object.__setattr__")))
    (na_Ear_measure : PySem.W.findIn K (.ref C_Ear) "measure" = some none)
    (na_Ear_held : PySem.W.findIn K (.ref C_Ear) "held" = some none)
    (na_Ear_left : PySem.W.findIn K (.ref C_Ear) "left" = some none)
    (na_Ear_right : PySem.W.findIn K (.ref C_Ear) "right" = some none)
    (na_Ear_counted : PySem.W.findIn K (.ref C_Ear) "counted" = some none)
    (na_Ear_last : PySem.W.findIn K (.ref C_Ear) "last" = some none)
    (na_Ear_is_closed : PySem.W.findIn K (.ref C_Ear) "is_closed" = some none)
    (xo_BadWord : K.lookup C_BadWord = some (excClassObj xnm_BadWord xqn_BadWord C_BadWord xN_BadWord xbs_BadWord xbm_BadWord true xsn_BadWord xsub_BadWord xab_BadWord xcol_BadWord xdd_BadWord xk0_BadWord xk1_BadWord xk2_BadWord xk3_BadWord xk5_BadWord "ValueError.__new__"))
    (xok_BadWord : PySem.W.nsOkIn K xN_BadWord = true)
    (xin_BadWord : PySem.W.nsIn K xN_BadWord "__init__" = some (some (.ref f_BadWord___init__)))
    (xtl_BadWord : PySem.W.tailIn K veMro xbm_BadWord = true)
    (xfn_BadWord : PySem.W.typeIn K (.ref f_BadWord___init__) = some (.type "function"))
    (xcl_BadWord : PySem.W.clsIn K C_BadWord = some xcd_BadWord)
    (xve_BadWord : endsVE xcd_BadWord.mro = true)
    (xhd_BadWord : xcd_BadWord.hasDict = true)
    (xsa_BadWord : PySem.W.findIn K (.ref C_BadWord) "__setattr__" = some (some (.builtin "object.__setattr__")))
    (xg_BadWord : PySem.W.findIn K (.ref C_BadWord) "__getattribute__" = some (some (.builtin "BaseException.__getattribute__")))
    (xn_BadWord : PySem.W.findIn K (.ref C_BadWord) "__getattr__" = some none)
    (xc_BadWord : PySem.W.findIn K (.ref C_BadWord) "__class__" = some (some (.builtin "object.__class__")))
    (xkp_BadWord : PySem.W.keepIn K (.ref C_BadWord) = true)
    (na_BadWord_at : PySem.W.findIn K (.ref C_BadWord) "at" = some none)
    (xo_BadRow : K.lookup C_BadRow = some (excClassObj xnm_BadRow xqn_BadRow C_BadRow xN_BadRow xbs_BadRow xbm_BadRow true xsn_BadRow xsub_BadRow xab_BadRow xcol_BadRow xdd_BadRow xk0_BadRow xk1_BadRow xk2_BadRow xk3_BadRow xk5_BadRow "ValueError.__new__"))
    (xok_BadRow : PySem.W.nsOkIn K xN_BadRow = true)
    (xin_BadRow : PySem.W.nsIn K xN_BadRow "__init__" = some (some (.ref f_BadRow___init__)))
    (xtl_BadRow : PySem.W.tailIn K veMro xbm_BadRow = true)
    (xfn_BadRow : PySem.W.typeIn K (.ref f_BadRow___init__) = some (.type "function"))
    (xcl_BadRow : PySem.W.clsIn K C_BadRow = some xcd_BadRow)
    (xve_BadRow : endsVE xcd_BadRow.mro = true)
    (xhd_BadRow : xcd_BadRow.hasDict = true)
    (xsa_BadRow : PySem.W.findIn K (.ref C_BadRow) "__setattr__" = some (some (.builtin "object.__setattr__")))
    (xg_BadRow : PySem.W.findIn K (.ref C_BadRow) "__getattribute__" = some (some (.builtin "BaseException.__getattribute__")))
    (xn_BadRow : PySem.W.findIn K (.ref C_BadRow) "__getattr__" = some none)
    (xc_BadRow : PySem.W.findIn K (.ref C_BadRow) "__class__" = some (some (.builtin "object.__class__")))
    (xkp_BadRow : PySem.W.keepIn K (.ref C_BadRow) = true)
    (na_BadRow_at : PySem.W.findIn K (.ref C_BadRow) "at" = some none)
    (xsp_NoteError : PySem.W.specialIn K (.ref C_NoteError) "__getattribute__" = some (some (.builtin "type.__getattribute__")))
    (xrd_NoteError : PySem.W.readsIn K C_NoteError (.type "type") = true)
    (xfd_NoteError : PySem.W.findCls K (.ref C_NoteError) (.type "type") "__init__" = some (.val (.builtin "ValueError.__init__")))
    (xe_BadName : PySem.W.excIn K C_BadName veMro "ValueError.__new__" = true)
    (xg_BadName : PySem.W.findIn K (.ref C_BadName) "__getattribute__" = some (some (.builtin "BaseException.__getattribute__")))
    (xn_BadName : PySem.W.findIn K (.ref C_BadName) "__getattr__" = some none)
    (xc_BadName : PySem.W.findIn K (.ref C_BadName) "__class__" = some (some (.builtin "object.__class__")))
    (xe_NameTaken : PySem.W.excIn K C_NameTaken veMro "ValueError.__new__" = true)
    (xg_NameTaken : PySem.W.findIn K (.ref C_NameTaken) "__getattribute__" = some (some (.builtin "BaseException.__getattribute__")))
    (xn_NameTaken : PySem.W.findIn K (.ref C_NameTaken) "__getattr__" = some none)
    (xc_NameTaken : PySem.W.findIn K (.ref C_NameTaken) "__class__" = some (some (.builtin "object.__class__")))
    (xe_Full : PySem.W.excIn K C_Full veMro "ValueError.__new__" = true)
    (xg_Full : PySem.W.findIn K (.ref C_Full) "__getattribute__" = some (some (.builtin "BaseException.__getattribute__")))
    (xn_Full : PySem.W.findIn K (.ref C_Full) "__getattr__" = some none)
    (xc_Full : PySem.W.findIn K (.ref C_Full) "__class__" = some (some (.builtin "object.__class__")))
    (xe_NoVoice : PySem.W.excIn K C_NoVoice veMro "ValueError.__new__" = true)
    (xg_NoVoice : PySem.W.findIn K (.ref C_NoVoice) "__getattribute__" = some (some (.builtin "BaseException.__getattribute__")))
    (xn_NoVoice : PySem.W.findIn K (.ref C_NoVoice) "__getattr__" = some none)
    (xc_NoVoice : PySem.W.findIn K (.ref C_NoVoice) "__class__" = some (some (.builtin "object.__class__")))
    (xe_NotPlain : PySem.W.excIn K C_NotPlain veMro "ValueError.__new__" = true)
    (xg_NotPlain : PySem.W.findIn K (.ref C_NotPlain) "__getattribute__" = some (some (.builtin "BaseException.__getattribute__")))
    (xn_NotPlain : PySem.W.findIn K (.ref C_NotPlain) "__getattr__" = some none)
    (xc_NotPlain : PySem.W.findIn K (.ref C_NotPlain) "__class__" = some (some (.builtin "object.__class__")))
    (xe_BadTerm : PySem.W.excIn K C_BadTerm veMro "ValueError.__new__" = true)
    (xg_BadTerm : PySem.W.findIn K (.ref C_BadTerm) "__getattribute__" = some (some (.builtin "BaseException.__getattribute__")))
    (xn_BadTerm : PySem.W.findIn K (.ref C_BadTerm) "__getattr__" = some none)
    (xc_BadTerm : PySem.W.findIn K (.ref C_BadTerm) "__class__" = some (some (.builtin "object.__class__")))
    (xe_NoPlace : PySem.W.excIn K C_NoPlace veMro "ValueError.__new__" = true)
    (xg_NoPlace : PySem.W.findIn K (.ref C_NoPlace) "__getattribute__" = some (some (.builtin "BaseException.__getattribute__")))
    (xn_NoPlace : PySem.W.findIn K (.ref C_NoPlace) "__getattr__" = some none)
    (xc_NoPlace : PySem.W.findIn K (.ref C_NoPlace) "__class__" = some (some (.builtin "object.__class__")))
    (xe_Leaned : PySem.W.excIn K C_Leaned veMro "ValueError.__new__" = true)
    (xg_Leaned : PySem.W.findIn K (.ref C_Leaned) "__getattribute__" = some (some (.builtin "BaseException.__getattribute__")))
    (xn_Leaned : PySem.W.findIn K (.ref C_Leaned) "__getattr__" = some none)
    (xc_Leaned : PySem.W.findIn K (.ref C_Leaned) "__class__" = some (some (.builtin "object.__class__")))
    (xe_NoMore : PySem.W.excIn K C_NoMore veMro "ValueError.__new__" = true)
    (xg_NoMore : PySem.W.findIn K (.ref C_NoMore) "__getattribute__" = some (some (.builtin "BaseException.__getattribute__")))
    (xn_NoMore : PySem.W.findIn K (.ref C_NoMore) "__getattr__" = some none)
    (xc_NoMore : PySem.W.findIn K (.ref C_NoMore) "__class__" = some (some (.builtin "object.__class__")))
    (xe_BadSign : PySem.W.excIn K C_BadSign veMro "ValueError.__new__" = true)
    (xg_BadSign : PySem.W.findIn K (.ref C_BadSign) "__getattribute__" = some (some (.builtin "BaseException.__getattribute__")))
    (xn_BadSign : PySem.W.findIn K (.ref C_BadSign) "__getattr__" = some none)
    (xc_BadSign : PySem.W.findIn K (.ref C_BadSign) "__class__" = some (some (.builtin "object.__class__")))
    (xe_Closed : PySem.W.excIn K C_Closed veMro "ValueError.__new__" = true)
    (xg_Closed : PySem.W.findIn K (.ref C_Closed) "__getattribute__" = some (some (.builtin "BaseException.__getattribute__")))
    (xn_Closed : PySem.W.findIn K (.ref C_Closed) "__getattr__" = some none)
    (xc_Closed : PySem.W.findIn K (.ref C_Closed) "__class__" = some (some (.builtin "object.__class__")))
    (xm_BadName_NoteError : PySem.W.exmOne K (.ref C_BadName) (.ref C_NoteError) = some true)
    (xm_NameTaken_NoteError : PySem.W.exmOne K (.ref C_NameTaken) (.ref C_NoteError) = some true)
    (xm_Full_NoteError : PySem.W.exmOne K (.ref C_Full) (.ref C_NoteError) = some true)
    (xm_NoVoice_NoteError : PySem.W.exmOne K (.ref C_NoVoice) (.ref C_NoteError) = some true)
    (xm_NotPlain_NoteError : PySem.W.exmOne K (.ref C_NotPlain) (.ref C_NoteError) = some true)
    (xm_BadTerm_NoteError : PySem.W.exmOne K (.ref C_BadTerm) (.ref C_NoteError) = some true)
    (xm_NoPlace_NoteError : PySem.W.exmOne K (.ref C_NoPlace) (.ref C_NoteError) = some true)
    (xm_Leaned_NoteError : PySem.W.exmOne K (.ref C_Leaned) (.ref C_NoteError) = some true)
    (xm_NoMore_NoteError : PySem.W.exmOne K (.ref C_NoMore) (.ref C_NoteError) = some true)
    (xm_BadSign_NoteError : PySem.W.exmOne K (.ref C_BadSign) (.ref C_NoteError) = some true)
    (xm_Closed_NoteError : PySem.W.exmOne K (.ref C_Closed) (.ref C_NoteError) = some true)
    (xm_BadWord_NoteError : PySem.W.exmOne K (.ref C_BadWord) (.ref C_NoteError) = some true)
    (xm_BadRow_NoteError : PySem.W.exmOne K (.ref C_BadRow) (.ref C_NoteError) = some true)
    (ki_BadName_BadName : PySem.W.kitOne K (.ref C_BadName) (.ref C_BadName) = some true)
    (ki_NameTaken_BadName : PySem.W.kitOne K (.ref C_NameTaken) (.ref C_BadName) = some false)
    (ki_Full_BadName : PySem.W.kitOne K (.ref C_Full) (.ref C_BadName) = some false)
    (ki_NoVoice_BadName : PySem.W.kitOne K (.ref C_NoVoice) (.ref C_BadName) = some false)
    (ki_NotPlain_BadName : PySem.W.kitOne K (.ref C_NotPlain) (.ref C_BadName) = some false)
    (ki_BadTerm_BadName : PySem.W.kitOne K (.ref C_BadTerm) (.ref C_BadName) = some false)
    (ki_NoPlace_BadName : PySem.W.kitOne K (.ref C_NoPlace) (.ref C_BadName) = some false)
    (ki_Leaned_BadName : PySem.W.kitOne K (.ref C_Leaned) (.ref C_BadName) = some false)
    (ki_NoMore_BadName : PySem.W.kitOne K (.ref C_NoMore) (.ref C_BadName) = some false)
    (ki_BadSign_BadName : PySem.W.kitOne K (.ref C_BadSign) (.ref C_BadName) = some false)
    (ki_Closed_BadName : PySem.W.kitOne K (.ref C_Closed) (.ref C_BadName) = some false)
    (ki_BadWord_BadName : PySem.W.kitOne K (.ref C_BadWord) (.ref C_BadName) = some false)
    (ki_BadRow_BadName : PySem.W.kitOne K (.ref C_BadRow) (.ref C_BadName) = some false)
    (ki_BadName_NameTaken : PySem.W.kitOne K (.ref C_BadName) (.ref C_NameTaken) = some false)
    (ki_NameTaken_NameTaken : PySem.W.kitOne K (.ref C_NameTaken) (.ref C_NameTaken) = some true)
    (ki_Full_NameTaken : PySem.W.kitOne K (.ref C_Full) (.ref C_NameTaken) = some false)
    (ki_NoVoice_NameTaken : PySem.W.kitOne K (.ref C_NoVoice) (.ref C_NameTaken) = some false)
    (ki_NotPlain_NameTaken : PySem.W.kitOne K (.ref C_NotPlain) (.ref C_NameTaken) = some false)
    (ki_BadTerm_NameTaken : PySem.W.kitOne K (.ref C_BadTerm) (.ref C_NameTaken) = some false)
    (ki_NoPlace_NameTaken : PySem.W.kitOne K (.ref C_NoPlace) (.ref C_NameTaken) = some false)
    (ki_Leaned_NameTaken : PySem.W.kitOne K (.ref C_Leaned) (.ref C_NameTaken) = some false)
    (ki_NoMore_NameTaken : PySem.W.kitOne K (.ref C_NoMore) (.ref C_NameTaken) = some false)
    (ki_BadSign_NameTaken : PySem.W.kitOne K (.ref C_BadSign) (.ref C_NameTaken) = some false)
    (ki_Closed_NameTaken : PySem.W.kitOne K (.ref C_Closed) (.ref C_NameTaken) = some false)
    (ki_BadWord_NameTaken : PySem.W.kitOne K (.ref C_BadWord) (.ref C_NameTaken) = some false)
    (ki_BadRow_NameTaken : PySem.W.kitOne K (.ref C_BadRow) (.ref C_NameTaken) = some false)
    (ki_BadName_NoVoice : PySem.W.kitOne K (.ref C_BadName) (.ref C_NoVoice) = some false)
    (ki_NameTaken_NoVoice : PySem.W.kitOne K (.ref C_NameTaken) (.ref C_NoVoice) = some false)
    (ki_Full_NoVoice : PySem.W.kitOne K (.ref C_Full) (.ref C_NoVoice) = some false)
    (ki_NoVoice_NoVoice : PySem.W.kitOne K (.ref C_NoVoice) (.ref C_NoVoice) = some true)
    (ki_NotPlain_NoVoice : PySem.W.kitOne K (.ref C_NotPlain) (.ref C_NoVoice) = some false)
    (ki_BadTerm_NoVoice : PySem.W.kitOne K (.ref C_BadTerm) (.ref C_NoVoice) = some false)
    (ki_NoPlace_NoVoice : PySem.W.kitOne K (.ref C_NoPlace) (.ref C_NoVoice) = some false)
    (ki_Leaned_NoVoice : PySem.W.kitOne K (.ref C_Leaned) (.ref C_NoVoice) = some false)
    (ki_NoMore_NoVoice : PySem.W.kitOne K (.ref C_NoMore) (.ref C_NoVoice) = some false)
    (ki_BadSign_NoVoice : PySem.W.kitOne K (.ref C_BadSign) (.ref C_NoVoice) = some false)
    (ki_Closed_NoVoice : PySem.W.kitOne K (.ref C_Closed) (.ref C_NoVoice) = some false)
    (ki_BadWord_NoVoice : PySem.W.kitOne K (.ref C_BadWord) (.ref C_NoVoice) = some false)
    (ki_BadRow_NoVoice : PySem.W.kitOne K (.ref C_BadRow) (.ref C_NoVoice) = some false)
    (ki_BadName_NotPlain : PySem.W.kitOne K (.ref C_BadName) (.ref C_NotPlain) = some false)
    (ki_NameTaken_NotPlain : PySem.W.kitOne K (.ref C_NameTaken) (.ref C_NotPlain) = some false)
    (ki_Full_NotPlain : PySem.W.kitOne K (.ref C_Full) (.ref C_NotPlain) = some false)
    (ki_NoVoice_NotPlain : PySem.W.kitOne K (.ref C_NoVoice) (.ref C_NotPlain) = some false)
    (ki_NotPlain_NotPlain : PySem.W.kitOne K (.ref C_NotPlain) (.ref C_NotPlain) = some true)
    (ki_BadTerm_NotPlain : PySem.W.kitOne K (.ref C_BadTerm) (.ref C_NotPlain) = some false)
    (ki_NoPlace_NotPlain : PySem.W.kitOne K (.ref C_NoPlace) (.ref C_NotPlain) = some false)
    (ki_Leaned_NotPlain : PySem.W.kitOne K (.ref C_Leaned) (.ref C_NotPlain) = some false)
    (ki_NoMore_NotPlain : PySem.W.kitOne K (.ref C_NoMore) (.ref C_NotPlain) = some false)
    (ki_BadSign_NotPlain : PySem.W.kitOne K (.ref C_BadSign) (.ref C_NotPlain) = some false)
    (ki_Closed_NotPlain : PySem.W.kitOne K (.ref C_Closed) (.ref C_NotPlain) = some false)
    (ki_BadWord_NotPlain : PySem.W.kitOne K (.ref C_BadWord) (.ref C_NotPlain) = some false)
    (ki_BadRow_NotPlain : PySem.W.kitOne K (.ref C_BadRow) (.ref C_NotPlain) = some false)
    (ki_BadName_NoPlace : PySem.W.kitOne K (.ref C_BadName) (.ref C_NoPlace) = some false)
    (ki_NameTaken_NoPlace : PySem.W.kitOne K (.ref C_NameTaken) (.ref C_NoPlace) = some false)
    (ki_Full_NoPlace : PySem.W.kitOne K (.ref C_Full) (.ref C_NoPlace) = some false)
    (ki_NoVoice_NoPlace : PySem.W.kitOne K (.ref C_NoVoice) (.ref C_NoPlace) = some false)
    (ki_NotPlain_NoPlace : PySem.W.kitOne K (.ref C_NotPlain) (.ref C_NoPlace) = some false)
    (ki_BadTerm_NoPlace : PySem.W.kitOne K (.ref C_BadTerm) (.ref C_NoPlace) = some false)
    (ki_NoPlace_NoPlace : PySem.W.kitOne K (.ref C_NoPlace) (.ref C_NoPlace) = some true)
    (ki_Leaned_NoPlace : PySem.W.kitOne K (.ref C_Leaned) (.ref C_NoPlace) = some false)
    (ki_NoMore_NoPlace : PySem.W.kitOne K (.ref C_NoMore) (.ref C_NoPlace) = some false)
    (ki_BadSign_NoPlace : PySem.W.kitOne K (.ref C_BadSign) (.ref C_NoPlace) = some false)
    (ki_Closed_NoPlace : PySem.W.kitOne K (.ref C_Closed) (.ref C_NoPlace) = some false)
    (ki_BadWord_NoPlace : PySem.W.kitOne K (.ref C_BadWord) (.ref C_NoPlace) = some false)
    (ki_BadRow_NoPlace : PySem.W.kitOne K (.ref C_BadRow) (.ref C_NoPlace) = some false)
    (ki_BadName_BadTerm : PySem.W.kitOne K (.ref C_BadName) (.ref C_BadTerm) = some false)
    (ki_NameTaken_BadTerm : PySem.W.kitOne K (.ref C_NameTaken) (.ref C_BadTerm) = some false)
    (ki_Full_BadTerm : PySem.W.kitOne K (.ref C_Full) (.ref C_BadTerm) = some false)
    (ki_NoVoice_BadTerm : PySem.W.kitOne K (.ref C_NoVoice) (.ref C_BadTerm) = some false)
    (ki_NotPlain_BadTerm : PySem.W.kitOne K (.ref C_NotPlain) (.ref C_BadTerm) = some false)
    (ki_BadTerm_BadTerm : PySem.W.kitOne K (.ref C_BadTerm) (.ref C_BadTerm) = some true)
    (ki_NoPlace_BadTerm : PySem.W.kitOne K (.ref C_NoPlace) (.ref C_BadTerm) = some false)
    (ki_Leaned_BadTerm : PySem.W.kitOne K (.ref C_Leaned) (.ref C_BadTerm) = some false)
    (ki_NoMore_BadTerm : PySem.W.kitOne K (.ref C_NoMore) (.ref C_BadTerm) = some false)
    (ki_BadSign_BadTerm : PySem.W.kitOne K (.ref C_BadSign) (.ref C_BadTerm) = some false)
    (ki_Closed_BadTerm : PySem.W.kitOne K (.ref C_Closed) (.ref C_BadTerm) = some false)
    (ki_BadWord_BadTerm : PySem.W.kitOne K (.ref C_BadWord) (.ref C_BadTerm) = some false)
    (ki_BadRow_BadTerm : PySem.W.kitOne K (.ref C_BadRow) (.ref C_BadTerm) = some false)
    (ki_BadName_Leaned : PySem.W.kitOne K (.ref C_BadName) (.ref C_Leaned) = some false)
    (ki_NameTaken_Leaned : PySem.W.kitOne K (.ref C_NameTaken) (.ref C_Leaned) = some false)
    (ki_Full_Leaned : PySem.W.kitOne K (.ref C_Full) (.ref C_Leaned) = some false)
    (ki_NoVoice_Leaned : PySem.W.kitOne K (.ref C_NoVoice) (.ref C_Leaned) = some false)
    (ki_NotPlain_Leaned : PySem.W.kitOne K (.ref C_NotPlain) (.ref C_Leaned) = some false)
    (ki_BadTerm_Leaned : PySem.W.kitOne K (.ref C_BadTerm) (.ref C_Leaned) = some false)
    (ki_NoPlace_Leaned : PySem.W.kitOne K (.ref C_NoPlace) (.ref C_Leaned) = some false)
    (ki_Leaned_Leaned : PySem.W.kitOne K (.ref C_Leaned) (.ref C_Leaned) = some true)
    (ki_NoMore_Leaned : PySem.W.kitOne K (.ref C_NoMore) (.ref C_Leaned) = some false)
    (ki_BadSign_Leaned : PySem.W.kitOne K (.ref C_BadSign) (.ref C_Leaned) = some false)
    (ki_Closed_Leaned : PySem.W.kitOne K (.ref C_Closed) (.ref C_Leaned) = some false)
    (ki_BadWord_Leaned : PySem.W.kitOne K (.ref C_BadWord) (.ref C_Leaned) = some false)
    (ki_BadRow_Leaned : PySem.W.kitOne K (.ref C_BadRow) (.ref C_Leaned) = some false)
    (ki_BadName_NoMore : PySem.W.kitOne K (.ref C_BadName) (.ref C_NoMore) = some false)
    (ki_NameTaken_NoMore : PySem.W.kitOne K (.ref C_NameTaken) (.ref C_NoMore) = some false)
    (ki_Full_NoMore : PySem.W.kitOne K (.ref C_Full) (.ref C_NoMore) = some false)
    (ki_NoVoice_NoMore : PySem.W.kitOne K (.ref C_NoVoice) (.ref C_NoMore) = some false)
    (ki_NotPlain_NoMore : PySem.W.kitOne K (.ref C_NotPlain) (.ref C_NoMore) = some false)
    (ki_BadTerm_NoMore : PySem.W.kitOne K (.ref C_BadTerm) (.ref C_NoMore) = some false)
    (ki_NoPlace_NoMore : PySem.W.kitOne K (.ref C_NoPlace) (.ref C_NoMore) = some false)
    (ki_Leaned_NoMore : PySem.W.kitOne K (.ref C_Leaned) (.ref C_NoMore) = some false)
    (ki_NoMore_NoMore : PySem.W.kitOne K (.ref C_NoMore) (.ref C_NoMore) = some true)
    (ki_BadSign_NoMore : PySem.W.kitOne K (.ref C_BadSign) (.ref C_NoMore) = some false)
    (ki_Closed_NoMore : PySem.W.kitOne K (.ref C_Closed) (.ref C_NoMore) = some false)
    (ki_BadWord_NoMore : PySem.W.kitOne K (.ref C_BadWord) (.ref C_NoMore) = some false)
    (ki_BadRow_NoMore : PySem.W.kitOne K (.ref C_BadRow) (.ref C_NoMore) = some false)
    (ki_BadName_BadSign : PySem.W.kitOne K (.ref C_BadName) (.ref C_BadSign) = some false)
    (ki_NameTaken_BadSign : PySem.W.kitOne K (.ref C_NameTaken) (.ref C_BadSign) = some false)
    (ki_Full_BadSign : PySem.W.kitOne K (.ref C_Full) (.ref C_BadSign) = some false)
    (ki_NoVoice_BadSign : PySem.W.kitOne K (.ref C_NoVoice) (.ref C_BadSign) = some false)
    (ki_NotPlain_BadSign : PySem.W.kitOne K (.ref C_NotPlain) (.ref C_BadSign) = some false)
    (ki_BadTerm_BadSign : PySem.W.kitOne K (.ref C_BadTerm) (.ref C_BadSign) = some false)
    (ki_NoPlace_BadSign : PySem.W.kitOne K (.ref C_NoPlace) (.ref C_BadSign) = some false)
    (ki_Leaned_BadSign : PySem.W.kitOne K (.ref C_Leaned) (.ref C_BadSign) = some false)
    (ki_NoMore_BadSign : PySem.W.kitOne K (.ref C_NoMore) (.ref C_BadSign) = some false)
    (ki_BadSign_BadSign : PySem.W.kitOne K (.ref C_BadSign) (.ref C_BadSign) = some true)
    (ki_Closed_BadSign : PySem.W.kitOne K (.ref C_Closed) (.ref C_BadSign) = some false)
    (ki_BadWord_BadSign : PySem.W.kitOne K (.ref C_BadWord) (.ref C_BadSign) = some false)
    (ki_BadRow_BadSign : PySem.W.kitOne K (.ref C_BadRow) (.ref C_BadSign) = some false)
    (ki_BadName_BadWord : PySem.W.kitOne K (.ref C_BadName) (.ref C_BadWord) = some false)
    (ki_NameTaken_BadWord : PySem.W.kitOne K (.ref C_NameTaken) (.ref C_BadWord) = some false)
    (ki_Full_BadWord : PySem.W.kitOne K (.ref C_Full) (.ref C_BadWord) = some false)
    (ki_NoVoice_BadWord : PySem.W.kitOne K (.ref C_NoVoice) (.ref C_BadWord) = some false)
    (ki_NotPlain_BadWord : PySem.W.kitOne K (.ref C_NotPlain) (.ref C_BadWord) = some false)
    (ki_BadTerm_BadWord : PySem.W.kitOne K (.ref C_BadTerm) (.ref C_BadWord) = some false)
    (ki_NoPlace_BadWord : PySem.W.kitOne K (.ref C_NoPlace) (.ref C_BadWord) = some false)
    (ki_Leaned_BadWord : PySem.W.kitOne K (.ref C_Leaned) (.ref C_BadWord) = some false)
    (ki_NoMore_BadWord : PySem.W.kitOne K (.ref C_NoMore) (.ref C_BadWord) = some false)
    (ki_BadSign_BadWord : PySem.W.kitOne K (.ref C_BadSign) (.ref C_BadWord) = some false)
    (ki_Closed_BadWord : PySem.W.kitOne K (.ref C_Closed) (.ref C_BadWord) = some false)
    (ki_BadWord_BadWord : PySem.W.kitOne K (.ref C_BadWord) (.ref C_BadWord) = some true)
    (ki_BadRow_BadWord : PySem.W.kitOne K (.ref C_BadRow) (.ref C_BadWord) = some false)
    (ki_BadName_BadRow : PySem.W.kitOne K (.ref C_BadName) (.ref C_BadRow) = some false)
    (ki_NameTaken_BadRow : PySem.W.kitOne K (.ref C_NameTaken) (.ref C_BadRow) = some false)
    (ki_Full_BadRow : PySem.W.kitOne K (.ref C_Full) (.ref C_BadRow) = some false)
    (ki_NoVoice_BadRow : PySem.W.kitOne K (.ref C_NoVoice) (.ref C_BadRow) = some false)
    (ki_NotPlain_BadRow : PySem.W.kitOne K (.ref C_NotPlain) (.ref C_BadRow) = some false)
    (ki_BadTerm_BadRow : PySem.W.kitOne K (.ref C_BadTerm) (.ref C_BadRow) = some false)
    (ki_NoPlace_BadRow : PySem.W.kitOne K (.ref C_NoPlace) (.ref C_BadRow) = some false)
    (ki_Leaned_BadRow : PySem.W.kitOne K (.ref C_Leaned) (.ref C_BadRow) = some false)
    (ki_NoMore_BadRow : PySem.W.kitOne K (.ref C_NoMore) (.ref C_BadRow) = some false)
    (ki_BadSign_BadRow : PySem.W.kitOne K (.ref C_BadSign) (.ref C_BadRow) = some false)
    (ki_Closed_BadRow : PySem.W.kitOne K (.ref C_Closed) (.ref C_BadRow) = some false)
    (ki_BadWord_BadRow : PySem.W.kitOne K (.ref C_BadWord) (.ref C_BadRow) = some false)
    (ki_BadRow_BadRow : PySem.W.kitOne K (.ref C_BadRow) (.ref C_BadRow) = some true)
    (ki_BadName_Full : PySem.W.kitOne K (.ref C_BadName) (.ref C_Full) = some false)
    (ki_NameTaken_Full : PySem.W.kitOne K (.ref C_NameTaken) (.ref C_Full) = some false)
    (ki_Full_Full : PySem.W.kitOne K (.ref C_Full) (.ref C_Full) = some true)
    (ki_NoVoice_Full : PySem.W.kitOne K (.ref C_NoVoice) (.ref C_Full) = some false)
    (ki_NotPlain_Full : PySem.W.kitOne K (.ref C_NotPlain) (.ref C_Full) = some false)
    (ki_BadTerm_Full : PySem.W.kitOne K (.ref C_BadTerm) (.ref C_Full) = some false)
    (ki_NoPlace_Full : PySem.W.kitOne K (.ref C_NoPlace) (.ref C_Full) = some false)
    (ki_Leaned_Full : PySem.W.kitOne K (.ref C_Leaned) (.ref C_Full) = some false)
    (ki_NoMore_Full : PySem.W.kitOne K (.ref C_NoMore) (.ref C_Full) = some false)
    (ki_BadSign_Full : PySem.W.kitOne K (.ref C_BadSign) (.ref C_Full) = some false)
    (ki_Closed_Full : PySem.W.kitOne K (.ref C_Closed) (.ref C_Full) = some false)
    (ki_BadWord_Full : PySem.W.kitOne K (.ref C_BadWord) (.ref C_Full) = some false)
    (ki_BadRow_Full : PySem.W.kitOne K (.ref C_BadRow) (.ref C_Full) = some false)
    (ki_BadName_Closed : PySem.W.kitOne K (.ref C_BadName) (.ref C_Closed) = some false)
    (ki_NameTaken_Closed : PySem.W.kitOne K (.ref C_NameTaken) (.ref C_Closed) = some false)
    (ki_Full_Closed : PySem.W.kitOne K (.ref C_Full) (.ref C_Closed) = some false)
    (ki_NoVoice_Closed : PySem.W.kitOne K (.ref C_NoVoice) (.ref C_Closed) = some false)
    (ki_NotPlain_Closed : PySem.W.kitOne K (.ref C_NotPlain) (.ref C_Closed) = some false)
    (ki_BadTerm_Closed : PySem.W.kitOne K (.ref C_BadTerm) (.ref C_Closed) = some false)
    (ki_NoPlace_Closed : PySem.W.kitOne K (.ref C_NoPlace) (.ref C_Closed) = some false)
    (ki_Leaned_Closed : PySem.W.kitOne K (.ref C_Leaned) (.ref C_Closed) = some false)
    (ki_NoMore_Closed : PySem.W.kitOne K (.ref C_NoMore) (.ref C_Closed) = some false)
    (ki_BadSign_Closed : PySem.W.kitOne K (.ref C_BadSign) (.ref C_Closed) = some false)
    (ki_Closed_Closed : PySem.W.kitOne K (.ref C_Closed) (.ref C_Closed) = some true)
    (ki_BadWord_Closed : PySem.W.kitOne K (.ref C_BadWord) (.ref C_Closed) = some false)
    (ki_BadRow_Closed : PySem.W.kitOne K (.ref C_BadRow) (.ref C_Closed) = some false)
    (kb_BadName_ValueError : PySem.W.kitOne K (.ref C_BadName) (.type "ValueError") = some true)
    (kb_NameTaken_ValueError : PySem.W.kitOne K (.ref C_NameTaken) (.type "ValueError") = some true)
    (kb_Full_ValueError : PySem.W.kitOne K (.ref C_Full) (.type "ValueError") = some true)
    (kb_NoVoice_ValueError : PySem.W.kitOne K (.ref C_NoVoice) (.type "ValueError") = some true)
    (kb_NotPlain_ValueError : PySem.W.kitOne K (.ref C_NotPlain) (.type "ValueError") = some true)
    (kb_BadTerm_ValueError : PySem.W.kitOne K (.ref C_BadTerm) (.type "ValueError") = some true)
    (kb_NoPlace_ValueError : PySem.W.kitOne K (.ref C_NoPlace) (.type "ValueError") = some true)
    (kb_Leaned_ValueError : PySem.W.kitOne K (.ref C_Leaned) (.type "ValueError") = some true)
    (kb_NoMore_ValueError : PySem.W.kitOne K (.ref C_NoMore) (.type "ValueError") = some true)
    (kb_BadSign_ValueError : PySem.W.kitOne K (.ref C_BadSign) (.type "ValueError") = some true)
    (kb_Closed_ValueError : PySem.W.kitOne K (.ref C_Closed) (.type "ValueError") = some true)
    (kb_BadWord_ValueError : PySem.W.kitOne K (.ref C_BadWord) (.type "ValueError") = some true)
    (kb_BadRow_ValueError : PySem.W.kitOne K (.ref C_BadRow) (.type "ValueError") = some true) :
    ∃ fd : FuncData, (∀ (s : Shared) (v : Value), BindsTo s fd ⟨[v], []⟩ [("_law_script", v)]) ∧ ∀ base : Heap, K.In base → base.Ns mainGlobals mg → FnOk l.prog w K mg base CX0 7 fa fd ["_law_script"] (sp_law K) := by
  have e := hfa.symm.trans (PySem.W.mg_of X G a_law)
  cases e
  have F_Book___init__ := fun_mk (st := s_Book___init__) l_Book___init__ c_Book___init__ k_Book___init__
  have b_Book___init__ := F_Book___init__.binds (ps := ["self"]) fun _ _ _ _ _ _ => lenB1 fun _ => rfl
  have F_is_name := fun_mk (st := s_is_name) l_is_name c_is_name k_is_name
  have b_is_name := F_is_name.binds (ps := ["name"]) fun _ _ _ _ _ _ => lenB1 fun _ => rfl
  have F_Book_names := fun_mk (st := s_Book_names) l_Book_names c_Book_names k_Book_names
  have b_Book_names := F_Book_names.binds (ps := ["self"]) fun _ _ _ _ _ _ => lenB1 fun _ => rfl
  have F_Book_refuse_new := fun_mk (st := s_Book_refuse_new) l_Book_refuse_new c_Book_refuse_new k_Book_refuse_new
  have b_Book_refuse_new := F_Book_refuse_new.binds (ps := ["self", "name"]) fun _ _ _ _ _ _ => lenB2 fun _ _ => rfl
  have F_Deed_do := fun_mk (st := s_Deed_do) l_Deed_do c_Deed_do k_Deed_do
  have b_Deed_do := F_Deed_do.binds (ps := ["self"]) fun _ _ _ _ _ _ => lenB1 fun _ => rfl
  have F_Book_perform := fun_mk (st := s_Book_perform) l_Book_perform c_Book_perform k_Book_perform
  have b_Book_perform := F_Book_perform.binds (ps := ["self", "deed"]) fun _ _ _ _ _ _ => lenB2 fun _ _ => rfl
  have F_Deed___init__ := fun_mk (st := s_Deed___init__) l_Deed___init__ c_Deed___init__ k_Deed___init__
  have b_Deed___init__ := F_Deed___init__.binds (ps := ["self", "things", "at", "before", "after"]) fun _ _ _ _ _ _ => lenB5 fun _ _ _ _ _ => rfl
  have F_Book_put_in := fun_mk (st := s_Book_put_in) l_Book_put_in c_Book_put_in k_Book_put_in
  have b_Book_put_in := F_Book_put_in.binds (ps := ["self", "voice"]) fun _ _ _ _ _ _ => lenB2 fun _ _ => rfl
  have F_Voice___init__ := fun_mk (st := s_Voice___init__) l_Voice___init__ c_Voice___init__ k_Voice___init__
  have b_Voice___init__ := F_Voice___init__.binds (ps := ["self", "name", "terms"]) fun _ _ _ _ _ _ => lenB3 fun _ _ _ => rfl
  have F_Book_add_voice := fun_mk (st := s_Book_add_voice) l_Book_add_voice c_Book_add_voice k_Book_add_voice
  have b_Book_add_voice := F_Book_add_voice.binds (ps := ["self", "name"]) fun _ _ _ _ _ _ => lenB2 fun _ _ => rfl
  have F_Book_voice_called := fun_mk (st := s_Book_voice_called) l_Book_voice_called c_Book_voice_called k_Book_voice_called
  have b_Book_voice_called := F_Book_voice_called.binds (ps := ["self", "name"]) fun _ _ _ _ _ _ => lenB2 fun _ _ => rfl
  have F_Book_plain_voice := fun_mk (st := s_Book_plain_voice) l_Book_plain_voice c_Book_plain_voice k_Book_plain_voice
  have b_Book_plain_voice := F_Book_plain_voice.binds (ps := ["self", "name"]) fun _ _ _ _ _ _ => lenB2 fun _ _ => rfl
  have F_Book_add_canon := funD_mk (st := s_Book_add_canon) l_Book_add_canon c_Book_add_canon k_Book_add_canon
  have b_Book_add_canon : Binds K _ ["self", "name", "leader", "later", "slow", "is_turned"] [] := F_Book_add_canon.binds (ds := []) dl_Book_add_canon rfl fun _ _ _ _ _ _ us hl => by obtain ⟨_, _, _, _, _, _, rfl⟩ := lenV6 hl; exact ⟨_, rfl, rfl⟩
  have bd_Book_add_canon : Binds K _ ["self", "name", "leader", "later", "slow", "is_turned"] [.int 0 dt0_Book_add_canon, .int 1 dt1_Book_add_canon, .bool false] := F_Book_add_canon.binds dl_Book_add_canon rfl fun _ _ _ _ _ _ us hl => by have hl : us.length = 3 := (by simpa using hl); obtain ⟨_, _, _, rfl⟩ := lenU3 hl; exact ⟨_, rfl, rfl⟩
  have bd1_Book_add_canon : Binds K _ ["self", "name", "leader", "later", "slow", "is_turned"] [.bool false] := F_Book_add_canon.binds dl_Book_add_canon rfl fun _ _ _ _ _ _ us hl => by have hl : us.length = 5 := (by simpa using hl); obtain ⟨_, _, _, _, _, rfl⟩ := lenU5 hl; exact ⟨_, rfl, rfl⟩
  have bd2_Book_add_canon : Binds K _ ["self", "name", "leader", "later", "slow", "is_turned"] [.int 1 dt1_Book_add_canon, .bool false] := F_Book_add_canon.binds dl_Book_add_canon rfl fun _ _ _ _ _ _ us hl => by have hl : us.length = 4 := (by simpa using hl); obtain ⟨_, _, _, _, rfl⟩ := lenU4 hl; exact ⟨_, rfl, rfl⟩
  have F_l_cell_at := fun_mk (st := s_l_cell_at) l_l_cell_at c_l_cell_at k_l_cell_at
  have b_l_cell_at := F_l_cell_at.binds (ps := ["_law_script", "_law_k"]) fun _ _ _ _ _ _ => lenB2 fun _ _ => rfl
  have F_Book_canon := fun_mk (st := s_Book_canon) l_Book_canon c_Book_canon k_Book_canon
  have b_Book_canon := F_Book_canon.binds (ps := ["self", "name"]) fun _ _ _ _ _ _ => lenB2 fun _ _ => rfl
  have F_Book_line := fun_mk (st := s_Book_line) l_Book_line c_Book_line k_Book_line
  have b_Book_line := F_Book_line.binds (ps := ["self", "name"]) fun _ _ _ _ _ _ => lenB2 fun _ _ => rfl
  have F_refuse_other_places := fun_mk (st := s_refuse_other_places) l_refuse_other_places c_refuse_other_places k_refuse_other_places
  have b_refuse_other_places := F_refuse_other_places.binds (ps := ["at", "last"]) fun _ _ _ _ _ _ => lenB2 fun _ _ => rfl
  have F_Book_cut := fun_mk (st := s_Book_cut) l_Book_cut c_Book_cut k_Book_cut
  have b_Book_cut := F_Book_cut.binds (ps := ["self", "name", "at"]) fun _ _ _ _ _ _ => lenB3 fun _ _ _ => rfl
  have F_Book_drop := fun_mk (st := s_Book_drop) l_Book_drop c_Book_drop k_Book_drop
  have b_Book_drop := F_Book_drop.binds (ps := ["self", "name"]) fun _ _ _ _ _ _ => lenB2 fun _ _ => rfl
  have F_Book_redo := fun_mk (st := s_Book_redo) l_Book_redo c_Book_redo k_Book_redo
  have b_Book_redo := F_Book_redo.binds (ps := ["self"]) fun _ _ _ _ _ _ => lenB1 fun _ => rfl
  have F_good := fun_mk (st := s_good) l_good c_good k_good
  have b_good := F_good.binds (ps := ["sign"]) fun _ _ _ _ _ _ => lenB1 fun _ => rfl
  have F_shown_sign := fun_mk (st := s_shown_sign) l_shown_sign c_shown_sign k_shown_sign
  have b_shown_sign := F_shown_sign.binds (ps := ["sign"]) fun _ _ _ _ _ _ => lenB1 fun _ => rfl
  have F_number_of := fun_mk (st := s_number_of) l_number_of c_number_of k_number_of
  have b_number_of := F_number_of.binds (ps := ["word", "most"]) fun _ _ _ _ _ _ => lenB2 fun _ _ => rfl
  have F_sign_of := fun_mk (st := s_sign_of) l_sign_of c_sign_of k_sign_of
  have b_sign_of := F_sign_of.binds (ps := ["word"]) fun _ _ _ _ _ _ => lenB1 fun _ => rfl
  have F_BadWord___init__ := fun_mk (st := s_BadWord___init__) l_BadWord___init__ c_BadWord___init__ k_BadWord___init__
  have b_BadWord___init__ := F_BadWord___init__.binds (ps := ["self", "at"]) fun _ _ _ _ _ _ => lenB2 fun _ _ => rfl
  have F_read_sign := fun_mk (st := s_read_sign) l_read_sign c_read_sign k_read_sign
  have b_read_sign := F_read_sign.binds (ps := ["word"]) fun _ _ _ _ _ _ => lenB1 fun _ => rfl
  have F_take_voice := fun_mk (st := s_take_voice) l_take_voice c_take_voice k_take_voice
  have b_take_voice := F_take_voice.binds (ps := ["book", "words"]) fun _ _ _ _ _ _ => lenB2 fun _ _ => rfl
  have F_take_row := fun_mk (st := s_take_row) l_take_row c_take_row k_take_row
  have b_take_row := F_take_row.binds (ps := ["book", "row"]) fun _ _ _ _ _ _ => lenB2 fun _ _ => rfl
  have F_BadRow___init__ := fun_mk (st := s_BadRow___init__) l_BadRow___init__ c_BadRow___init__ k_BadRow___init__
  have b_BadRow___init__ := F_BadRow___init__.binds (ps := ["self", "at"]) fun _ _ _ _ _ _ => lenB2 fun _ _ => rfl
  have F_read_book := fun_mk (st := s_read_book) l_read_book c_read_book k_read_book
  have b_read_book := F_read_book.binds (ps := ["text"]) fun _ _ _ _ _ _ => lenB1 fun _ => rfl
  have F_Ear___init__ := funD_mk (st := s_Ear___init__) l_Ear___init__ c_Ear___init__ k_Ear___init__
  have b_Ear___init__ : Binds K _ ["self", "begin"] [] := F_Ear___init__.binds (ds := []) dl_Ear___init__ rfl fun _ _ _ _ _ _ us hl => by obtain ⟨_, _, rfl⟩ := lenV2 hl; exact ⟨_, rfl, rfl⟩
  have bd_Ear___init__ : Binds K _ ["self", "begin"] [.int 3 dt0_Ear___init__] := F_Ear___init__.binds dl_Ear___init__ rfl fun _ _ _ _ _ _ us hl => by have hl : us.length = 1 := (by simpa using hl); obtain ⟨_, rfl⟩ := lenU1 hl; exact ⟨_, rfl, rfl⟩
  have F_Ear_refuse_where_closed := fun_mk (st := s_Ear_refuse_where_closed) l_Ear_refuse_where_closed c_Ear_refuse_where_closed k_Ear_refuse_where_closed
  have b_Ear_refuse_where_closed := F_Ear_refuse_where_closed.binds (ps := ["self"]) fun _ _ _ _ _ _ => lenB1 fun _ => rfl
  have F_Ear_close_run := fun_mk (st := s_Ear_close_run) l_Ear_close_run c_Ear_close_run k_Ear_close_run
  have b_Ear_close_run := F_Ear_close_run.binds (ps := ["self", "kind"]) fun _ _ _ _ _ _ => lenB2 fun _ _ => rfl
  have F_Ear_let_go := fun_mk (st := s_Ear_let_go) l_Ear_let_go c_Ear_let_go k_Ear_let_go
  have b_Ear_let_go := F_Ear_let_go.binds (ps := ["self"]) fun _ _ _ _ _ _ => lenB1 fun _ => rfl
  have F_Ear_settled_by := fun_mk (st := s_Ear_settled_by) l_Ear_settled_by c_Ear_settled_by k_Ear_settled_by
  have b_Ear_settled_by := F_Ear_settled_by.binds (ps := ["self", "kind"]) fun _ _ _ _ _ _ => lenB2 fun _ _ => rfl
  have F_Ear_close := fun_mk (st := s_Ear_close) l_Ear_close c_Ear_close k_Ear_close
  have b_Ear_close := F_Ear_close.binds (ps := ["self"]) fun _ _ _ _ _ _ => lenB1 fun _ => rfl
  have F_Ear_hear := fun_mk (st := s_Ear_hear) l_Ear_hear c_Ear_hear k_Ear_hear
  have b_Ear_hear := F_Ear_hear.binds (ps := ["self", "sign"]) fun _ _ _ _ _ _ => lenB2 fun _ _ => rfl
  have F_l_bring := fun_mk (st := s_l_bring) l_l_bring c_l_bring k_l_bring
  have b_l_bring := F_l_bring.binds (ps := ["_law_way", "_law_book"]) fun _ _ _ _ _ _ => lenB2 fun _ _ => rfl
  have F_l_kin := fun_mk (st := s_l_kin) l_l_kin c_l_kin k_l_kin
  have b_l_kin := F_l_kin.binds (ps := ["_law_way", "_law_book"]) fun _ _ _ _ _ _ => lenB2 fun _ _ => rfl
  have F_law := fun_mk (st := s_law) l_law c_law k_law
  have b_law := F_law.binds (ps := ["_law_script"]) fun _ _ _ _ _ _ => lenB1 fun _ => rfl
  have T : Txt K w mg ⟨_, _, _, _, _, _, _, _, _, _, _, _, _, _, _, _, _, _, _, _, _, _, _, _, _, _, _, dt0_Book_add_canon, dt1_Book_add_canon, _, _, _, _, _, _, _, _, _, _, _, _, _, _, _, _, _, _, _, _, _, _, _, _, _, _, _, _, _, _, _, _, _, _, _, _, _, dt0_Ear___init__, _, _, _, _, _, _, _, _, _, _, _, _, _, _, _, _, _, _, a_GREAT_KINDS, a_SMALL_KINDS, a_SOUNDING_KINDS, a_SILENT_KINDS, t_HIGHEST_TONE, a_FIGURES, t_MOST_FIGURES_texts, t_SHORTENED_WORTH, t_DOUBLED_WORTH, t_LETTERS, t_LONGEST_NAME, t_MOST_VOICES, t_LATEST, t_SLOWEST, t_NOTHING_MORE, C_Voice, C_Deed, C_Book, C_Ear, C_BadName, C_NameTaken, C_Full, C_NoVoice, C_NotPlain, C_BadTerm, C_NoPlace, C_Leaned, C_NoMore, C_BadSign, C_NoteError, C_BadWord, C_BadRow, C_Closed⟩ := ⟨F_Book___init__, b_Book___init__, F_is_name, b_is_name, PySem.W.mg_of X G a_is_name, F_Book_names, b_Book_names, ⟨a_Book_names, fn_Book_names, k_Book_names⟩, F_Book_refuse_new, b_Book_refuse_new, ⟨a_Book_refuse_new, fn_Book_refuse_new, k_Book_refuse_new⟩, F_Deed_do, b_Deed_do, ⟨a_Deed_do, fn_Deed_do, k_Deed_do⟩, F_Book_perform, b_Book_perform, ⟨a_Book_perform, fn_Book_perform, k_Book_perform⟩, F_Deed___init__, b_Deed___init__, F_Book_put_in, b_Book_put_in, ⟨a_Book_put_in, fn_Book_put_in, k_Book_put_in⟩, F_Voice___init__, b_Voice___init__, F_Book_add_voice, b_Book_add_voice, ⟨a_Book_add_voice, fn_Book_add_voice, k_Book_add_voice⟩, F_Book_voice_called, b_Book_voice_called, ⟨a_Book_voice_called, fn_Book_voice_called, k_Book_voice_called⟩, F_Book_plain_voice, b_Book_plain_voice, ⟨a_Book_plain_voice, fn_Book_plain_voice, k_Book_plain_voice⟩, F_Book_add_canon, bd_Book_add_canon, bd1_Book_add_canon, bd2_Book_add_canon, b_Book_add_canon, ⟨a_Book_add_canon, fn_Book_add_canon, k_Book_add_canon⟩, F_l_cell_at, b_l_cell_at, PySem.W.mg_of X G a_l_cell_at, F_Book_canon, b_Book_canon, ⟨a_Book_canon, fn_Book_canon, k_Book_canon⟩, F_Book_line, b_Book_line, ⟨a_Book_line, fn_Book_line, k_Book_line⟩, F_refuse_other_places, b_refuse_other_places, PySem.W.mg_of X G a_refuse_other_places, F_Book_cut, b_Book_cut, ⟨a_Book_cut, fn_Book_cut, k_Book_cut⟩, F_Book_drop, b_Book_drop, ⟨a_Book_drop, fn_Book_drop, k_Book_drop⟩, F_Book_redo, b_Book_redo, ⟨a_Book_redo, fn_Book_redo, k_Book_redo⟩, F_good, b_good, PySem.W.mg_of X G a_good, F_shown_sign, b_shown_sign, PySem.W.mg_of X G a_shown_sign, F_number_of, b_number_of, PySem.W.mg_of X G a_number_of, F_sign_of, b_sign_of, PySem.W.mg_of X G a_sign_of, F_BadWord___init__, b_BadWord___init__, F_read_sign, b_read_sign, PySem.W.mg_of X G a_read_sign, F_take_voice, b_take_voice, PySem.W.mg_of X G a_take_voice, F_take_row, b_take_row, PySem.W.mg_of X G a_take_row, F_BadRow___init__, b_BadRow___init__, F_read_book, b_read_book, PySem.W.mg_of X G a_read_book, F_Ear___init__, bd_Ear___init__, b_Ear___init__, F_Ear_refuse_where_closed, b_Ear_refuse_where_closed, ⟨a_Ear_refuse_where_closed, fn_Ear_refuse_where_closed, k_Ear_refuse_where_closed⟩, F_Ear_close_run, b_Ear_close_run, ⟨a_Ear_close_run, fn_Ear_close_run, k_Ear_close_run⟩, F_Ear_let_go, b_Ear_let_go, ⟨a_Ear_let_go, fn_Ear_let_go, k_Ear_let_go⟩, F_Ear_settled_by, b_Ear_settled_by, ⟨a_Ear_settled_by, fn_Ear_settled_by, k_Ear_settled_by⟩, F_Ear_close, b_Ear_close, ⟨a_Ear_close, fn_Ear_close, k_Ear_close⟩, F_Ear_hear, b_Ear_hear, ⟨a_Ear_hear, fn_Ear_hear, k_Ear_hear⟩, F_l_bring, b_l_bring, PySem.W.mg_of X G a_l_bring, F_l_kin, b_l_kin, PySem.W.mg_of X G a_l_kin, F_law, b_law, PySem.W.mg_of X G a_law, PySem.W.mg_none_of X G z_ValueError, PySem.W.mg_none_of X G z_all, PySem.W.mg_none_of X G z_any, PySem.W.mg_none_of X G z_enumerate, PySem.W.mg_none_of X G z_int, PySem.W.mg_none_of X G z_isinstance, PySem.W.mg_none_of X G z_len, PySem.W.mg_none_of X G z_list, PySem.W.mg_none_of X G z_min, PySem.W.mg_none_of X G z_range, PySem.W.mg_of X G a_GREAT_KINDS_, (fun H => .inr ⟨_, _, _, l_GREAT_KINDS_, rfl, rfl, (by show 3 ≤ sizeLine; decide), (.cons ⟨_, rfl⟩ (.cons ⟨_, rfl⟩ (.cons ⟨_, rfl⟩ .nil)))⟩), PySem.W.mg_of X G a_SMALL_KINDS_, (fun H => .inr ⟨_, _, _, l_SMALL_KINDS_, rfl, rfl, (by show 3 ≤ sizeLine; decide), (.cons ⟨_, rfl⟩ (.cons ⟨_, rfl⟩ (.cons ⟨_, rfl⟩ .nil)))⟩), PySem.W.mg_of X G a_SOUNDING_KINDS_, (fun H => .inr ⟨_, _, _, l_SOUNDING_KINDS_, rfl, rfl, (by show 4 ≤ sizeLine; decide), (.cons ⟨_, rfl⟩ (.cons ⟨_, rfl⟩ (.cons ⟨_, rfl⟩ (.cons ⟨_, rfl⟩ .nil))))⟩), PySem.W.mg_of X G a_SILENT_KINDS_, (fun H => .inr ⟨_, _, _, l_SILENT_KINDS_, rfl, rfl, (by show 5 ≤ sizeLine; decide), (.cons ⟨_, rfl⟩ (.cons ⟨_, rfl⟩ (.cons ⟨_, rfl⟩ (.cons ⟨_, rfl⟩ (.cons ⟨_, rfl⟩ .nil)))))⟩), PySem.W.mg_of X G a_HIGHEST_TONE_, PySem.W.mg_of X G a_FIGURES_, (fun H => .inr ⟨_, _, _, l_FIGURES_, rfl, rfl, (by show 10 ≤ sizeLine; decide), (.cons ⟨_, rfl⟩ (.cons ⟨_, rfl⟩ (.cons ⟨_, rfl⟩ (.cons ⟨_, rfl⟩ (.cons ⟨_, rfl⟩ (.cons ⟨_, rfl⟩ (.cons ⟨_, rfl⟩ (.cons ⟨_, rfl⟩ (.cons ⟨_, rfl⟩ (.cons ⟨_, rfl⟩ .nil))))))))))⟩), PySem.W.mg_of X G a_MOST_FIGURES_texts_, PySem.W.mg_of X G a_SHORTENED_WORTH_, PySem.W.mg_of X G a_DOUBLED_WORTH_, PySem.W.mg_of X G a_LETTERS_, PySem.W.mg_of X G a_LONGEST_NAME_, PySem.W.mg_of X G a_MOST_VOICES_, PySem.W.mg_of X G a_LATEST_, PySem.W.mg_of X G a_SLOWEST_, PySem.W.mg_of X G a_NOTHING_MORE_, PySem.W.mg_of X G aC_Voice, ⟨mkm_Voice, a_Voice___init__, fn_Voice___init__, mkk_Voice⟩, ⟨pg_Voice, hd_Voice, po_Voice, sa_Voice⟩, na_Voice_name, na_Voice_terms, na_Voice_signs, PySem.W.mg_of X G aC_Deed, ⟨mkm_Deed, a_Deed___init__, fn_Deed___init__, mkk_Deed⟩, ⟨pg_Deed, hd_Deed, po_Deed, sa_Deed⟩, na_Deed_things, na_Deed_at, na_Deed_before, na_Deed_after, PySem.W.mg_of X G aC_Book, ⟨mkm_Book, a_Book___init__, fn_Book___init__, mkk_Book⟩, ⟨pg_Book, hd_Book, po_Book, sa_Book⟩, na_Book_voices, na_Book_done, na_Book_undone, PySem.W.mg_of X G aC_Ear, ⟨mkm_Ear, a_Ear___init__, fn_Ear___init__, mkk_Ear⟩, ⟨pg_Ear, hd_Ear, po_Ear, sa_Ear⟩, na_Ear_measure, na_Ear_held, na_Ear_left, na_Ear_right, na_Ear_counted, na_Ear_last, na_Ear_is_closed, PySem.W.mg_of X G aX_BadName, PySem.W.mg_of X G aX_NameTaken, PySem.W.mg_of X G aX_Full, PySem.W.mg_of X G aX_NoVoice, PySem.W.mg_of X G aX_NotPlain, PySem.W.mg_of X G aX_BadTerm, PySem.W.mg_of X G aX_NoPlace, PySem.W.mg_of X G aX_Leaned, PySem.W.mg_of X G aX_NoMore, PySem.W.mg_of X G aX_BadSign, PySem.W.mg_of X G aX_NoteError, PySem.W.mg_of X G aX_BadWord, PySem.W.mg_of X G aX_BadRow, PySem.W.mg_of X G aX_Closed, ⟨xe_BadName, xg_BadName, xn_BadName, xc_BadName⟩, ⟨xe_NameTaken, xg_NameTaken, xn_NameTaken, xc_NameTaken⟩, ⟨xe_Full, xg_Full, xn_Full, xc_Full⟩, ⟨xe_NoVoice, xg_NoVoice, xn_NoVoice, xc_NoVoice⟩, ⟨xe_NotPlain, xg_NotPlain, xn_NotPlain, xc_NotPlain⟩, ⟨xe_BadTerm, xg_BadTerm, xn_BadTerm, xc_BadTerm⟩, ⟨xe_NoPlace, xg_NoPlace, xn_NoPlace, xc_NoPlace⟩, ⟨xe_Leaned, xg_Leaned, xn_Leaned, xc_Leaned⟩, ⟨xe_NoMore, xg_NoMore, xn_NoMore, xc_NoMore⟩, ⟨xe_BadSign, xg_BadSign, xn_BadSign, xc_BadSign⟩, ⟨xe_Closed, xg_Closed, xn_Closed, xc_Closed⟩, ⟨⟨⟨_, _, _, _, _, _, _, _, _, _, _, _, _, _, _, xo_BadWord, xok_BadWord, xin_BadWord, xtl_BadWord⟩, xfn_BadWord⟩, ⟨_, xcl_BadWord, xve_BadWord, xhd_BadWord⟩, xsa_BadWord, xg_BadWord, xn_BadWord, xc_BadWord, xkp_BadWord⟩, na_BadWord_at, ⟨⟨⟨_, _, _, _, _, _, _, _, _, _, _, _, _, _, _, xo_BadRow, xok_BadRow, xin_BadRow, xtl_BadRow⟩, xfn_BadRow⟩, ⟨_, xcl_BadRow, xve_BadRow, xhd_BadRow⟩, xsa_BadRow, xg_BadRow, xn_BadRow, xc_BadRow, xkp_BadRow⟩, na_BadRow_at, ⟨xsp_NoteError, xrd_NoteError, xfd_NoteError⟩, xm_BadName_NoteError, xm_NameTaken_NoteError, xm_Full_NoteError, xm_NoVoice_NoteError, xm_NotPlain_NoteError, xm_BadTerm_NoteError, xm_NoPlace_NoteError, xm_Leaned_NoteError, xm_NoMore_NoteError, xm_BadSign_NoteError, xm_Closed_NoteError, xm_BadWord_NoteError, xm_BadRow_NoteError, ki_BadName_BadName, ki_NameTaken_BadName, ki_Full_BadName, ki_NoVoice_BadName, ki_NotPlain_BadName, ki_BadTerm_BadName, ki_NoPlace_BadName, ki_Leaned_BadName, ki_NoMore_BadName, ki_BadSign_BadName, ki_Closed_BadName, ki_BadWord_BadName, ki_BadRow_BadName, ki_BadName_NameTaken, ki_NameTaken_NameTaken, ki_Full_NameTaken, ki_NoVoice_NameTaken, ki_NotPlain_NameTaken, ki_BadTerm_NameTaken, ki_NoPlace_NameTaken, ki_Leaned_NameTaken, ki_NoMore_NameTaken, ki_BadSign_NameTaken, ki_Closed_NameTaken, ki_BadWord_NameTaken, ki_BadRow_NameTaken, ki_BadName_NoVoice, ki_NameTaken_NoVoice, ki_Full_NoVoice, ki_NoVoice_NoVoice, ki_NotPlain_NoVoice, ki_BadTerm_NoVoice, ki_NoPlace_NoVoice, ki_Leaned_NoVoice, ki_NoMore_NoVoice, ki_BadSign_NoVoice, ki_Closed_NoVoice, ki_BadWord_NoVoice, ki_BadRow_NoVoice, ki_BadName_NotPlain, ki_NameTaken_NotPlain, ki_Full_NotPlain, ki_NoVoice_NotPlain, ki_NotPlain_NotPlain, ki_BadTerm_NotPlain, ki_NoPlace_NotPlain, ki_Leaned_NotPlain, ki_NoMore_NotPlain, ki_BadSign_NotPlain, ki_Closed_NotPlain, ki_BadWord_NotPlain, ki_BadRow_NotPlain, ki_BadName_NoPlace, ki_NameTaken_NoPlace, ki_Full_NoPlace, ki_NoVoice_NoPlace, ki_NotPlain_NoPlace, ki_BadTerm_NoPlace, ki_NoPlace_NoPlace, ki_Leaned_NoPlace, ki_NoMore_NoPlace, ki_BadSign_NoPlace, ki_Closed_NoPlace, ki_BadWord_NoPlace, ki_BadRow_NoPlace, ki_BadName_BadTerm, ki_NameTaken_BadTerm, ki_Full_BadTerm, ki_NoVoice_BadTerm, ki_NotPlain_BadTerm, ki_BadTerm_BadTerm, ki_NoPlace_BadTerm, ki_Leaned_BadTerm, ki_NoMore_BadTerm, ki_BadSign_BadTerm, ki_Closed_BadTerm, ki_BadWord_BadTerm, ki_BadRow_BadTerm, ki_BadName_Leaned, ki_NameTaken_Leaned, ki_Full_Leaned, ki_NoVoice_Leaned, ki_NotPlain_Leaned, ki_BadTerm_Leaned, ki_NoPlace_Leaned, ki_Leaned_Leaned, ki_NoMore_Leaned, ki_BadSign_Leaned, ki_Closed_Leaned, ki_BadWord_Leaned, ki_BadRow_Leaned, ki_BadName_NoMore, ki_NameTaken_NoMore, ki_Full_NoMore, ki_NoVoice_NoMore, ki_NotPlain_NoMore, ki_BadTerm_NoMore, ki_NoPlace_NoMore, ki_Leaned_NoMore, ki_NoMore_NoMore, ki_BadSign_NoMore, ki_Closed_NoMore, ki_BadWord_NoMore, ki_BadRow_NoMore, ki_BadName_BadSign, ki_NameTaken_BadSign, ki_Full_BadSign, ki_NoVoice_BadSign, ki_NotPlain_BadSign, ki_BadTerm_BadSign, ki_NoPlace_BadSign, ki_Leaned_BadSign, ki_NoMore_BadSign, ki_BadSign_BadSign, ki_Closed_BadSign, ki_BadWord_BadSign, ki_BadRow_BadSign, ki_BadName_BadWord, ki_NameTaken_BadWord, ki_Full_BadWord, ki_NoVoice_BadWord, ki_NotPlain_BadWord, ki_BadTerm_BadWord, ki_NoPlace_BadWord, ki_Leaned_BadWord, ki_NoMore_BadWord, ki_BadSign_BadWord, ki_Closed_BadWord, ki_BadWord_BadWord, ki_BadRow_BadWord, ki_BadName_BadRow, ki_NameTaken_BadRow, ki_Full_BadRow, ki_NoVoice_BadRow, ki_NotPlain_BadRow, ki_BadTerm_BadRow, ki_NoPlace_BadRow, ki_Leaned_BadRow, ki_NoMore_BadRow, ki_BadSign_BadRow, ki_Closed_BadRow, ki_BadWord_BadRow, ki_BadRow_BadRow, ki_BadName_Full, ki_NameTaken_Full, ki_Full_Full, ki_NoVoice_Full, ki_NotPlain_Full, ki_BadTerm_Full, ki_NoPlace_Full, ki_Leaned_Full, ki_NoMore_Full, ki_BadSign_Full, ki_Closed_Full, ki_BadWord_Full, ki_BadRow_Full, ki_BadName_Closed, ki_NameTaken_Closed, ki_Full_Closed, ki_NoVoice_Closed, ki_NotPlain_Closed, ki_BadTerm_Closed, ki_NoPlace_Closed, ki_Leaned_Closed, ki_NoMore_Closed, ki_BadSign_Closed, ki_Closed_Closed, ki_BadWord_Closed, ki_BadRow_Closed, kb_BadName_ValueError, kb_NameTaken_ValueError, kb_Full_ValueError, kb_NoVoice_ValueError, kb_NotPlain_ValueError, kb_BadTerm_ValueError, kb_NoPlace_ValueError, kb_Leaned_ValueError, kb_NoMore_ValueError, kb_BadSign_ValueError, kb_Closed_ValueError, kb_BadWord_ValueError, kb_BadRow_ValueError⟩
  exact ⟨_, fun s v => .of_eq rfl, fun base _ _ => ok_law T⟩
theorem walk {l : PySem.W.OpenLaw} {q : Program} {loose : List Str} {XP : (Str → Option Value) → Heap → Prop} {YP : World → Heap → Prop} {d : DefRec} {K : Params → PySem.W.Frag} (hn : l.most = some 63) (hdf : d.params.defaults = [])
    (hY : ∀ (w : World) (h : Heap), YP w h → (K w.params).In h)
    (F : ∀ (w : World) (mg : Str → Option Value) (fa : Addr) (h : Heap), (K w.params).In h → h.Ns mainGlobals mg → mg d.name = some (.ref fa) →
      ∃ fd : FuncData, (∀ (s : Shared) (u : Value), BindsTo s fd ⟨[u], []⟩ [("_law_script", u)]) ∧ ∀ base : Heap, (K w.params).In base → base.Ns mainGlobals mg → FnOk l.prog w (K w.params) mg base CX0 7 fa fd ["_law_script"] (sp_law (K w.params))) :
    PySem.W.WalkO q loose XP YP l.row.toRowW d [] (fun f vs => PySem.call f vs) :=
  L2.walk_of (n := 63) (k := 7) (x := "_law_script") (CX := fun _ => CX0) (sp := fun w => sp_law (K w.params)) hn (by decide) hdf ⟨rfl, by decide, by decide⟩ hY F (fun _ H a ns hl hO hS => law_start hl hO hS) fun _ _ _ _ _ z => z
end Mine
namespace PySem.W.Fast
def tw18445936218976391806:=()
def tw6249244486767481845:=()
def tw2483346711286552205:=()
def tw6844362013198311729:=()
def tw16234442377619929773:=()
def tw16010171088578485178:=()
def tw2313515803910639909:=()
def tw5758655873047807531:=()
def tw9958439633803556763:=()
def tw5837773229060365754:=()
def tw2736789636201974225:=()
def tw1144811406268386061:=()
def tw5739021238510020796:=()
def tw3801696250758148666:=()
def tw17990787480052014549:=()
def tw13282980696107916434:=()
def tw11814786191883398798:=()
def tw629243773242277520:=()
def tw16610323217674744532:=()
def tw13274011737874496848:=()
def tw17007177583411425128:=()
def tw4952037697539143974:=()
def tw6344999163323836292:=()
def tw670218524523135957:=()
def tw9265355368624174633:=()
def tw255611096942929379:=()
def tw18093367635162839786:=()
def tw14169711688227925798:=()
def tw14264437656839606529:=()
def tw16685115743492099873:=()
def tw11391446770896719677:=()
def tw3822238423241607462:=()
def tw7720375099229156541:=()
def tw13211290150687602490:=()
def tw14386510630108279500:=()
def tw3548096356494663359:=()
def tw15500203556631118663:=()
def tw4099727157657729486:=()
def tw10912284969763623515:=()
def tw2633885509117178676:=()
def tw10419664891882640083:=()
def tw17159132359430858266:=()
def tw16323254625662998706:=()
def tw2997306476271756254:=()
def tw18348290098004877557:=()
def tw12010747146369521834:=()
def tw3704602929446718107:=()
def tw14433311305398410782:=()
def tw481176861682041249:=()
def tw14329289074423641942:=()
def tw9938033633673822118:=()
def tw1220228477719812328:=()
def tw16108187237300072059:=()
def tw10443925927542413349:=()
def tw1623375015447662907:=()
def tw10138667807673938616:=()
def tw8386714188646607994:=()
def tw14139969735607216179:=()
def tw3685409362268146525:=()
def tw44738289569248757:=()
def tw10568772126480303552:=()
def tw14435511818160970761:=()
def tw12980493157255677311:=()
def tw15595715017098258247:=()
def tw10415206089656800768:=()
def tw13677023504390460703:=()
def tw6936194288360161079:=()
def tw4427421952067399543:=()
def tw10973620121820494651:=()
def tw4220618565197890034:=()
def tw3910461189698325569:=()
def tw3870761991503460798:=()
def tw11337880784108519630:=()
def tw16104687898882137393:=()
def tw8650211368534584083:=()
def tw1892892117454615159:=()
def tw7223949047524020780:=()
def tw5761357203211021104:=()
def tw5399850660103663783:=()
def tw13412618639537311888:=()
def tw13626994371282570325:=()
def tw16684628006058479089:=()
def tw8841449498930095841:=()
def tw18129782022828518755:=()
def tw6004449766975983254:=()
def tw6463464307135436182:=()
def tw4350446053431800319:=()
def tw11744823161807636993:=()
def tw8113321743203356163:=()
def tw2480032707821715877:=()
def tw11350532499684159962:=()
def tw2037218405671384080:=()
def tw16130396129064329560:=()
def tw12798273087881856046:=()
def tw8848378772973300411:=()
def tw3536779578395017710:=()
def tw14130313834638180430:=()
def tw14430937765158642851:=()
def tw14848653211052624263:=()
def tw574846784460478997:=()
def tw5970801309792158414:=()
def tw15926413905472760497:=()
def tw16863404687635384491:=()
def tw1035012663042167803:=()
def tw1170680704699861820:=()
def tw17268047594869303377:=()
def tw8517283930277135366:=()
def tw13752669933775300291:=()
def tw8913241341165758014:=()
def tw4116043047369096721:=()
def tw12060783763024853171:=()
def tw11111593808621302747:=()
def tw2009859090761942166:=()
def tw18229428201111951998:=()
def tw8942871029165945366:=()
def tw17631979691060397359:=()
def tw11078987910513082341:=()
def tw8899765338071060110:=()
def tw14602544964283316982:=()
def tw2289187459912944275:=()
def tw9150828286329981071:=()
def tw17125030877772959497:=()
def tw8670205782619216004:=()
def tw6630024787451107582:=()
def tw18150558466595272857:=()
def tw5573205533886260760:=()
def tw7189257202795298774:=()
def tw12921088127700347783:=()
def tw16689908812894974012:=()
def tw17144041624068357550:=()
def tw11839144447329589788:=()
def tw14400782289450041633:=()
def tw9404890729992947677:=()
def tw833168644315099346:=()
def tw7864834339865435862:=()
def tw6115649679123939870:=()
def tw1925728428244338067:=()
def tw4070138686961216278:=()
def tw13632473981139987532:=()
def tw5677149974722288483:=()
def tw6023108932914441044:=()
def tw15385304680955598538:=()
def tw15209893880747560004:=()
def tw8184813611123313124:=()
def tw10135203753842310837:=()
def tw18038159708223939695:=()
def tw4291230940851816451:=()
def tw10898927457558776678:=()
def tw2816569536274386844:=()
def tw1783282514854394574:=()
def tw11302020523569285864:=()
def tw4447416918154656700:=()
def tw8250278901897881641:=()
def tw2285742920602918529:=()
def tw17619962313132259608:=()
def tw18104335324620656962:=()
def tw12868387629191011197:=()
def tw10300791005760837633:=()
def tw16605620152780608218:=()
def tw1453448606659793444:=()
def tw6139167868188791208:=()
def tw13614736432259746344:=()
def tw80395003262363506:=()
def tw13512002669772266053:=()
def tw15989465113063251587:=()
def tw9827119515456918826:=()
def tw10892063101739640340:=()
def tw13608254887956468517:=()
def tw12620693354331278260:=()
def tw9575705499811983977:=()
def tw9491990688802220320:=()
def tw16385392955996523354:=()
def tw6849973462065921846:=()
def tw8048459586127220829:=()
def tw8635951608110040271:=()
def tw7286062951383710908:=()
def tw1257042929622800666:=()
def tw6746680773446174655:=()
def tw3580508670593451716:=()
def tw16268179249806320850:=()
def tw1884919723007408179:=()
def tw10005179278235345985:=()
def tw4245859661940797160:=()
def tw12712743553128134672:=()
def tw6384151921983521786:=()
def tw7363626465300046423:=()
def tw3290339231946774770:=()
def tw18422427886234326287:=()
def tw15755692211731710382:=()
def tw4920288172896942351:=()
def tw18317995955597655786:=()
def tw11132049211238203982:=()
def tw12613578840968296459:=()
def tw9775416091624677207:=()
def tw3996922164261525240:=()
def tw7466007599922001230:=()
def tw7569255784639985900:=()
def tw1958256451879011901:=()
def tw11708070062472647542:=()
def tw5654529849020185605:=()
def tw8482223057906056964:=()
def tw13249620697264861365:=()
def tw16723181585156534490:=()
def tw2106775432286322106:=()
def tw15382696978553640503:=()
def tw13602370376216794048:=()
def tw10631385232428901323:=()
def tw15626398035071813837:=()
def tw4186719530434441059:=()
def tw9791843173442312578:=()
def tw613320096834783153:=()
def tw15579718773821726760:=()
def tw12821301594800601442:=()
def tw6849186938018030120:=()
def tw8302014845621728801:=()
def tw6759118308207308247:=()
def tw9084690482464630180:=()
def tw5788100195872155307:=()
def tw9421926261087303799:=()
def tw8728636637765472239:=()
def tw14945814168490716774:=()
def tw10556708504976351342:=()
def tw11636009958349140785:=()
def tw16940878895875628710:=()
def tw13063456052666984667:=()
def tw8974080540680399958:=()
def tw13452031757399444116:=()
def tw17341783267669850947:=()
def tw15799376440581669067:=()
def tw1628655736963936950:=()
def tw16370730865870580792:=()
def tw8685124581108998731:=()
def tw16116959406362648147:=()
def tw10478017016113655979:=()
def tw9556397518611684207:=()
def tw4324340679109355478:=()
def tw11269778874803097095:=()
def tw10681788147156480225:=()
def tw13323397426623419568:=()
def tw17595456505934050159:=()
def tw14017933877451046595:=()
def tw3186168651502631408:=()
def tw12947916654800081651:=()
def tw453699576863577088:=()
def tw17895904534231291350:=()
def tw16901794446519050922:=()
def tw6526470582542609361:=()
def tw6872339548750877602:=()
def tw10073894435466767789:=()
def tw6527946462413602110:=()
def tw2652810181210525027:=()
def tw16048190746979871306:=()
def tw6553165137870235524:=()
def tw4911623110535373964:=()
def tw5704500488740812648:=()
def tw12148385665253067016:=()
def tw12979700926698271148:=()
def tw11950153069534761353:=()
def tw18200824550695285847:=()
def tw10199066958885125411:=()
def tw11552119415915984575:=()
def tw10051775012324419369:=()
def tw17601445592785728193:=()
def tw10707509683280776347:=()
def tw12434345370394782364:=()
def tw10050518792710704590:=()
def tw18344865496630898184:=()
def tw9987859446872045281:=()
def tw14907850567668148:=()
def tw2025088280038105167:=()
def tw13012430526954643619:=()
def tw18108572673952051743:=()
def tw6748669152075663324:=()
def tw1587721237019754631:=()
def tw5837786319764588854:=()
def tw7715996721245175757:=()
def tw8851917007873618253:=()
def tw18324861158480060169:=()
def tw6580509051456298240:=()
def tw6988723192378962885:=()
def tw10001221656652869134:=()
def tw15315632568375838273:=()
def tw3905013275794217827:=()
def tw17237264100079186739:=()
def tw15160500861100475520:=()
def tw15152685934679594908:=()
def tw7989296590889283918:=()
def tw8896766090101995827:=()
def tw11481639701939208631:=()
def tw14635587041973220292:=()
def tw16605068368654052373:=()
def tw3014508596296564035:=()
def tw13477534588358482574:=()
def tw1313488856575534079:=()
def tw10403860292350648314:=()
def tw8995136700285084731:=()
def tw6270630303268312287:=()
def tw14400119854196066900:=()
def tw17368311884167021486:=()
def tw1796586686934898936:=()
def tw7429344978999034562:=()
def tw16425908517727437809:=()
def tw9430838183958397498:=()
def tw6418881485360720605:=()
def tw18025949772580065702:=()
def tw11063865251803808179:=()
def tw72538427292425894:=()
def tw16998809574493683996:=()
def tw8619867748144357400:=()
def tw13885565803455701248:=()
def tw15693080490772939182:=()
def tw7597255865582083922:=()
def tw1332507076490994518:=()
def tw15240888979656837765:=()
def tw13631969524811421121:=()
def tw7215631586701828342:=()
def tw10923428777558849476:=()
def tw3225831654489919:=()
def tw15512626265136003521:=()
def tw17365668024134737457:=()
def tw7584998102006217746:=()
def tw11721559482859031611:=()
def tw11439934270056854033:=()
def tw16229452476540830866:=()
def tw7915619851257982513:=()
def tw12436868570764205916:=()
def tw1895405950729740444:=()
def tw9994055172069584590:=()
def tw13611171416824141418:=()
def tw6972193724112219003:=()
def tw1352019603559304122:=()
def tw15404271331481566375:=()
def tw11591728149732374261:=()
def tw12122653630278941156:=()
def tw17275431940837619645:=()
def tw7380996258900015961:=()
def tw15136933666299956103:=()
def tw7536705244372457871:=()
def tw1343489295396548061:=()
def tw8911213739701436819:=()
def tw7941659435086568009:=()
def tw11158999605925005427:=()
def tw17942376366901943108:=()
def tw8779778468466050588:=()
def tw17769633430820285166:=()
def tw1563006115191235959:=()
def tw10001839585450579266:=()
def tw1012247803079069466:=()
def tw3572209700165026787:=()
def tw11532181305837933515:=()
def tw12543403543745559586:=()
def tw2190043831284190951:=()
def tw14182059078422922381:=()
def tw5106108178656589302:=()
def tw18073293921936799741:=()
def tw16669876250257248613:=()
def tw2825725817279590962:=()
def tw12566745585930331442:=()
def tw5689010035102945323:=()
def tw15375823198525577256:=()
def tw16909029446645441158:=()
def tw18137722197892983183:=()
def tw1378917019707942161:=()
def tw7640872517547829735:=()
def tw2408863160102598128:=()
def tw10786833774262446582:=()
def tw290006656868929912:=()
def tw9805230454286120617:=()
def tw878103936857825006:=()
def tw3702506143261805806:=()
def tw6829274599541193762:=()
def tw11768077579786470970:=()
def tw13181712247508722831:=()
def tw11436543322422412142:=()
def tw9824344182877932137:=()
def tw13131445009474164911:=()
def tw4413693343015787992:=()
def tw8036894023122823232:=()
def tw15450560139936890204:=()
def tw9495318066398181145:=()
def tw8233033097213013767:=()
def tw14297408912719941074:=()
def tw12096804472702511:=()
def tw11963183465659441576:=()
def tw16109860469738943099:=()
def tw543303010783107203:=()
def tw10667720853145178384:=()
def tw17384008725352178890:=()
def tw6576969662930773852:=()
def tw2052097948861834025:=()
def tw8902134008972013843:=()
def tw648344957369231402:=()
def tw7671241835165683454:=()
def tw17829999687952795618:=()
def tw3217328305335120087:=()
def tw15848331698255025362:=()
def tw14366385453497256098:=()
def tw11598502265514862021:=()
def tw4871919874174312524:=()
def tw1139325381137971801:=()
def tw2859676187246574556:=()
def tw4577733917402095706:=()
def tw5096251067176072727:=()
def tw13933185266368552201:=()
def tw4994654840485163837:=()
def tw7705461076381875247:=()
def tw11742365729976371592:=()
def tw8037473343869048303:=()
def tw11279593340618341173:=()
def tw333791911551075821:=()
def tw13585943320628486927:=()
def tw16165085338427694293:=()
def tw15791972085219798915:=()
def tw11895782573793003137:=()
def tw7478116947477988962:=()
def tw8266224447692329155:=()
def tw14921875197008989513:=()
def tw10101090454158134138:=()
def tw4115894324763897290:=()
def tw5401284119230102247:=()
def tw2813837907183469883:=()
def tw469043879247682743:=()
def tw14301192856983559022:=()
def tw11072638118800624853:=()
def tw2245258127111610274:=()
def tw5014926870277526137:=()
def tw10712964868278850591:=()
def tw1077689982896860920:=()
def tw14308846358608086300:=()
def tw17228776644359332245:=()
def tw8374163174060595998:=()
def tw11752217475150589894:=()
def tw16449025359517492686:=()
def tw17383365416739045236:=()
def tw14267852512136863795:=()
def tw2799386947095323360:=()
def tw3072212498038452559:=()
def tw17378060026106066405:=()
def tw9721748275396421225:=()
def tw13704471938058529619:=()
def tw7813782484577603159:=()
def tw6156614243574289413:=()
def tw6738170463721253866:=()
def tw15973457624372320544:=()
def tw16317454228781670444:=()
def tw17798584773327014041:=()
def tw17018603417397300190:=()
def tw16405044373352851942:=()
def tw2996992467223909590:=()
def tw8139605679424291317:=()
def tw7126990888597752043:=()
def tw5246561779313218037:=()
def tw11475115416190689660:=()
def tw556830775485116134:=()
def tw846067859291608841:=()
def tw15191201635100235214:=()
def tw18267941483619652604:=()
def tw1240364515791927360:=()
def tw1306690354906906595:=()
def tw1223270845047174001:=()
def tw7178950835939815230:=()
def tw12789453425551193776:=()
def tw10639073445340787386:=()
def tw8971795088665001741:=()
def tw8362143283327388716:=()
def tw18070031435860785555:=()
def tw928791843918565951:=()
def tw11999957279017298135:=()
def tw16844277455746216840:=()
def tw17080877494989188355:=()
def tw7033967168282607448:=()
def tw1183099421434009563:=()
def tw11161806796841698671:=()
def tw4842519635498904221:=()
def tw9598886460514390815:=()
def tw4141369744407456298:=()
def tw9569331561353125076:=()
def tw8457661342831914979:=()
end PySem.W.Fast
open PySem PySem.W PyProof.Rows
set_option maxRecDepth 100000 in
set_option maxHeartbeats 0 in
theorem PySem.Challenge.cw_noteworth_k50_refusals_kin_holds : PySem.Challenge.rw_noteworth_k50_refusals_kin.Holds := by
  w_on; o_law; k_head; (case hw => w_witness2)
  k_fill
  refine Mine.walk (l := PySem.Challenge.rw_noteworth_k50_refusals_kin) rfl rfl (fun w h Y => PySem.W.kIn_of Y) ?F
  case F =>
    intro w mg fa h KX G hmg
    refine' Mine.all_mk KX G hmg ?aC_Voice ?aC_Deed ?aC_Book ?aC_Ear ?aX_BadName ?aX_NameTaken ?aX_Full ?aX_NoVoice ?aX_NotPlain ?aX_BadTerm ?aX_NoPlace ?aX_Leaned ?aX_NoMore ?aX_BadSign ?aX_NoteError ?aX_BadWord ?aX_BadRow ?aX_Closed ?a_Book___init__ ?l_Book___init__ ?c_Book___init__ ?k_Book___init__ ?fn_Book___init__ ?a_is_name ?l_is_name ?c_is_name ?k_is_name ?a_Book_names ?l_Book_names ?c_Book_names ?k_Book_names ?fn_Book_names ?a_Book_refuse_new ?l_Book_refuse_new ?c_Book_refuse_new ?k_Book_refuse_new ?fn_Book_refuse_new ?a_Deed_do ?l_Deed_do ?c_Deed_do ?k_Deed_do ?fn_Deed_do ?a_Book_perform ?l_Book_perform ?c_Book_perform ?k_Book_perform ?fn_Book_perform ?a_Deed___init__ ?l_Deed___init__ ?c_Deed___init__ ?k_Deed___init__ ?fn_Deed___init__ ?a_Book_put_in ?l_Book_put_in ?c_Book_put_in ?k_Book_put_in ?fn_Book_put_in ?a_Voice___init__ ?l_Voice___init__ ?c_Voice___init__ ?k_Voice___init__ ?fn_Voice___init__ ?a_Book_add_voice ?l_Book_add_voice ?c_Book_add_voice ?k_Book_add_voice ?fn_Book_add_voice ?a_Book_voice_called ?l_Book_voice_called ?c_Book_voice_called ?k_Book_voice_called ?fn_Book_voice_called ?a_Book_plain_voice ?l_Book_plain_voice ?c_Book_plain_voice ?k_Book_plain_voice ?fn_Book_plain_voice ?a_Book_add_canon ?l_Book_add_canon ?c_Book_add_canon ?k_Book_add_canon ?fn_Book_add_canon ?dl_Book_add_canon ?a_l_cell_at ?l_l_cell_at ?c_l_cell_at ?k_l_cell_at ?a_Book_canon ?l_Book_canon ?c_Book_canon ?k_Book_canon ?fn_Book_canon ?a_Book_line ?l_Book_line ?c_Book_line ?k_Book_line ?fn_Book_line ?a_refuse_other_places ?l_refuse_other_places ?c_refuse_other_places ?k_refuse_other_places ?a_Book_cut ?l_Book_cut ?c_Book_cut ?k_Book_cut ?fn_Book_cut ?a_Book_drop ?l_Book_drop ?c_Book_drop ?k_Book_drop ?fn_Book_drop ?a_Book_redo ?l_Book_redo ?c_Book_redo ?k_Book_redo ?fn_Book_redo ?a_good ?l_good ?c_good ?k_good ?a_shown_sign ?l_shown_sign ?c_shown_sign ?k_shown_sign ?a_number_of ?l_number_of ?c_number_of ?k_number_of ?a_sign_of ?l_sign_of ?c_sign_of ?k_sign_of ?a_BadWord___init__ ?l_BadWord___init__ ?c_BadWord___init__ ?k_BadWord___init__ ?fn_BadWord___init__ ?a_read_sign ?l_read_sign ?c_read_sign ?k_read_sign ?a_take_voice ?l_take_voice ?c_take_voice ?k_take_voice ?a_take_row ?l_take_row ?c_take_row ?k_take_row ?a_BadRow___init__ ?l_BadRow___init__ ?c_BadRow___init__ ?k_BadRow___init__ ?fn_BadRow___init__ ?a_read_book ?l_read_book ?c_read_book ?k_read_book ?a_Ear___init__ ?l_Ear___init__ ?c_Ear___init__ ?k_Ear___init__ ?fn_Ear___init__ ?dl_Ear___init__ ?a_Ear_refuse_where_closed ?l_Ear_refuse_where_closed ?c_Ear_refuse_where_closed ?k_Ear_refuse_where_closed ?fn_Ear_refuse_where_closed ?a_Ear_close_run ?l_Ear_close_run ?c_Ear_close_run ?k_Ear_close_run ?fn_Ear_close_run ?a_Ear_let_go ?l_Ear_let_go ?c_Ear_let_go ?k_Ear_let_go ?fn_Ear_let_go ?a_Ear_settled_by ?l_Ear_settled_by ?c_Ear_settled_by ?k_Ear_settled_by ?fn_Ear_settled_by ?a_Ear_close ?l_Ear_close ?c_Ear_close ?k_Ear_close ?fn_Ear_close ?a_Ear_hear ?l_Ear_hear ?c_Ear_hear ?k_Ear_hear ?fn_Ear_hear ?a_l_bring ?l_l_bring ?c_l_bring ?k_l_bring ?a_l_kin ?l_l_kin ?c_l_kin ?k_l_kin ?a_law ?l_law ?c_law ?k_law ?z_ValueError ?z_all ?z_any ?z_enumerate ?z_int ?z_isinstance ?z_len ?z_list ?z_min ?z_range ?a_GREAT_KINDS_ ?l_GREAT_KINDS_ ?a_SMALL_KINDS_ ?l_SMALL_KINDS_ ?a_SOUNDING_KINDS_ ?l_SOUNDING_KINDS_ ?a_SILENT_KINDS_ ?l_SILENT_KINDS_ ?a_HIGHEST_TONE_ ?a_FIGURES_ ?l_FIGURES_ ?a_MOST_FIGURES_texts_ ?a_SHORTENED_WORTH_ ?a_DOUBLED_WORTH_ ?a_LETTERS_ ?a_LONGEST_NAME_ ?a_MOST_VOICES_ ?a_LATEST_ ?a_SLOWEST_ ?a_NOTHING_MORE_ ?mkm_Voice ?mkk_Voice ?pg_Voice ?hd_Voice ?po_Voice ?sa_Voice ?na_Voice_name ?na_Voice_terms ?na_Voice_signs ?mkm_Deed ?mkk_Deed ?pg_Deed ?hd_Deed ?po_Deed ?sa_Deed ?na_Deed_things ?na_Deed_at ?na_Deed_before ?na_Deed_after ?mkm_Book ?mkk_Book ?pg_Book ?hd_Book ?po_Book ?sa_Book ?na_Book_voices ?na_Book_done ?na_Book_undone ?mkm_Ear ?mkk_Ear ?pg_Ear ?hd_Ear ?po_Ear ?sa_Ear ?na_Ear_measure ?na_Ear_held ?na_Ear_left ?na_Ear_right ?na_Ear_counted ?na_Ear_last ?na_Ear_is_closed ?xo_BadWord ?xok_BadWord ?xin_BadWord ?xtl_BadWord ?xfn_BadWord ?xcl_BadWord ?xve_BadWord ?xhd_BadWord ?xsa_BadWord ?xg_BadWord ?xn_BadWord ?xc_BadWord ?xkp_BadWord ?na_BadWord_at ?xo_BadRow ?xok_BadRow ?xin_BadRow ?xtl_BadRow ?xfn_BadRow ?xcl_BadRow ?xve_BadRow ?xhd_BadRow ?xsa_BadRow ?xg_BadRow ?xn_BadRow ?xc_BadRow ?xkp_BadRow ?na_BadRow_at ?xsp_NoteError ?xrd_NoteError ?xfd_NoteError ?xe_BadName ?xg_BadName ?xn_BadName ?xc_BadName ?xe_NameTaken ?xg_NameTaken ?xn_NameTaken ?xc_NameTaken ?xe_Full ?xg_Full ?xn_Full ?xc_Full ?xe_NoVoice ?xg_NoVoice ?xn_NoVoice ?xc_NoVoice ?xe_NotPlain ?xg_NotPlain ?xn_NotPlain ?xc_NotPlain ?xe_BadTerm ?xg_BadTerm ?xn_BadTerm ?xc_BadTerm ?xe_NoPlace ?xg_NoPlace ?xn_NoPlace ?xc_NoPlace ?xe_Leaned ?xg_Leaned ?xn_Leaned ?xc_Leaned ?xe_NoMore ?xg_NoMore ?xn_NoMore ?xc_NoMore ?xe_BadSign ?xg_BadSign ?xn_BadSign ?xc_BadSign ?xe_Closed ?xg_Closed ?xn_Closed ?xc_Closed ?xm_BadName_NoteError ?xm_NameTaken_NoteError ?xm_Full_NoteError ?xm_NoVoice_NoteError ?xm_NotPlain_NoteError ?xm_BadTerm_NoteError ?xm_NoPlace_NoteError ?xm_Leaned_NoteError ?xm_NoMore_NoteError ?xm_BadSign_NoteError ?xm_Closed_NoteError ?xm_BadWord_NoteError ?xm_BadRow_NoteError ?ki_BadName_BadName ?ki_NameTaken_BadName ?ki_Full_BadName ?ki_NoVoice_BadName ?ki_NotPlain_BadName ?ki_BadTerm_BadName ?ki_NoPlace_BadName ?ki_Leaned_BadName ?ki_NoMore_BadName ?ki_BadSign_BadName ?ki_Closed_BadName ?ki_BadWord_BadName ?ki_BadRow_BadName ?ki_BadName_NameTaken ?ki_NameTaken_NameTaken ?ki_Full_NameTaken ?ki_NoVoice_NameTaken ?ki_NotPlain_NameTaken ?ki_BadTerm_NameTaken ?ki_NoPlace_NameTaken ?ki_Leaned_NameTaken ?ki_NoMore_NameTaken ?ki_BadSign_NameTaken ?ki_Closed_NameTaken ?ki_BadWord_NameTaken ?ki_BadRow_NameTaken ?ki_BadName_NoVoice ?ki_NameTaken_NoVoice ?ki_Full_NoVoice ?ki_NoVoice_NoVoice ?ki_NotPlain_NoVoice ?ki_BadTerm_NoVoice ?ki_NoPlace_NoVoice ?ki_Leaned_NoVoice ?ki_NoMore_NoVoice ?ki_BadSign_NoVoice ?ki_Closed_NoVoice ?ki_BadWord_NoVoice ?ki_BadRow_NoVoice ?ki_BadName_NotPlain ?ki_NameTaken_NotPlain ?ki_Full_NotPlain ?ki_NoVoice_NotPlain ?ki_NotPlain_NotPlain ?ki_BadTerm_NotPlain ?ki_NoPlace_NotPlain ?ki_Leaned_NotPlain ?ki_NoMore_NotPlain ?ki_BadSign_NotPlain ?ki_Closed_NotPlain ?ki_BadWord_NotPlain ?ki_BadRow_NotPlain ?ki_BadName_NoPlace ?ki_NameTaken_NoPlace ?ki_Full_NoPlace ?ki_NoVoice_NoPlace ?ki_NotPlain_NoPlace ?ki_BadTerm_NoPlace ?ki_NoPlace_NoPlace ?ki_Leaned_NoPlace ?ki_NoMore_NoPlace ?ki_BadSign_NoPlace ?ki_Closed_NoPlace ?ki_BadWord_NoPlace ?ki_BadRow_NoPlace ?ki_BadName_BadTerm ?ki_NameTaken_BadTerm ?ki_Full_BadTerm ?ki_NoVoice_BadTerm ?ki_NotPlain_BadTerm ?ki_BadTerm_BadTerm ?ki_NoPlace_BadTerm ?ki_Leaned_BadTerm ?ki_NoMore_BadTerm ?ki_BadSign_BadTerm ?ki_Closed_BadTerm ?ki_BadWord_BadTerm ?ki_BadRow_BadTerm ?ki_BadName_Leaned ?ki_NameTaken_Leaned ?ki_Full_Leaned ?ki_NoVoice_Leaned ?ki_NotPlain_Leaned ?ki_BadTerm_Leaned ?ki_NoPlace_Leaned ?ki_Leaned_Leaned ?ki_NoMore_Leaned ?ki_BadSign_Leaned ?ki_Closed_Leaned ?ki_BadWord_Leaned ?ki_BadRow_Leaned ?ki_BadName_NoMore ?ki_NameTaken_NoMore ?ki_Full_NoMore ?ki_NoVoice_NoMore ?ki_NotPlain_NoMore ?ki_BadTerm_NoMore ?ki_NoPlace_NoMore ?ki_Leaned_NoMore ?ki_NoMore_NoMore ?ki_BadSign_NoMore ?ki_Closed_NoMore ?ki_BadWord_NoMore ?ki_BadRow_NoMore ?ki_BadName_BadSign ?ki_NameTaken_BadSign ?ki_Full_BadSign ?ki_NoVoice_BadSign ?ki_NotPlain_BadSign ?ki_BadTerm_BadSign ?ki_NoPlace_BadSign ?ki_Leaned_BadSign ?ki_NoMore_BadSign ?ki_BadSign_BadSign ?ki_Closed_BadSign ?ki_BadWord_BadSign ?ki_BadRow_BadSign ?ki_BadName_BadWord ?ki_NameTaken_BadWord ?ki_Full_BadWord ?ki_NoVoice_BadWord ?ki_NotPlain_BadWord ?ki_BadTerm_BadWord ?ki_NoPlace_BadWord ?ki_Leaned_BadWord ?ki_NoMore_BadWord ?ki_BadSign_BadWord ?ki_Closed_BadWord ?ki_BadWord_BadWord ?ki_BadRow_BadWord ?ki_BadName_BadRow ?ki_NameTaken_BadRow ?ki_Full_BadRow ?ki_NoVoice_BadRow ?ki_NotPlain_BadRow ?ki_BadTerm_BadRow ?ki_NoPlace_BadRow ?ki_Leaned_BadRow ?ki_NoMore_BadRow ?ki_BadSign_BadRow ?ki_Closed_BadRow ?ki_BadWord_BadRow ?ki_BadRow_BadRow ?ki_BadName_Full ?ki_NameTaken_Full ?ki_Full_Full ?ki_NoVoice_Full ?ki_NotPlain_Full ?ki_BadTerm_Full ?ki_NoPlace_Full ?ki_Leaned_Full ?ki_NoMore_Full ?ki_BadSign_Full ?ki_Closed_Full ?ki_BadWord_Full ?ki_BadRow_Full ?ki_BadName_Closed ?ki_NameTaken_Closed ?ki_Full_Closed ?ki_NoVoice_Closed ?ki_NotPlain_Closed ?ki_BadTerm_Closed ?ki_NoPlace_Closed ?ki_Leaned_Closed ?ki_NoMore_Closed ?ki_BadSign_Closed ?ki_Closed_Closed ?ki_BadWord_Closed ?ki_BadRow_Closed ?kb_BadName_ValueError ?kb_NameTaken_ValueError ?kb_Full_ValueError ?kb_NoVoice_ValueError ?kb_NotPlain_ValueError ?kb_BadTerm_ValueError ?kb_NoPlace_ValueError ?kb_Leaned_ValueError ?kb_NoMore_ValueError ?kb_BadSign_ValueError ?kb_Closed_ValueError ?kb_BadWord_ValueError ?kb_BadRow_ValueError
    (case aC_Voice | aC_Deed | aC_Book | aC_Ear | aX_BadName | aX_NameTaken | aX_Full | aX_NoVoice | aX_NotPlain | aX_BadTerm | aX_NoPlace | aX_Leaned | aX_NoMore | aX_BadSign | aX_NoteError | aX_BadWord | aX_BadRow | aX_Closed | a_Book___init__ | l_Book___init__ | c_Book___init__ | k_Book___init__ | fn_Book___init__ | a_is_name | l_is_name | c_is_name | k_is_name | a_Book_names | l_Book_names | c_Book_names | k_Book_names | fn_Book_names | a_Book_refuse_new | l_Book_refuse_new | c_Book_refuse_new | k_Book_refuse_new | fn_Book_refuse_new | a_Deed_do | l_Deed_do | c_Deed_do | k_Deed_do | fn_Deed_do | a_Book_perform | l_Book_perform | c_Book_perform | k_Book_perform | fn_Book_perform | a_Deed___init__ | l_Deed___init__ | c_Deed___init__ | k_Deed___init__ | fn_Deed___init__ | a_Book_put_in | l_Book_put_in | c_Book_put_in | k_Book_put_in | fn_Book_put_in | a_Voice___init__ | l_Voice___init__ | c_Voice___init__ | k_Voice___init__ | fn_Voice___init__ | a_Book_add_voice | l_Book_add_voice | c_Book_add_voice | k_Book_add_voice | fn_Book_add_voice | a_Book_voice_called | l_Book_voice_called | c_Book_voice_called | k_Book_voice_called | fn_Book_voice_called | a_Book_plain_voice | l_Book_plain_voice | c_Book_plain_voice | k_Book_plain_voice | fn_Book_plain_voice | a_Book_add_canon | l_Book_add_canon | c_Book_add_canon | k_Book_add_canon | fn_Book_add_canon | dl_Book_add_canon | a_l_cell_at | l_l_cell_at | c_l_cell_at | k_l_cell_at | a_Book_canon | l_Book_canon | c_Book_canon | k_Book_canon | fn_Book_canon | a_Book_line | l_Book_line | c_Book_line | k_Book_line | fn_Book_line | a_refuse_other_places | l_refuse_other_places | c_refuse_other_places | k_refuse_other_places | a_Book_cut | l_Book_cut | c_Book_cut | k_Book_cut | fn_Book_cut | a_Book_drop | l_Book_drop | c_Book_drop | k_Book_drop | fn_Book_drop | a_Book_redo | l_Book_redo | c_Book_redo | k_Book_redo | fn_Book_redo | a_good | l_good | c_good | k_good | a_shown_sign | l_shown_sign | c_shown_sign | k_shown_sign | a_number_of | l_number_of | c_number_of | k_number_of | a_sign_of | l_sign_of | c_sign_of | k_sign_of | a_BadWord___init__ | l_BadWord___init__ | c_BadWord___init__ | k_BadWord___init__ | fn_BadWord___init__ | a_read_sign | l_read_sign | c_read_sign | k_read_sign | a_take_voice | l_take_voice | c_take_voice | k_take_voice | a_take_row | l_take_row | c_take_row | k_take_row | a_BadRow___init__ | l_BadRow___init__ | c_BadRow___init__ | k_BadRow___init__ | fn_BadRow___init__ | a_read_book | l_read_book | c_read_book | k_read_book | a_Ear___init__ | l_Ear___init__ | c_Ear___init__ | k_Ear___init__ | fn_Ear___init__ | dl_Ear___init__ | a_Ear_refuse_where_closed | l_Ear_refuse_where_closed | c_Ear_refuse_where_closed | k_Ear_refuse_where_closed | fn_Ear_refuse_where_closed | a_Ear_close_run | l_Ear_close_run | c_Ear_close_run | k_Ear_close_run | fn_Ear_close_run | a_Ear_let_go | l_Ear_let_go | c_Ear_let_go | k_Ear_let_go | fn_Ear_let_go | a_Ear_settled_by | l_Ear_settled_by | c_Ear_settled_by | k_Ear_settled_by | fn_Ear_settled_by | a_Ear_close | l_Ear_close | c_Ear_close | k_Ear_close | fn_Ear_close | a_Ear_hear | l_Ear_hear | c_Ear_hear | k_Ear_hear | fn_Ear_hear | a_l_bring | l_l_bring | c_l_bring | k_l_bring | a_l_kin | l_l_kin | c_l_kin | k_l_kin | a_law | l_law | c_law | k_law | z_ValueError | z_all | z_any | z_enumerate | z_int | z_isinstance | z_len | z_list | z_min | z_range | a_GREAT_KINDS_ | l_GREAT_KINDS_ | a_SMALL_KINDS_ | l_SMALL_KINDS_ | a_SOUNDING_KINDS_ | l_SOUNDING_KINDS_ | a_SILENT_KINDS_ | l_SILENT_KINDS_ | a_HIGHEST_TONE_ | a_FIGURES_ | l_FIGURES_ | a_MOST_FIGURES_texts_ | a_SHORTENED_WORTH_ | a_DOUBLED_WORTH_ | a_LETTERS_ | a_LONGEST_NAME_ | a_MOST_VOICES_ | a_LATEST_ | a_SLOWEST_ | a_NOTHING_MORE_ | mkm_Voice | mkk_Voice | pg_Voice | hd_Voice | po_Voice | sa_Voice | na_Voice_name | na_Voice_terms | na_Voice_signs | mkm_Deed | mkk_Deed | pg_Deed | hd_Deed | po_Deed | sa_Deed | na_Deed_things | na_Deed_at | na_Deed_before | na_Deed_after | mkm_Book | mkk_Book | pg_Book | hd_Book | po_Book | sa_Book | na_Book_voices | na_Book_done | na_Book_undone | mkm_Ear | mkk_Ear | pg_Ear | hd_Ear | po_Ear | sa_Ear | na_Ear_measure | na_Ear_held | na_Ear_left | na_Ear_right | na_Ear_counted | na_Ear_last | na_Ear_is_closed | xo_BadWord => k_is)
    (case xok_BadWord => kernel_rfl)
    (case xin_BadWord => k_is)
    (case xtl_BadWord => kernel_rfl)
    (case xfn_BadWord | xcl_BadWord => k_is)
    (case xve_BadWord | xhd_BadWord => kernel_rfl)
    (case xsa_BadWord | xg_BadWord | xn_BadWord | xc_BadWord | xkp_BadWord | na_BadWord_at | xo_BadRow => k_is)
    (case xok_BadRow => kernel_rfl)
    (case xin_BadRow => k_is)
    (case xtl_BadRow => kernel_rfl)
    (case xfn_BadRow | xcl_BadRow => k_is)
    (case xve_BadRow | xhd_BadRow => kernel_rfl)
    (case xsa_BadRow | xg_BadRow | xn_BadRow | xc_BadRow | xkp_BadRow | na_BadRow_at | xsp_NoteError | xrd_NoteError | xfd_NoteError => k_is)
    (case xe_BadName => k_exc)
    (case xg_BadName | xn_BadName | xc_BadName => k_is)
    (case xe_NameTaken => k_exc)
    (case xg_NameTaken | xn_NameTaken | xc_NameTaken => k_is)
    (case xe_Full => k_exc)
    (case xg_Full | xn_Full | xc_Full => k_is)
    (case xe_NoVoice => k_exc)
    (case xg_NoVoice | xn_NoVoice | xc_NoVoice => k_is)
    (case xe_NotPlain => k_exc)
    (case xg_NotPlain | xn_NotPlain | xc_NotPlain => k_is)
    (case xe_BadTerm => k_exc)
    (case xg_BadTerm | xn_BadTerm | xc_BadTerm => k_is)
    (case xe_NoPlace => k_exc)
    (case xg_NoPlace | xn_NoPlace | xc_NoPlace => k_is)
    (case xe_Leaned => k_exc)
    (case xg_Leaned | xn_Leaned | xc_Leaned => k_is)
    (case xe_NoMore => k_exc)
    (case xg_NoMore | xn_NoMore | xc_NoMore => k_is)
    (case xe_BadSign => k_exc)
    (case xg_BadSign | xn_BadSign | xc_BadSign => k_is)
    (case xe_Closed => k_exc)
    (case xg_Closed | xn_Closed | xc_Closed => k_is)
    (case xm_BadName_NoteError | xm_NameTaken_NoteError | xm_Full_NoteError | xm_NoVoice_NoteError | xm_NotPlain_NoteError | xm_BadTerm_NoteError | xm_NoPlace_NoteError | xm_Leaned_NoteError | xm_NoMore_NoteError | xm_BadSign_NoteError | xm_Closed_NoteError | xm_BadWord_NoteError | xm_BadRow_NoteError => kts_exm)
    (case ki_BadName_BadName | ki_NameTaken_BadName | ki_Full_BadName | ki_NoVoice_BadName | ki_NotPlain_BadName | ki_BadTerm_BadName | ki_NoPlace_BadName | ki_Leaned_BadName | ki_NoMore_BadName | ki_BadSign_BadName | ki_Closed_BadName | ki_BadWord_BadName | ki_BadRow_BadName | ki_BadName_NameTaken | ki_NameTaken_NameTaken | ki_Full_NameTaken | ki_NoVoice_NameTaken | ki_NotPlain_NameTaken | ki_BadTerm_NameTaken | ki_NoPlace_NameTaken | ki_Leaned_NameTaken | ki_NoMore_NameTaken | ki_BadSign_NameTaken | ki_Closed_NameTaken | ki_BadWord_NameTaken | ki_BadRow_NameTaken | ki_BadName_NoVoice | ki_NameTaken_NoVoice | ki_Full_NoVoice | ki_NoVoice_NoVoice | ki_NotPlain_NoVoice | ki_BadTerm_NoVoice | ki_NoPlace_NoVoice | ki_Leaned_NoVoice | ki_NoMore_NoVoice | ki_BadSign_NoVoice | ki_Closed_NoVoice | ki_BadWord_NoVoice | ki_BadRow_NoVoice | ki_BadName_NotPlain | ki_NameTaken_NotPlain | ki_Full_NotPlain | ki_NoVoice_NotPlain | ki_NotPlain_NotPlain | ki_BadTerm_NotPlain | ki_NoPlace_NotPlain | ki_Leaned_NotPlain | ki_NoMore_NotPlain | ki_BadSign_NotPlain | ki_Closed_NotPlain | ki_BadWord_NotPlain | ki_BadRow_NotPlain | ki_BadName_NoPlace | ki_NameTaken_NoPlace | ki_Full_NoPlace | ki_NoVoice_NoPlace | ki_NotPlain_NoPlace | ki_BadTerm_NoPlace | ki_NoPlace_NoPlace | ki_Leaned_NoPlace | ki_NoMore_NoPlace | ki_BadSign_NoPlace | ki_Closed_NoPlace | ki_BadWord_NoPlace | ki_BadRow_NoPlace | ki_BadName_BadTerm | ki_NameTaken_BadTerm | ki_Full_BadTerm | ki_NoVoice_BadTerm | ki_NotPlain_BadTerm | ki_BadTerm_BadTerm | ki_NoPlace_BadTerm | ki_Leaned_BadTerm | ki_NoMore_BadTerm | ki_BadSign_BadTerm | ki_Closed_BadTerm | ki_BadWord_BadTerm | ki_BadRow_BadTerm | ki_BadName_Leaned | ki_NameTaken_Leaned | ki_Full_Leaned | ki_NoVoice_Leaned | ki_NotPlain_Leaned | ki_BadTerm_Leaned | ki_NoPlace_Leaned | ki_Leaned_Leaned | ki_NoMore_Leaned | ki_BadSign_Leaned | ki_Closed_Leaned | ki_BadWord_Leaned | ki_BadRow_Leaned | ki_BadName_NoMore | ki_NameTaken_NoMore | ki_Full_NoMore | ki_NoVoice_NoMore | ki_NotPlain_NoMore | ki_BadTerm_NoMore | ki_NoPlace_NoMore | ki_Leaned_NoMore | ki_NoMore_NoMore | ki_BadSign_NoMore | ki_Closed_NoMore | ki_BadWord_NoMore | ki_BadRow_NoMore | ki_BadName_BadSign | ki_NameTaken_BadSign | ki_Full_BadSign | ki_NoVoice_BadSign | ki_NotPlain_BadSign | ki_BadTerm_BadSign | ki_NoPlace_BadSign | ki_Leaned_BadSign | ki_NoMore_BadSign | ki_BadSign_BadSign | ki_Closed_BadSign | ki_BadWord_BadSign | ki_BadRow_BadSign | ki_BadName_BadWord | ki_NameTaken_BadWord | ki_Full_BadWord | ki_NoVoice_BadWord | ki_NotPlain_BadWord | ki_BadTerm_BadWord | ki_NoPlace_BadWord | ki_Leaned_BadWord | ki_NoMore_BadWord | ki_BadSign_BadWord | ki_Closed_BadWord | ki_BadWord_BadWord | ki_BadRow_BadWord | ki_BadName_BadRow | ki_NameTaken_BadRow | ki_Full_BadRow | ki_NoVoice_BadRow | ki_NotPlain_BadRow | ki_BadTerm_BadRow | ki_NoPlace_BadRow | ki_Leaned_BadRow | ki_NoMore_BadRow | ki_BadSign_BadRow | ki_Closed_BadRow | ki_BadWord_BadRow | ki_BadRow_BadRow | ki_BadName_Full | ki_NameTaken_Full | ki_Full_Full | ki_NoVoice_Full | ki_NotPlain_Full | ki_BadTerm_Full | ki_NoPlace_Full | ki_Leaned_Full | ki_NoMore_Full | ki_BadSign_Full | ki_Closed_Full | ki_BadWord_Full | ki_BadRow_Full | ki_BadName_Closed | ki_NameTaken_Closed | ki_Full_Closed | ki_NoVoice_Closed | ki_NotPlain_Closed | ki_BadTerm_Closed | ki_NoPlace_Closed | ki_Leaned_Closed | ki_NoMore_Closed | ki_BadSign_Closed | ki_Closed_Closed | ki_BadWord_Closed | ki_BadRow_Closed | kb_BadName_ValueError | kb_NameTaken_ValueError | kb_Full_ValueError | kb_NoVoice_ValueError | kb_NotPlain_ValueError | kb_BadTerm_ValueError | kb_NoPlace_ValueError | kb_Leaned_ValueError | kb_NoMore_ValueError | kb_BadSign_ValueError | kb_Closed_ValueError | kb_BadWord_ValueError | kb_BadRow_ValueError => kit_is)
