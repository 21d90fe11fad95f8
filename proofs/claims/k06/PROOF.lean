import PyProof.Rows.All
import Wide.All
import OpenK.AllK
import Wide.FinOn
import Lean
import PyProof.EqAt
import PyProof.EqKinds
import PyProof.TupleCall
import PySem.Challenge.RW_noteworth_k06_first_bad_word
set_option Elab.async false
set_option linter.all false
set_option maxRecDepth 100000
/-! THE HAND LAYER, for ints, bools, texts, own classes, LISTS and tuples (index, slices, in, append, pop ..), calls, loops. Paste it whole ahead of your own text; what your proof does not reach may be deleted. -/
namespace L2
open PySem PySem.Spec PyProof.Rows

/-- a key: an int or a str -/
abbrev Key := Sum Int Str
def keyIs : Key → Value → Bool
  | .inl k, v => Value.isInt k v
  | .inr x, v => Value.isStrOf x v
def keyH (w : World) : Key → Int
  | .inl k => hashInt k
  | .inr x => hashStr w x
theorem keyIs_shape : ∀ {k : Key} {v : Value}, keyIs k v = true → (∃ i t, k = Sum.inl i ∧ v = Value.int i t) ∨ (∃ x t, k = Sum.inr x ∧ v = Value.str x t)
  | .inl i, v, h => by
    obtain ⟨t, e⟩ := Value.isInt_shape (k := i) (v := v) h
    exact .inl ⟨i, t, rfl, e⟩
  | .inr x, v, h => by
    obtain ⟨t, e⟩ := Value.isStrOf_shape (x := x) (v := v) h
    exact .inr ⟨x, t, rfl, e⟩
theorem key_ll (a b : Int) : decide ((Sum.inl a : Key) = Sum.inl b) = (a == b) := by
  by_cases e : a = b
  · subst e; simp
  · have h : ¬ (Sum.inl a : Key) = Sum.inl b := fun q => e (Sum.inl.inj q)
    rw [decide_eq_false h]
    exact (beq_eq_false_iff_ne.mpr e).symm
theorem key_rr (a b : Str) : decide ((Sum.inr a : Key) = Sum.inr b) = decide (a = b) := by
  by_cases e : a = b
  · subst e; simp
  · have h : ¬ (Sum.inr a : Key) = Sum.inr b := fun q => e (Sum.inr.inj q)
    rw [decide_eq_false h, decide_eq_false e]
theorem key_lr (a : Int) (b : Str) : decide ((Sum.inl a : Key) = Sum.inr b) = false := decide_eq_false (fun q => nomatch q)
theorem key_rl (a : Str) (b : Int) : decide ((Sum.inr a : Key) = Sum.inl b) = false := decide_eq_false (fun q => nomatch q)

def mixKind (prog : Program) (w : World) : PySem.KeyKind prog w Key where
  is := keyIs
  hash := keyH w
  inj := fun v a b ha hb => by
    rcases keyIs_shape ha with ⟨i, t, rfl, rfl⟩ | ⟨x, t, rfl, rfl⟩
    · rcases keyIs_shape hb with ⟨j, u, rfl, e⟩ | ⟨y, u, rfl, e⟩
      · injection e with e1 _; rw [e1]
      · exact nomatch e
    · rcases keyIs_shape hb with ⟨j, u, rfl, e⟩ | ⟨y, u, rfl, e⟩
      · exact nomatch e
      · injection e with e1 _; rw [e1]
  byValue := fun k v h => by
    rcases keyIs_shape h with ⟨i, t, rfl, rfl⟩ | ⟨x, t, rfl, rfl⟩ <;> rfl
  pyHash := fun hv h => by
    rcases keyIs_shape hv with ⟨i, t, rfl, rfl⟩ | ⟨x, t, rfl, rfl⟩
    · exact wpAny_pyHash_int h
    · exact wpAny_pyHash_str h
  eqBool := fun hu hv h => by
    rcases keyIs_shape hu with ⟨i, t, rfl, rfl⟩ | ⟨x, t, rfl, rfl⟩
    · rcases keyIs_shape hv with ⟨j, u, rfl, rfl⟩ | ⟨y, u, rfl, rfl⟩
      · rw [key_ll] at h; exact wpAny_eqBool_int h
      · rw [key_lr] at h; exact SeqAt.EqAt.int_str i t y u _ _ _ _ h
    · rcases keyIs_shape hv with ⟨j, u, rfl, rfl⟩ | ⟨y, u, rfl, rfl⟩
      · rw [key_rl] at h; exact SeqAt.EqAt.str_int x t j u _ _ _ _ h
      · rw [key_rr] at h; exact wpAny_eqBool_str h
  «strs» := fun k x t v h => by
    rcases keyIs_shape h with ⟨i, u, rfl, e⟩ | ⟨y, u, rfl, e⟩
    · exact nomatch e
    · injection e with e1 _
      subst e1
      cases v <;> rfl

end L2

namespace L2
open PySem PySem.Spec PyProof.Rows

/-- a value, without the heap -/
inductive V where
  | non | bl (b : Bool) | int (i : Int) | str (x : Str) | byt (b : Array UInt8) | flt (b : UInt64) | ref (a : Addr) | ty (n : String)
  deriving DecidableEq

def RelV : V → Value → Prop
  | .non, u => u = Value.none
  | .bl b, u => u = Value.bool b
  | .int i, u => ∃ t, u = Value.int i t
  | .str x, u => ∃ t, u = Value.str x t
  | .byt b, u => ∃ t, u = Value.bytes b t
  | .flt b, u => ∃ t, u = Value.float b t
  | .ref a, u => u = Value.ref a
  | .ty n, u => u = Value.type n

abbrev Vals : List V → List Value → Prop := Paired RelV
theorem Vals.length {xs : List V} {us : List Value} (r : Vals xs us) : xs.length = us.length := Paired.length r
theorem Vals.get : ∀ {xs : List V} {us : List Value} {i : Nat} {x : V}, Vals xs us → xs[i]? = some x → ∃ u, us[i]? = some u ∧ RelV x u
  | _, _, _, _, .nil, e => by simp at e
  | _, _, 0, _, .cons r _, e => by simp at e; subst e; exact ⟨_, rfl, r⟩
  | _, _, i + 1, x, .cons _ t, e => by
    obtain ⟨u, h1, h2⟩ := Vals.get (i := i) (x := x) t (by simpa using e)
    exact ⟨u, by simpa using h1, h2⟩
theorem Vals.append : ∀ {xs ys : List V} {us ws : List Value}, Vals xs us → Vals ys ws → Vals (xs ++ ys) (us ++ ws)
  | _, _, _, _, .nil, s => s
  | _, _, _, _, .cons r t, s => .cons r (Vals.append t s)
theorem Vals.take : ∀ {xs : List V} {us : List Value} (n : Nat), Vals xs us → Vals (xs.take n) (us.take n)
  | _, _, 0, _ => .nil
  | _, _, _ + 1, .nil => .nil
  | _, _, n + 1, .cons r t => .cons r (Vals.take n t)
theorem Vals.drop : ∀ {xs : List V} {us : List Value} (n : Nat), Vals xs us → Vals (xs.drop n) (us.drop n)
  | _, _, 0, r => r
  | _, _, _ + 1, .nil => .nil
  | _, _, n + 1, .cons _ t => Vals.drop n t
def RelO : Option V → Option Value → Prop
  | some v, some u => RelV v u
  | none, none => True
  | _, _ => False
def KV {κ : Type} : List (κ × V) → List (κ × Value) → Prop := Paired fun (p : κ × V) (q : κ × Value) => p.1 = q.1 ∧ RelV p.2 q.2

/-- a key of a dict (00_mix): an int or a text -/
def kV : Key → V
  | .inl i => .int i
  | .inr x => .str x

/-- what stands at a tracked address -/
inductive HO where
  /-- a list -/
  | lst (xs : List V)
  /-- a tuple (never changes) -/
  | tup (xs : List V)
  /-- a dict whose keys are ints and texts; one whose keys are tuples of ints and texts (the empty one is both) -/
  | dK (kvs : List (Key × V)) | dT (kvs : List (List Key × V))
  /-- a set of ints: its members, its size -/
  | set (S : Int → Bool) (n : Nat)
  /-- an instance of the class at C, its dict at dx, its attributes -/
  | ins (C dx : Addr) (fs : List (Str × V))
  /-- the dict of the instance at x -/
  | own (x : Addr)
  /-- the dict of an exception -/
  | xd (fs : List (Str × V))
  /-- a bound method, f of x -/
  | met (f x : Addr)
  /-- a range object lo, lo + 1, .. below hi -/
  | rng (lo hi : Int)
  /-- a thing that is known to the object (the script; a dict while a loop walks it): read, never written while it is so -/
  | frz (o : Obj) (u : HO)
  /-- a code object's table -/
  | tbl (ps : Array Value)
  /-- any other thing, by what is true of its one object (a def of one's own: SetO a S n := HO.ext fun h => ..) -/
  | ext (φ : Heap → Prop)

abbrev Hp := Addr → Option HO
def upd (H : Hp) (a : Addr) (o : HO) : Hp := fun b => if b = a then some o else H b
theorem upd_same {H : Hp} {a : Addr} {o : HO} : upd H a o a = some o := by unfold upd; rw [if_pos rfl]
theorem upd_ne {H : Hp} {a b : Addr} {o : HO} (h : b ≠ a) : upd H a o b = H b := by unfold upd; rw [if_neg h]
theorem upd_upd {H : Hp} {a : Addr} {o u : HO} : upd (upd H a o) a u = upd H a u := by
  funext b; unfold upd; split <;> rfl
/-- two objects of different content stand apart -/
theorem ne_of {H : Hp} {a b : Addr} {o u : HO} (h : H a = some o) (h' : H b = some u) (d : o ≠ u) : a ≠ b := by
  intro e; subst e; rw [h] at h'; exact d (Option.some.inj h')
theorem ne_of_none {H : Hp} {a b : Addr} {o : HO} (h : H a = some o) (h' : H b = none) : a ≠ b := by
  intro e; subst e; rw [h] at h'; cases h'

section
variable (P : Program) (w : World)
def ObjOk (H : Hp) (h : Heap) (a : Addr) : HO → Prop
  | .lst xs => xs.length ≤ sizeLine ∧ ∃ (its : List Value) (n : Nat), Vals xs its ∧ h.get? a = some { cls := .type "list", data := .seq its.toArray n }
  | .tup xs => xs.length ≤ sizeLine ∧ ∃ its : List Value, Vals xs its ∧ IsTup h a its.toArray
  | .dK kvs => kvs.length ≤ sizeLine ∧ (a == sysModules) = false ∧ ∃ vs, KV kvs vs ∧ h.DictOf (mixKind P w) a vs
  | .dT kvs => kvs.length ≤ sizeLine ∧ (a == sysModules) = false ∧ ∃ xs : List (List Key × Addr × Value),
      Paired (fun (p : List Key × V) (q : List Key × Addr × Value) => p.1 = q.1 ∧ H q.2.1 = some (.tup (p.1.map kV)) ∧ RelV p.2 q.2.2) kvs xs ∧
      ∃ o es ep, h.get? a = some o ∧ o.ExactDict ∧ o.data = .dict es ep ∧ es.toList = xs.map (entryOfKey (tupleKind (mixKind P w))) ∧ (xs.map (·.1)).Nodup
  | .set S n => h.SetOf (intKind P w) a S n
  | .ins C dx fs => H dx = some (.own a) ∧ fs.length ≤ 1000 ∧ dx ≠ a ∧ h.get? a = some (PySem.W.instObj C dx) ∧
      ∃ mA, h.Ns1 dx mA ∧ (∀ f, RelO (fs.lookup f) (mA f)) ∧ PySem.Within mA (fs.map (·.1))
  | .own _ => ∃ o, h.get? a = some o
  | .xd fs => ∃ mA, h.Ns1 a mA ∧ ∀ f, RelO (fs.lookup f) (mA f)
  | .rng lo hi => ∃ t u v, h.get? a = some { cls := .type "range", data := .fields #[.int lo t, .int hi u, .int 1 v] }
  | .frz o u => h.get? a = some o ∧ ObjOk H h a u
  | .tbl ps => h.get? a = some { cls := .none, data := .fields ps }
  | .met f x => h.get? a = some (PySem.W.methodObj (.ref f) (.ref x))
  | .ext φ => φ h ∧ (∃ o, h.get? a = some o) ∧ ∀ h1 h2 : Heap, φ h1 → (∀ o, h1.get? a = some o → h2.get? a = some o) → φ h2
/-- the abstract heap is held -/
def HOk (H : Hp) (h : Heap) : Prop := ∀ a o, H a = some o → ObjOk P w H h a o
end

section
variable {P : Program} {w : World} {H H' : Hp} {h h' : Heap} {a : Addr} {o : HO}
theorem ObjOk.lt (x : ObjOk P w H h a o) : a < h.objs.size := by
  cases o with
  | lst xs => obtain ⟨_, _, _, _, e⟩ := x; exact Heap.lt_size e
  | tup xs => obtain ⟨_, _, _, p⟩ := x; exact p.lt
  | dK kvs => obtain ⟨_, _, _, _, o, _, _, e, _⟩ := x; exact Heap.lt_size e
  | dT kvs => obtain ⟨_, _, _, _, o, _, _, e, _⟩ := x; exact Heap.lt_size e
  | set S n => obtain ⟨o, _, _, _, e, _⟩ := x; exact Heap.lt_size e
  | ins C dx fs => obtain ⟨_, _, _, e, _⟩ := x; exact Heap.lt_size e
  | own y => obtain ⟨_, e⟩ := x; exact Heap.lt_size e
  | xd fs => obtain ⟨_, ⟨_, _, _, e, _⟩, _⟩ := x; exact Heap.lt_size e
  | rng lo hi => obtain ⟨_, _, _, e⟩ := x; exact Heap.lt_size e
  | frz ob u => obtain ⟨e, _⟩ := x; exact Heap.lt_size e
  | tbl ps => exact Heap.lt_size (show h.get? a = some _ from x)
  | met f y => exact Heap.lt_size (show h.get? a = some _ from x)
  | ext φ => obtain ⟨_, ⟨_, e⟩, _⟩ := x; exact Heap.lt_size e
theorem Paired.mapP {α β : Type} {F G : α → β → Prop} : ∀ {l₁ : List α} {l₂ : List β}, Paired F l₁ l₂ → (∀ a b, F a b → G a b) → Paired G l₁ l₂
  | _, _, .nil, _ => .nil
  | _, _, .cons r t, f => .cons (f _ _ r) (Paired.mapP t f)
/-- what an object's description leans on: its own object, its own dict, the tuples -/
theorem ObjOk.stay (x : ObjOk P w H h a o) (k : ∀ b u, (b = a ∨ H b = some (.own a)) → h.get? b = some u → h'.get? b = some u)
    (ho : ∀ b, H b = some (.own a) → H' b = some (.own a)) (ht : ∀ b xs, H b = some (.tup xs) → H' b = some (.tup xs)) : ObjOk P w H' h' a o := by
  induction o with
  | lst xs => obtain ⟨z, its, n, r, e⟩ := x; exact ⟨z, its, n, r, k _ _ (.inl rfl) e⟩
  | tup xs => obtain ⟨z, its, r, ob, e, c⟩ := x; exact ⟨z, its, r, ob, k _ _ (.inl rfl) e, c⟩
  | dK kvs => obtain ⟨z, y, vs, r, ob, es, ep, e, c⟩ := x; exact ⟨z, y, vs, r, ob, es, ep, k _ _ (.inl rfl) e, c⟩
  | dT kvs =>
    obtain ⟨z, y, xs, r, ob, es, ep, e, c⟩ := x
    exact ⟨z, y, xs, Paired.mapP r fun p q z => ⟨z.1, ht _ _ z.2.1, z.2.2⟩, ob, es, ep, k _ _ (.inl rfl) e, c⟩
  | set S n => obtain ⟨ob, es, ep, t, e, c⟩ := x; exact ⟨ob, es, ep, t, k _ _ (.inl rfl) e, c⟩
  | ins C dx fs =>
    obtain ⟨d, z, ne, e, mA, ⟨od, es, ep, e2, c⟩, r⟩ := x
    exact ⟨ho _ d, z, ne, k _ _ (.inl rfl) e, mA, ⟨od, es, ep, k _ _ (.inr d) e2, c⟩, r⟩
  | own y => obtain ⟨ob, e⟩ := x; exact ⟨ob, k _ _ (.inl rfl) e⟩
  | xd fs => obtain ⟨mA, ⟨od, es, ep, e, c⟩, r⟩ := x; exact ⟨mA, ⟨od, es, ep, k _ _ (.inl rfl) e, c⟩, r⟩
  | rng lo hi => obtain ⟨t, u, v, e⟩ := x; exact ⟨t, u, v, k _ _ (.inl rfl) e⟩
  | frz ob u ih => obtain ⟨e, q⟩ := x; exact ⟨k _ _ (.inl rfl) e, ih q⟩
  | tbl ps =>
    have e : h.get? a = some { cls := .none, data := .fields ps } := x
    show h'.get? a = some { cls := .none, data := .fields ps }
    exact k a _ (.inl rfl) e
  | met f y =>
    have e : h.get? a = some (PySem.W.methodObj (.ref f) (.ref y)) := x
    show h'.get? a = some (PySem.W.methodObj (.ref f) (.ref y))
    exact k a _ (.inl rfl) e
  | ext φ => obtain ⟨p, ⟨o, e⟩, st⟩ := x; exact ⟨st _ _ p fun o q => k _ _ (.inl rfl) q, ⟨o, k _ _ (.inl rfl) e⟩, st⟩
theorem HOk.lt (x : HOk P w H h) (e : H a = some o) : a < h.objs.size := (x a o e).lt
theorem HOk.fresh (x : HOk P w H h) (e : h.objs.size ≤ a) : H a = none := by
  cases q : H a with
  | none => rfl
  | some u => exact absurd (Nat.lt_of_lt_of_le (x.lt q) e) (Nat.lt_irrefl _)
/-- every object of the heap is kept -/
theorem HOk.kept (x : HOk P w H h) (k : ∀ b u, h.get? b = some u → h'.get? b = some u) : HOk P w H h' := fun a o e =>
  (x a o e).stay (fun b u _ q => k b u q) (fun _ q => q) fun _ _ q => q
/-- a new object is laid and tracked -/
theorem HOk.laid (x : HOk P w H h) (k : ∀ b u, h.get? b = some u → h'.get? b = some u) (hp : h.objs.size ≤ a) (new : ObjOk P w (upd H a o) h' a o) : HOk P w (upd H a o) h' := fun b u e => by
  have hn := x.fresh hp
  by_cases hb : b = a
  · subst hb; rw [upd_same] at e; cases e; exact new
  · rw [upd_ne hb] at e
    exact (x b u e).stay (fun c v _ q => k c v q) (fun c q => by rw [upd_ne (ne_of_none q hn)]; exact q) fun c xs q => by rw [upd_ne (ne_of_none q hn)]; exact q
end

/-- what may be read as u: it is u, or a known u -/
def Rd (H : Hp) (a : Addr) (u : HO) : Prop := H a = some u ∨ ∃ o, H a = some (.frz o u)
theorem Rd.ok {P : Program} {w : World} {H : Hp} {h : Heap} {a : Addr} {u : HO} (r : Rd H a u) (x : HOk P w H h) : ObjOk P w H h a u := by
  rcases r with r | ⟨o, r⟩
  · exact x a u r
  · obtain ⟨_, q⟩ := x a _ r
    exact q
/-- what may be written -/
def Mut : Option HO → Prop
  | some (.lst _) => True
  | some (.dK _) => True
  | some (.dT _) => True
  | some (.set _ _) => True
  | some (.ins _ _ _) => True
  | some (.ext _) => True
  | _ => False
section
variable {P : Program} {w : World} {H : Hp} {h h' : Heap} {x e : Addr} {o' : HO}
/-- the object at e is changed: x itself, or the dict of the instance x -/
theorem HOk.write (ok : HOk P w H h) (mu : Mut (H x)) (he : e = x ∨ H e = some (.own x)) (k : ∀ b u, b ≠ e → h.get? b = some u → h'.get? b = some u) (heo : ∃ u, h'.get? e = some u)
    (new : ObjOk P w (upd H x o') h' x o') : HOk P w (upd H x o') h' := fun b u q => by
  have nown : ∀ c y, H c = some (.own y) → c ≠ x := fun c y r z => by subst z; rw [r] at mu; exact mu
  have ntup : ∀ c xs, H c = some (.tup xs) → c ≠ x := fun c xs r z => by subst z; rw [r] at mu; exact mu
  by_cases hb : b = x
  · subst hb; rw [upd_same] at q; cases q; exact new
  · rw [upd_ne hb] at q
    by_cases hbe : b = e
    · have q' : H b = some (.own x) := by
        rcases he with z | z
        · exact absurd (hbe.trans z) hb
        · rw [hbe]; exact z
      rw [q] at q'; cases q'
      obtain ⟨v, hv⟩ := heo
      exact ⟨v, by rw [hbe]; exact hv⟩
    · refine (ok b u q).stay (fun c v hc r => k c v ?_ r) (fun c r => by rw [upd_ne (nown c b r)]; exact r) fun c xs r => by rw [upd_ne (ntup c xs r)]; exact r
      rcases hc with rfl | hc
      · exact hbe
      · rintro rfl
        rcases he with z | z
        · exact nown c b hc z
        · rw [hc] at z; cases z; exact hb rfl
end

/-! ### kept unless tracked; of the frames at fs (the callers') the slots may change (an exception that passes writes there); of the records at ex (iterators) nothing is said -/
structure Un (fs ex : List Addr) (H H' : Hp) (h h' : Heap) : Prop where
  keep : ∀ b o, h.get? b = some o → H b = none → b ∉ fs → b ∉ ex → h'.get? b = some o
  slot : ∀ b o, h.get? b = some o → H b = none → b ∈ fs → b ∉ ex → ∃ sl, h'.get? b = some { o with slots := sl }
  free : ∀ b o, h.get? b = some o → H b = none → b ∉ ex → H' b = none
  there : ∀ b o, h.get? b = some o → b ∉ ex → ∃ o', h'.get? b = some o'
  tups : ∀ b xs, H b = some (.tup xs) → H' b = some (.tup xs)
  frzs : ∀ b o u, H b = some (.frz o u) → H' b = some (.frz o u)
  tbls : ∀ b ps, H b = some (.tbl ps) → ∃ more, H' b = some (.tbl (ps ++ more))
section
variable {fs fs' ex ex' : List Addr} {H H1 H2 : Hp} {h h1 h2 h' : Heap} {a x e : Addr} {o : HO}
theorem Un.any (u : Un fs ex H H1 h h1) {b : Addr} {ob : Obj} (q : h.get? b = some ob) (n : H b = none) (hx : b ∉ ex) : ∃ sl, h1.get? b = some { ob with slots := sl } := by
  by_cases hb : b ∈ fs
  · exact u.slot b ob q n hb hx
  · exact ⟨ob.slots, u.keep b ob q n hb hx⟩
theorem Un.kept (k : ∀ b u, h.get? b = some u → h'.get? b = some u) : Un fs ex H H h h' :=
  ⟨fun b ob q _ _ _ => k b ob q, fun b ob q _ _ _ => ⟨ob.slots, k b ob q⟩, fun _ _ _ n _ => n, fun b ob q _ => ⟨ob, k b ob q⟩, fun _ _ q => q, fun _ _ _ q => q, fun _ ps q => ⟨#[], by rw [q]; simp⟩⟩
theorem Un.refl : Un fs ex H H h h := Un.kept fun _ _ q => q
theorem Un.laid (k : ∀ b u, h.get? b = some u → h'.get? b = some u) (hp : h.objs.size ≤ a) (hn : H a = none) : Un fs ex H (upd H a o) h h' where
  keep := fun b u q _ _ _ => k b u q
  slot := fun b u q _ _ _ => ⟨u.slots, k b u q⟩
  free := fun b u q n _ => by rw [upd_ne (Nat.ne_of_lt (Nat.lt_of_lt_of_le (Heap.lt_size q) hp))]; exact n
  there := fun b u q _ => ⟨u, k b u q⟩
  tups := fun b xs q => by rw [upd_ne (ne_of_none q hn)]; exact q
  frzs := fun b u xs q => by rw [upd_ne (ne_of_none q hn)]; exact q
  tbls := fun b ps q => ⟨#[], by rw [upd_ne (ne_of_none q hn), q]; simp⟩
theorem Un.write (mu : Mut (H x)) (he : e = x ∨ H e = some (.own x)) (k : ∀ b u, b ≠ e → h.get? b = some u → h'.get? b = some u) (heo : ∃ u, h'.get? e = some u) : Un fs ex H (upd H x o) h h' := by
  have hx : ∀ b, H b = none → b ≠ x := fun b n z => by subst z; rw [n] at mu; exact mu
  have hb : ∀ b, H b = none → b ≠ e := fun b n z => by
    subst z
    rcases he with r | r
    · exact hx b n r
    · rw [n] at r; cases r
  have hm : ∀ b u, H b = some u → ¬ Mut (some u) → b ≠ x := fun b u q nm z => by subst z; rw [q] at mu; exact nm mu
  refine ⟨fun b u q n _ _ => k b u (hb b n) q, fun b u q n _ _ => ⟨u.slots, k b u (hb b n) q⟩, fun b u q n _ => by rw [upd_ne (hx b n)]; exact n, fun b u q _ => ?_,
    fun b xs q => by rw [upd_ne (hm b _ q fun z => z)]; exact q, fun b u xs q => by rw [upd_ne (hm b _ q fun z => z)]; exact q, fun b ps q => ⟨#[], by rw [upd_ne (hm b _ q fun z => z), q]; simp⟩⟩
  by_cases hbe : b = e
  · subst hbe; exact heo
  · exact ⟨u, k b u hbe q⟩
end

/-! ### the heap without what is tracked -/
def trk (h : Heap) (H : Hp) : List Addr := (List.range h.objs.size).filter fun a => (H a).isSome
def hidT (h : Heap) (H : Hp) : Heap := PySem.W.hideAll h (trk h H)
theorem hidT_size (h : Heap) (H : Hp) : (hidT h H).objs.size = h.objs.size := PySem.W.hideAll_size _ _
theorem hidT_get {h : Heap} {H : Hp} {b : Addr} {o : Obj} (e : h.get? b = some o) (n : H b = none) : (hidT h H).get? b = some o :=
  PySem.W.hideAll_get _ e fun hm => by
    have q : (H b).isSome = true := (List.mem_filter.mp hm).2
    rw [n] at q; simp at q
theorem of_hidT {h : Heap} {H : Hp} {b : Addr} {o : Obj} (e : (hidT h H).get? b = some o) : h.get? b = some o ∧ H b = none := by
  have e' : h.get? b = some o := PySem.W.of_hideAll (trk h H) e
  refine ⟨e', ?_⟩
  cases q : H b with
  | none => rfl
  | some x =>
    have hm : b ∈ trk h H := List.mem_filter.mpr ⟨List.mem_range.mpr (Heap.lt_size e'), by simp [q]⟩
    have z : (hidT h H).get? b = none := PySem.W.hideAll_none (trk h H) hm
    rw [z] at e; cases e

/-! ### OpenK's ledger, filled with every new object but one -/
def allNews (g h : Heap) (L : Addr) : List (Addr × Obj) := (List.range h.objs.size).filterMap fun a => if a = L ∨ (g.get? a).isSome = true then none else (h.get? a).map fun o => (a, o)
def rest (g h : Heap) (L d : Addr) : List (Addr × Obj) := (allNews g h L).filter fun p => decide (p.1 ≠ d)
end L2

namespace L2
open PySem PySem.Spec PyProof.Rows

/-- the module's facts, over the base: the heap at the law's entry without what is tracked there -/
structure Mod (K : PySem.W.Frag) (mg : Str → Option Value) (base : Heap) : Prop where
  kin : K.In base
  glob : base.Ns mainGlobals mg
  blt : ∃ mb, base.Ns builtinsNs mb ∧ ∀ x : Str, x ≠ "__name__" → mb x = bootBuiltins x
  nolimit : base.NoLimit

/-- the context: a def's body (or a comprehension's block) running. base: fixed through the whole law; s₀, H₀: the entry; outer: the frames whose slots others may change (a def's callers); stack: all frames that run;
   ex: iterators that were made ahead of the entry and are walked here (a comprehension's); fn: the names whose cells were made at the entry (a def: all; a comprehension's block: its own); calm: not within an except suite; pn: pins that every state bears; xe: what is wanted of an exception that leaves the code -/
structure Cx where
  prog : Program
  w : World
  K : PySem.W.Frag
  mg : Str → Option Value
  base : Heap
  A : Around
  N : List Str
  s₀ : Shared
  H₀ : Hp
  env : Env
  outer : List Env
  stack : List Env
  ex : List Addr
  fn : Str → Bool
  calm : Bool
  pn : List (Addr × Obj)
  xe : Value → Shared → Prop
/-- the callers' frames -/
def frs (l : List Env) : List Addr := l.filterMap (·.frame)
abbrev Cx.fs (X : Cx) : List Addr := frs X.outer

def Vis (sc : Scope) (x : Str) : Prop := sc.names.lookup x = some .local ∨ sc.names.lookup x = some .cell ∨ sc.names.lookup x = some .free
def Loc (sc : Scope) (x : Str) : Prop := sc.names.lookup x = some .local ∨ sc.names.lookup x = some .cell
def Look (env : Env) (h : Heap) (m : Str → Option Value) (x : Str) (u : Value) : Prop :=
  (env.kindOf x = some .local ∧ m x = some u) ∨ ((env.kindOf x = some .cell ∨ env.kindOf x = some .free) ∧ ∃ c, env.cells.lookup x = some c ∧ h.IsCell c (some u))

structure Cx.Ok (X : Cx) : Prop where
  mod : Mod X.K X.mg X.base
  kind : X.env.scope.kind = .function
  glob : X.env.globals = mainGlobals
  blt : X.env.builtins = builtinsNs
  above : X.s₀.heap.objs.size ≤ X.env.locals
  inj : ∀ x y c, X.env.cells.lookup x = some c → X.env.cells.lookup y = some c → x = y
  has : ∀ x, (X.env.kindOf x = some .cell ∨ X.env.kindOf x = some .free) → ∃ c, X.env.cells.lookup x = some c
  cab : ∀ x c, X.fn x = true → X.env.cells.lookup x = some c → X.s₀.heap.objs.size ≤ c
  hd : X.calm = true → X.A.handled = none
  frames : X.A.frames = some X.stack
  stk : X.stack = X.outer ∨ (X.stack = X.env :: X.outer ∧ X.env.frame = some X.env.locals)
  exf : ∀ b ∈ X.ex, b ≠ X.env.locals ∧ ∀ x c, X.env.cells.lookup x = some c → c ≠ b
  bs : ∀ b o, X.base.get? b = some o → X.s₀.heap.get? b = some o ∧ X.H₀ b = none
  bsz : X.base.objs.size ≤ X.s₀.heap.objs.size
  noex : ∀ b o, X.base.get? b = some o → b ∉ X.ex
  exfs : ∀ b ∈ X.ex, b ∉ X.fs
  funs : X.s₀.heap.FunFrames X.base X.outer
  frf : ∀ b ∈ X.fs, X.H₀ b = none

structure Inv (X : Cx) (pins : List (Addr × Obj)) (σ : List (Option V)) (H : Hp) (s : Shared) : Prop where
  ok : X.Ok
  os : s.os = X.s₀.os
  bare : AllBare s.gens
  base : Un X.fs X.ex X.H₀ H X.s₀.heap s.heap
  loc : ∃ m, s.heap.Ns X.env.locals m ∧ ∀ (i : Nat) (x : Str) (v : V), X.N[i]? = some x → σ[i]? = some (some v) → Vis X.env.scope x → ∃ u, RelV v u ∧ Look X.env s.heap m x u
  cell : ∀ x c, X.env.cells.lookup x = some c → ∃ v, s.heap.IsCell c v
  free : H X.env.locals = none
  freeC : ∀ x c, X.env.cells.lookup x = some c → H c = none
  pin : ∀ p ∈ X.pn ++ pins, s.heap.get? p.1 = some p.2 ∧ H p.1 = none ∧ p.1 ≠ X.env.locals ∧ p.1 ∉ X.fs ∧ ∀ v, p.2.data ≠ .cell v
  hok : HOk X.prog X.w H s.heap
  len : σ.length = X.N.length

section
variable {X : Cx} {pins : List (Addr × Obj)} {σ : List (Option V)} {H H' : Hp} {s : Shared} {h' : Heap}

theorem Cx.Ok.nofr (ok : X.Ok) {b : Addr} {o : Obj} (e : X.base.get? b = some o) : b ∉ X.fs := fun hb => by
  have := (ok.funs.mem hb).1
  rw [e] at this; cases this
theorem Inv.bs (I : Inv X pins σ H s) : ∀ b o, X.base.get? b = some o → s.heap.get? b = some o ∧ H b = none := fun b o e =>
  ⟨I.base.keep b o (I.ok.bs b o e).1 (I.ok.bs b o e).2 (I.ok.nofr e) (I.ok.noex b o e), I.base.free b o (I.ok.bs b o e).1 (I.ok.bs b o e).2 (I.ok.noex b o e)⟩
theorem Inv.bk (I : Inv X pins σ H s) : ∀ b o, X.base.get? b = some o → s.heap.get? b = some o := fun b o e => (I.bs b o e).1
theorem Inv.mod (I : Inv X pins σ H s) : Mod X.K X.mg X.base := I.ok.mod
theorem Inv.kIn (I : Inv X pins σ H s) : X.K.In s.heap := I.ok.mod.kin.keeps I.bk
theorem Inv.lt (I : Inv X pins σ H s) : X.env.locals < s.heap.objs.size := let ⟨_, hn, _⟩ := I.loc; hn.lt
theorem Inv.sz (I : Inv X pins σ H s) : X.s₀.heap.objs.size ≤ s.heap.objs.size := Nat.le_trans I.ok.above (Nat.le_of_lt I.lt)
theorem Inv.nofs (I : Inv X pins σ H s) {a : Addr} (h : s.heap.objs.size ≤ a) : a ∉ X.fs := fun hb => by
  obtain ⟨_, o, ho, _⟩ := I.ok.funs.mem hb
  exact absurd (Nat.lt_of_lt_of_le (Heap.lt_size ho) (Nat.le_trans I.sz h)) (Nat.lt_irrefl _)
theorem Inv.cne (I : Inv X pins σ H s) : ∀ x c, X.env.cells.lookup x = some c → c ≠ X.env.locals := fun x c e z => by
  obtain ⟨v, o, ho, hd⟩ := I.cell x c e
  obtain ⟨m, ⟨o', es, ep, ho', hd', _⟩, _⟩ := I.loc
  rw [z, ho'] at ho; cases ho; rw [hd'] at hd; cases hd
theorem Inv.funs (I : Inv X pins σ H s) : s.heap.FunFrames X.base X.outer := by
  have all : ∀ (l : List Env), (∀ b ∈ frs l, b ∈ X.fs) → X.s₀.heap.FunFrames X.base l → s.heap.FunFrames X.base l := by
    intro l
    induction l with
    | nil => intro _ _; trivial
    | cons env r ih =>
      intro hs hl
      obtain ⟨hk, ⟨L, o, hf, hn, ho, hd⟩, hr⟩ := hl
      have hL : L ∈ X.fs := hs L (by unfold frs; rw [List.filterMap_cons, hf]; exact List.mem_cons_self)
      obtain ⟨sl, e⟩ := I.base.slot L o ho (I.ok.frf L hL) hL fun z => I.ok.exfs L z hL
      exact ⟨hk, ⟨L, _, hf, hn, e, hd⟩, ih (fun b hb => hs b (by unfold frs; rw [List.filterMap_cons, hf]; exact List.mem_cons_of_mem _ hb)) hr⟩
  exact all X.outer (fun _ hb => hb) I.ok.funs

/-- the frames that run, for a call -/
theorem Inv.stack (I : Inv X pins σ H s) : s.heap.FunFrames X.base X.stack := by
  rcases I.ok.stk with e | ⟨e, hf⟩
  · rw [e]; exact I.funs
  · rw [e]
    obtain ⟨m, hn, _⟩ := I.loc
    refine .cons (by rw [I.ok.kind]; decide) hf hn ?_ I.funs
    exact Heap.get?_none_of_le (Nat.le_trans I.ok.bsz I.ok.above)
theorem Inv.stkSub (I : Inv X pins σ H s) : ∀ b ∈ frs X.stack, b ∈ X.env.locals :: X.fs := fun b hb => by
  rcases I.ok.stk with e | ⟨e, hf⟩
  · rw [e] at hb; exact List.mem_cons_of_mem _ hb
  · rw [e] at hb
    unfold frs at hb
    rw [List.filterMap_cons, hf] at hb
    exact hb
theorem Inv.stkFree (I : Inv X pins σ H s) : ∀ b ∈ frs X.stack, H b = none := fun b hb => by
  rcases List.mem_cons.mp (I.stkSub b hb) with e | hb
  · rw [e]; exact I.free
  · obtain ⟨_, o, ho, _⟩ := I.ok.funs.mem hb
    exact I.base.free b o ho (I.ok.frf b hb) fun z => I.ok.exfs b z hb

/-- THE STEP: the untracked objects but the frame and the records at ch are kept (the callers' frames up to slots), the frame's map is kept, the new abstract heap is held -/
theorem Inv.step {g' : Array GenState} {t' : Nat} {d' : Drawn} {ch : List Addr} (I : Inv X pins σ H s)
    (hch : ∀ b ∈ ch, (b ∈ X.ex ∨ X.s₀.heap.objs.size ≤ b) ∧ b ≠ X.env.locals ∧ (∀ x c, X.env.cells.lookup x = some c → c ≠ b) ∧ ∀ p ∈ X.pn ++ pins, p.1 ≠ b)
    (keep : ∀ b o, b ≠ X.env.locals → b ∉ X.fs → b ∉ ch → s.heap.get? b = some o → H b = none → h'.get? b = some o)
    (slot : ∀ b o, b ≠ X.env.locals → b ∈ X.fs → b ∉ ch → s.heap.get? b = some o → H b = none → ∃ sl, h'.get? b = some { o with slots := sl }) (free : ∀ b o, b ∉ ch → s.heap.get? b = some o → H b = none → H' b = none)
    (there : ∀ b o, b ∉ ch → s.heap.get? b = some o → ∃ o', h'.get? b = some o')
    (tups : ∀ b xs, H b = some (.tup xs) → H' b = some (.tup xs)) (frzs : ∀ b o u, H b = some (.frz o u) → H' b = some (.frz o u)) (tbls : ∀ b ps, H b = some (.tbl ps) → ∃ more, H' b = some (.tbl (ps ++ more)))
    (ns : ∀ m, s.heap.Ns X.env.locals m → h'.Ns X.env.locals m) (hok : HOk X.prog X.w H' h') (hg : AllBare g') :
    Inv X pins σ H' { s with heap := h', gens := g', drawn := d', toks := t' } := by
  have neL : ∀ b o, X.s₀.heap.get? b = some o → b ≠ X.env.locals := fun b o e => Nat.ne_of_lt (Nat.lt_of_lt_of_le (Heap.lt_size e) I.ok.above)
  have neC : ∀ b o, X.s₀.heap.get? b = some o → b ∉ X.ex → b ∉ ch := fun b o e hx hb => by
    rcases (hch b hb).1 with z | z
    · exact hx z
    · exact absurd (Nat.lt_of_lt_of_le (Heap.lt_size e) z) (Nat.lt_irrefl _)
  have cellK : ∀ x c, X.env.cells.lookup x = some c → ∀ v, s.heap.IsCell c v → h'.IsCell c v := fun x c e v ⟨o, ho, hd⟩ => by
    have nch : c ∉ ch := fun z => (hch c z).2.2.1 x c e rfl
    by_cases hc : c ∈ X.fs
    · obtain ⟨sl, q⟩ := slot c o (I.cne x c e) hc nch ho (I.freeC x c e)
      exact ⟨_, q, hd⟩
    · exact ⟨o, keep c o (I.cne x c e) hc nch ho (I.freeC x c e), hd⟩
  refine ⟨I.ok, I.os, hg, ⟨fun b o e n hb hx => ?_, fun b o e n hb hx => ?_, fun b o e n hx => ?_, fun b o e hx => ?_, fun b xs e => tups b xs (I.base.tups b xs e), fun b o xs e => frzs b o xs (I.base.frzs b o xs e), fun b ps e => ?_⟩, ?_, fun x c e => ?_, ?_, fun x c e => ?_, fun p hp => ?_, hok, I.len⟩
  · exact keep b o (neL b o e) hb (neC b o e hx) (I.base.keep b o e n hb hx) (I.base.free b o e n hx)
  · obtain ⟨sl, e1⟩ := I.base.slot b o e n hb hx
    obtain ⟨sl', e2⟩ := slot b _ (neL b o e) hb (neC b o e hx) e1 (I.base.free b o e n hx)
    exact ⟨sl', e2⟩
  · obtain ⟨o', e1⟩ := I.base.there b o e hx
    exact free b o' (neC b o e hx) e1 (I.base.free b o e n hx)
  · obtain ⟨o', e1⟩ := I.base.there b o e hx
    exact there b o' (neC b o e hx) e1
  · obtain ⟨m1, e1⟩ := I.base.tbls b ps e
    obtain ⟨m2, e2⟩ := tbls b _ e1
    exact ⟨m1 ++ m2, by rw [e2, Array.append_assoc]⟩
  · obtain ⟨m, hn, hl⟩ := I.loc
    refine ⟨m, ns m hn, fun i x v e1 e2 e3 => ?_⟩
    obtain ⟨u, r, l⟩ := hl i x v e1 e2 e3
    refine ⟨u, r, ?_⟩
    rcases l with l | ⟨k, c, e, z⟩
    · exact .inl l
    · exact .inr ⟨k, c, e, cellK x c e _ z⟩
  · obtain ⟨v, z⟩ := I.cell x c e
    exact ⟨v, cellK x c e v z⟩
  · obtain ⟨m, ⟨o, _, _, ho, _⟩, _⟩ := I.loc
    exact free _ o (fun z => (hch _ z).2.1 rfl) ho I.free
  · obtain ⟨v, o, ho, hd⟩ := I.cell x c e
    exact free c o (fun z => (hch c z).2.2.1 x c e rfl) ho (I.freeC x c e)
  · obtain ⟨e, n, ne, nf, d⟩ := I.pin p hp
    have nch : p.1 ∉ ch := fun z => (hch p.1 z).2.2.2 p hp rfl
    exact ⟨keep p.1 p.2 ne nf nch e n, free p.1 p.2 nch e n, ne, nf, d⟩
/-- .. where the frame's own object is kept too -/
theorem Inv.un {t' : Nat} (I : Inv X pins σ H s) (u : Un X.fs [] H H' s.heap h') (hok : HOk X.prog X.w H' h') : Inv X pins σ H' { s with heap := h', toks := t' } := by
  obtain ⟨m, ⟨o, es, ep, ho, r⟩, _⟩ := id I.loc
  obtain ⟨sl, hL⟩ := u.any ho I.free (by simp)
  exact I.step (g' := s.gens) (d' := s.drawn) (ch := []) (fun _ z => nomatch z) (fun b o _ hb _ e n => u.keep b o e n hb (by simp)) (fun b o _ hb _ e n => u.slot b o e n hb (by simp)) (fun b o _ e n => u.free b o e n (by simp)) (fun b o _ e => u.there b o e (by simp)) u.tups u.frzs u.tbls (fun m' hm => by
    obtain ⟨o', es', ep', ho', r'⟩ := hm
    rw [ho] at ho'; cases ho'
    exact ⟨_, es', ep', hL, r'⟩) hok I.bare
/-- behind a call (or a comprehension's block): the slots of this frame may have changed too, the records at ch may have turned -/
theorem Inv.call {g' : Array GenState} {t' : Nat} {d' : Drawn} {ch : List Addr} (I : Inv X pins σ H s) (u : Un (frs X.stack) ch H H' s.heap h') (hok : HOk X.prog X.w H' h') (hg : AllBare g')
    (hch : ∀ b ∈ ch, (b ∈ X.ex ∨ X.s₀.heap.objs.size ≤ b) ∧ b ≠ X.env.locals ∧ (∀ x c, X.env.cells.lookup x = some c → c ≠ b) ∧ ∀ p ∈ X.pn ++ pins, p.1 ≠ b) :
    Inv X pins σ H' { s with heap := h', gens := g', drawn := d', toks := t' } := by
  obtain ⟨m, ⟨o, es, ep, ho, r⟩, _⟩ := id I.loc
  obtain ⟨sl, hL⟩ := u.any ho I.free fun z => (hch _ z).2.1 rfl
  exact I.step (ch := ch) hch (fun b o hL hb hc e n => u.keep b o e n (fun z => (List.mem_cons.mp (I.stkSub b z)).elim hL hb) hc) (fun b o _ _ hc e n => u.any e n hc) (fun b o hc e n => u.free b o e n hc) (fun b o hc e => u.there b o e hc) u.tups u.frzs u.tbls (fun m' hm => by
    obtain ⟨o', es', ep', ho', r'⟩ := hm
    rw [ho] at ho'; cases ho'
    exact ⟨_, es', ep', hL, r'⟩) hok hg
/-- an untracked record of ours (an iterator) has turned -/
theorem Inv.turned {t' : Nat} {it : Addr} (I : Inv X pins σ H s) (k : ∀ b o, b ≠ it → s.heap.get? b = some o → h'.get? b = some o) (hn : H it = none) (hL : it ≠ X.env.locals)
    (h1 : it ∈ X.ex ∨ X.s₀.heap.objs.size ≤ it) (h2 : ∀ x c, X.env.cells.lookup x = some c → c ≠ it) (h3 : ∀ p ∈ X.pn ++ pins, p.1 ≠ it) : Inv X pins σ H { s with heap := h', toks := t' } := by
  have nit : ∀ b u, H b = some u → b ≠ it := fun b u e z => by rw [z, hn] at e; cases e
  refine I.step (g' := s.gens) (d' := s.drawn) (ch := [it]) (fun b hb => ?_) (fun b o _ _ hc e _ => k b o (fun z => hc (by simp [z])) e) (fun b o _ _ hc e _ => ⟨o.slots, k b o (fun z => hc (by simp [z])) e⟩) (fun _ _ _ _ n => n)
    (fun b o hc e => ⟨o, k b o (fun z => hc (by simp [z])) e⟩) (fun _ _ e => e) (fun _ _ _ e => e) (fun b ps e => ⟨#[], by rw [e]; simp⟩) (fun m hm => ?_) (fun b u e => ?_) I.bare
  · have e : b = it := by simpa using hb
    subst e
    exact ⟨h1, hL, h2, h3⟩
  · obtain ⟨o, es, ep, ho, r⟩ := hm
    exact ⟨o, es, ep, k _ o (Ne.symm hL) ho, r⟩
  · refine (I.hok b u e).stay (fun c v hc q => k c v ?_ q) (fun _ q => q) fun _ _ q => q
    rcases hc with z | z
    · rw [z]; exact nit b u e
    · exact nit c _ z
theorem Inv.tok (I : Inv X pins σ H s) (t : Nat) : Inv X pins σ H { s with toks := t } := I.un (h' := s.heap) (t' := t) Un.refl I.hok
/-- all objects kept -/
theorem Inv.kept {t' : Nat} (I : Inv X pins σ H s) (k : ∀ b u, s.heap.get? b = some u → h'.get? b = some u) : Inv X pins σ H { s with heap := h', toks := t' } := I.un (Un.kept k) (I.hok.kept k)
/-- a new object laid and tracked -/
theorem Inv.laid {a : Addr} {o : HO} {t' : Nat} (I : Inv X pins σ H s) (k : ∀ b u, s.heap.get? b = some u → h'.get? b = some u) (hp : s.heap.objs.size ≤ a) (new : ObjOk X.prog X.w (upd H a o) h' a o) :
    Inv X pins σ (upd H a o) { s with heap := h', toks := t' } := I.un (Un.laid k hp (I.hok.fresh hp)) (I.hok.laid k hp new)
/-- an object written -/
theorem Inv.write {x e : Addr} {o : HO} {t' : Nat} (I : Inv X pins σ H s) (mu : Mut (H x)) (he : e = x ∨ H e = some (.own x)) (k : ∀ b u, b ≠ e → s.heap.get? b = some u → h'.get? b = some u) (heo : ∃ u, h'.get? e = some u)
    (new : ObjOk X.prog X.w (upd H x o) h' x o) : Inv X pins σ (upd H x o) { s with heap := h', toks := t' } := I.un (Un.write mu he k heo) (I.hok.write mu he k heo new)
theorem Inv.pins_of {pins' : List (Addr × Obj)} (I : Inv X pins σ H s) (h : ∀ p ∈ pins', s.heap.get? p.1 = some p.2 ∧ H p.1 = none ∧ p.1 ≠ X.env.locals ∧ p.1 ∉ X.fs ∧ ∀ v, p.2.data ≠ .cell v) : Inv X pins' σ H s :=
  ⟨I.ok, I.os, I.bare, I.base, I.loc, I.cell, I.free, I.freeC, fun p hp => (List.mem_append.mp hp).elim (fun z => I.pin p (List.mem_append_left _ z)) (h p), I.hok, I.len⟩

theorem nodup_ix {N : List Str} (hN : N.Nodup) {i j : Nat} {x : Str} (a : N[i]? = some x) (b : N[j]? = some x) : i = j := by
  obtain ⟨h1, e1⟩ := List.getElem?_eq_some_iff.mp a
  obtain ⟨h2, e2⟩ := List.getElem?_eq_some_iff.mp b
  exact (List.getElem_inj hN).mp (e1.trans e2.symm)

/-- a name is stored; what changed -/
theorem store_ok2 {M : Model} {A : Around} {E : Value → Shared → Prop} {i : Nat} {x : Str} {v : V} {u : Value} {Q : Unit → Shared → Prop} (I : Inv X pins σ H s) (hN : X.N.Nodup) (hi : X.N[i]? = some x) (hx : Loc X.env.scope x) (r : RelV v u)
    (h : ∀ s', Inv X pins (σ.set i (some v)) H s' → (∃ a, Heap.SameBut a s.heap s'.heap ∧ (a = X.env.locals ∨ X.env.cells.lookup x = some a)) → Q () s') (hf : X.fn x = true ∨ X.env.scope.names.lookup x = some .local := by first | exact .inl rfl | exact .inr rfl | assumption) : wpAny M A (storeName X.env x u) Q E s := by
  obtain ⟨m, hn, hl⟩ := id I.loc
  have hcls : (X.env.scope.kind == .class || (X.env.scope.kind == .module && X.env.locals != X.env.globals)) = false := by rw [I.ok.kind]; rfl
  have hiσ : i < σ.length := by rw [I.len]; exact (List.getElem?_eq_some_iff.mp hi).1
  have cne := I.cne
  have tracked : ∀ {a : Addr} {h' : Heap}, (∃ o, s.heap.get? a = some o ∧ H a = none) → Heap.SameBut a s.heap h' → HOk X.prog X.w H h' := fun {a h'} ha hs b ob e => by
    obtain ⟨_, _, hfree⟩ := ha
    refine (I.hok b ob e).stay (fun c w' hc q => (hs.2 c ?_).trans q) (fun _ q => q) fun _ _ q => q
    rintro rfl
    rcases hc with rfl | hc
    · rw [hfree] at e; cases e
    · rw [hfree] at hc; cases hc
  rcases hx with hk | hk
  · refine wpAny_storeName_local hk hn (fun h' hn' hs => ?_) hcls
    obtain ⟨oL, _, _, hoL, _⟩ := id hn
    refine h _ ⟨I.ok, I.os, I.bare, ⟨fun b o e n hb hx => ?_, fun b o e n hb hx => ?_, I.base.free, fun b o e hx => ?_, I.base.tups, I.base.frzs, I.base.tbls⟩, ⟨_, hn', fun j y v' e1 e2 e3 => ?_⟩, fun y c e => ?_, I.free, I.freeC, fun p hp => ?_, tracked ⟨oL, hoL, I.free⟩ hs, by simpa using I.len⟩ ⟨_, hs, .inl rfl⟩
    · exact (hs.2 b (Nat.ne_of_lt (Nat.lt_of_lt_of_le (Heap.lt_size e) I.ok.above))).trans (I.base.keep b o e n hb hx)
    · obtain ⟨sl, e1⟩ := I.base.slot b o e n hb hx
      exact ⟨sl, (hs.2 b (Nat.ne_of_lt (Nat.lt_of_lt_of_le (Heap.lt_size e) I.ok.above))).trans e1⟩
    · obtain ⟨o', e1⟩ := I.base.there b o e hx
      exact ⟨o', (hs.2 b (Nat.ne_of_lt (Nat.lt_of_lt_of_le (Heap.lt_size e) I.ok.above))).trans e1⟩
    · by_cases hj : j = i
      · subst hj
        rw [hi] at e1; cases e1
        rw [List.getElem?_set_self hiσ] at e2
        cases e2
        exact ⟨u, r, .inl ⟨hk, by simp⟩⟩
      · rw [List.getElem?_set_ne (Ne.symm hj)] at e2
        obtain ⟨u', r', q⟩ := hl j y v' e1 e2 e3
        refine ⟨u', r', ?_⟩
        rcases q with ⟨k, e⟩ | ⟨k, c, e, z⟩
        · refine .inl ⟨k, ?_⟩
          have : y ≠ x := fun e => hj (nodup_ix hN e1 (e ▸ hi))
          simp [this, e]
        · exact .inr ⟨k, c, e, z.sameBut hs (cne y c e)⟩
    · obtain ⟨w', z⟩ := I.cell y c e
      exact ⟨w', z.sameBut hs (cne y c e)⟩
    · obtain ⟨e, n, ne, nf, d⟩ := I.pin p hp
      exact ⟨(hs.2 p.1 ne).trans e, n, ne, nf, d⟩
  · have hfn : X.fn x = true := by
      rcases hf with z | z
      · exact z
      · rw [z] at hk; cases hk
    obtain ⟨c, hc⟩ := I.ok.has x (.inl hk)
    obtain ⟨w', z⟩ := I.cell x c hc
    refine wpAny_storeName_cell I.ok.kind hk hc z (fun h' hc' hs => ?_)
    obtain ⟨oc, hoc, hocd⟩ := id z
    refine h { s with heap := h' } ⟨I.ok, I.os, I.bare, ⟨fun b o e n hb hx => ?_, fun b o e n hb hx => ?_, I.base.free, fun b o e hx => ?_, I.base.tups, I.base.frzs, I.base.tbls⟩, ⟨m, hn.sameBut hs (Ne.symm (cne x c hc)), fun j y v' e1 e2 e3 => ?_⟩, fun y c' e => ?_, I.free, I.freeC, fun p hp => ?_, tracked ⟨oc, hoc, I.freeC x c hc⟩ hs, by simpa using I.len⟩ ⟨c, hs, .inr hc⟩
    · exact (hs.2 b (Nat.ne_of_lt (Nat.lt_of_lt_of_le (Heap.lt_size e) (I.ok.cab x c hfn hc)))).trans (I.base.keep b o e n hb hx)
    · obtain ⟨sl, e1⟩ := I.base.slot b o e n hb hx
      exact ⟨sl, (hs.2 b (Nat.ne_of_lt (Nat.lt_of_lt_of_le (Heap.lt_size e) (I.ok.cab x c hfn hc)))).trans e1⟩
    · obtain ⟨o', e1⟩ := I.base.there b o e hx
      exact ⟨o', (hs.2 b (Nat.ne_of_lt (Nat.lt_of_lt_of_le (Heap.lt_size e) (I.ok.cab x c hfn hc)))).trans e1⟩
    · by_cases hj : j = i
      · subst hj
        rw [hi] at e1; cases e1
        rw [List.getElem?_set_self hiσ] at e2
        cases e2
        exact ⟨u, r, .inr ⟨.inl hk, c, hc, hc'⟩⟩
      · rw [List.getElem?_set_ne (Ne.symm hj)] at e2
        obtain ⟨u', r', q⟩ := hl j y v' e1 e2 e3
        refine ⟨u', r', ?_⟩
        rcases q with q | ⟨k, c', e, z'⟩
        · exact .inl q
        · refine .inr ⟨k, c', e, z'.sameBut hs ?_⟩
          rintro rfl
          exact hj (nodup_ix hN e1 (I.ok.inj _ _ _ e hc ▸ hi))
    · by_cases hcc : c' = c
      · subst hcc; exact ⟨_, hc'⟩
      · obtain ⟨w2, z2⟩ := I.cell y c' e
        exact ⟨w2, z2.sameBut hs hcc⟩
    · obtain ⟨e, n, ne, nf, d⟩ := I.pin p hp
      refine ⟨(hs.2 p.1 ?_).trans e, n, ne, nf, d⟩
      intro q
      rw [q, hoc] at e
      have q' : oc = p.2 := Option.some.inj e
      exact d w' (by rw [← q']; exact hocd)
theorem store_ok {M : Model} {A : Around} {E : Value → Shared → Prop} {i : Nat} {x : Str} {v : V} {u : Value} {Q : Unit → Shared → Prop} (I : Inv X pins σ H s) (hN : X.N.Nodup) (hi : X.N[i]? = some x) (hx : Loc X.env.scope x) (r : RelV v u)
    (h : ∀ s', Inv X pins (σ.set i (some v)) H s' → Q () s') (hf : X.fn x = true ∨ X.env.scope.names.lookup x = some .local := by first | exact .inl rfl | exact .inr rfl | assumption) : wpAny M A (storeName X.env x u) Q E s :=
  store_ok2 I hN hi hx r (fun s' I' _ => h s' I') hf
/-- behind a call or a block, the state as it is -/
theorem Inv.call' {s' : Shared} {ch : List Addr} (I : Inv X pins σ H s) (ho : s'.os = s.os) (u : Un (frs X.stack) ch H H' s.heap s'.heap) (hok : HOk X.prog X.w H' s'.heap) (hg : AllBare s'.gens)
    (hch : ∀ b ∈ ch, (b ∈ X.ex ∨ X.s₀.heap.objs.size ≤ b) ∧ b ≠ X.env.locals ∧ (∀ x c, X.env.cells.lookup x = some c → c ≠ b) ∧ ∀ p ∈ X.pn ++ pins, p.1 ≠ b) : Inv X pins σ H' s' := by
  obtain ⟨h', g', d', t', o'⟩ := s'
  have e : o' = s.os := ho
  subst e
  exact I.call (g' := g') (t' := t') (d' := d') u hok hg hch
end

/-! ### the judgements -/
/-- an exception: its class, its own dict's address (where it has one), the abstract heap behind it -/
abbrev XK := Value → Option Addr → Hp → Prop
abbrev St := List (Option V)
abbrev VK := V → Hp → Prop
/-- an expression's reading; a test's; an argument list's -/
abbrev TE := St → Hp → VK → Prop
abbrev TT := St → Hp → (Bool → Hp → Prop) → Prop
abbrev TA := St → Hp → (List V → Hp → Prop) → Prop
/-- what is wanted behind a statement -/
structure Ends where
  nx : St → Hp → Prop
  rt : VK
  bk : St → Hp → Prop := fun _ _ => False
  ct : St → Hp → Prop := fun _ _ => False
abbrev TS := Ends → St → Hp → Prop

def EP (X : Cx) (pins : List (Addr × Obj)) (σ : St) (Q : VK) (u : Value) (s' : Shared) : Prop := ∃ v H', Inv X pins σ H' s' ∧ RelV v u ∧ Q v H'
def TP (X : Cx) (pins : List (Addr × Obj)) (σ : St) (Q : Bool → Hp → Prop) (b : Bool) (s' : Shared) : Prop := ∃ H', Inv X pins σ H' s' ∧ Q b H'
def AP (X : Cx) (pins : List (Addr × Obj)) (σ : St) (Q : List V → Hp → Prop) (us : List Value) (s' : Shared) : Prop := ∃ vs H', Inv X pins σ H' s' ∧ Vals vs us ∧ Q vs H'
def SP (X : Cx) (pins : List (Addr × Obj)) (D : Ends) (f : Flow) (s' : Shared) : Prop :=
  match f with
  | .next => ∃ σ' H', Inv X pins σ' H' s' ∧ D.nx σ' H'
  | .brk => ∃ σ' H', Inv X pins σ' H' s' ∧ D.bk σ' H'
  | .cont => ∃ σ' H', Inv X pins σ' H' s' ∧ D.ct σ' H'
  | .ret u => ∃ v σ' H', Inv X pins σ' H' s' ∧ RelV v u ∧ D.rt v H'

def PE (X : Cx) (e : Expr) (t : TE) : Prop :=
  ∀ (pins : List (Addr × Obj)) (s : Shared) (σ : St) (H : Hp) (Q : VK), Inv X pins σ H s → t σ H Q → wpAny (model X.prog X.w) X.A (eval e X.env) (EP X pins σ Q) X.xe s
def PT (X : Cx) (e : Expr) (t : TT) : Prop :=
  ∀ (pins : List (Addr × Obj)) (s : Shared) (σ : St) (H : Hp) (Q : Bool → Hp → Prop), Inv X pins σ H s → t σ H Q → wpAny (model X.prog X.w) X.A (isTrue e X.env (eval e X.env)) (TP X pins σ Q) X.xe s
/-- a test whatever its 'whole' is (and, or) -/
def PW (X : Cx) (e : Expr) (t : TT) : Prop :=
  ∀ (whole : Sem Value) (pins : List (Addr × Obj)) (s : Shared) (σ : St) (H : Hp) (Q : Bool → Hp → Prop), Inv X pins σ H s → t σ H Q → wpAny (model X.prog X.w) X.A (isTrue e X.env whole) (TP X pins σ Q) X.xe s
theorem PW.pt {X : Cx} {e : Expr} {t : TT} (h : PW X e t) : PT X e t := h _
/-- an argument list (no star), from the left -/
def PA (X : Cx) (es : List Expr) (t : TA) : Prop :=
  ∀ (pos : Pos) (pins : List (Addr × Obj)) (s : Shared) (σ : St) (H : Hp) (Q : List V → Hp → Prop), Inv X pins σ H s → t σ H Q → wpAny (model X.prog X.w) X.A (spliced (backTo pos (starEach es X.env))) (AP X pins σ Q) X.xe s
def PS (X : Cx) (st : Stmt) (t : TS) : Prop :=
  ∀ (pins : List (Addr × Obj)) (s : Shared) (σ : St) (H : Hp) (D : Ends), Inv X pins σ H s → t D σ H → wpAny (model X.prog X.w) X.A (exec st X.env) (SP X pins D) X.xe s
def PSs (X : Cx) (st : List Stmt) (t : TS) : Prop :=
  ∀ (pins : List (Addr × Obj)) (s : Shared) (σ : St) (H : Hp) (D : Ends), Inv X pins σ H s → t D σ H → wpAny (model X.prog X.w) X.A (execs st X.env) (SP X pins D) X.xe s
/-- weaken the end -/
theorem thn {α : Type} {t : Sem α} {Q Q' : α → Shared → Prop} {M : Model} {A : Around} {E : Value → Shared → Prop} {s : Shared} (h : wpAny M A t Q E s) (hQ : ∀ a s, Q a s → Q' a s) : wpAny M A t Q' E s := wpAny_mono h hQ fun _ _ x => x
end L2

namespace L2
open PySem PySem.Spec PyProof.Rows
section
variable {X : Cx}

/-! ### names and constants -/
inductive tVarI (i : Nat) (σ : St) (H : Hp) (Q : VK) : Prop
  | mk (v : _) (h0_ : σ[i]? = some (some v)) (h1_ : Q v H) : tVarI i σ H Q
def tVar (i : Nat) : TE := fun σ H Q => tVarI i σ H Q
def tC (v : V) : TE := fun _ H Q => Q v H
theorem pe_var {i : Nat} {x : Str} {pos : Pos} (hN : X.N[i]? = some x) (hv : Vis X.env.scope x) (hd : (x == ("__debug__" : Str)) = false := by decide) (hcd : (x == ("__classdict__" : Str)) = false := by decide) : PE X (.Name x pos) (tVar i) := by
  intro pins s σ H Q I h
  obtain ⟨v, e, h⟩ := h
  obtain ⟨m, hn, hl⟩ := I.loc
  obtain ⟨u, r, l⟩ := hl i x v hN e hv
  have fin : EP X pins σ Q u s := ⟨v, H, I, r, h⟩
  rcases l with ⟨hk, hm⟩ | ⟨hk, c, hc, hcell⟩
  · exact wpAny_Name (wpAny_loadName_local I.ok.kind hk hn hm fin) hd
  · rcases hk with hk | hk
    · exact wpAny_Name (wpAny_loadName_cell I.ok.kind hk hc hcell fin) hd
    · exact wpAny_Name (wpAny_loadName_free I.ok.kind hk hc hcell fin hcd) hd
theorem pe_int {i j pos} : PE X (.Constant (.int i) j pos) (tC (.int i)) := fun _ _ _ H _ I h => wpAny_Constant_int ⟨.int i, H, I.tok _, ⟨_, rfl⟩, h⟩
theorem pe_bl {b j pos} : PE X (.Constant (.bool b) j pos) (tC (.bl b)) := fun _ _ _ H _ I h => Constant_bool ⟨.bl b, H, I, rfl, h⟩
theorem pe_non {j pos} : PE X (.Constant .none j pos) (tC .non) := fun _ _ _ H _ I h => Constant_none ⟨.non, H, I, rfl, h⟩
theorem pe_str {x j pos} : PE X (.Constant (.str x) j pos) (tC (.str x)) := fun _ _ _ H _ I h => Calls.Constant_str ⟨.str x, H, I.tok _, ⟨_, rfl⟩, h⟩

/-- a global name of the def -/
def Gl (X : Cx) (x : Str) : Prop := X.env.kindOf x = some .globalImplicit
theorem ld_glob {E : Value → Shared → Prop} {pins : List (Addr × Obj)} {s : Shared} {σ : St} {H : Hp} {x : Str} {u : Value} {pos : Pos} {Q : Value → Shared → Prop} (I : Inv X pins σ H s) (hg : Gl X x) (hm : X.mg x = some u) (h : Q u s)
    (hd : (x == ("__debug__" : Str)) = false := by decide) : wpAny (model X.prog X.w) X.A (eval (.Name x pos) X.env) Q E s :=
  Calls.Name_function_global I.ok.kind hg (Calls.loadGlobal_global (by rw [I.ok.glob]; exact I.mod.glob.keeps I.bk) hm h) hd
theorem ld_blt {E : Value → Shared → Prop} {pins : List (Addr × Obj)} {s : Shared} {σ : St} {H : Hp} {x : Str} {u : Value} {pos : Pos} {Q : Value → Shared → Prop} (I : Inv X pins σ H s) (hg : Gl X x) (hm : X.mg x = none) (hv : bootBuiltins x = some u) (h : Q u s)
    (hn : x ≠ "__name__" := by decide) (hd : (x == ("__debug__" : Str)) = false := by decide) : wpAny (model X.prog X.w) X.A (eval (.Name x pos) X.env) Q E s := by
  obtain ⟨mb, h1, h2⟩ := I.mod.blt
  exact Calls.Name_function_global I.ok.kind hg (Calls.loadGlobal_builtin (by rw [I.ok.glob]; exact I.mod.glob.keeps I.bk) hm (by rw [I.ok.blt]; exact h1.keeps I.bk) ((h2 x hn).trans hv) h) hd
/-- a module's constant, a class, a function, as a value -/
theorem pe_glob {x : Str} {v : V} {u : Value} {pos : Pos} (hg : Gl X x) (hm : X.mg x = some u) (r : RelV v u) (hd : (x == ("__debug__" : Str)) = false := by decide) : PE X (.Name x pos) (tC v) :=
  fun _ _ _ H _ I h => ld_glob I hg hm ⟨v, H, I, r, h⟩ hd
theorem pe_bltn {x : Str} {v : V} {u : Value} {pos : Pos} (hg : Gl X x) (hm : X.mg x = none) (hv : bootBuiltins x = some u) (r : RelV v u) (hn : x ≠ "__name__" := by decide) (hd : (x == ("__debug__" : Str)) = false := by decide) : PE X (.Name x pos) (tC v) :=
  fun _ _ _ H _ I h => ld_blt I hg hm hv ⟨v, H, I, r, h⟩ hn hd

/-! ### arithmetic -/
/-- two ints -/
def t2I (ta tb : TE) (k : Int → Int → Hp → Prop) : St → Hp → Prop := fun σ H => ta σ H fun x H1 => tb σ H1 fun y H2 => ∃ i j, x = .int i ∧ y = .int j ∧ k i j H2
def tAdd (ta tb : TE) : TE := fun σ H Q => t2I ta tb (fun i j H2 => Q (.int (i + j)) H2) σ H
def tSub (ta tb : TE) : TE := fun σ H Q => t2I ta tb (fun i j H2 => Q (.int (i - j)) H2) σ H
/-- the left factor below 2^64 -/
def tMul (ta tb : TE) : TE := fun σ H Q => t2I ta tb (fun i j H2 => (-(2 ^ 64) < i ∧ i < 2 ^ 64) ∧ Q (.int (i * j)) H2) σ H
variable {a b : Expr} {ta tb : TE} {pos : Pos}
/-! ### comparisons -/
def PC (X : Cx) (op : CmpOp) (a b : Expr) (t : TE) : Prop :=
  ∀ (pins : List (Addr × Obj)) (s : Shared) (σ : St) (H : Hp) (Q : VK), Inv X pins σ H s → t σ H Q →
    wpAny (model X.prog X.w) X.A (eval a X.env) (fun v s₁ => wpAny (model X.prog X.w) X.A (eval b X.env) (fun u s₂ => wpAny (model X.prog X.w) X.A (compareOp op v u) (EP X pins σ Q) X.xe s₂) X.xe s₁) X.xe s
def tCmp (p : Int → Int → Bool) (ta tb : TE) : TE := fun σ H Q => t2I ta tb (fun i j H2 => Q (.bl (p i j)) H2) σ H
abbrev tLt : TE → TE → TE := tCmp fun i j => decide (i < j)
abbrev tLe : TE → TE → TE := tCmp fun i j => decide (i ≤ j)
abbrev tGt : TE → TE → TE := tCmp fun i j => decide (j < i)
abbrev tGe : TE → TE → TE := tCmp fun i j => decide (j ≤ i)
abbrev tEqI : TE → TE → TE := tCmp fun i j => decide (i = j)
abbrev tNeI : TE → TE → TE := tCmp fun i j => !decide (i = j)
/-- is None -/
def tIsN (ta : TE) : TE := fun σ H Q => ta σ H fun x H1 => Q (.bl (decide (x = .non))) H1
def tNotN (ta : TE) : TE := fun σ H Q => ta σ H fun x H1 => Q (.bl (!decide (x = .non))) H1
/-- a comparison as a value, as a test -/
def tB (t : TE) : TT := fun σ H Q => t σ H fun x H1 => ∃ c, x = .bl c ∧ Q c H1
/-- an expression whose value is a bool, as a test -/
theorem pt_val {e : Expr} {t : TE} (h : PE X e t) (he : ∀ whole, isTrue e X.env whole = (do let v ← whole; standAt e.pos; holding [v] (truthy v)) := by intro _; rfl) : PT X e (tB t) := by
  intro pins s σ H Q I hw
  refine isTrue_plain (thn (h pins s σ H _ I hw) fun v s1 ⟨x, H1, I1, r1, q1⟩ => ?_) (he _)
  obtain ⟨d, rfl, q⟩ := q1
  cases r1
  exact wpAny_truthy_bool ⟨H1, I1, q⟩

/-! ### and, or, not -/
variable {tA tB' : TT} {rest : List Expr}
def tAnd (t u : TT) : TT := fun σ H Q => t σ H fun c H1 => if c = true then u σ H1 Q else Q false H1
def tOr (t u : TT) : TT := fun σ H Q => t σ H fun c H1 => if c = true then Q true H1 else u σ H1 Q
def tNot (t : TT) : TT := fun σ H Q => t σ H fun c H1 => Q (!c) H1
theorem pw_and1 (ha : PT X a tA) : PW X (.BoolOp .And [a] pos) tA := by
  intro wh pins s σ H Q I h
  refine isTrue_and (thn (ha pins s σ H Q I h) fun c s1 e => ?_)
  cases c with
  | true => exact isTrue_and_nil e
  | false => exact e
theorem pw_or1 (ha : PT X a tA) : PW X (.BoolOp .Or [a] pos) tA := by
  intro wh pins s σ H Q I h
  refine isTrue_or (thn (ha pins s σ H Q I h) fun c s1 e => ?_)
  cases c with
  | false => exact isTrue_or_nil e
  | true => exact e
theorem pw_and (ha : PT X a tA) (hb : PW X (.BoolOp .And (b :: rest) pos) tB') : PW X (.BoolOp .And (a :: b :: rest) pos) (tAnd tA tB') := by
  intro wh pins s σ H Q I h
  refine isTrue_and (thn (ha pins s σ H _ I h) fun c s1 ⟨H1, I1, q1⟩ => ?_)
  cases c with
  | true => exact hb wh pins s1 σ H1 Q I1 q1
  | false => exact ⟨H1, I1, q1⟩
theorem pw_or (ha : PT X a tA) (hb : PW X (.BoolOp .Or (b :: rest) pos) tB') : PW X (.BoolOp .Or (a :: b :: rest) pos) (tOr tA tB') := by
  intro wh pins s σ H Q I h
  refine isTrue_or (thn (ha pins s σ H _ I h) fun c s1 ⟨H1, I1, q1⟩ => ?_)
  cases c with
  | true => exact ⟨H1, I1, q1⟩
  | false => exact hb wh pins s1 σ H1 Q I1 q1
theorem pt_not (ha : PT X a tA) : PT X (.UnaryOp .Not a pos) (tNot tA) := by
  intro pins s σ H Q I h
  exact isTrue_not (ha pins s σ H (fun c H1 => Q (!c) H1) I h)
/-- .. as values (bools) -/
def tAndV (ta tb : TE) : TE := fun σ H Q => ta σ H fun x H1 => ∃ c, x = .bl c ∧ if c = true then tb σ H1 Q else Q (.bl false) H1
def tOrV (ta tb : TE) : TE := fun σ H Q => ta σ H fun x H1 => ∃ c, x = .bl c ∧ if c = true then Q (.bl true) H1 else tb σ H1 Q
def tNotV (ta : TE) : TE := fun σ H Q => ta σ H fun x H1 => ∃ c, x = .bl c ∧ Q (.bl (!c)) H1
theorem pe_one {op} {t : TE} (h : PE X a t) : PE X (.BoolOp op [a] pos) t := fun pins s σ H Q I hw => BoolOp_one (h pins s σ H Q I hw)
theorem pe_and (ha : PE X a ta) (hb : PE X (.BoolOp .And (b :: rest) pos) tb) : PE X (.BoolOp .And (a :: b :: rest) pos) (tAndV ta tb) := by
  intro pins s σ H Q I h
  refine BoolOp_and (thn (ha pins s σ H _ I h) fun v s1 ⟨x, H1, I1, r1, q1⟩ => ?_)
  obtain ⟨c, rfl, q1⟩ := q1
  cases r1
  refine wpAny_truthy_bool ?_
  cases c with
  | true => exact hb pins s1 σ H1 Q I1 q1
  | false => exact ⟨.bl false, H1, I1, rfl, q1⟩
theorem pe_or (ha : PE X a ta) (hb : PE X (.BoolOp .Or (b :: rest) pos) tb) : PE X (.BoolOp .Or (a :: b :: rest) pos) (tOrV ta tb) := by
  intro pins s σ H Q I h
  refine BoolOp_or (thn (ha pins s σ H _ I h) fun v s1 ⟨x, H1, I1, r1, q1⟩ => ?_)
  obtain ⟨c, rfl, q1⟩ := q1
  cases r1
  refine wpAny_truthy_bool ?_
  cases c with
  | false => exact hb pins s1 σ H1 Q I1 q1
  | true => exact ⟨.bl true, H1, I1, rfl, q1⟩
theorem pe_not (ha : PE X a ta) : PE X (.UnaryOp .Not a pos) (tNotV ta) := by
  intro pins s σ H Q I h
  refine UnaryOp_ (thn (ha pins s σ H _ I h) fun v s1 ⟨x, H1, I1, r1, q1⟩ => ?_)
  obtain ⟨c, rfl, q1⟩ := q1
  cases r1
  exact not_of (wpAny_truthy_bool ⟨.bl (!c), H1, I1, rfl, q1⟩)
/-- a if t else b -/
def tIf (t : TT) (ta tb : TE) : TE := fun σ H Q => t σ H fun c H1 => if c = true then ta σ H1 Q else tb σ H1 Q
end
end L2

namespace L2
open PySem PySem.Spec PyProof.Rows

/-! ### a list, a tuple that is read: tracked, frozen, or an object of the module -/
def SqL (K : PySem.W.Frag) (H : Hp) (a : Addr) (xs : List V) : Prop :=
  Rd H a (.lst xs) ∨
    ∃ (o : Obj) (its : Array Value) (n : Nat), K.lookup a = some o ∧ o.cls = .type "list" ∧ o.dict = none ∧ o.data = .seq its n ∧ its.size ≤ sizeLine ∧ Vals xs its.toList
def SqT (K : PySem.W.Frag) (H : Hp) (a : Addr) (xs : List V) : Prop :=
  Rd H a (.tup xs) ∨
    ∃ (o : Obj) (its : Array Value) (n : Nat), K.lookup a = some o ∧ o.cls = .type "tuple" ∧ o.data = .seq its n ∧ its.size ≤ sizeLine ∧ Vals xs its.toList
def absV : Value → Option V
  | .none => some .non
  | .bool b => some (.bl b)
  | .int i _ => some (.int i)
  | .str x _ => some (.str x)
  | .bytes b _ => some (.byt b)
  | .float b _ => some (.flt b)
  | .ref a => some (.ref a)
  | .type n => some (.ty n)
  | _ => none
theorem RelV.abs {x : V} {u : Value} (r : RelV x u) : absV u = some x := by
  cases x with
  | non => cases r; rfl
  | bl _ => cases r; rfl
  | int _ => obtain ⟨t, rfl⟩ := r; rfl
  | str _ => obtain ⟨t, rfl⟩ := r; rfl
  | byt _ => obtain ⟨t, rfl⟩ := r; rfl
  | flt _ => obtain ⟨t, rfl⟩ := r; rfl
  | ref _ => cases r; rfl
  | ty _ => cases r; rfl
theorem RelV.inj {x y : V} {u : Value} (r : RelV x u) (q : RelV y u) : x = y := Option.some.inj (r.abs.symm.trans q.abs)
theorem Vals.inj : ∀ {xs ys : List V} {us : List Value}, Vals xs us → Vals ys us → xs = ys
  | _, _, _, .nil, .nil => rfl
  | _, _, _, .cons r t, .cons r' t' => by rw [r.inj r', Vals.inj t t']
section
variable {X : Cx} {pins : List (Addr × Obj)} {σ : St} {H : Hp} {s : Shared} {a : Addr} {xs ys : List V}
theorem SqL.of {K : PySem.W.Frag} (h : H a = some (.lst xs)) : SqL K H a xs := .inl (.inl h)
theorem SqT.of {K : PySem.W.Frag} (h : H a = some (.tup xs)) : SqT K H a xs := .inl (.inl h)
theorem Inv.list (I : Inv X pins σ H s) (h : SqL X.K H a xs) : ∃ its : List Value, Vals xs its ∧ PlainL s.heap a its.toArray ∧ xs.length ≤ sizeLine := by
  rcases h with h | ⟨o, its, n, hk, hc, hd, hs, hz, r⟩
  · obtain ⟨z, its, n, r, e⟩ := h.ok I.hok
    exact ⟨its, r, ⟨_, n, e, rfl, rfl, rfl⟩, z⟩
  · refine ⟨its.toList, r, ⟨o, n, I.kIn a o hk, hc, hd, by simpa using hs⟩, ?_⟩
    have e := r.length
    simp only [Array.length_toList] at e
    omega
theorem Inv.tuple (I : Inv X pins σ H s) (h : SqT X.K H a xs) : ∃ its : List Value, Vals xs its ∧ IsTup s.heap a its.toArray ∧ xs.length ≤ sizeLine := by
  rcases h with h | ⟨o, its, n, hk, hc, hs, hz, r⟩
  · obtain ⟨z, its, r, p⟩ := h.ok I.hok
    exact ⟨its, r, p, z⟩
  · refine ⟨its.toList, r, ⟨o, I.kIn a o hk, hc, n, by simpa using hs⟩, ?_⟩
    have e := r.length
    simp only [Array.length_toList] at e
    omega
theorem Inv.list_inj (I : Inv X pins σ H s) (h : SqL X.K H a xs) (h' : SqL X.K H a ys) : xs = ys := by
  obtain ⟨its, r, ⟨o, n, e, _, _, d⟩, _⟩ := I.list h
  obtain ⟨its', r', ⟨o', n', e', _, _, d'⟩, _⟩ := I.list h'
  rw [e] at e'; cases e'
  rw [d] at d'
  injection d' with d1 _
  have : its = its' := by simpa using congrArg Array.toList d1
  subst this
  exact r.inj r'
end

/-! ### another wish about exceptions -/
abbrev Cx.wish (X : Cx) (E : Value → Shared → Prop) : Cx := { X with xe := E }
/-- no exception leaves -/
abbrev Cx.nox (X : Cx) : Cx := X.wish fun _ _ => False
theorem Cx.Ok.wish {X : Cx} (ok : X.Ok) (E : Value → Shared → Prop) : (X.wish E).Ok :=
  ⟨ok.mod, ok.kind, ok.glob, ok.blt, ok.above, ok.inj, ok.has, ok.cab, ok.hd, ok.frames, ok.stk, ok.exf, ok.bs, ok.bsz, ok.noex, ok.exfs, ok.funs, ok.frf⟩
theorem Cx.Ok.unwish {X : Cx} {E : Value → Shared → Prop} (ok : (X.wish E).Ok) : X.Ok :=
  ⟨ok.mod, ok.kind, ok.glob, ok.blt, ok.above, ok.inj, ok.has, ok.cab, ok.hd, ok.frames, ok.stk, ok.exf, ok.bs, ok.bsz, ok.noex, ok.exfs, ok.funs, ok.frf⟩
section
variable {X : Cx} {pins : List (Addr × Obj)} {σ : St} {H : Hp} {s : Shared} {E : Value → Shared → Prop}
theorem Inv.wish (I : Inv X pins σ H s) (E : Value → Shared → Prop) : Inv (X.wish E) pins σ H s := ⟨I.ok.wish E, I.os, I.bare, I.base, I.loc, I.cell, I.free, I.freeC, I.pin, I.hok, I.len⟩
theorem Inv.unwish (I : Inv (X.wish E) pins σ H s) : Inv X pins σ H s := ⟨I.ok.unwish, I.os, I.bare, I.base, I.loc, I.cell, I.free, I.freeC, I.pin, I.hok, I.len⟩
theorem SP.unwish {D : Ends} {f : Flow} {s' : Shared} (h : SP (X.wish E) pins D f s') : SP X pins D f s' := by
  cases f with
  | next => obtain ⟨σ', H', I, q⟩ := h; exact ⟨σ', H', I.unwish, q⟩
  | brk => obtain ⟨σ', H', I, q⟩ := h; exact ⟨σ', H', I.unwish, q⟩
  | cont => obtain ⟨σ', H', I, q⟩ := h; exact ⟨σ', H', I.unwish, q⟩
  | ret u => obtain ⟨v, σ', H', I, r, q⟩ := h; exact ⟨v, σ', H', I.unwish, r, q⟩
theorem PSs.nox {st : List Stmt} {t : TS} (h : PSs X.nox st t) : PSs X st t := fun pins s σ H D I hw =>
  wpAny_mono (h pins s σ H D (I.wish _) hw) (fun _ _ q => q.unwish) fun _ _ z => False.elim z
end

/-! ### blocks and small statements -/
section
variable {X : Cx} {st : Stmt} {rest : List Stmt} {t u : TS} {e : Expr} {te : TE} {pos : Pos}
def tNext : TS := fun D σ H => D.nx σ H
def tSeq (t u : TS) : TS := fun D σ H => t { D with nx := u D } σ H
theorem pss_nil : PSs X [] tNext := fun _ _ σ H _ I h => wpAny_execs_nil ⟨σ, H, I, h⟩
theorem pss_cons (h1 : PS X st t) (h2 : PSs X rest u) : PSs X (st :: rest) (tSeq t u) := by
  intro pins s σ H D I h
  refine wpAny_execs_cons (thn (h1 pins s σ H { D with nx := u D } I h) fun f s1 q => ?_)
  cases f with
  | next =>
    obtain ⟨σ', H', I', q⟩ := q
    exact h2 pins s1 σ' H' D I' q
  | ret v => exact q
  | brk => exact q
  | cont => exact q
theorem pss_one (h1 : PS X st t) : PSs X [st] t := by
  intro pins s σ H D I h
  refine wpAny_execs_cons (thn (h1 pins s σ H D I h) fun f s1 q => ?_)
  cases f with
  | next => exact wpAny_execs_nil q
  | ret v => exact q
  | brk => exact q
  | cont => exact q
def tBreak : TS := fun D σ H => D.bk σ H
def tCont : TS := fun D σ H => D.ct σ H
/-- in a def's body nothing is shown -/
theorem Inv.quiet {pins : List (Addr × Obj)} {σ : St} {H : Hp} {s : Shared} (I : Inv X pins σ H s) : interactive X.env = false := by simp [interactive, I.ok.kind]
/-- an expression whose value is dropped -/
def tDrop (te : TE) : TS := fun D σ H => te σ H fun _ H1 => D.nx σ H1
theorem ps_expr (he : PE X e te) (hs : swapsWith e none pos.line X.env = pure false := by rfl) : PS X (.Expr e pos) (tDrop te) := by
  intro pins s σ H D I h
  exact wpAny_Expr_any (thn (he pins s σ H _ I h) fun v s1 ⟨x, H1, I1, r1, q1⟩ => ⟨σ, H1, I1, q1⟩) I.quiet hs
def tRet (te : TE) : TS := fun D σ H => te σ H D.rt
theorem ps_ret (he : PE X e te) : PS X (.Return (some e) pos) (tRet te) := by
  intro pins s σ H D I h
  exact wpAny_Return_some (thn (he pins s σ H _ I h) fun v s1 ⟨x, H1, I1, r1, q1⟩ => ⟨x, σ, H1, I1, r1, q1⟩)
def tRetN : TS := fun D _ H => D.rt .non H
def tIfS (c : TT) (t u : TS) : TS := fun D σ H => c σ H fun b H1 => if b = true then t D σ H1 else u D σ H1
theorem ps_if {c : Expr} {a b : List Stmt} {tc : TT} (hc : PT X c tc) (ha : PSs X a t) (hb : PSs X b u) : PS X (.If c a b pos) (tIfS tc t u) := by
  intro pins s σ H D I h
  refine wpAny_If (thn (hc pins s σ H _ I h) fun d s1 ⟨H1, I1, q1⟩ => ?_)
  cases d with
  | true => exact ha pins s1 σ H1 D I1 q1
  | false => exact hb pins s1 σ H1 D I1 q1
/-- code that the proof never comes to -/
def tNever : TS := fun _ _ _ => False
end

/-! ### targets -/
abbrev TG := V → St → Hp → (St → Hp → Prop) → Prop
abbrev TGs := List V → St → Hp → (St → Hp → Prop) → Prop
def PG (X : Cx) (target : Expr) (t : TG) : Prop :=
  ∀ (pins : List (Addr × Obj)) (s : Shared) (σ : St) (H : Hp) (v : V) (u : Value) (Q : St → Hp → Prop), Inv X pins σ H s → RelV v u → t v σ H Q →
    wpAny (model X.prog X.w) X.A (assign target X.env u) (fun _ s' => ∃ σ' H', Inv X pins σ' H' s' ∧ Q σ' H') X.xe s
/-- several targets, one after another -/
def PGs (X : Cx) (ts : List Expr) (t : TGs) : Prop :=
  ∀ (pins : List (Addr × Obj)) (s : Shared) (σ : St) (H : Hp) (vs : List V) (us : List Value) (Q : St → Hp → Prop), Inv X pins σ H s → Vals vs us → t vs σ H Q →
    wpAny (model X.prog X.w) X.A (assignInOrder ((assignEach ts X.env).map (·.2)) us) (fun _ s' => ∃ σ' H', Inv X pins σ' H' s' ∧ Q σ' H') X.xe s
/-- o[i] = v, by values -/
abbrev TSet := V → V → V → Hp → (Hp → Prop) → Prop
def PSet (X : Cx) (t : TSet) : Prop :=
  ∀ (pins : List (Addr × Obj)) (s : Shared) (σ : St) (H : Hp) (o i v : V) (ov iv u : Value) (Q : Hp → Prop), Inv X pins σ H s → RelV o ov → RelV i iv → RelV v u → t o i v H Q →
    wpAny (model X.prog X.w) X.A (setItem ov iv u) (fun _ s' => ∃ H', Inv X pins σ H' s' ∧ Q H') X.xe s
/-- a op= b, by values -/
abbrev TIp := V → V → Hp → VK → Prop
def PIp (X : Cx) (op : Operator) (t : TIp) : Prop :=
  ∀ (pins : List (Addr × Obj)) (s : Shared) (σ : St) (H : Hp) (x y : V) (v u : Value) (Q : VK), Inv X pins σ H s → RelV x v → RelV y u → t x y H Q →
    wpAny (model X.prog X.w) X.A (inplaceOp op v u) (EP X pins σ Q) X.xe s
section
variable {X : Cx} {pos : Pos}
def gName (i : Nat) : TG := fun v σ H Q => Q (σ.set i (some v)) H
theorem pg_name {i : Nat} {x : Str} (hN : X.N.Nodup) (hi : X.N[i]? = some x) (hx : Loc X.env.scope x) (hf : X.fn x = true ∨ X.env.scope.names.lookup x = some .local := by first | exact .inl rfl | exact .inr rfl | assumption) : PG X (.Name x pos) (gName i) := by
  intro pins s σ H v u Q I r h
  exact wpAny_assign_Name (store_ok I hN hi hx r (fun s' I' => ⟨_, H, I', h⟩) hf)
def gNil : TGs := fun vs σ H Q => vs = [] ∧ Q σ H
inductive gConsI (t : TG) (u : TGs) (vs : List V) (σ : St) (H : Hp) (Q : (St → Hp → Prop)) : Prop
  | mk (v : _) (r : _) (h0_ : vs = v :: r) (h1_ : t v σ H fun σ' H' => u r σ' H' Q) : gConsI t u vs σ H Q
def gCons (t : TG) (u : TGs) : TGs := fun vs σ H Q => gConsI t u vs σ H Q
theorem pgs_nil : PGs X [] gNil := by
  intro pins s σ H vs us Q I r h
  obtain ⟨e, h⟩ := h
  subst e
  cases r
  exact assignInOrder_nil ⟨σ, H, I, h⟩
theorem pgs_cons {e : Expr} {es : List Expr} {t : TG} {u : TGs} (h1 : PG X e t) (h2 : PGs X es u)
    (hs : (assignEach (e :: es) X.env).map (·.2) = assign e X.env :: (assignEach es X.env).map (·.2) := by rfl) : PGs X (e :: es) (gCons t u) := by
  intro pins s σ H vs us Q I r h
  obtain ⟨v, vr, e1, h⟩ := h
  subst e1
  cases r with
  | cons r rr =>
    rw [hs]
    refine assignInOrder_cons (thn (h1 pins s σ H _ _ _ I r h) fun _ s1 ⟨σ1, H1, I1, q1⟩ => ?_)
    exact h2 pins s1 σ1 H1 _ _ Q I1 rr q1
/-- (a, b, ..) = a tuple of that length -/
inductive gTupI (K : PySem.W.Frag) (n : Nat) (t : TGs) (v : V) (σ : St) (H : Hp) (Q : (St → Hp → Prop)) : Prop
  | mk (a : _) (xs : _) (h0_ : v = .ref a) (h1_ : SqT K H a xs) (h2_ : xs.length = n) (h3_ : t xs σ H Q) : gTupI K n t v σ H Q
def gTup (K : PySem.W.Frag) (n : Nat) (t : TGs) : TG := fun v σ H Q => gTupI K n t v σ H Q
theorem pg_tup {es : List Expr} {k : Nat} {t : TGs} {n : Nat} (hc : X.calm = true) (h : PGs X es t)
    (hn : (assignEach es X.env).length = n := by rfl) (hst : (assignEach es X.env).findIdx? (·.1) = none := by rfl) : PG X (.Tuple es k pos) (gTup X.K n t) := by
  intro pins s σ H v u Q I r hw
  obtain ⟨a, xs, e1, hq, hl, hw⟩ := hw
  subst e1
  cases r
  obtain ⟨its, rv, ht, hz⟩ := I.tuple hq
  refine assign_Tuple_tuple (I.ok.hd hc) ht (by simp [hn, ← hl, rv.length]) hst fun h' hx => ?_
  have I1 : Inv X pins σ H { s with heap := h' } := I.kept (t' := s.toks) fun b o e => hx b o (Nat.ne_of_lt (Heap.lt_size e)) e
  exact h pins _ σ H xs _ Q I1 (by simpa using rv) hw
/-- o[i] = .. -/
def gSub (to ti : TE) (t : TSet) : TG := fun v σ H Q => to σ H fun o H1 => ti σ H1 fun i H2 => t o i v H2 fun H3 => Q σ H3
/-- target = value -/
def tAsg (te : TE) (g : TG) : TS := fun D σ H => te σ H fun x H1 => g x σ H1 D.nx
/-- name = value -/
theorem ps_set {i : Nat} {x : Str} {e : Expr} {te : TE} {pos' : Pos} (hN : X.N.Nodup) (hi : X.N[i]? = some x) (hx : Loc X.env.scope x) (he : PE X e te) (hs : swapsWith e (some (.Name x pos')) pos.line X.env = pure false := by rfl) (hf : X.fn x = true ∨ X.env.scope.names.lookup x = some .local := by first | exact .inl rfl | exact .inr rfl | assumption) :
    PS X (.Assign [.Name x pos'] e pos) (tAsg te (gName i)) := by
  intro pins s σ H D I h
  refine wpAny_Assign_Name (thn (he pins s σ H _ I h) fun v s1 ⟨y, H1, I1, r1, q1⟩ => ?_) hs
  exact store_ok I1 hN hi hx r1 (fun s2 I2 => ⟨_, H1, I2, q1⟩) hf
/-- a, b = x, y with plain local names: stored from the right; the pair itself is not tracked (the opening rows as in PyProof/Rows/TupAssign.lean:23) -/
def tPar (i j : Nat) (ta : TA) : TS := fun D σ H => ta σ H fun vs H1 => ∃ v w, vs = [v, w] ∧ D.nx ((σ.set i (some v)).set j (some w)) H1
/-- name op= e -/
def tAug (i : Nat) (te : TE) (ti : TIp) : TS := fun D σ H => ∃ x, σ[i]? = some (some x) ∧ te σ H fun y H1 => ti x y H1 fun z H2 => D.nx (σ.set i (some z)) H2
/-- o[i] op= e -/
def tAugS (to ti te : TE) (tget : V → V → Hp → VK → Prop) (tip : TIp) (tset : TSet) : TS := fun D σ H => to σ H fun o H1 => ti σ H1 fun i H2 => tget o i H2 fun x H3 => te σ H3 fun y H4 => tip x y H4 fun z H5 => tset o i z H5 fun H6 => D.nx σ H6
/-- o[i], by values -/
def PGet (X : Cx) (t : V → V → Hp → VK → Prop) : Prop :=
  ∀ (pins : List (Addr × Obj)) (s : Shared) (σ : St) (H : Hp) (o i : V) (ov iv : Value) (Q : VK), Inv X pins σ H s → RelV o ov → RelV i iv → t o i H Q →
    wpAny (model X.prog X.w) X.A (getItem ov iv) (EP X pins σ Q) X.xe s
/-- ints -/
def ipI (f : Int → Int → Int) : TIp := fun x y H Q => ∃ i j, x = .int i ∧ y = .int j ∧ Q (.int (f i j)) H
end

/-! ### while -/
section
variable {X : Cx} {pos : Pos}
/-- the invariant W with its measure -/
def tWhile (c : TT) (tb : TS) : TS := fun D σ H => ∃ W : Nat → St → Hp → Prop, (∃ m, W m σ H) ∧ ∀ m σ H, W m σ H →
  c σ H fun b H1 => if b = true then ∃ N : St → Hp → Prop, (∀ σ' H', N σ' H' → ∃ m', m' < m ∧ W m' σ' H') ∧ tb { D with nx := N, ct := N, bk := D.nx } σ H1 else D.nx σ H1
theorem ps_while {c : Expr} {body : List Stmt} {tc : TT} {tb : TS} (hp : PassesOwn (model X.prog X.w) X.A X.env X.xe) (hc : PT X c tc) (hb : PSs X body tb) : PS X (.While c body [] pos) (tWhile tc tb) := by
  intro pins s σ H D I h
  obtain ⟨W, ⟨m0, w0⟩, turn⟩ := h
  refine wpAny_While (codeAny_whileLoop (fun n s' => ∃ σ' H', Inv X pins σ' H' s' ∧ W n σ' H') ?_ m0 ⟨σ, H, I, w0⟩)
  rintro n s1 ⟨σ1, H1, I1, w1⟩
  refine wpAny_passesOwn hp (thn (hc pins s1 σ1 H1 _ I1 (turn n σ1 H1 w1)) fun b s2 ⟨H2, I2, q2⟩ => ?_)
  cases b with
  | true =>
    obtain ⟨N, hN, q2⟩ := q2
    rw [if_pos rfl]
    refine wpAny_passesOwn hp (thn (hb pins s2 σ1 H2 _ I2 q2) fun f s3 q3 => ?_)
    cases f with
    | next =>
      obtain ⟨σ3, H3, I3, n3⟩ := q3
      obtain ⟨m', hm, w3⟩ := hN σ3 H3 n3
      exact ⟨m', hm, σ3, H3, I3, w3⟩
    | cont =>
      obtain ⟨σ3, H3, I3, n3⟩ := q3
      obtain ⟨m', hm, w3⟩ := hN σ3 H3 n3
      exact ⟨m', hm, σ3, H3, I3, w3⟩
    | brk => exact q3
    | ret v => exact q3
  | false =>
    rw [if_neg Bool.false_ne_true]
    exact wpAny_execs_nil ⟨σ1, H2, I2, q2⟩
end

/-! ### what a loop or a comprehension walks -/
/-- at turn i: it yields x (the heap may grow), or it stops -/
structure It where
  go : Nat → Hp → Prop
  yld : Nat → Hp → V → Hp → Prop
  stop : Nat → Hp → Prop
/-- the iterator's own objects may turn: they are not the frame's, not pinned, younger than the entry (or a comprehension's own) -/
def FpOk (X : Cx) (pins : List (Addr × Obj)) (H : Hp) (b : Addr) : Prop :=
  H b = none ∧ b ≠ X.env.locals ∧ b ∉ X.fs ∧ (b ∈ X.ex ∨ X.s₀.heap.objs.size ≤ b) ∧ (∀ x c, X.env.cells.lookup x = some c → c ≠ b) ∧ ∀ p ∈ X.pn ++ pins, p.1 ≠ b
theorem Inv.fpOk {X : Cx} {pins : List (Addr × Obj)} {σ : St} {H H' : Hp} {s : Shared} {b : Addr} (I : Inv X pins σ H s) (hb : s.heap.objs.size ≤ b) (hn : H' b = none) : FpOk X pins H' b := by
  refine ⟨hn, Nat.ne_of_gt (Nat.lt_of_lt_of_le I.lt hb), I.nofs hb, .inr (Nat.le_trans I.sz hb), fun x c e z => ?_, fun p hp z => ?_⟩
  · obtain ⟨v, q⟩ := I.cell x c e
    exact absurd (Nat.lt_of_lt_of_le q.lt (by rw [z]; exact hb)) (Nat.lt_irrefl _)
  · exact absurd (Nat.lt_of_lt_of_le (Heap.lt_size (I.pin p hp).1) (by rw [z]; exact hb)) (Nat.lt_irrefl _)
structure Turn (P : Program) (w : World) (K : PySem.W.Frag) (tg : Expr) (J : It) (fp : List Addr) (it : Addr) (tn : Nat → Heap → Prop) : Prop where
  mem : it ∈ fp
  obj : ∀ i h, tn i h → ∀ b ∈ fp, ∃ o, h.get? b = some o ∧ ∀ v, o.data ≠ .cell v
  keep : ∀ i h h', tn i h → (∀ b ∈ fp, ∀ o, h.get? b = some o → h'.get? b = some o) → tn i h'
  item : ∀ (X : Cx), X.prog = P → X.w = w → X.K = K → X.calm = true → ∀ (i : Nat) (pins : List (Addr × Obj)) (s : Shared) (σ : St) (H : Hp) (E : Value → Shared → Prop), Inv X pins σ H s → (∀ b ∈ fp, FpOk X pins H b) → tn i s.heap → J.go i H →
    wpAny (model P w) X.A (pyNext (.ref it)) (fun r s1 => ∃ u, r = some u ∧
      wpAny (model P w) X.A (letOwnedTupleGo tg (.ref it) u) (fun _ s2 => ∃ x H', Inv X pins σ H' s2 ∧ RelV x u ∧ J.yld i H x H' ∧ tn (i + 1) s2.heap ∧ ∀ b ∈ fp, H' b = none) E s1) E s
  done : ∀ (X : Cx), X.prog = P → X.w = w → X.K = K → X.calm = true → ∀ (i : Nat) (pins : List (Addr × Obj)) (s : Shared) (σ : St) (H : Hp) (E : Value → Shared → Prop), Inv X pins σ H s → (∀ b ∈ fp, FpOk X pins H b) → tn i s.heap → J.stop i H →
    wpAny (model P w) X.A (pyNext (.ref it)) (fun r s1 => r = none ∧ Inv X pins σ H s1) E s
  self : ∀ (A : Around) (i : Nat) (s : Shared) (Q : Value → Shared → Prop) (E : Value → Shared → Prop), tn i s.heap → Q (.ref it) s → wpAny (model P w) A (pyIter (.ref it)) Q E s
abbrev TI := St → Hp → (It → Hp → Prop) → Prop
/-- an iterator has come -/
def PIE (X : Cx) (pins : List (Addr × Obj)) (σ : St) (tg : Expr) (R : It → Hp → Prop) (itv : Value) (s2 : Shared) : Prop :=
  ∃ (it : Addr) (fp : List Addr) (tn : Nat → Heap → Prop) (J : It) (H' : Hp), itv = .ref it ∧ Inv X pins σ H' s2 ∧ Turn X.prog X.w X.K tg J fp it tn ∧ tn 0 s2.heap ∧ (∀ b ∈ fp, FpOk X pins H' b) ∧ R J H'
def PI (X : Cx) (tg iter : Expr) (wi : TI) : Prop :=
  ∀ (pins : List (Addr × Obj)) (s : Shared) (σ : St) (H : Hp) (R : It → Hp → Prop), Inv X pins σ H s → wi σ H R →
    wpAny (model X.prog X.w) X.A (eval iter X.env) (fun v s1 => wpAny (model X.prog X.w) X.A (pyIter v) (PIE X pins σ tg R) X.xe s1) X.xe s

/-- the step ahead of the store is nothing for an iterator that keeps no tuple -/
theorem go_of {M : Model} {A : Around} {E : Value → Shared → Prop} {s : Shared} {tg : Expr} {it : Addr} {u : Value} {o : Obj} {n : String} {vs : Array Value} {Q : Unit → Shared → Prop} (ho : s.heap.get? it = some o) (hc : o.cls = .type n) (hd : o.data = .fields vs)
    (hn : ["enumerate", "zip", "dict_itemiterator", "dict_reverseitemiterator", "odict_iterator", "itertools.zip_longest", "itertools.pairwise"].contains n = false) (hQ : Q () s) : wpAny M A (letOwnedTupleGo tg (.ref it) u) Q E s := by
  unfold letOwnedTupleGo
  cases tg <;> first
    | exact wpAny_pure hQ
    | (cases u <;> first
        | exact wpAny_pure hQ
        | (refine wpAny_bind (wpAny_load ho ?_)
           rw [hc, hd]
           show wpAny M A (if (["enumerate", "zip", "dict_itemiterator", "dict_reverseitemiterator", "odict_iterator", "itertools.zip_longest", "itertools.pairwise"].contains n && vs[0]? == some (rawInt _)) = true then _ else _) Q E s
           rw [if_neg (by intro h; rw [hn, Bool.false_and] at h; cases h)]
           exact wpAny_pure hQ))

/-- the list at a, as it stands at each turn (a loop may append to it) -/
def Itl (K : PySem.W.Frag) (a : Addr) : It :=
  ⟨fun i H => ∃ xs x, SqL K H a xs ∧ xs[i]? = some x, fun i H x H' => H' = H ∧ ∀ xs, SqL K H a xs → xs[i]? = some x, fun i H => ∃ xs, SqL K H a xs ∧ xs.length ≤ i⟩
def Itt (K : PySem.W.Frag) (a : Addr) : It :=
  ⟨fun i H => ∃ xs x, SqT K H a xs ∧ xs[i]? = some x, fun i H x H' => H' = H ∧ ∀ xs, SqT K H a xs → xs[i]? = some x, fun i H => ∃ xs, SqT K H a xs ∧ xs.length ≤ i⟩
/-- lo, lo + 1, .. (n of them) -/
def Itr (lo : Int) (n : Nat) : It := ⟨fun i _ => i < n, fun i H x H' => H' = H ∧ x = .int (lo + i), fun i _ => n ≤ i⟩
theorem turn_list {P : Program} {w : World} {K : PySem.W.Frag} {tg : Expr} (a it : Addr) : Turn P w K tg (Itl K a) [it] it (fun i h => h.IsListIter it a i) where
  mem := by simp
  obj := fun i h st b hb => by
    have e : b = it := by simpa using hb
    subst e
    obtain ⟨o, e, c, d⟩ := st
    exact ⟨o, e, fun v z => by rw [d] at z; cases z⟩
  keep := fun i h h' st k => st.at fun o e => k it (by simp) o e
  item := by
    intro X hP hw hK hc i pins s σ H E I hf st hg
    subst hP hw hK
    obtain ⟨xs, x, hq, hx⟩ := hg
    obtain ⟨its, rv, p, hz⟩ := I.list hq
    obtain ⟨u, hu, ru⟩ := rv.get hx
    obtain ⟨f0, f1, f2, f3, f4, f5⟩ := hf it (by simp)
    refine wpAny_pyNext_list_item st p.isList (x := u) (by simpa using hu) fun h' st' sb => ?_
    have I1 : Inv X pins σ H { s with heap := h' } := I.turned (t' := s.toks) (fun b o hb e => (sb.2 b hb).trans e) f0 f1 f3 f4 f5
    obtain ⟨o, e, c, d⟩ := id st'
    exact ⟨u, rfl, go_of (s := { s with heap := h' }) e c d (by decide) ⟨x, H, I1, ru, ⟨rfl, fun ys hy => by rw [I.list_inj hy hq]; exact hx⟩, st', fun b hb => (hf b hb).1⟩⟩
  done := by
    intro X hP hw hK hc i pins s σ H E I hf st hg
    subst hP hw hK
    obtain ⟨xs, hq, hx⟩ := hg
    obtain ⟨its, rv, p, hz⟩ := I.list hq
    obtain ⟨f0, f1, f2, f3, f4, f5⟩ := hf it (by simp)
    have hl := rv.length
    exact wpAny_pyNext_list_end (I.ok.hd hc) st p.isList (by simp; omega) fun h' eb => ⟨rfl, I.turned (t' := s.toks) (fun b o hb e => eb b o hb e) f0 f1 f3 f4 f5⟩
  self := fun _ _ _ _ _ st h => wpAny_pyIter_listiter st h
theorem turn_range {P : Program} {w : World} {K : PySem.W.Frag} {tg : Expr} (it : Addr) (lo : Int) (n : Nat) : Turn P w K tg (Itr lo n) [it] it (fun i h => IsRangeIter h it (lo + (i : Nat) * 1) ((n : Int) - (i : Nat)) 1) where
  mem := by simp
  obj := fun i h st b hb => by
    have e : b = it := by simpa using hb
    subst e
    exact ⟨_, st, fun v z => by
      have z' : Data.fields _ = Data.cell v := z
      cases z'⟩
  keep := fun i h h' st k => k it (by simp) _ st
  item := by
    intro X hP hw hK hc i pins s σ H E I hf st hg
    subst hP hw hK
    obtain ⟨f0, f1, f2, f3, f4, f5⟩ := hf it (by simp)
    have W := Walks.range (prog := X.prog) (w := X.w) (I.ok.hd hc) it lo 1 n
    refine W.item i s _ _ hg st fun v h' tk hv st' kk => ?_
    obtain ⟨t, rfl⟩ := hv
    have I1 : Inv X pins σ H { s with heap := h', toks := tk } := I.turned (fun b o hb e => kk b o (by simpa using hb) e) f0 f1 f3 f4 f5
    refine ⟨_, rfl, go_of (s := { s with heap := h', toks := tk }) (n := "range_iterator") st' rfl rfl (by decide) ⟨.int (lo + i), H, I1, ⟨t, ?_⟩, ⟨rfl, rfl⟩, st', fun b hb => (hf b hb).1⟩⟩
    rw [Int.mul_one]
  done := by
    intro X hP hw hK hc i pins s σ H E I hf st hg
    subst hP hw hK
    obtain ⟨f0, f1, f2, f3, f4, f5⟩ := hf it (by simp)
    exact wpAny_pyNext_range_end (I.ok.hd hc) st (by have : n ≤ i := hg; omega) fun h' eb => ⟨rfl, I.turned (t' := s.toks) (fun b o hb e => eb b o hb e) f0 f1 f3 f4 f5⟩
  self := fun _ _ _ _ _ st h => wpAny_pyIter_rangeiter st h
end L2

namespace L2
open PySem PySem.Spec PyProof.Rows
section
variable {X : Cx} {tg : Expr}
inductive iListI (K : PySem.W.Frag) (R : (It → Hp → Prop)) (x : V) (H1 : Hp) : Prop
  | mk (a : _) (h0_ : x = .ref a) (h1_ : (∃ xs, SqL K H1 a xs) ∧ R (Itl K a) H1) : iListI K R x H1
def iList (K : PySem.W.Frag) (tl : TE) : TI := fun σ H R => tl σ H fun x H1 => iListI K R x H1
inductive iTupI (K : PySem.W.Frag) (R : (It → Hp → Prop)) (x : V) (H1 : Hp) : Prop
  | mk (a : _) (h0_ : x = .ref a) (h1_ : (∃ xs, SqT K H1 a xs) ∧ R (Itt K a) H1) : iTupI K R x H1
def iTup (K : PySem.W.Frag) (tl : TE) : TI := fun σ H R => tl σ H fun x H1 => iTupI K R x H1
theorem pi_list {l : Expr} {tl : TE} (hl : PE X l tl) : PI X tg l (iList X.K tl) := by
  intro pins s σ H R I h
  refine thn (hl pins s σ H _ I h) fun v s1 ⟨x, H1, I1, r1, q1⟩ => ?_
  obtain ⟨a, e, ⟨xs, hq⟩, q⟩ := q1
  subst e
  cases r1
  obtain ⟨its, rv, p, hz⟩ := I1.list hq
  refine wpAny_pyIter_list p.isList ?_
  refine ⟨s1.heap.objs.size, [s1.heap.objs.size], _, _, H1, rfl, I1.kept (t' := s1.toks) fun b o e => Heap.get?_push_of_some _ e, turn_list a _, ⟨_, Heap.get?_push_size _ rfl, rfl, rfl⟩, fun b hb => ?_, q⟩
  have e : b = s1.heap.objs.size := by simpa using hb
  subst e
  exact I1.fpOk (Nat.le_refl _) (I1.hok.fresh (Nat.le_refl _))
/-- a range object just made, walked -/
theorem range_it {pins : List (Addr × Obj)} {σ : St} {H : Hp} {s : Shared} {R : It → Hp → Prop} {E : Value → Shared → Prop} {lo hi : Int} {t u v : Tok} {tk : Nat} (I : Inv X pins σ H s) (h1 : -(2 ^ 62) ≤ lo) (h2 : lo < 2 ^ 62) (h3 : -(2 ^ 62) ≤ hi) (h4 : hi < 2 ^ 62)
    (q : R (Itr lo (hi - lo).toNat) H) : wpAny (model X.prog X.w) X.A (pyIter (.ref s.heap.objs.size)) (PIE X pins σ tg R) E { s with heap := s.heap.push { cls := .type "range", data := .fields #[.int lo t, .int hi u, .int 1 v] }, toks := tk } := by
  refine wpAny_pyIter_range (IsRange.new ..) (small_one h1 h2 h3 h4) ?_
  have I1 : Inv X pins σ H { s with heap := s.heap.push { cls := .type "range", data := .fields #[.int lo t, .int hi u, .int 1 v] }, toks := tk } := I.kept fun b o e => Heap.get?_push_of_some _ e
  refine ⟨(s.heap.push { cls := .type "range", data := .fields #[.int lo t, .int hi u, .int 1 v] }).objs.size, [(s.heap.push { cls := .type "range", data := .fields #[.int lo t, .int hi u, .int 1 v] }).objs.size], _, _, H, rfl,
    I1.kept (t' := tk) fun b o e => Heap.get?_push_of_some _ e, turn_range _ lo (hi - lo).toNat, ?_, fun b hb => ?_, q⟩
  · have e1 : lo + ((0 : Nat) : Int) * 1 = lo := by simp
    have e2 : (((hi - lo).toNat : Nat) : Int) - ((0 : Nat) : Int) = Builtin.Range.rangeSize lo hi 1 := by rw [rangeSize_one]; split <;> omega
    show IsRangeIter _ _ (lo + ((0 : Nat) : Int) * 1) ((((hi - lo).toNat : Nat) : Int) - ((0 : Nat) : Int)) 1
    rw [e1, e2]
    exact Heap.get?_push_size _ rfl
  · have e : b = (s.heap.push { cls := .type "range", data := .fields #[.int lo t, .int hi u, .int 1 v] }).objs.size := by simpa using hb
    subst e
    exact I1.fpOk (Nat.le_refl _) (I1.hok.fresh (Nat.le_refl _))
inductive iRng1I (R : (It → Hp → Prop)) (vs : List V) (H1 : Hp) : Prop
  | mk (j : Int) (h0_ : vs = [.int j]) (h1_ : -(2 ^ 62) ≤ j ∧ j < 2 ^ 62 ∧ R (Itr 0 j.toNat) H1) : iRng1I R vs H1
def iRng1 (ta : TA) : TI := fun σ H R => ta σ H fun vs H1 => iRng1I R vs H1
inductive iRng2I (R : (It → Hp → Prop)) (vs : List V) (H1 : Hp) : Prop
  | mk (i j : Int) (h0_ : vs = [.int i, .int j]) (h1_ : (-(2 ^ 62) ≤ i ∧ i < 2 ^ 62 ∧ -(2 ^ 62) ≤ j ∧ j < 2 ^ 62)) (h2_ : R (Itr i (j - i).toNat) H1) : iRng2I R vs H1
def iRng2 (ta : TA) : TI := fun σ H R => ta σ H fun vs H1 => iRng2I R vs H1
theorem pi_range1 {a : Expr} {ta : TA} {p pos : Pos} (hg : Gl X "range") (hm : X.mg "range" = none) (ha : PA X [a] ta) (hs : starEach [a] X.env = [(false, eval a X.env)] := by rfl) : PI X tg (.Call (.Name "range" p) [a] [] pos) (iRng1 ta) := by
  intro pins s σ H R I h
  refine Call_ (ld_blt I hg hm boot_range (PyProof.Rows.callWith_type1 (thn (ha pos pins s σ H _ I h) fun us s1 ⟨vs, H1, I1, r1, q1⟩ => ?_) hs rfl))
  obtain ⟨j, e, q1, q2, q⟩ := q1
  subst e
  cases r1 with
  | cons r rr =>
    cases rr
    obtain ⟨t, rfl⟩ := r
    exact call_range_1 (range_it I1 (by omega) (by omega) q1 q2 (by simpa using q))
/-! ### for -/
/-- W: the invariant by the turn and a measure; N: what the body is to reach -/
def tFor (wi : TI) (g : TG) (tb : TS) : TS := fun D σ H => wi σ H fun J H1 => ∃ W : Nat → Nat → St → Hp → Prop, (∃ m, W 0 m σ H1) ∧ ∀ i m σ H, W i m σ H →
  (J.stop i H ∧ D.nx σ H) ∨ (J.go i H ∧ ∃ N : St → Hp → Prop, (∀ σ' H', N σ' H' → ∃ m', m' < m ∧ W (i + 1) m' σ' H') ∧ ∀ x H', J.yld i H x H' → g x σ H' fun σ2 H2 => tb { D with nx := N, ct := N, bk := D.nx } σ2 H2)
/-- the records at fp as they stand -/
def pinsAt (fp : List Addr) (h : Heap) : List (Addr × Obj) := fp.filterMap fun b => (h.get? b).map fun o => (b, o)
theorem mem_pinsAt {fp : List Addr} {h : Heap} {b : Addr} {o : Obj} (hb : b ∈ fp) (e : h.get? b = some o) : (b, o) ∈ pinsAt fp h := List.mem_filterMap.mpr ⟨b, hb, by rw [e]; rfl⟩
theorem of_pinsAt {fp : List Addr} {h : Heap} {p : Addr × Obj} (hp : p ∈ pinsAt fp h) : p.1 ∈ fp ∧ h.get? p.1 = some p.2 := by
  obtain ⟨b, hb, e⟩ := List.mem_filterMap.mp hp
  cases q : h.get? b with
  | none => rw [q] at e; cases e
  | some o =>
    rw [q] at e
    have e' : (b, o) = p := Option.some.inj e
    subst e'
    exact ⟨hb, q⟩
theorem Inv.pinned {pins : List (Addr × Obj)} {σ : St} {H : Hp} {s : Shared} {fp : List Addr} (I : Inv X pins σ H s) (hf : ∀ b ∈ fp, FpOk X pins H b) (ho : ∀ b ∈ fp, ∃ o, s.heap.get? b = some o ∧ ∀ v, o.data ≠ .cell v) : Inv X (pins ++ pinsAt fp s.heap) σ H s :=
  I.pins_of fun p hp => (List.mem_append.mp hp).elim (fun z => I.pin p (List.mem_append_right _ z)) fun z => by
    obtain ⟨hb, e⟩ := of_pinsAt z
    obtain ⟨f0, f1, f2, _⟩ := hf p.1 hb
    obtain ⟨o, e', d⟩ := ho p.1 hb
    rw [e] at e'; cases e'
    exact ⟨e, f0, f1, f2, d⟩
theorem Inv.unpinned {pins pl : List (Addr × Obj)} {σ : St} {H : Hp} {s : Shared} (I : Inv X (pins ++ pl) σ H s) : Inv X pins σ H s := I.pins_of fun p hp => I.pin p (List.mem_append_right _ (List.mem_append_left _ hp))
theorem ps_for {iter : Expr} {body : List Stmt} {wi : TI} {g : TG} {tb : TS} {pos : Pos} (hp : PassesOwn (model X.prog X.w) X.A X.env X.xe) (hc : X.calm = true) (hi : PI X tg iter wi) (hg : PG X tg g) (hb : PSs X body tb)
    (hs : ∀ x, foldedSetIterable iter X.env x = pure x := by intro _; rfl) : PS X (.For tg iter body [] pos) (tFor wi g tb) := by
  intro pins s σ H D I h
  refine wpAny_For (thn (hi pins s σ H _ I h) fun v s1 h1 => thn h1 fun itv s2 h2 => ?_) hs
  obtain ⟨it, fp, tn, J, H2, e, I2, T, st2, f2, W, ⟨m0, w0⟩, turn⟩ := h2
  subst e
  -- what stays true of the iterator's objects through the loop
  have stat : ∀ {H' : Hp}, (∀ b ∈ fp, H' b = none) → ∀ b ∈ fp, FpOk X pins H' b := fun hn b hb => ⟨hn b hb, (f2 b hb).2⟩
  refine codeAny_forLoop_any (fun n s' => ∃ i σ' H', Inv X pins σ' H' s' ∧ tn i s'.heap ∧ (∀ b ∈ fp, H' b = none) ∧ W i n σ' H') ?_ m0 ⟨0, σ, H2, I2, st2, fun b hb => (f2 b hb).1, w0⟩
  rintro n s3 ⟨i, σ3, H3, I3, st3, fr3, w3⟩
  rcases turn i n σ3 H3 w3 with ⟨stop, qn⟩ | ⟨go, N, hN, step⟩
  · refine wpAny_passesOwn hp (thn (T.done X rfl rfl rfl hc i pins s3 σ3 H3 X.xe I3 (stat fr3) st3 stop) fun r s4 ⟨hr, I4⟩ => ?_)
    subst hr
    exact wpAny_execs_nil ⟨σ3, H3, I4, qn⟩
  · refine wpAny_passesOwn hp (thn (T.item X rfl rfl rfl hc i pins s3 σ3 H3 X.xe I3 (stat fr3) st3 go) fun r s4 ⟨u, hr, h4⟩ => ?_)
    subst hr
    refine wpAny_passesOwn hp (thn h4 fun _ s5 ⟨x, H5, I5, r5, y5, st5, fr5⟩ => ?_)
    have I5' := I5.pinned (stat fr5) (T.obj _ _ st5)
    refine wpAny_passesOwn hp (thn (hg _ s5 σ3 H5 x u _ I5' r5 (step x H5 y5)) fun _ s6 ⟨σ6, H6, I6, q6⟩ => ?_)
    refine wpAny_passesOwn hp (thn (hb _ s6 σ6 H6 _ I6 q6) fun f s7 q7 => ?_)
    have again : ∀ {σ7 : St} {H7 : Hp}, Inv X (pins ++ pinsAt fp s5.heap) σ7 H7 s7 → N σ7 H7 → ∃ m, m < n ∧ ∃ i σ' H', Inv X pins σ' H' s7 ∧ tn i s7.heap ∧ (∀ b ∈ fp, H' b = none) ∧ W i m σ' H' := fun {σ7 H7} I7 n7 => by
      obtain ⟨m', hm, w7⟩ := hN σ7 H7 n7
      refine ⟨m', hm, i + 1, σ7, H7, I7.unpinned, T.keep _ _ _ st5 fun b hb o e => (I7.pin (b, o) (List.mem_append_right _ (List.mem_append_right _ (mem_pinsAt hb e)))).1, fun b hb => ?_, w7⟩
      obtain ⟨o, e, d⟩ := T.obj _ _ st5 b hb
      exact (I7.pin (b, o) (List.mem_append_right _ (List.mem_append_right _ (mem_pinsAt hb e)))).2.1
    cases f with
    | next => obtain ⟨σ7, H7, I7, n7⟩ := q7; exact again I7 n7
    | cont => obtain ⟨σ7, H7, I7, n7⟩ := q7; exact again I7 n7
    | brk => obtain ⟨σ7, H7, I7, q7⟩ := q7; exact ⟨σ7, H7, I7.unpinned, q7⟩
    | ret v => obtain ⟨x7, σ7, H7, I7, r7, q7⟩ := q7; exact ⟨x7, σ7, H7, I7.unpinned, r7, q7⟩
end

/-! ### the forms one uses -/
/-- over a list that the body leaves as it is -/
theorem for_list {K : PySem.W.Frag} {a : Addr} {xs : List V} {g : TG} {tb : TS} {D : Ends} {σ : St} {H : Hp} (Pv : Nat → St → Hp → Prop) (h0 : Pv 0 σ H) (hl : ∀ i σ H, i ≤ xs.length → Pv i σ H → SqL K H a xs)
    (hs : ∀ i x σ H, xs[i]? = some x → Pv i σ H → g x σ H fun σ2 H2 => tb { D with nx := Pv (i + 1), ct := Pv (i + 1), bk := D.nx } σ2 H2) (hd : ∀ σ H, Pv xs.length σ H → D.nx σ H) :
    ∃ W : Nat → Nat → St → Hp → Prop, (∃ m, W 0 m σ H) ∧ ∀ i m σ H, W i m σ H →
      ((Itl K a).stop i H ∧ D.nx σ H) ∨ ((Itl K a).go i H ∧ ∃ N : St → Hp → Prop, (∀ σ' H', N σ' H' → ∃ m', m' < m ∧ W (i + 1) m' σ' H') ∧ ∀ x H', (Itl K a).yld i H x H' → g x σ H' fun σ2 H2 => tb { D with nx := N, ct := N, bk := D.nx } σ2 H2) := by
  refine ⟨fun i m σ H => m = xs.length - i ∧ i ≤ xs.length ∧ Pv i σ H, ⟨xs.length, by simp, Nat.zero_le _, h0⟩, ?_⟩
  rintro i m σ H ⟨rfl, hi, p⟩
  have q := hl i σ H hi p
  by_cases hlt : i < xs.length
  · refine .inr ⟨⟨xs, xs[i], q, by simp [hlt]⟩, Pv (i + 1), fun σ' H' p' => ⟨xs.length - (i + 1), by omega, rfl, hlt, p'⟩, fun x H' y => ?_⟩
    obtain ⟨e, y⟩ := y
    subst e
    exact hs i x σ _ (y xs q) p
  · have e : i = xs.length := by omega
    subst e
    exact .inl ⟨⟨xs, q, Nat.le_refl _⟩, hd σ H p⟩
end L2

namespace L2
open PySem PySem.Spec PyProof.Rows

abbrev R2 := V → V → Hp → VK → Prop
/-- a two-place operation on values: f is binaryOp op, inplaceOp op or compareOp op -/
def OpR (X : Cx) (f : Value → Value → Sem Value) (r : R2) : Prop :=
  ∀ (pins : List (Addr × Obj)) (s : Shared) (σ : St) (H : Hp) (x y : V) (v u : Value) (Q : VK), Inv X pins σ H s → RelV x v → RelV y u → r x y H Q →
    wpAny (model X.prog X.w) X.A (f v u) (EP X pins σ Q) X.xe s
/-- a one-place operation -/
def UnR (X : Cx) (f : Value → Sem Value) (r : V → Hp → VK → Prop) : Prop :=
  ∀ (pins : List (Addr × Obj)) (s : Shared) (σ : St) (H : Hp) (x : V) (v : Value) (Q : VK), Inv X pins σ H s → RelV x v → r x H Q →
    wpAny (model X.prog X.w) X.A (f v) (EP X pins σ Q) X.xe s
/-- a call of a value that is known (a builtin, a type) with values -/
def CallR (X : Cx) (f : Value) (r : List V → Hp → VK → Prop) : Prop :=
  ∀ (pins : List (Addr × Obj)) (s : Shared) (σ : St) (H : Hp) (xs : List V) (us : List Value) (Q : VK), Inv X pins σ H s → Vals xs us → r xs H Q →
    wpAny (model X.prog X.w) X.A (call f us) (EP X pins σ Q) X.xe s
/-- a value's truth -/
def TruR (X : Cx) (r : V → Hp → (Bool → Hp → Prop) → Prop) : Prop :=
  ∀ (pins : List (Addr × Obj)) (s : Shared) (σ : St) (H : Hp) (x : V) (v : Value) (Q : Bool → Hp → Prop), Inv X pins σ H s → RelV x v → r x H Q →
    wpAny (model X.prog X.w) X.A (truthy v) (TP X pins σ Q) X.xe s

def tOp (r : R2) (ta tb : TE) : TE := fun σ H Q => ta σ H fun x H1 => tb σ H1 fun y H2 => r x y H2 Q
def tUn (r : V → Hp → VK → Prop) (ta : TE) : TE := fun σ H Q => ta σ H fun x H1 => r x H1 Q
/-- ints in, under C, and a value out -/
inductive rII (C : Int → Int → Prop) (g : Int → Int → V) (x : V) (y : V) (H : Hp) (Q : VK) : Prop
  | mk (i : _) (j : _) (h0_ : x = .int i) (h1_ : y = .int j) (h2_ : C i j ∧ Q (g i j) H) : rII C g x y H Q
def rI (C : Int → Int → Prop) (g : Int → Int → V) : R2 := fun x y H Q => rII C g x y H Q
inductive rI0I (g : Int → Int → V) (x : V) (y : V) (H : Hp) (Q : VK) : Prop
  | mk (i : _) (j : _) (h0_ : x = .int i) (h1_ : y = .int j) (h2_ : Q (g i j) H) : rI0I g x y H Q
def rI0 (g : Int → Int → V) : R2 := fun x y H Q => rI0I g x y H Q
def rU (g : Int → V) : V → Hp → VK → Prop := fun x H Q => ∃ i, x = .int i ∧ Q (g i) H

section
variable {X : Cx} {a b c : Expr} {ta tb tc : TE} {pos : Pos}

theorem binT (ha : PE X a ta) (hb : PE X b tb) {pins : List (Addr × Obj)} {s : Shared} {σ : St} {H : Hp} {R : V → V → Hp → Prop} (I : Inv X pins σ H s)
    (h : ta σ H fun x H1 => tb σ H1 fun y H2 => R x y H2) {Q : Value → Shared → Prop} {f : Value → Value → Sem Value}
    (hf : ∀ v u s2 x y H2, Inv X pins σ H2 s2 → RelV x v → RelV y u → R x y H2 → wpAny (model X.prog X.w) X.A (f v u) Q X.xe s2) :
    wpAny (model X.prog X.w) X.A (eval a X.env) (fun v s₁ => wpAny (model X.prog X.w) X.A (eval b X.env) (fun u s₂ => wpAny (model X.prog X.w) X.A (f v u) Q X.xe s₂) X.xe s₁) X.xe s := by
  refine thn (ha pins s σ H _ I h) fun v s1 ⟨x, H1, I1, r1, q1⟩ => ?_
  refine thn (hb pins s1 σ H1 _ I1 q1) fun u s2 ⟨y, H2, I2, r2, q2⟩ => ?_
  exact hf v u s2 x y H2 I2 r1 r2 q2

theorem pe_op {op : Operator} {r : R2} (ho : OpR X (binaryOp op) r) (ha : PE X a ta) (hb : PE X b tb) : PE X (.BinOp a op b pos) (tOp r ta tb) := by
  intro pins s σ H Q I h
  exact wpAny_BinOp (binT ha hb I h fun v u s2 x y H2 I2 rx ry q => ho pins s2 σ H2 x y v u Q I2 rx ry q)
theorem pe_un {op : UnaryOp} {r : V → Hp → VK → Prop} (ho : UnR X (unaryOp op) r) (ha : PE X a ta) : PE X (.UnaryOp op a pos) (tUn r ta) := by
  intro pins s σ H Q I h
  exact UnaryOp_ (thn (ha pins s σ H _ I h) fun v s1 ⟨x, H1, I1, r1, q1⟩ => ho pins s1 σ H1 x v Q I1 r1 q1)
/-! ### ints -/
theorem opI {f : Value → Value → Sem Value} {C : Int → Int → Prop} {g : Int → Int → Int}
    (rule : ∀ (i j : Int) (t u : Tok) (s : Shared) (Q : Value → Shared → Prop) (E : Value → Shared → Prop), C i j → Q (.int (g i j) s.toks) { s with toks := s.toks + 1 } → wpAny (model X.prog X.w) X.A (f (.int i t) (.int j u)) Q E s) :
    OpR X f (rI C fun i j => .int (g i j)) := by
  intro pins s σ H x y v u Q I rx ry h
  obtain ⟨i, j, rfl, rfl, hc, q⟩ := h
  obtain ⟨t, rfl⟩ := rx
  obtain ⟨t', rfl⟩ := ry
  exact rule i j t t' s _ _ hc ⟨.int (g i j), H, I.tok _, ⟨_, rfl⟩, q⟩
theorem opI0 {f : Value → Value → Sem Value} {g : Int → Int → Int}
    (rule : ∀ (i j : Int) (t u : Tok) (s : Shared) (Q : Value → Shared → Prop) (E : Value → Shared → Prop), Q (.int (g i j) s.toks) { s with toks := s.toks + 1 } → wpAny (model X.prog X.w) X.A (f (.int i t) (.int j u)) Q E s) :
    OpR X f (rI0 fun i j => .int (g i j)) := by
  intro pins s σ H x y v u Q I rx ry h
  obtain ⟨i, j, rfl, rfl, q⟩ := h
  obtain ⟨t, rfl⟩ := rx
  obtain ⟨t', rfl⟩ := ry
  exact rule i j t t' s _ _ ⟨.int (g i j), H, I.tok _, ⟨_, rfl⟩, q⟩
theorem opB0 {f : Value → Value → Sem Value} {g : Int → Int → Bool}
    (rule : ∀ (i j : Int) (t u : Tok) (s : Shared) (Q : Value → Shared → Prop) (E : Value → Shared → Prop), Q (.bool (g i j)) s → wpAny (model X.prog X.w) X.A (f (.int i t) (.int j u)) Q E s) :
    OpR X f (rI0 fun i j => .bl (g i j)) := by
  intro pins s σ H x y v u Q I rx ry h
  obtain ⟨i, j, rfl, rfl, q⟩ := h
  obtain ⟨t, rfl⟩ := rx
  obtain ⟨t', rfl⟩ := ry
  exact rule i j t t' s _ _ ⟨.bl (g i j), H, I, rfl, q⟩

def CDiv (i j : Int) : Prop := 0 < j ∧ j < 1073741824
def CDivN (i j : Int) : Prop := j ≠ 0 ∧ j.natAbs < 1073741824
def CPow (i j : Int) : Prop := 0 ≤ j ∧ j ≤ 1000000 ∧ i.natAbs < 2 ^ 64
def CMul (i j : Int) : Prop := (-(2 ^ 64) < i ∧ i < 2 ^ 64) ∨ (-(2 ^ 64) < j ∧ j < 2 ^ 64)
theorem CMul.ok {i j : Int} (h : CMul i j) : IntMulOk i j := by
  rcases h with ⟨h1, h2⟩ | ⟨h1, h2⟩
  · exact .of_left (intBits_le_64 h1 h2)
  · exact .of_right (intBits_le_64 h1 h2)
theorem op_add : OpR X (binaryOp .Add) (rI0 fun i j => .int (i + j)) := opI0 fun _ _ _ _ _ _ _ q => add_int q
theorem op_sub : OpR X (binaryOp .Sub) (rI0 fun i j => .int (i - j)) := opI0 fun _ _ _ _ _ _ _ q => sub_int q
theorem op_mul : OpR X (binaryOp .Mult) (rI CMul fun i j => .int (i * j)) := opI fun _ _ _ _ _ _ _ hc q => mul_int q hc.ok
/-- // by a positive divisor -/
theorem op_fdiv : OpR X (binaryOp .FloorDiv) (rI CDiv fun i j => .int (i / j)) := opI fun i j _ _ _ _ _ hc q => by
  have h1 : (0 : Int) < j := hc.1
  have h2 : j < 1073741824 := hc.2
  exact floordiv_int (by omega) (by rw [Int.fdiv_eq_ediv_of_nonneg i (by omega)]; exact q) (.inl (PyProof.noPylong_small (by omega)))
/-- % by a positive divisor of any size -/
theorem op_mod : OpR X (binaryOp .Mod) (rI (fun _ j => 0 < j) fun i j => .int (i % j)) := opI fun i j _ _ _ _ _ hc q => by
  have h1 : (0 : Int) < j := hc
  exact mod_int' (by omega) (by rw [Int.fmod_eq_emod_of_nonneg i (by omega)]; exact q)
theorem op_pow : OpR X (binaryOp .Pow) (rI CPow fun i j => .int (i ^ j.toNat)) := opI fun _ _ _ _ _ _ _ hc q => pow_int_small hc.1 hc.2.1 hc.2.2 q
theorem unI {f : Value → Sem Value} {g : Int → Int}
    (rule : ∀ (i : Int) (t : Tok) (s : Shared) (Q : Value → Shared → Prop) (E : Value → Shared → Prop), Q (.int (g i) s.toks) { s with toks := s.toks + 1 } → wpAny (model X.prog X.w) X.A (f (.int i t)) Q E s) :
    UnR X f (rU fun i => .int (g i)) := by
  intro pins s σ H x v Q I rx h
  obtain ⟨i, rfl, q⟩ := h
  obtain ⟨t, rfl⟩ := rx
  exact rule i t s _ _ ⟨.int (g i), H, I.tok _, ⟨_, rfl⟩, q⟩
theorem un_neg : UnR X (unaryOp .USub) (rU fun i => .int (-i)) := unI fun _ _ _ _ _ q => neg_int q
/-! ### bools among ints: n += (a < b) -/
end

/-! ### comparisons -/
/-- the scalars that == tells apart as data does -/
def scal : V → V → Bool
  | .non, .non => true | .non, .int _ => true | .int _, .non => true | .non, .bl _ => true | .bl _, .non => true | .non, .str _ => true | .str _, .non => true
  | .int _, .int _ => true | .bl _, .bl _ => true | .str _, .str _ => true | .byt _, .byt _ => true
  | .int _, .str _ => true | .str _, .int _ => true | .bl _, .str _ => true | .str _, .bl _ => true
  | _, _ => false
def rEq : R2 := fun x y H Q => scal x y = true ∧ Q (.bl (decide (x = y))) H
def rNe : R2 := fun x y H Q => scal x y = true ∧ Q (.bl (!decide (x = y))) H

theorem dec_int {i j : Int} : decide (V.int i = V.int j) = (i == j) := by
  rw [Bool.eq_iff_iff]
  simp
theorem dec_bl {i j : Bool} : decide (V.bl i = V.bl j) = (i == j) := by
  rw [Bool.eq_iff_iff]
  simp
theorem dec_str {i j : Str} : decide (V.str i = V.str j) = (i == j) := by
  rw [Bool.eq_iff_iff]
  simp
theorem dec_byt {i j : Array UInt8} : decide (V.byt i = V.byt j) = (i.toList == j.toList) := by
  rw [Bool.eq_iff_iff]
  cases i
  cases j
  simp

section
variable {X : Cx} {a b c : Expr} {ta tb tc : TE} {pos : Pos}
theorem fin_bl {pins : List (Addr × Obj)} {σ : St} {H : Hp} {s : Shared} {Q : VK} {k k' : Bool} (I : Inv X pins σ H s) (q : Q (.bl k) H) (e : k = k') : EP X pins σ Q (.bool k') s := by
  subst e
  exact ⟨.bl k, H, I, rfl, q⟩
theorem op_eq : OpR X (compareOp .Eq) rEq := by
  intro pins s σ H x y v u Q I rx ry h
  obtain ⟨hs, q⟩ := h
  cases x with
  | non =>
    cases rx
    cases y with
    | non => cases ry; exact PySem.EqNone.eq_none_none (fin_bl I q (by simp))
    | bl j => cases ry; exact PySem.EqNone.eq_none_bool (fin_bl I q (by simp))
    | int j => obtain ⟨t', rfl⟩ := ry; exact PySem.EqNone.eq_none_int (fin_bl I q (by simp))
    | str j => obtain ⟨t', rfl⟩ := ry; exact PySem.EqNone.eq_none_str (fin_bl I q (by simp))
    | _ => exact absurd (show false = true from hs) Bool.false_ne_true
  | bl i =>
    cases rx
    cases y with
    | non => cases ry; exact PySem.EqNone.eq_bool_none (fin_bl I q (by simp))
    | bl j => cases ry; exact eq_bool (fin_bl I q dec_bl)
    | str j => obtain ⟨t', rfl⟩ := ry; exact PySem.EqMixed.eq_bool_str (fin_bl I q (by simp))
    | _ => exact absurd (show false = true from hs) Bool.false_ne_true
  | int i =>
    obtain ⟨t, rfl⟩ := rx
    cases y with
    | non => cases ry; exact PySem.EqNone.eq_int_none (fin_bl I q (by simp))
    | int j => obtain ⟨t', rfl⟩ := ry; exact eq_int (fin_bl I q dec_int)
    | str j => obtain ⟨t', rfl⟩ := ry; exact PySem.EqMixed.eq_int_str (fin_bl I q (by simp))
    | _ => exact absurd (show false = true from hs) Bool.false_ne_true
  | str i =>
    obtain ⟨t, rfl⟩ := rx
    cases y with
    | non => cases ry; exact PySem.EqNone.eq_str_none (fin_bl I q (by simp))
    | bl j => cases ry; exact PySem.EqMixed.eq_str_bool (fin_bl I q (by simp))
    | int j => obtain ⟨t', rfl⟩ := ry; exact PySem.EqMixed.eq_str_int (fin_bl I q (by simp))
    | str j => obtain ⟨t', rfl⟩ := ry; exact eq_str (fin_bl I q dec_str)
    | _ => exact absurd (show false = true from hs) Bool.false_ne_true
  | byt i =>
    obtain ⟨t, rfl⟩ := rx
    cases y with
    | byt j => obtain ⟨t', rfl⟩ := ry; exact PySem.W.eq_bytes (fin_bl I q dec_byt)
    | _ => exact absurd (show false = true from hs) Bool.false_ne_true
  | _ => cases y <;> exact absurd (show false = true from hs) Bool.false_ne_true
theorem op_ne : OpR X (compareOp .NotEq) rNe := by
  intro pins s σ H x y v u Q I rx ry h
  obtain ⟨hs, q⟩ := h
  cases x with
  | non =>
    cases rx
    cases y with
    | non => cases ry; exact PySem.EqNone.ne_none_none (fin_bl I q (by simp))
    | bl j => cases ry; exact PySem.EqNone.ne_none_bool (fin_bl I q (by simp))
    | int j => obtain ⟨t', rfl⟩ := ry; exact PySem.EqNone.ne_none_int (fin_bl I q (by simp))
    | str j => obtain ⟨t', rfl⟩ := ry; exact PySem.EqNone.ne_none_str (fin_bl I q (by simp))
    | _ => exact absurd (show false = true from hs) Bool.false_ne_true
  | bl i =>
    cases rx
    cases y with
    | non => cases ry; exact PySem.EqNone.ne_bool_none (fin_bl I q (by simp))
    | bl j => cases ry; exact ne_bool (fin_bl I q (congrArg not dec_bl))
    | str j => obtain ⟨t', rfl⟩ := ry; exact PySem.EqMixed.ne_bool_str (fin_bl I q (by simp))
    | _ => exact absurd (show false = true from hs) Bool.false_ne_true
  | int i =>
    obtain ⟨t, rfl⟩ := rx
    cases y with
    | non => cases ry; exact PySem.EqNone.ne_int_none (fin_bl I q (by simp))
    | int j => obtain ⟨t', rfl⟩ := ry; exact ne_int (fin_bl I q (congrArg not dec_int))
    | str j => obtain ⟨t', rfl⟩ := ry; exact PySem.EqMixed.ne_int_str (fin_bl I q (by simp))
    | _ => exact absurd (show false = true from hs) Bool.false_ne_true
  | str i =>
    obtain ⟨t, rfl⟩ := rx
    cases y with
    | non => cases ry; exact PySem.EqNone.ne_str_none (fin_bl I q (by simp))
    | bl j => cases ry; exact PySem.EqMixed.ne_str_bool (fin_bl I q (by simp))
    | int j => obtain ⟨t', rfl⟩ := ry; exact PySem.EqMixed.ne_str_int (fin_bl I q (by simp))
    | str j => obtain ⟨t', rfl⟩ := ry; exact ne_str (fin_bl I q (congrArg not dec_str))
    | _ => exact absurd (show false = true from hs) Bool.false_ne_true
  | byt i =>
    obtain ⟨t, rfl⟩ := rx
    cases y with
    | byt j => obtain ⟨t', rfl⟩ := ry; exact PySem.W.ne_bytes (fin_bl I q (congrArg not dec_byt))
    | _ => exact absurd (show false = true from hs) Bool.false_ne_true
  | _ => cases y <;> exact absurd (show false = true from hs) Bool.false_ne_true

theorem op_lt : OpR X (compareOp .Lt) (rI0 fun i j => .bl (decide (i < j))) := opB0 fun _ _ _ _ _ _ _ q => lt_int q
theorem op_le : OpR X (compareOp .LtE) (rI0 fun i j => .bl (decide (i ≤ j))) := opB0 fun _ _ _ _ _ _ _ q => le_int q
theorem op_gt : OpR X (compareOp .Gt) (rI0 fun i j => .bl (decide (j < i))) := opB0 fun _ _ _ _ _ _ _ q => gt_int q
theorem op_ge : OpR X (compareOp .GtE) (rI0 fun i j => .bl (decide (j ≤ i))) := opB0 fun _ _ _ _ _ _ _ q => ge_int q
/-- the one string within the other -/
theorem op_in_str : OpR X (compareOp .In) (fun x y H Q => ∃ i j, x = .str i ∧ y = .str j ∧ Q (.bl (!(Builtin.Str.occurrences j i 0 j.length 1).isEmpty)) H) := by
  intro pins s σ H x y v u Q I rx ry h
  obtain ⟨i, j, rfl, rfl, q⟩ := h
  obtain ⟨t, rfl⟩ := rx
  obtain ⟨t', rfl⟩ := ry
  exact in_str (fin_bl I q rfl)

/-- is None, is not None: the right side a value none -/
theorem op_isN : OpR X (compareOp .Is) (fun x y H Q => y = .non ∧ Q (.bl (decide (x = .non))) H) := by
  intro pins s σ H x y v u Q I rx ry h
  obtain ⟨rfl, q⟩ := h
  cases ry
  refine is_none_gen (fin_bl I q ?_)
  cases x <;> first
    | (cases rx; rfl)
    | (obtain ⟨t, rfl⟩ := rx; rfl)
/-- is, is not of two objects that are tracked lists or instances -/
def isObj : HO → Bool
  | .lst _ => true
  | .ins _ _ _ => true
  | _ => false
/-- two rules for one operation: by cases -/
theorem OpR.or {f : Value → Value → Sem Value} {r r' : R2} (h : OpR X f r) (h' : OpR X f r') : OpR X f (fun x y H Q => r x y H Q ∨ r' x y H Q) := by
  intro pins s σ H x y v u Q I rx ry q
  rcases q with q | q
  · exact h pins s σ H x y v u Q I rx ry q
  · exact h' pins s σ H x y v u Q I rx ry q

theorem nomark (b : Expr) {op : CmpOp} (h : op ≠ .In := by decide) (h2 : op ≠ .NotIn := by decide) : behindInMarks op b = false := by
  have e1 : (op == CmpOp.In) = false := by cases op <;> first | rfl | exact absurd rfl h
  have e2 : (op == CmpOp.NotIn) = false := by cases op <;> first | rfl | exact absurd rfl h2
  cases b <;> simp [behindInMarks, e1, e2]
/-- a comparison as a value; hm: nomark b, or (for in, not in) by with_unfolding_all rfl -/
theorem pe_cmpR {op : CmpOp} {r : R2} (ho : OpR X (compareOp op) r) (ha : PE X a ta) (hb : PE X b tb) (hm : behindInMarks op b = false) : PE X (.Compare a [op] [b] pos) (tOp r ta tb) := by
  intro pins s σ H Q I h
  exact wpAny_Compare1 (binT ha hb I h fun v u s2 x y H2 I2 rx ry q => ho pins s2 σ H2 x y v u Q I2 rx ry q) hm
/-- a reading of a value as a test -/
inductive tTestI (Q : (Bool → Hp → Prop)) (x : V) (H' : Hp) : Prop
  | mk (k : _) (h0_ : x = .bl k) (h1_ : Q k H') : tTestI Q x H'
def tTest (t : TE) : TT := fun σ H Q => t σ H fun x H' => tTestI Q x H'
theorem pt_cmpR {op : CmpOp} {r : R2} (ho : OpR X (compareOp op) r) (ha : PE X a ta) (hb : PE X b tb) (hm : behindInMarks op b = false) : PT X (.Compare a [op] [b] pos) (tTest (tOp r ta tb)) := by
  intro pins s σ H Q I h
  refine wpAny_isTrue_Compare1 (thn (ha pins s σ H _ I h) fun v s1 ⟨x, H1, I1, r1, q1⟩ => thn (hb pins s1 σ H1 _ I1 q1) fun u s2 ⟨y, H2, I2, r2, q2⟩ =>
    thn (ho pins s2 σ H2 x y v u _ I2 r1 r2 q2) fun c s3 ⟨z, H3, I3, r3, k, e, q3⟩ => ?_) hm
  subst e
  cases r3
  exact wpAny_truthy_bool ⟨H3, I3, q3⟩
/-- a op1 b op2 c -/
def tChain (r r' : R2) (ta tb tc : TE) : TE := fun σ H Q => ta σ H fun x H1 => tb σ H1 fun y H2 => r x y H2 fun z H3 => ∃ k, z = .bl k ∧
  (if k = true then tc σ H3 fun w' H4 => r' y w' H4 Q else Q (.bl false) H3)
theorem pt_chain {op op' : CmpOp} {r r' : R2} (ho : OpR X (compareOp op) r) (ho' : OpR X (compareOp op') r') (ha : PE X a ta) (hb : PE X b tb) (hc : PE X c tc)
    (hm : lastMarks [op, op'] [b, c] = false := by with_unfolding_all rfl) : PT X (.Compare a [op, op'] [b, c] pos) (tTest (tChain r r' ta tb tc)) := by
  intro pins s σ H Q I h
  refine isTrue_chain (thn (ha pins s σ H _ I h) fun v s1 ⟨x, H1, I1, r1, q1⟩ => test_link (thn (hb pins s1 σ H1 _ I1 q1) fun u s2 ⟨y, H2, I2, r2, q2⟩ =>
    thn (ho pins s2 σ H2 x y v u _ I2 r1 r2 q2) fun d s3 ⟨z, H3, I3, r3, k, e, q3⟩ => ?_)) hm
  subst e
  cases r3
  refine wpAny_truthy_bool ?_
  cases k with
  | false =>
    obtain ⟨k', e', q'⟩ := q3
    cases e'
    exact ite_ff ⟨H3, I3, q'⟩
  | true =>
    refine ite_tt (test_last (thn (hc pins s3 σ H3 _ I3 q3) fun w' s4 ⟨z', H4, I4, r4, q4⟩ => thn (ho' pins s4 σ H4 y z' u w' _ I4 r2 r4 q4) fun d' s5 ⟨z2, H5, I5, r5, k2, e2, q5⟩ => ?_))
    subst e2
    cases r5
    exact wpAny_truthy_bool ⟨H5, I5, q5⟩

/-! ### truth -/
/-- a value's truth by the abstract heap -/
def TruV (K : PySem.W.Frag) (x : V) (H : Hp) (k : Bool) : Prop :=
  match x with
  | .non => k = false
  | .bl b => k = b
  | .int i => k = (i != 0)
  | .str y => y.length ≤ sizeLine ∧ k = ((y.length : Int) != 0)
  | .byt y => y.size ≤ sizeLine ∧ k = ((y.size : Int) != 0)
  | .ref p => (∃ xs, SqL K H p xs ∧ k = !xs.isEmpty) ∨ (∃ xs, SqT K H p xs ∧ k = !xs.isEmpty) ∨ ∃ kvs, H p = some (.dK kvs) ∧ k = !kvs.isEmpty
  | _ => False
theorem line63 : (sizeLine : Nat) < 2 ^ 63 := by rw [sizeLine_eq]; decide
/-! ### strs and bytes -/
theorem op_add_str : OpR X (binaryOp .Add) (fun x y H Q => ∃ i j, x = .str i ∧ y = .str j ∧ i.length + j.length ≤ sizeLine ∧ Q (.str (i ++ j)) H) := by
  intro pins s σ H x y v u Q I rx ry h
  obtain ⟨i, j, rfl, rfl, hz, q⟩ := h
  obtain ⟨t, rfl⟩ := rx
  obtain ⟨t', rfl⟩ := ry
  exact add_str (fun t' tk => ⟨.str (i ++ j), H, I.tok _, ⟨_, rfl⟩, q⟩) hz
def PlainIxT (b : Expr) : Prop := ∀ o i, subscripted b false o i = operate [o, i] (getItem o i)
/-! ### scalar builtins, by CallR -/
theorem vals1 {x : V} {us : List Value} (r : Vals [x] us) : ∃ u, us = [u] ∧ RelV x u := by
  cases r with
  | cons r1 r2 => cases r2; exact ⟨_, rfl, r1⟩
theorem vals2 {x y : V} {us : List Value} (r : Vals [x, y] us) : ∃ u w', us = [u, w'] ∧ RelV x u ∧ RelV y w' := by
  cases r with
  | cons r1 r2 =>
    cases r2 with
    | cons r3 r4 => cases r4; exact ⟨_, _, rfl, r1, r3⟩
theorem call_min2 (hc : X.calm = true) : CallR X (.builtin "min") (fun xs H Q => ∃ i j, xs = [.int i, .int j] ∧ Q (.int (if j < i then j else i)) H) := by
  intro pins s σ H xs us Q I r h
  obtain ⟨i, j, rfl, q⟩ := h
  obtain ⟨u, w', rfl, ⟨t, rfl⟩, ⟨t', rfl⟩⟩ := vals2 r
  refine min_two_ints (I.ok.hd hc) fun h' tk k => ⟨_, H, I.kept k, ?_, q⟩
  by_cases hj : j < i
  · rw [if_pos hj, if_pos hj]; exact ⟨_, rfl⟩
  · rw [if_neg hj, if_neg hj]; exact ⟨_, rfl⟩
theorem call_int1 : CallR X (.type "int") (fun xs H Q => (∃ i, xs = [.int i] ∧ Q (.int i) H) ∨ ∃ k, xs = [.bl k] ∧ Q (.int (if k then 1 else 0)) H) := by
  intro pins s σ H xs us Q I r h
  rcases h with ⟨i, rfl, q⟩ | ⟨k, rfl, q⟩
  · obtain ⟨u, rfl, t, rfl⟩ := vals1 r
    exact call_int_int ⟨.int i, H, I, ⟨_, rfl⟩, q⟩
  · obtain ⟨u, rfl, r1⟩ := vals1 r
    cases r1
    exact call_int_bool ⟨.int (if k then 1 else 0), H, I.tok _, ⟨_, rfl⟩, q⟩
theorem call_str_int : CallR X (.type "str") (fun xs H Q => ∃ i, xs = [.int i] ∧ i.natAbs.log2 < 1920 ∧ Q (.str (toString i)) H) := by
  intro pins s σ H xs us Q I r h
  obtain ⟨i, rfl, hz, q⟩ := h
  obtain ⟨u, rfl, t, rfl⟩ := vals1 r
  exact PySem.P.str_of_int hz ⟨.str _, H, I.tok _, ⟨_, rfl⟩, q⟩
/-- len of a str, a bytes, a list, a tuple -/
def LenV (K : PySem.W.Frag) (x : V) (H : Hp) (n : Nat) : Prop :=
  match x with
  | .str y => y.length ≤ sizeLine ∧ n = y.length
  | .byt y => y.size ≤ sizeLine ∧ n = y.size
  | .ref p => (∃ xs, SqL K H p xs ∧ n = xs.length) ∨ ∃ xs, SqT K H p xs ∧ n = xs.length
  | _ => False
end
end L2

namespace L2
open PySem PySem.Spec PyProof.Rows

/-! ### an instance, its attributes a map -/
structure ObjM (h : Heap) (x dx C : Addr) (mA : Str → Option Value) : Prop where
  obj : h.get? x = some (PySem.W.instObj C dx)
  ns : h.Ns1 dx mA
  ne : dx ≠ x

theorem lookIn_ns {h : Heap} {dx : Addr} {mA : Str → Option Value} (n : h.Ns1 dx mA) : ∃ od, h.get? dx = some od ∧ ∀ name, PySem.W.lookIn name od = some (mA name) := by
  obtain ⟨o, es, ep, ho, hd, hk, _, hm⟩ := n
  refine ⟨o, ho, fun name => ?_⟩
  have e := hm name
  unfold nsFind findBy at e
  rw [← Array.find?_toList] at e
  unfold PySem.W.lookIn
  rw [hd]
  dsimp only
  split
  · rename_i y q
    rw [q] at e
    exact congrArg some e
  · rename_i q
    rw [q] at e
    have a : es.toList.any (·.refKey) = false := by
      rw [List.any_eq_false]
      intro y hy
      obtain ⟨z, t, hkey⟩ := hk y (Array.mem_toList_iff.mp hy)
      simp [DictEntry.refKey, hkey]
    have a' : ¬ es.toList.any (·.refKey) = true := by rw [a]; exact Bool.false_ne_true
    rw [if_neg a']
    exact congrArg some e

theorem ObjM.look {h : Heap} {x dx C : Addr} {mA : Str → Option Value} (I : ObjM h x dx C mA) : ∃ od, PySem.W.InstAt h x (PySem.W.instObj C dx) C (some od) ∧ ∀ name, PySem.W.lookIn name od = some (mA name) :=
  let ⟨od, ho, hl⟩ := lookIn_ns I.ns
  ⟨od, ⟨I.obj, rfl, rfl, ho⟩, hl⟩

section
variable {prog : Program} {w : World} {A : Around} {E : Value → Shared → Prop} {s : Shared} {K : PySem.W.Frag} {x dx C f : Addr} {mA : Str → Option Value} {name : Str} {v : Value}

end

/-! ### the attributes as a list of pairs -/
def putF (f : Str) (v : V) : List (Str × V) → List (Str × V)
  | [] => [(f, v)]
  | (g, x) :: r => if g = f then (g, v) :: r else (g, x) :: putF f v r
section
variable {P : Program} {w : World} {H H' : Hp} {h h' : Heap} {a C dx : Addr} {fs fs' : List (Str × V)}
theorem ins_get (hok : HOk P w H h) (e : H a = some (.ins C dx fs)) : ∃ mA, ObjM h a dx C mA ∧ (∀ f, RelO (fs.lookup f) (mA f)) ∧ PySem.Within mA (fs.map (·.1)) ∧ fs.length ≤ 1000 ∧ H dx = some (.own a) := by
  obtain ⟨d, z, ne, ob, mA, n, r, q⟩ := (show ObjOk P w H h a (.ins C dx fs) from hok a _ e)
  exact ⟨mA, ⟨ob, n, ne⟩, r, q, z, d⟩
end

/-! ### what of the text a class must have -/
structure Cls (K : PySem.W.Frag) (C : Addr) : Prop where
  pg : PySem.W.plainGet K C Str.empty = true
  hd : PySem.W.hasDictIn K C = true
  po : PySem.W.plainOver K C = true
  sa : PySem.W.findIn K (.ref C) "__setattr__" = some (some (.builtin "object.__setattr__"))
theorem Cls.get {K : PySem.W.Frag} {C : Addr} (c : Cls K C) (f : Str) : PySem.W.plainGet K C f = true := c.pg
/-- no class of it has the name -/
def NoAttr (K : PySem.W.Frag) (C : Addr) (f : Str) : Prop := PySem.W.findIn K (.ref C) f = some none
/-- a constant of the class -/
structure Con (K : PySem.W.Frag) (C : Addr) (f : Str) (v : V) (u : Value) : Prop where
  at_ : PySem.W.findIn K (.ref C) f = some (some u)
  rel : RelV v u
  get : PySem.W.specialIn K u "__get__" = some none
  cp : PySem.W.copiedNames.contains f = false
/-- a method: a plain def of the class or of one above it -/
structure Meth (K : PySem.W.Frag) (C : Addr) (m : Str) (f : Addr) : Prop where
  at_ : PySem.W.findIn K (.ref C) m = some (some (.ref f))
  fn : PySem.W.isFn K (.ref f) = true
  kp : PySem.W.keepIn K (.ref f) = true

section
variable {X : Cx} {pins : List (Addr × Obj)} {σ : St} {H : Hp} {s : Shared} {a C dx : Addr} {fs : List (Str × V)} {f : Str} {v : V} {A : Around} {E : Value → Shared → Prop}

/-- e.f where nothing but the object is asked: through attributeBase (super) and the last hold -/
theorem attr_of {prog : Program} {w : World} {env : Env} {e : Expr} {f : Str} {pos : Pos} {s : Shared} {Q : Value → Shared → Prop} (hb : attributeBase e f env (eval e env) = eval e env)
    (h : wpAny (model prog w) A (eval e env) (fun o s₁ => wpAny (model prog w) A (getAttr o f true) Q E s₁) E s) : wpAny (model prog w) A (eval (.Attribute e f pos) env) Q E s :=
  Attribute_any_ h (by rw [arm_eval_Attribute, hb])
end

/-! ### readings and rules -/
/-- e.f, an attribute of the instance -/
inductive tFldI (K : PySem.W.Frag) (f : Str) (Q : VK) (x : V) (H1 : Hp) : Prop
  | mk (a : _) (C : _) (dx : _) (fs : _) (v : _) (h0_ : x = .ref a) (h1_ : H1 a = some (.ins C dx fs)) (h2_ : Cls K C) (h3_ : NoAttr K C f) (h4_ : fs.lookup f = some v) (h5_ : Q v H1) : tFldI K f Q x H1
def tFld (K : PySem.W.Frag) (ta : TE) (f : Str) : TE := fun σ H Q => ta σ H fun x H1 => tFldI K f Q x H1
/-- e.f, a constant of the class -/
def tCon (K : PySem.W.Frag) (ta : TE) (f : Str) : TE := fun σ H Q => ta σ H fun x H1 => ∃ a C dx fs v u, x = .ref a ∧ H1 a = some (.ins C dx fs) ∧ Cls K C ∧ Con K C f v u ∧ fs.lookup f = none ∧ Q v H1
/-- e.f = value -/
inductive sFldI (K : PySem.W.Frag) (f : Str) (D : Ends) (σ : St) (y : V) (x : V) (H2 : Hp) : Prop
  | mk (a : _) (C : _) (dx : _) (fs : _) (h0_ : x = .ref a) (h1_ : H2 a = some (.ins C dx fs)) (h2_ : Cls K C) (h3_ : NoAttr K C f) (h4_ : fs.length < 1000) (h5_ : D.nx σ (upd H2 a (.ins C dx (putF f y fs)))) : sFldI K f D σ y x H2
def sFld (K : PySem.W.Frag) (ta tv : TE) (f : Str) : TS := fun D σ H => tv σ H fun y H1 => ta σ H1 fun x H2 => sFldI K f D σ y x H2
/-- an augmented operator on two values -/
def InOp (X : Cx) (op : Operator) (rd : V → V → Hp → VK → Prop) : Prop :=
  ∀ (pins : List (Addr × Obj)) (s : Shared) (σ : St) (H : Hp) (x y : V) (u v : Value) (Q : VK), Inv X pins σ H s → RelV x u → RelV y v → rd x y H Q → wpAny (model X.prog X.w) X.A (inplaceOp op u v) (EP X pins σ Q) X.xe s
/-- e.f op= value -/
def sFldAug (K : PySem.W.Frag) (ta tv : TE) (rd : V → V → Hp → VK → Prop) (f : Str) : TS := fun D σ H => ta σ H fun x H1 => ∃ a C dx fs v, x = .ref a ∧ H1 a = some (.ins C dx fs) ∧ Cls K C ∧ NoAttr K C f ∧ fs.lookup f = some v ∧
  tv σ H1 fun y H2 => rd v y H2 fun z H3 => ∃ dx' fs', H3 a = some (.ins C dx' fs') ∧ fs'.length < 1000 ∧ D.nx σ (upd H3 a (.ins C dx' (putF f z fs')))

section
variable {X : Cx} {o e value : Expr} {f : Str} {pos pos' tpos : Pos} {ta tv : TE}
def rAdd : V → V → Hp → VK → Prop := fun x y H Q => ∃ i j, x = .int i ∧ y = .int j ∧ Q (.int (i + j)) H
def rSub : V → V → Hp → VK → Prop := fun x y H Q => ∃ i j, x = .int i ∧ y = .int j ∧ Q (.int (i - j)) H
end

/-! ### isinstance -/
section
variable {X : Cx} {pins : List (Addr × Obj)} {σ : St} {H : Hp} {s : Shared} {A : Around} {E : Value → Shared → Prop} {Q : Value → Shared → Prop} {c : Value} {b : Bool}
/-- the type of a value, as the fragment's deciders take it; for an instance its class -/
inductive TyOf (K : PySem.W.Frag) (H : Hp) : V → Value → Prop where
  | non : TyOf K H .non (.type "NoneType")
  | bl (x : Bool) : TyOf K H (.bl x) (.type "bool")
  | int (i : Int) : TyOf K H (.int i) (.type "int")
  | str (x : Str) : TyOf K H (.str x) (.type "str")
  | flt (x : UInt64) : TyOf K H (.flt x) (.type "float")
  | lst {a : Addr} {xs : List V} (e : H a = some (.lst xs)) : TyOf K H (.ref a) (.type "list")
  | frz {a : Addr} {o : Obj} {xs : List V} (e : H a = some (.frz o (.lst xs))) : TyOf K H (.ref a) (.type "list")
  | tup {a : Addr} {xs : List V} (e : H a = some (.tup xs)) : TyOf K H (.ref a) (.type "tuple")
  | dK {a : Addr} {kvs : List (Key × V)} (e : H a = some (.dK kvs)) : TyOf K H (.ref a) (.type "dict")
  | dT {a : Addr} {kvs : List (List Key × V)} (e : H a = some (.dT kvs)) : TyOf K H (.ref a) (.type "dict")
  | ins {a C dx : Addr} {fs : List (Str × V)} (e : H a = some (.ins C dx fs)) (cl : Cls K C) (ha : PySem.W.findIn K (.ref C) "__class__" = some (some (.builtin "object.__class__")))
      (hn : PySem.W.specialIn K (.builtin "object.__class__") "__get__" = some (some (.builtin "getset_descriptor.__get__"))) (htk : PySem.W.takesIn K (.builtin "object.__class__") = some true)
      (hm : PySem.W.mroIn K C (.type "object") = some true) : TyOf K H (.ref a) (.ref C)
/-- isinstance(x, c) for one class c, a built-in or an own one: kitOne's answer -/
theorem isinst_ok {x : V} {u t : Value} (I : Inv X pins σ H s) (rx : RelV x u) (ty : TyOf X.K H x t) (e : PySem.W.kitOne X.K t c = some b) (h : ∀ tk, Q (.bool b) { s with toks := tk }) :
    wpAny (model X.prog X.w) A (call (.builtin "isinstance") [u, c]) Q E s := by
  cases ty with
  | non => cases (show u = Value.none from rx); exact PySem.W.kia_one PySem.W.kitx_none I.kIn True.intro e (fun z => nomatch z) h
  | bl y => cases (show u = Value.bool y from rx); exact PySem.W.kia_one PySem.W.kitx_bool I.kIn True.intro e (fun z => nomatch z) h
  | int i => obtain ⟨t, q⟩ := (show ∃ t, u = Value.int i t from rx); cases q; exact PySem.W.kia_one PySem.W.kitx_int I.kIn True.intro e (fun z => nomatch z) h
  | str y => obtain ⟨t, q⟩ := (show ∃ t, u = Value.str y t from rx); cases q; exact PySem.W.kia_one PySem.W.kitx_str I.kIn True.intro e (fun z => nomatch z) h
  | flt y => obtain ⟨t, q⟩ := (show ∃ t, u = Value.float y t from rx); cases q; exact PySem.W.kia_one PySem.W.kitx_float I.kIn True.intro e (fun z => nomatch z) h
  | @lst a xs ea =>
    cases (show u = Value.ref a from rx)
    obtain ⟨_, _, n, _, h1⟩ := (show ObjOk X.prog X.w H s.heap a (.lst xs) from I.hok a _ ea)
    exact PySem.W.kia_one PySem.W.kitx_list I.kIn ⟨_, h1, rfl⟩ e (fun z => nomatch z) h
  | @frz a ob xs ea =>
    cases (show u = Value.ref a from rx)
    obtain ⟨_, _, _, n, _, h1⟩ := (show ObjOk X.prog X.w H s.heap a (.frz ob (.lst xs)) from I.hok a _ ea)
    exact PySem.W.kia_one PySem.W.kitx_list I.kIn ⟨_, h1, rfl⟩ e (fun z => nomatch z) h
  | @tup a xs ea =>
    cases (show u = Value.ref a from rx)
    obtain ⟨_, _, _, p⟩ := (show ObjOk X.prog X.w H s.heap a (.tup xs) from I.hok a _ ea)
    obtain ⟨o, h1, h2, _⟩ := p
    exact PySem.W.kia_one PySem.W.kitx_tuple I.kIn ⟨o, h1, h2⟩ e (fun z => nomatch z) h
  | @dK a kvs ea =>
    cases (show u = Value.ref a from rx)
    obtain ⟨_, _, vs, _, p⟩ := (show ObjOk X.prog X.w H s.heap a (.dK kvs) from I.hok a _ ea)
    obtain ⟨o, es, ep, h1, h2, _⟩ := p
    exact PySem.W.kia_one PySem.W.kitx_dict I.kIn ⟨o, h1, h2.1⟩ e (fun z => nomatch z) h
  | @dT a kvs ea =>
    cases (show u = Value.ref a from rx)
    obtain ⟨_, _, xs, _, o, es, ep, h1, h2, _⟩ := (show ObjOk X.prog X.w H s.heap a (.dT kvs) from I.hok a _ ea)
    exact PySem.W.kia_one PySem.W.kitx_dict I.kIn ⟨o, h1, h2.1⟩ e (fun z => nomatch z) h
  | @ins a C dx fs ea cl ha hn htk hm =>
    cases (show u = Value.ref a from rx)
    obtain ⟨mA, O, _⟩ := ins_get I.hok ea
    obtain ⟨od, J, _⟩ := O.look
    exact PySem.W.kia_one (PySem.W.kitx_own (cl.get _) cl.hd ha hn htk hm) I.kIn J e (fun z => nomatch z) h
end
end L2

namespace L2
open PySem PySem.Spec PyProof.Rows

/-! ### room -/
structure Room (k : Nat) (A : Around) : Prop where
  hd : A.handled = none
  dp : A.depth + 3 * k + 5 < recursionLimit
  un : A.units + 16 * k + 200 < cLine
theorem Room.mono {j k : Nat} {A : Around} (r : Room k A) (h : j ≤ k) : Room j A := ⟨r.hd, by have := r.dp; omega, by have := r.un; omega⟩
theorem Room.deeper {k : Nat} {A : Around} (r : Room (k + 1) A) (env : Env) : Room k (A.deeper env) :=
  ⟨r.hd, by have := r.dp; show A.depth + 1 + 3 * k + 5 < _; omega, by have := r.un; show A.units + 3 + 16 * k + 200 < _; omega⟩
theorem make_depth {A : Around} {C : Addr} {us : List Value} {kw : List (Str × Value)} : (A.under (.builtin "type.__call__" ⟨.ref C :: us, kw⟩)).depth = A.depth + 1 := by
  first | rfl | simp [Around.under, Code.weight, Code.isCreation, Code.isGuard, Code.isCaller, Code.frames, Code.isFrame, guardIds]
theorem make_units {A : Around} {C : Addr} {us : List Value} {kw : List (Str × Value)} : (A.under (.builtin "type.__call__" ⟨.ref C :: us, kw⟩)).units = A.units + 1 := by
  first | rfl | simp [Around.under, Code.cUnits, Code.frames, Code.isFrame]
theorem Room.make {k : Nat} {A : Around} (r : Room (k + 1) A) (C : Addr) (us : List Value) (kw : List (Str × Value)) : Room k (A.under (.builtin "type.__call__" ⟨.ref C :: us, kw⟩)) :=
  ⟨r.hd, by have := r.dp; rw [make_depth]; omega, by have := r.un; rw [make_units]; omega⟩
theorem Room.depth {k : Nat} {A : Around} (r : Room k A) : A.depth < recursionLimit := by have := r.dp; omega
theorem Room.units {k : Nat} {A : Around} (r : Room k A) : A.units + 64 < cLine := by have := r.un; omega
/-! ### argument lists and displays -/
def tNil : TA := fun _ H Q => Q [] H
def tCons (ta : TE) (tr : TA) : TA := fun σ H Q => ta σ H fun x H1 => tr σ H1 fun xs H2 => Q (x :: xs) H2
section
variable {X : Cx} {e : Expr} {es : List Expr} {te : TE} {t : TA} {pos : Pos}
theorem pa_nil : PA X [] tNil := fun _ _ _ _ H Q I h => Calls.spliced_nil ⟨[], H, I, .nil, h⟩
theorem pa_cons (ha : PE X e te) (hr : PA X es t) (hs : starEach (e :: es) X.env = (false, eval e X.env) :: starEach es X.env := by rfl) : PA X (e :: es) (tCons te t) := by
  intro pos pins s σ H Q I h
  rw [hs]
  show wpAny _ _ (spliced ((false, eval e X.env) :: backTo pos (starEach es X.env))) _ _ s
  refine Calls.spliced_cons (thn (ha pins s σ H _ I h) fun u s1 ⟨x, H1, I1, r1, q1⟩ => ?_)
  exact thn (hr pos pins s1 σ H1 _ I1 q1) fun us s2 ⟨xs, H2, I2, r2, q2⟩ => ⟨x :: xs, H2, I2, .cons r1 r2, q2⟩

/-- a tuple, a list of written items -/
def tTup (t : TA) : TE := fun σ H Q => t σ H fun xs H1 => xs.length ≤ sizeLine ∧ ∀ p, H1 p = none → Q (.ref p) (upd H1 p (.tup xs))
def tLst (t : TA) : TE := fun σ H Q => t σ H fun xs H1 => xs.length ≤ sizeLine ∧ ∀ p, H1 p = none → Q (.ref p) (upd H1 p (.lst xs))
theorem pe_tup {x1} (h : PA X es t) : PE X (.Tuple es x1 pos) (tTup t) := by
  intro pins s σ H Q I hq
  refine wpAny_Tuple_spliced (thn (h pos pins s σ H _ I hq) fun us s1 ⟨xs, H1, I1, r, z, q⟩ => ⟨by rw [← r.length]; exact z, ?_⟩)
  have hf : H1 s1.heap.objs.size = none := I1.hok.fresh (Nat.le_refl _)
  refine ⟨.ref s1.heap.objs.size, upd H1 s1.heap.objs.size (.tup xs), I1.laid (t' := s1.toks) (fun b u e => Heap.get?_push_of_some _ e) (Nat.le_refl _) ?_, rfl, q _ hf⟩
  exact ⟨z, us, r, ⟨_, Heap.get?_push_size _ rfl, rfl, _, rfl⟩⟩
theorem pe_lst (h : PA X es t) : PE X (.List es pos) (tLst t) := by
  intro pins s σ H Q I hq
  refine wpAny_List_spliced (thn (h pos pins s σ H _ I hq) fun us s1 ⟨xs, H1, I1, r, z, q⟩ => ⟨by rw [← r.length]; exact z, ?_⟩)
  have hf : H1 s1.heap.objs.size = none := I1.hok.fresh (Nat.le_refl _)
  refine ⟨.ref s1.heap.objs.size, upd H1 s1.heap.objs.size (.lst xs), I1.laid (t' := s1.toks) (fun b u e => Heap.get?_push_of_some _ e) (Nat.le_refl _) ?_, rfl, q _ hf⟩
  exact ⟨z, us, 0, r, Heap.get?_push_size _ rfl⟩
end

/-! ### what a def promises -/
/-- a def's promise: the bound arguments in the parameters' order, the heap, the wanted end, the wanted exception -/
abbrev Sp := List V → Hp → VK → XK → Prop
/-- how an exception lies behind a call (file 08 gives it): the callers' frames, abstract heap and state ahead of the call, the wish, the exception, the state -/
abbrev CXT := List Env → Hp → Shared → XK → Value → Shared → Prop

/-- the state at a call -/
structure Env0 (P : Program) (w : World) (K : PySem.W.Frag) (mg : Str → Option Value) (base : Heap) (A : Around) (outer : List Env) (s : Shared) (H : Hp) : Prop where
  frames : A.frames = some outer
  mod : Mod K mg base
  bs : ∀ b o, base.get? b = some o → s.heap.get? b = some o ∧ H b = none
  bsz : base.objs.size ≤ s.heap.objs.size
  funs : s.heap.FunFrames base outer
  frf : ∀ b ∈ frs outer, H b = none
  hok : HOk P w H s.heap
  bare : AllBare s.gens
/-- a call's end -/
def CE (outer : List Env) (P : Program) (w : World) (H : Hp) (s : Shared) (Q : VK) (u : Value) (s' : Shared) : Prop :=
  ∃ v H', s'.os = s.os ∧ AllBare s'.gens ∧ Un (frs outer) [] H H' s.heap s'.heap ∧ HOk P w H' s'.heap ∧ RelV v u ∧ Q v H'
def CR (CX : CXT) (outer : List Env) (P : Program) (w : World) (H : Hp) (s : Shared) (Q : VK) (E : XK) (r : Result) (s' : Shared) : Prop :=
  match r with
  | .ok (.ret u) => CE outer P w H s Q u s'
  | .ok _ => False
  | .error e => CX outer H s E e s'
structure FnOk (P : Program) (w : World) (K : PySem.W.Frag) (mg : Str → Option Value) (base : Heap) (CX : CXT) (k : Nat) (f : Addr) (fd : FuncData) (ps : List Str) (sp : Sp) : Prop where
  len : ∀ vs H Q E, sp vs H Q E → vs.length = ps.length
  run : ∀ (A : Around) (outer : List Env) (s : Shared) (H : Hp) (args : Args) (us : List Value) (vs : List V) (Q : VK) (E : XK), Room k A → Env0 P w K mg base A outer s H → BindsTo s fd args (ps.zip us) → Vals vs us → sp vs H Q E →
    codeAny (model P w) A (.call (.ref f) args) (CR CX outer P w H s Q E) s
theorem Env0.make {P : Program} {w : World} {K : PySem.W.Frag} {mg : Str → Option Value} {base : Heap} {A : Around} {outer : List Env} {s : Shared} {H : Hp} (e : Env0 P w K mg base A outer s H) (C : Addr) (us : List Value) (kw : List (Str × Value)) :
    Env0 P w K mg base (A.under (.builtin "type.__call__" ⟨.ref C :: us, kw⟩)) outer s H := ⟨by first | exact e.frames | (simpa [Around.under, Code.envs, Code.isFrame, pushEnvs] using e.frames), e.mod, e.bs, e.bsz, e.funs, e.frf, e.hok, e.bare⟩
section
variable {X : Cx} {pins : List (Addr × Obj)} {σ : St} {H : Hp} {s s' : Shared}
/-- from a body: what a callee wants -/
theorem Inv.env0 (I : Inv X pins σ H s) : Env0 X.prog X.w X.K X.mg X.base X.A X.stack s H :=
  ⟨I.ok.frames, I.ok.mod, I.bs, Nat.le_trans I.ok.bsz I.sz, I.stack, I.stkFree, I.hok, I.bare⟩
/-- behind a call -/
theorem Inv.after {Q : VK} {u : Value} (I : Inv X pins σ H s) (h : CE X.stack X.prog X.w H s Q u s') : EP X pins σ Q u s' := by
  obtain ⟨v, H', os, bare, un, hok, r, q⟩ := h
  obtain ⟨hh, g, d, t, os'⟩ := s'
  obtain rfl : os' = s.os := os
  exact ⟨v, H', I.call (h' := hh) (g' := g) (d' := d) (t' := t) (ch := []) un hok bare (fun b z => absurd z (by simp)), r, q⟩
end

/-! ### calls -/
/-- f(..): the written arguments, then the defaults dvs; E: what is wanted of an exception -/
def tCall (sp : Sp) (dvs : List V) (E : XK) (t : TA) : TE := fun σ H Q => t σ H fun vs H1 => sp (vs ++ dvs) H1 Q E
/-- o.m(..) of an instance of the class at C -/
inductive tMethI (C : Addr) (m : Str) (sp : Sp) (dvs : List V) (E : XK) (t : TA) (σ : St) (Q : VK) (x : V) (H1 : Hp) : Prop
  | mk (a : _) (dx : _) (fs : _) (h0_ : x = .ref a) (h1_ : H1 a = some (.ins C dx fs)) (h2_ : fs.lookup m = none) (h3_ : t σ H1 fun vs H2 => sp (x :: (vs ++ dvs)) H2 Q E) : tMethI C m sp dvs E t σ Q x H1
def tMeth (C : Addr) (m : Str) (sp : Sp) (dvs : List V) (E : XK) (ta : TE) (t : TA) : TE := fun σ H Q => ta σ H fun x H1 => tMethI C m sp dvs E t σ Q x H1
/-- C(..): a new instance and its dict, then __init__ -/
def tMake (C : Addr) (sp : Sp) (dvs : List V) (E : XK) (t : TA) : TE := fun σ H Q => t σ H fun vs H1 => ∀ x dx, H1 x = none → H1 dx = none → dx ≠ x →
  sp (.ref x :: (vs ++ dvs)) (upd (upd H1 dx (.own x)) x (.ins C dx [])) (fun v H2 => v = .non ∧ Q (.ref x) H2) E

/-- how the parameters are bound: us the positional arguments, kw the keywords' values by name, ds the defaults that fill up -/
def Binds (K : PySem.W.Frag) (fd : FuncData) (ps : List Str) (ds : List Value) : Prop :=
  ∀ (s : Shared) (us : List Value), K.In s.heap → (us ++ ds).length = ps.length → BindsTo s fd ⟨us, []⟩ (ps.zip (us ++ ds))
/-- every parameter is given -/
theorem Binds.all {K : PySem.W.Frag} {fd : FuncData} {ps : List Str} (h : ∀ us : List Value, us.length = ps.length → bindArgs fd ⟨us, []⟩ = pure (ps.zip us)) : Binds K fd ps [] := fun s us _ hl => by
  rw [List.append_nil] at hl ⊢
  exact .of_eq (h us hl)

/-- an exception of a callee reaches what this body wants of exceptions -/
def Passes (CX : CXT) (X : Cx) (E : XK) : Prop := ∀ (pins : List (Addr × Obj)) (σ : St) (H : Hp) (s : Shared) (e : Value) (s' : Shared), Inv X pins σ H s → CX X.stack H s E e s' → X.xe e s'

section
variable {X : Cx} {CX : CXT} {k : Nat} {f C : Addr} {fd : FuncData} {ps : List Str} {sp : Sp} {dvs : List V} {ds : List Value} {E : XK} {x m : Str} {p pos apos : Pos} {e o : Expr} {es : List Expr} {ta : TE} {t : TA}

/-- the callee runs -/
theorem run_fn {pins : List (Addr × Obj)} {σ : St} {H : Hp} {s : Shared} {Q : VK} {us : List Value} {vs : List V} (F : FnOk X.prog X.w X.K X.mg X.base CX k f fd ps sp) (hr : Room k X.A) (hb : Binds X.K fd ps ds) (hd : Vals dvs ds) (hx : Passes CX X E)
    (I : Inv X pins σ H s) (r : Vals vs us) (h : sp (vs ++ dvs) H Q E) : wpAny (model X.prog X.w) X.A (call (.ref f) us) (EP X pins σ Q) X.xe s := by
  have r2 : Vals (vs ++ dvs) (us ++ ds) := r.append hd
  have hl : (us ++ ds).length = ps.length := by rw [← r2.length]; exact F.len _ _ _ _ h
  refine wpAny_call (codeAny_mono (F.run X.A X.stack s H ⟨us, []⟩ (us ++ ds) (vs ++ dvs) Q E hr I.env0 (hb s us I.kIn hl) r2 h) fun r s' hq => ?_)
  cases r with
  | error e => exact hx pins σ H s e s' I hq
  | ok fl =>
    cases fl with
    | ret u => exact I.after hq
    | next => exact False.elim hq
    | brk => exact False.elim hq
    | cont => exact False.elim hq

theorem pe_call (F : FnOk X.prog X.w X.K X.mg X.base CX k f fd ps sp) (hr : Room k X.A) (hg : Gl X x) (hm : X.mg x = some (.ref f)) (hk : PySem.W.keepIn X.K (.ref f) = true) (hb : Binds X.K fd ps ds) (hd : Vals dvs ds) (hx : Passes CX X E)
    (ha : PA X (e :: es) t) (hdb : (x == ("__debug__" : Str)) = false := by decide) (he : starEach (e :: es) X.env = (false, eval e X.env) :: starEach es X.env := by rfl) (hpl : (backTo pos (starEach es X.env)).any (·.1) = false := by rfl) :
    PE X (.Call (.Name x p) (e :: es) [] pos) (tCall sp dvs E t) := by
  intro pins s σ H Q I h
  refine wpAny_Call_Name_kw (ld_glob I hg hm ?_ hdb)
  refine PySem.W.callWith_K (h₀ := X.base) I.ok.mod.kin hk (thn (ha pos pins s σ H _ I h) fun us s1 ⟨vs, H1, I1, r, q⟩ => ⟨I1.kIn, ?_⟩) he hpl
  exact run_fn F hr hb hd hx I1 r q
/-- what a class must have to be made -/
structure Mk (K : PySem.W.Frag) (C f : Addr) : Prop where
  makes : PySem.W.makesIn K C = true
  init : PySem.W.findIn K (.ref C) "__init__" = some (some (.ref f))
  fn : PySem.W.isFn K (.ref f) = true
  kp : PySem.W.keepIn K (.ref C) = true

end

/-! ### keywords -/
/-- the values of the keywords, from the left -/
def PK (X : Cx) (kws : List Keyword) (t : TA) : Prop :=
  ∀ (pos : Pos) (pins : List (Addr × Obj)) (s : Shared) (σ : St) (H : Hp) (Q : List V → Hp → Prop), Inv X pins σ H s → t σ H Q → wpAny (model X.prog X.w) X.A (evalAll ((backToKw pos (keywordEach kws X.env)).map (·.2))) (AP X pins σ Q) X.xe s
section
variable {X : Cx} {CX : CXT} {k : Nat} {f C : Addr} {fd : FuncData} {ps ks : List Str} {sp : Sp} {E : XK} {x m : Str} {p pos apos kpos : Pos} {e o : Expr} {es : List Expr} {kws : List Keyword} {te ta : TE} {t tk : TA} {nm : Option Str}
/-- how a call with keywords binds: g puts the positional values us and the keywords' values ws (names ks) in the parameters' order, defaults among them -/
structure KBinds (K : PySem.W.Frag) (fd : FuncData) (ps ks : List Str) (g : List Value → List Value → List Value) (gV : List V → List V → List V) : Prop where
  to : ∀ (s : Shared) (us ws : List Value), K.In s.heap → (g us ws).length = ps.length → BindsTo s fd ⟨us, ks.zip ws⟩ (ps.zip (g us ws))
  rel : ∀ {vs : List V} {us : List Value} {zs : List V} {ws : List Value}, Vals vs us → Vals zs ws → Vals (gV vs zs) (g us ws)
def tCallK (sp : Sp) (gV : List V → List V → List V) (E : XK) (t tk : TA) : TE := fun σ H Q => t σ H fun vs H1 => tk σ H1 fun zs H2 => sp (gV vs zs) H2 Q E
variable {g : List Value → List Value → List Value} {gV : List V → List V → List V}
end

/-! ### a def's body keeps its promise -/
/-- names: the parameters first -/
structure FnScope (N P : List Str) (sc : Scope) : Prop where
  kind : sc.kind = .function
  co : sc.isCoroutine = false
  gen : sc.isGenerator = false
  nd : N.Nodup
  pre : N.take P.length = P
  par : ∀ x ∈ P, sc.names.lookup x = some .local ∨ sc.names.lookup x = some .cell
  nofree : ∀ y ∈ sc.names, y.2 ≠ .free

theorem bindL_out {kindOf : Str → Option NameKind} {x : Str} : ∀ {binds : List (Str × Value)} {m : Str → Option Value}, (∀ v, (x, v) ∉ binds) → bindL kindOf binds m x = m x
  | [], _, _ => rfl
  | (n, v) :: r, m, h => by
    unfold bindL
    rw [bindL_out fun w hw => h w (List.mem_cons_of_mem _ hw)]
    split
    · have : x ≠ n := by rintro rfl; exact h v List.mem_cons_self
      simp [this]
    · rfl
theorem bindC_out {kindOf : Str → Option NameKind} {x : Str} : ∀ {binds : List (Str × Value)} {m : Str → Option Value}, (∀ v, (x, v) ∉ binds) → bindC kindOf binds m x = m x
  | [], _, _ => rfl
  | (n, v) :: r, m, h => by
    unfold bindC
    rw [bindC_out fun w hw => h w (List.mem_cons_of_mem _ hw)]
    split
    · rfl
    · have : x ≠ n := by rintro rfl; exact h v List.mem_cons_self
      simp [this]
theorem bindL_get {kindOf : Str → Option NameKind} {x : Str} {v : Value} : ∀ {P : List Str} {vs : List Value} {i : Nat} {m : Str → Option Value}, P.Nodup → P[i]? = some x → vs[i]? = some v → kindOf x = some .local →
    bindL kindOf (P.zip vs) m x = some v
  | [], _, _, _, _, h, _, _ => by simp at h
  | _ :: _, [], _, _, _, _, h, _ => by simp at h
  | p :: P, w :: vs, 0, m, nd, h1, h2, hk => by
    simp at h1 h2; subst h1; subst h2
    show bindL kindOf ((p, w) :: P.zip vs) m p = _
    unfold bindL
    rw [bindL_out fun v hv => (List.nodup_cons.mp nd).1 (List.of_mem_zip hv).1, if_pos hk]
    simp
  | p :: P, w :: vs, i + 1, m, nd, h1, h2, hk => by
    show bindL kindOf ((p, w) :: P.zip vs) m x = _
    unfold bindL
    exact bindL_get (i := i) (List.nodup_cons.mp nd).2 (by simpa using h1) (by simpa using h2) hk
theorem bindC_get {kindOf : Str → Option NameKind} {x : Str} {v : Value} : ∀ {P : List Str} {vs : List Value} {i : Nat} {m : Str → Option Value}, P.Nodup → P[i]? = some x → vs[i]? = some v → kindOf x ≠ some .local →
    bindC kindOf (P.zip vs) m x = some v
  | [], _, _, _, _, h, _, _ => by simp at h
  | _ :: _, [], _, _, _, _, h, _ => by simp at h
  | p :: P, w :: vs, 0, m, nd, h1, h2, hk => by
    simp at h1 h2; subst h1; subst h2
    show bindC kindOf ((p, w) :: P.zip vs) m p = _
    unfold bindC
    rw [bindC_out fun v hv => (List.nodup_cons.mp nd).1 (List.of_mem_zip hv).1, if_neg hk]
    simp
  | p :: P, w :: vs, i + 1, m, nd, h1, h2, hk => by
    show bindC kindOf ((p, w) :: P.zip vs) m x = _
    unfold bindC
    exact bindC_get (i := i) (List.nodup_cons.mp nd).2 (by simpa using h1) (by simpa using h2) hk

/-- the names' values at the entry -/
def start (N : List Str) (vs : List V) : St := vs.map some ++ List.replicate (N.length - vs.length) none

/-- the context of a def's body, at its entry; an exception leaves the frame, then lies as CX says -/
def cxOf (CX : CXT) (P : Program) (w : World) (K : PySem.W.Frag) (mg : Str → Option Value) (base : Heap) (N : List Str) (qual : Str) (scope : Scope) (f : Addr) (cd : Value) (A : Around) (outer : List Env) (s : Shared) (H : Hp) (E : XK) : Cx where
  prog := P
  w := w
  K := K
  mg := mg
  base := base
  A := A.deeper (envOfC qual scope s.heap.objs.size f cd)
  N := N
  s₀ := s
  H₀ := H
  env := envOfC qual scope s.heap.objs.size f cd
  outer := outer
  stack := envOfC qual scope s.heap.objs.size f cd :: outer
  ex := []
  calm := true
  fn := fun _ => true
  pn := []
  xe := fun e s' => wpAny (model P w) (A.deeper (envOfC qual scope s.heap.objs.size f cd)) (leaving (envOfC qual scope s.heap.objs.size f cd) e) (fun _ s'' => CX outer H s E e s'') (fun e' s'' => CX outer H s E e' s'') s'

theorem cell_has {sc : Scope} {n : Nat} {x : Str} (h : sc.names.lookup x = some .cell) : ∃ c, (cellsFrom n sc.names []).lookup x = some c := by
  have q := PySem.W.cellsFrom_some sc.names n [] (.inl h)
  exact Option.isSome_iff_exists.mp q

theorem inv_start {CX : CXT} {P : Program} {w : World} {K : PySem.W.Frag} {mg : Str → Option Value} {base : Heap} {N ps : List Str} {qual : Str} {scope : Scope} {f : Addr} {cd : Value} {A : Around} {outer : List Env} {s s1 : Shared} {H : Hp} {E : XK} {us : List Value} {vs : List V}
    (S : FnScope N ps scope) (hd : A.handled = none) (e0 : Env0 P w K mg base A outer s H) (hl : vs.length = ps.length) (r : Vals vs us)
    (x : InCallC s s.heap.objs.size (bindL (envOfC qual scope s.heap.objs.size f cd).kindOf (ps.zip us) fun _ => none) (cellsFrom (s.heap.objs.size + 1) scope.names []) (bindC (envOfC qual scope s.heap.objs.size f cd).kindOf (ps.zip us) fun _ => none) s1) :
    Inv (cxOf CX P w K mg base N qual scope f cd A outer s H E) [] (start N vs) H s1 := by
  have hpl : ps.length ≤ N.length := by have := congrArg List.length S.pre; rw [List.length_take] at this; omega
  obtain ⟨h1, tk, rfl, hk⟩ := x.done
  have noA : ∀ b : Addr, b ∉ (cxOf CX P w K mg base N qual scope f cd A outer s H E).ex := fun b z => absurd (show b ∈ ([] : List Addr) from z) (by simp)
  refine ⟨⟨e0.mod, S.kind, rfl, rfl, Nat.le_refl _, fun y z c h1 h2 => ?_, fun y hy => ?_, fun y c _ h => ?_, fun _ => hd, Around.frames_deeper e0.frames, .inr ⟨rfl, rfl⟩, fun b z => absurd z (noA b), e0.bs, e0.bsz, fun b _ _ => noA b, fun b z => absurd z (noA b), e0.funs, e0.frf⟩,
    rfl, e0.bare, Un.kept hk, ⟨_, x.toInCall.ns, fun i y v h1 h2 h3 => ?_⟩, fun y c h => ⟨_, x.cell y c h⟩, e0.hok.fresh (Nat.le_refl _), fun y c h => ?_, fun p hp => absurd (show p ∈ ([] : List (Addr × Obj)) from hp) (by simp), e0.hok.kept hk, ?_⟩
  · exact name_of_addr x.apart (PySem.mem_of_lookup h1) (PySem.mem_of_lookup h2)
  · have hy : scope.names.lookup y = some .cell ∨ scope.names.lookup y = some .free := hy
    rcases hy with hy | hy
    · exact cell_has hy
    · exact absurd rfl (S.nofree _ (PySem.mem_of_lookup hy))
  · exact Nat.le_of_lt (x.above y c (PySem.mem_of_lookup h))
  · have hi : i < vs.length := by
      unfold start at h2
      by_cases hi : i < vs.length
      · exact hi
      · rw [List.getElem?_append_right (by simpa using hi)] at h2
        rw [List.getElem?_replicate] at h2
        split at h2 <;> cases h2
    have ha : vs[i]? = some v := by
      unfold start at h2
      rw [List.getElem?_append_left (by simpa using hi), List.getElem?_map] at h2
      cases e : vs[i]? with
      | none => rw [e] at h2; cases h2
      | some a => rw [e] at h2; cases h2; rfl
    obtain ⟨u, hu, rv⟩ := r.get ha
    have hp : ps[i]? = some y := by
      rw [← S.pre, List.getElem?_take_of_lt (by omega)]; exact h1
    have ndP : ps.Nodup := by rw [← S.pre]; exact S.nd.sublist (List.take_sublist _ _)
    refine ⟨u, rv, ?_⟩
    rcases S.par y (List.mem_of_getElem? hp) with k | k
    · exact .inl ⟨k, bindL_get ndP hp hu k⟩
    · obtain ⟨c, e⟩ := cell_has (n := s.heap.objs.size + 1) k
      refine .inr ⟨.inl k, c, e, ?_⟩
      have q := x.cell y c e
      rw [bindC_get ndP hp hu (by show scope.names.lookup y ≠ _; rw [k]; decide)] at q
      exact q
  · exact e0.hok.fresh (Nat.le_of_lt (x.above y c (PySem.mem_of_lookup h)))
  · unfold start
    show _ = N.length
    rw [List.length_append, List.length_map, List.length_replicate]
    omega

/-- THE RULE: a def (or a method) of the text, by its body. The body's reading t is chosen for each entry; it is run at the parameters' values -/
theorem fn_of {CX : CXT} {P : Program} {w : World} {K : PySem.W.Frag} {mg : Str → Option Value} {base : Heap} {k : Nat} {f : Addr} {name qual : Str} {params : Arguments} {body : List Stmt} {scope : Scope} {dV kV doc pm cdv ct oc : Value} {an od : Option Addr}
    {osl : Array (Option Value)} {N ps : List Str} {sp : Sp} (lk : K.lookup f = some ⟨oc, od, .func (PySem.W.fnOf name qual params body scope dV kV doc pm an cdv ct), osl⟩) (hcd : PySem.W.codeIn K cdv qual = true) (S : FnScope N ps scope)
    (len : ∀ vs H Q E, sp vs H Q E → vs.length = ps.length)
    (hbody : ∀ (A : Around) (outer : List Env) (s : Shared) (H : Hp) (vs : List V) (Q : VK) (E : XK), Room k (A.deeper (envOfC qual scope s.heap.objs.size f cdv)) → sp vs H Q E →
      ∃ t, PSs (cxOf CX P w K mg base N qual scope f cdv A outer s H E) body t ∧ t { nx := fun _ H' => Q .non H', rt := Q } (start N vs) H) :
    FnOk P w K mg base CX (k + 1) f (PySem.W.fnOf name qual params body scope dV kV doc pm an cdv ct) ps sp := by
  refine ⟨len, fun A outer s H args us vs Q E hr e0 hb r hsp => ?_⟩
  have hl := len _ _ _ _ hsp
  have KX : K.In s.heap := e0.mod.kin.keeps fun b o e => (e0.bs b o e).1
  have lim : s.heap.NoLimit := e0.mod.nolimit.keeps fun b o e => (e0.bs b o e).1
  have hkind : ∀ y ∈ ps.zip us, scope.names.lookup y.1 = some .local ∨ (scope.names.lookup y.1 = some .cell ∧ ((cellsFrom (s.heap.objs.size + 1) scope.names []).lookup y.1).isSome = true) := fun ⟨n, v⟩ hy => by
    rcases S.par n (List.of_mem_zip hy).1 with q | q
    · exact .inl q
    · exact .inr ⟨q, PySem.W.cellsFrom_some _ _ _ (.inl q)⟩
  refine codeAny_call_function hr.depth (KX _ _ lk) rfl S.co S.gen rfl (PySem.W.codeRec_of KX hcd) (hb _ _ _ _ ?_)
  refine wpAny_newFunctionEnv_cells S.kind hkind fun env he s1 x => ?_
  subst he
  refine ⟨lim.keeps x.toInCall.keep, codeAny_func ?_⟩
  obtain ⟨t, ht, hq⟩ := hbody A outer s H vs Q E (hr.deeper _) hsp
  have I : Inv (cxOf CX P w K mg base N qual scope f cdv A outer s H E) [] (start N vs) H s1 := inv_start S hr.hd e0 hl r x
  refine wpAny_mono (ht [] s1 (start N vs) H _ I hq) (fun fl s' hs => ?_) fun e s' hs => hs
  have fin : ∀ {σ' : St} {H' : Hp} {v : V} {u : Value}, Inv (cxOf CX P w K mg base N qual scope f cdv A outer s H E) [] σ' H' s' → RelV v u → Q v H' → CE outer P w H s Q u s' :=
    fun {σ' H' v u} J rv q => ⟨v, H', J.os, J.bare, J.base, J.hok, rv, q⟩
  cases fl with
  | ret u =>
    obtain ⟨v, σ', H', J, rv, q⟩ := hs
    exact fin J rv q
  | next =>
    obtain ⟨σ', H', J, q⟩ := hs
    exact fin (v := V.non) (u := Value.none) J rfl q
  | brk =>
    obtain ⟨_, _, _, q⟩ := hs
    exact False.elim q
  | cont =>
    obtain ⟨_, _, _, q⟩ := hs
    exact False.elim q
end L2

namespace L2
open PySem PySem.Spec PyProof.Rows
section
variable {X : Cx} {x : Str} {p pos : Pos} {e : Expr} {es : List Expr} {t : TA} {id T : String} {r : List V → Hp → VK → Prop}

def tCB (r : List V → Hp → VK → Prop) (t : TA) : TE := fun σ H Q => t σ H fun vs H1 => r vs H1 Q
/-- f(e, ..), f a built-in function -/
theorem pe_callB (hc : CallR X (.builtin id) r) (hg : Gl X x) (hm : X.mg x = none) (hv : bootBuiltins x = some (.builtin id)) (ha : PA X (e :: es) t) (hn : x ≠ "__name__" := by decide) (hdb : (x == ("__debug__" : Str)) = false := by decide)
    (he : starEach (e :: es) X.env = (false, eval e X.env) :: starEach es X.env := by rfl) (hpl : (backTo pos (starEach es X.env)).any (·.1) = false := by rfl) : PE X (.Call (.Name x p) (e :: es) [] pos) (tCB r t) := by
  intro pins s σ H Q I h
  refine wpAny_Call_Name_kw (ld_blt I hg hm hv ?_ hn hdb)
  exact PyProof.Rows.callWith_builtin1 (thn (ha pos pins s σ H _ I h) fun us s1 ⟨vs, H1, I1, r1, q1⟩ => hc pins s1 σ H1 vs us Q I1 r1 q1) he hpl
/-- T(e, ..), T a built-in type -/
theorem pe_callTy (hc : CallR X (.type T) r) (hg : Gl X x) (hm : X.mg x = none) (hv : bootBuiltins x = some (.type T)) (ha : PA X (e :: es) t) (hn : x ≠ "__name__" := by decide) (hdb : (x == ("__debug__" : Str)) = false := by decide)
    (he : starEach (e :: es) X.env = (false, eval e X.env) :: starEach es X.env := by rfl) (hpl : (backTo pos (starEach es X.env)).any (·.1) = false := by rfl) : PE X (.Call (.Name x p) (e :: es) [] pos) (tCB r t) := by
  intro pins s σ H Q I h
  refine wpAny_Call_Name_kw (ld_blt I hg hm hv ?_ hn hdb)
  exact PyProof.Rows.callWith_type1 (thn (ha pos pins s σ H _ I h) fun us s1 ⟨vs, H1, I1, r1, q1⟩ => hc pins s1 σ H1 vs us Q I1 r1 q1) he hpl
end
end L2

namespace HT
open PySem PyProof.Rows

/-- t < u of tuples of ints -/
def lexLt : List Int → List Int → Bool
  | [], [] => false
  | [], _ :: _ => true
  | _ :: _, [] => false
  | x :: xs, y :: ys => if x = y then lexLt xs ys else decide (x < y)
section
open PySem.SeqAt
open PySem.AutoSeq1 (wpAny_loadPart')
open PySem.MeetsSeq PySem.MeetsSeq2 PySem.MeetsSeq3

end

section
variable {prog : Program} {w : World} {A : Around} {E : Value → Shared → Prop} {s : Shared}

/-! ### t[a:b], not the whole -/
/-- a slice's bound as a place among n (d where it is left out) -/
def sIx (n d : Nat) : Option Int → Nat
  | none => d
  | some v => if v < 0 then (v + (n : Int)).toNat else min v.toNat n
theorem sIx_le (n d : Nat) (hd : d ≤ n) (o : Option Int) : sIx n d o ≤ n := by
  cases o with
  | none => exact hd
  | some v =>
    show (if v < 0 then (v + (n : Int)).toNat else min v.toNat n) ≤ n
    by_cases hv : v < 0
    · rw [if_pos hv]; omega
    · rw [if_neg hv]; exact Nat.min_le_right _ _
theorem clip_eq (v : Int) (n d : Nat) : (if v < 0 then max (v + (n : Int)) 0 else min v (n : Int)) = ((sIx n d (some v) : Nat) : Int) := by
  show (if v < 0 then max (v + (n : Int)) 0 else min v (n : Int)) = (((if v < 0 then (v + (n : Int)).toNat else min v.toNat n) : Nat) : Int)
  by_cases hv : v < 0
  · simp only [if_pos hv]; omega
  · simp only [if_neg hv]; omega
theorem adjust_gen (lo hi : Option Int) (n : Nat) : Builtin.Slice.sliceAdjust lo hi 1 (n : Int) = (((sIx n 0 lo : Nat) : Int), ((sIx n n hi : Nat) : Int)) := by
  have h1 : ¬ ((1 : Int) < 0) := by omega
  unfold Builtin.Slice.sliceAdjust
  simp only [h1, if_false]
  refine Prod.ext ?_ ?_
  · cases lo with
    | none => rfl
    | some v => exact clip_eq v n 0
  · cases hi with
    | none => rfl
    | some v => exact clip_eq v n n
theorem places_gen (i j : Nat) : Builtin.Slice.slicePlaces (i : Int) (j : Int) 1 = j - i := by
  unfold Builtin.Slice.slicePlaces
  have h1 : (1 : Int) > 0 := by omega
  simp only [h1, if_true, Int.ediv_one]
  split <;> omega
theorem slicePart_ {v : Value} {o : Option Int} {Q : Option Int → Shared → Prop} (p : IsPart v o) (h : Q o s) : wpAny (model prog w) A (Builtin.Slice.slicePartIndex v) Q E s := by
  cases p with
  | none => exact slicePart_none h
  | int i t => exact slicePart_int h
theorem sliceApplied_gen {sl : Addr} {vl vu : Value} {lo hi : Option Int} {n : Nat} {Q : Int × Int × Nat → Shared → Prop} (hs : s.heap.IsSliceOf sl vl vu .none) (pl : IsPart vl lo) (pu : IsPart vu hi)
    (h : Q (((sIx n 0 lo : Nat) : Int), 1, sIx n n hi - sIx n 0 lo) s) : wpAny (model prog w) A (Builtin.Slice.sliceApplied (.ref sl) (pure (n : Int))) Q E s := by
  obtain ⟨os, hos, hcs, hds⟩ := id hs
  unfold Builtin.Slice.sliceApplied Builtin.Slice.sliceFields
  refine wpAny_bind (wpAny_bind (wpAny_field hos hds (x := vl) rfl (wpAny_bind (wpAny_field hos hds (x := vu) rfl (wpAny_bind (wpAny_field hos hds (x := .none) rfl (wpAny_pure ?_)))))))
  refine wpAny_bind (slicePart_none ?_)
  show wpAny _ _ (if ((1 : Int) == 0) = true then _ else _) _ _ s
  rw [if_neg (by decide)]
  refine wpAny_bind (slicePart_ pl (wpAny_bind (slicePart_ pu (wpAny_bind (wpAny_pure ?_)))))
  show wpAny _ _ (match Builtin.Slice.sliceAdjust lo hi 1 (n : Int) with | (lo, hi) => pure (lo, (1 : Int), Builtin.Slice.slicePlaces lo hi 1)) _ _ s
  rw [adjust_gen lo hi n]
  show wpAny _ _ (pure (((sIx n 0 lo : Nat) : Int), (1 : Int), Builtin.Slice.slicePlaces ((sIx n 0 lo : Nat) : Int) ((sIx n n hi : Nat) : Int) 1)) _ _ s
  rw [places_gen]
  exact wpAny_pure h
theorem pick_gen (xs : Array Value) (i k : Nat) : ((List.range k).filterMap fun (m : Nat) => xs[((i : Int) + (m : Int) * 1).toNat]?).toArray = ((xs.toList.drop i).take k).toArray := by
  have e : (fun (m : Nat) => xs[((i : Int) + (m : Int) * 1).toNat]?) = fun m => xs[i + m]? := by
    funext m
    have : ((i : Int) + (m : Int) * 1).toNat = i + m := by omega
    rw [this]
  rw [e]
  have := pick_run xs i k
  rw [List.filterMap_map] at this
  have e2 : ((fun x => xs[x]?) ∘ fun x => i + x) = fun m => xs[i + m]? := rfl
  rw [e2] at this
  rw [this]

theorem getItem_tuple_cut {t sl : Addr} {items : Array Value} {vl vu : Value} {lo hi : Option Int} {Q : Value → Shared → Prop} (ht : IsTup s.heap t items) (hs : s.heap.IsSliceOf sl vl vu .none) (pl : IsPart vl lo) (pu : IsPart vu hi)
    (hw : ¬ (sIx items.size 0 lo = 0 ∧ sIx items.size items.size hi = items.size))
    (h : Q (.ref s.heap.objs.size) { s with heap := s.heap.push { cls := .type "tuple", data := .seq ((items.toList.drop (sIx items.size 0 lo)).take (sIx items.size items.size hi - sIx items.size 0 lo)).toArray } })
    (hsz : items.size ≤ sizeLine) : wpAny (model prog w) A (getItem (.ref t) (.ref sl)) Q E s := by
  have htake : sizeOk (.seq ((items.toList.drop (sIx items.size 0 lo)).take (sIx items.size items.size hi - sIx items.size 0 lo)).toArray) := by
    show ((items.toList.drop (sIx items.size 0 lo)).take (sIx items.size items.size hi - sIx items.size 0 lo)).toArray.size ≤ sizeLine
    rw [List.size_toArray, List.length_take, List.length_drop, Array.length_toList]
    omega
  have hj : sIx items.size items.size hi ≤ items.size := sIx_le _ _ (Nat.le_refl _) hi
  obtain ⟨os, hos, hcs, hds⟩ := id hs
  have hTs : s.TypeIs (.ref sl) "slice" := ⟨os, hos, hcs⟩
  unfold getItem
  try with_reducible refine wpAny_holding ?_
  first | refine wpAny_bind (wpAny_pure ?_) | skip
  refine wpAny_bind (wpAny_sequenceKey ht.typeIs (by decide) ?_)
  refine wpAny_bind (wpAny_callSpecial?_slot (name := Str.ofString "__getitem__") ht.typeIs PyProof.Rows.slot_tuple_getitem
    (wpAny_call_entry PyProof.Rows.slot_tuple_getitem ht.typeIs entry_tuple_getitem ?_ (args_tuple_getitem _ _)))
  show wpAny _ _ (Builtin.Tuple.tupleItemsOf (.ref t) >>= _) _ _ s
  refine wpAny_bind (tupleItemsOf_ ht ?_)
  refine wpAny_bind (wpAny_typeOf hTs ?_)
  rw [if_pos (by decide)]
  refine wpAny_bind (sliceApplied_gen hs pl pu ?_)
  have hno : ¬ ((((sIx items.size 0 lo : Nat) : Int) == 0 && (1 : Int) == 1 && (sIx items.size items.size hi - sIx items.size 0 lo) == items.size) = true) := by
    intro q
    rw [Bool.and_eq_true, Bool.and_eq_true] at q
    have q1 : ((sIx items.size 0 lo : Nat) : Int) = 0 := eq_of_beq q.1.1
    have q2 : sIx items.size items.size hi - sIx items.size 0 lo = items.size := eq_of_beq q.2
    exact hw ⟨by omega, by omega⟩
  show wpAny _ _ (if (((sIx items.size 0 lo : Nat) : Int) == 0 && (1 : Int) == 1 && (sIx items.size items.size hi - sIx items.size 0 lo) == items.size) = true then _ else _) _ _ s
  rw [if_neg hno, pick_gen]
  first
    | exact wpAny_bind (m := Builtin.Tuple.tupleExact _) (wpAny_newObj_type (wpAny_pure ⟨_, rfl, wpAny_pure h⟩) htake)
    | exact wpAny_bind (m := Builtin.Tuple.tupleExact _) (wpAny_newObj_type (wpAny_bind (wpAny_pure (wpAny_pure ⟨_, rfl, wpAny_pure h⟩))) htake)
    | exact wpAny_bind (wpAny_bind (m := Builtin.Tuple.tupleExact _) (wpAny_newObj_type (wpAny_pure (wpAny_pure ⟨_, rfl, wpAny_pure h⟩)) htake))
    | exact wpAny_bind (wpAny_bind (m := Builtin.Tuple.tupleExact _) (wpAny_newObj_type (wpAny_pure ⟨_, rfl, wpAny_pure h⟩) htake))
end
end HT

namespace L2
open PySem PySem.Spec PyProof.Rows

/-! ### the parts of a slice -/
abbrev TO := St → Hp → (Option Int → Hp → Prop) → Prop
/-- a slice's part (left out, or an int) -/
def PO (X : Cx) (e : Option Expr) (t : TO) : Prop :=
  ∀ (pins : List (Addr × Obj)) (s : Shared) (σ : St) (H : Hp) (Q : Option Int → Hp → Prop), Inv X pins σ H s → t σ H Q →
    wpAny (model X.prog X.w) X.A (evalPart e X.env) (fun u s' => ∃ o H', Inv X pins σ H' s' ∧ IsPart u o ∧ Q o H') X.xe s
def tNoPart : TO := fun _ H Q => Q none H
inductive tPartI (Q : (Option Int → Hp → Prop)) (x : V) (H1 : Hp) : Prop
  | mk (i : _) (h0_ : x = .int i) (h1_ : Q (some i) H1) : tPartI Q x H1
def tPart (t : TE) : TO := fun σ H Q => t σ H fun x H1 => tPartI Q x H1

section
variable {X : Cx} {e : Expr} {te : TE} {lo hi : Option Expr} {tl th : TO} {pos p2 : Pos}

theorem po_none : PO X none tNoPart := by
  intro pins s σ H Q I h
  rw [evalPart_none]
  exact wpAny_pure ⟨none, H, I, .none, h⟩
theorem po_some (h : PE X e te) : PO X (some e) (tPart te) := by
  intro pins s σ H Q I hw
  rw [evalPart_some]
  refine thn (h pins s σ H _ I hw) fun u s1 ⟨x, H1, I1, r1, q1⟩ => ?_
  obtain ⟨i, rfl, q⟩ := q1
  obtain ⟨t, rfl⟩ := r1
  exact ⟨some i, H1, I1, .int i t, q⟩

/-- what a slice of a value is, by values: the slice object stands at sl -/
def SlR (X : Cx) (r : V → Option Int → Option Int → Hp → VK → Prop) : Prop :=
  ∀ (pins : List (Addr × Obj)) (s : Shared) (σ : St) (H : Hp) (x : V) (v vl vu : Value) (lo hi : Option Int) (sl : Addr) (Q : VK), Inv X pins σ H s → RelV x v → s.heap.IsSliceOf sl vl vu .none → IsPart vl lo → IsPart vu hi → r x lo hi H Q →
    ∃ T id, typeLookup (.type T) "__getitem__" = pure (some (.builtin id)) ∧ s.TypeIs v T ∧ wpAny (model X.prog X.w) X.A (getItem v (.ref sl)) (EP X pins σ Q) X.xe s
theorem SlR.or {r r' : V → Option Int → Option Int → Hp → VK → Prop} (h : SlR X r) (h' : SlR X r') : SlR X (fun x lo hi H Q => r x lo hi H Q ∨ r' x lo hi H Q) := by
  intro pins s σ H x v vl vu lo hi sl Q I rx hs pl pu q
  rcases q with q | q
  · exact h pins s σ H x v vl vu lo hi sl Q I rx hs pl pu q
  · exact h' pins s σ H x v vl vu lo hi sl Q I rx hs pl pu q
def tSl (r : V → Option Int → Option Int → Hp → VK → Prop) (te : TE) (tl th : TO) : TE := fun σ H Q => te σ H fun x H1 => tl σ H1 fun l H2 => th σ H2 fun u H3 => r x l u H3 Q
/-- a[lo:hi], any a -/
theorem pe_slice {r : V → Option Int → Option Int → Hp → VK → Prop} (hr : SlR X r) (he : PE X e te) (hl : PO X lo tl) (hu : PO X hi th) : PE X (.Subscript e (.Slice lo hi none p2) pos) (tSl r te tl th) := by
  intro pins s σ H Q I h
  refine Subscript_ (thn (he pins s σ H _ I h) fun v s1 ⟨x, H1, I1, r1, q1⟩ => ?_)
  refine wpAny_Slice (thn (hl pins s1 σ H1 _ I1 q1) fun vl s2 ⟨l, H2, I2, pl, q2⟩ => thn (hu pins s2 σ H2 _ I2 q2) fun vu s3 ⟨u, H3, I3, pu, q3⟩ => ?_)
  rw [evalPart_none]
  refine wpAny_pure ?_
  have I4 : Inv X pins σ H3 { s3 with heap := s3.heap.push { cls := .type "slice", data := .fields #[vl, vu, .none] } } := I3.kept (t' := s3.toks) fun b ob q => Heap.get?_push_of_some _ q
  obtain ⟨T, id, hT, ht, hg⟩ := hr pins { s3 with heap := s3.heap.push { cls := .type "slice", data := .fields #[vl, vu, .none] } } σ H3 x v vl vu l u s3.heap.objs.size Q I4 r1 (Heap.IsSliceOf.new ..) pl pu q3
  show wpAny (model X.prog X.w) X.A (subscriptTail e (.Slice lo hi none p2) v (.ref s3.heap.objs.size)) (EP X pins σ Q) X.xe { s3 with heap := s3.heap.push { cls := .type "slice", data := .fields #[vl, vu, .none] } }
  exact tail_any (ops := [.ref s3.heap.objs.size, v]) ht hT hg (by with_unfolding_all rfl)

/-- the items of xs[lo:hi] -/
def cutV (xs : List V) (lo hi : Option Int) : List V := (xs.drop (HT.sIx xs.length 0 lo)).take (HT.sIx xs.length xs.length hi - HT.sIx xs.length 0 lo)
theorem cutV_length (xs : List V) (lo hi : Option Int) : (cutV xs lo hi).length ≤ xs.length := by
  unfold cutV
  rw [List.length_take, List.length_drop]
  omega
/-- t[lo:hi], not the whole of it (the whole would be t itself) -/
inductive rSlTI (K : PySem.W.Frag) (x : V) (lo : Option Int) (hi : Option Int) (H : Hp) (Q : VK) : Prop
  | mk (a : _) (xs : _) (h0_ : x = .ref a) (h1_ : SqT K H a xs) (h2_ : ¬ (HT.sIx xs.length 0 lo = 0 ∧ HT.sIx xs.length xs.length hi = xs.length)) (h3_ : ∀ p, H p = none → Q (.ref p) (upd H p (.tup (cutV xs lo hi)))) : rSlTI K x lo hi H Q
def rSlT (K : PySem.W.Frag) : V → Option Int → Option Int → Hp → VK → Prop := fun x lo hi H Q => rSlTI K x lo hi H Q
theorem sl_tup : SlR X (rSlT X.K) := by
  intro pins s σ H x v vl vu lo hi sl Q I rx hs pl pu h
  obtain ⟨a, xs, rfl, hx, hw, q⟩ := h
  cases rx
  obtain ⟨its, r, ht, hz⟩ := I.tuple hx
  have hlen : its.toArray.size = xs.length := by rw [List.size_toArray]; exact r.length.symm
  refine ⟨"tuple", _, PyProof.Rows.slot_tuple_getitem.lookup, ht.typeIs, ?_⟩
  refine HT.getItem_tuple_cut ht hs pl pu (by rw [hlen]; exact hw) ?_ (by rw [hlen]; exact hz)
  rw [hlen]
  refine ⟨.ref s.heap.objs.size, _, I.laid (t' := s.toks) (o := .tup (cutV xs lo hi)) (fun b ob q => Heap.get?_push_of_some _ q) (Nat.le_refl _) ?_, rfl, q _ (I.hok.fresh (Nat.le_refl _))⟩
  exact ⟨Nat.le_trans (cutV_length xs lo hi) hz, _, (r.drop (HT.sIx xs.length 0 lo)).take (HT.sIx xs.length xs.length hi - HT.sIx xs.length 0 lo), IsTup.new _ _⟩

/-! ### t < u, t + u -/
def rLtT (K : PySem.W.Frag) : R2 := fun x y H Q => ∃ a b ns ms, x = .ref a ∧ y = .ref b ∧ SqT K H a (ns.map V.int) ∧ SqT K H b (ms.map V.int) ∧ Q (.bl (HT.lexLt ns ms)) H
/-- t + u, t not empty: u empty gives t itself -/
def rCatT (K : PySem.W.Frag) : R2 := fun x y H Q => ∃ a b xs ys, x = .ref a ∧ y = .ref b ∧ SqT K H a xs ∧ SqT K H b ys ∧ xs ≠ [] ∧ xs.length + ys.length ≤ sizeLine ∧
  (ys = [] → Q (.ref a) H) ∧ (ys ≠ [] → ∀ p, H p = none → Q (.ref p) (upd H p (.tup (xs ++ ys))))
end
end L2

namespace L2
open PySem PySem.Spec PyProof.Rows

/-! ### places -/
/-- the place that an index of any sign means -/
def ixN (n : Nat) (i : Int) : Option Nat := if 0 ≤ i then (if i < n then some i.toNat else none) else if -(n : Int) ≤ i then some (i + n).toNat else none
def atI {α : Type} (xs : List α) (i : Int) : Option α := (ixN xs.length i).bind fun j => xs[j]?
theorem ixN_seq {n : Nat} {i : Int} {j : Nat} (h : ixN n i = some j) : seqIndex? i n = some j ∧ j < n ∧ -(n : Int) ≤ i ∧ i < n := by
  unfold ixN at h
  by_cases h0 : 0 ≤ i
  · rw [if_pos h0] at h
    by_cases h1 : i < n
    · rw [if_pos h1] at h
      have e : i.toNat = j := Option.some.inj h
      exact ⟨by rw [seqIndex_of h0 h1, e], by omega, by omega, h1⟩
    · rw [if_neg h1] at h; cases h
  · rw [if_neg h0] at h
    by_cases h1 : -(n : Int) ≤ i
    · rw [if_pos h1] at h
      have e : (i + n).toNat = j := Option.some.inj h
      exact ⟨by rw [seqIndex_neg (by omega) h1, e], by omega, h1, by omega⟩
    · rw [if_neg h1] at h; cases h
theorem atI_get {α : Type} {xs : List α} {i : Int} {v : α} (h : atI xs i = some v) : ∃ j, seqIndex? i xs.length = some j ∧ xs[j]? = some v ∧ j < xs.length ∧ -(xs.length : Int) ≤ i ∧ i < xs.length := by
  unfold atI at h
  cases e : ixN xs.length i with
  | none => rw [e] at h; cases h
  | some j =>
    rw [e] at h
    obtain ⟨h1, h2, h3, h4⟩ := ixN_seq e
    exact ⟨j, h1, h, h2, h3, h4⟩
theorem atI_nat {α : Type} {xs : List α} {j : Nat} {v : α} (h : xs[j]? = some v) : atI xs (j : Int) = some v := by
  have hj : j < xs.length := (List.getElem?_eq_some_iff.mp h).1
  have e : ixN xs.length (j : Int) = some j := by
    unfold ixN
    rw [if_pos (by omega), if_pos (by omega)]; simp
  unfold atI; rw [e]; exact h
/-! ### what may be subscripted -/
/-- what stands as an index of a plain subscript -/
def PlainIx (b : Expr) : Prop := ∀ o i, subscripted b false o i = operate [o, i] (getItem o i)
/-- a subscript by values -/
def IxR (X : Cx) (r : R2) : Prop :=
  ∀ (value slice : Expr) (pins : List (Addr × Obj)) (s : Shared) (σ : St) (H : Hp) (x y : V) (v u : Value) (Q : VK), Inv X pins σ H s → RelV x v → RelV y u → r x y H Q →
    subscripted slice false v u = operate [v, u] (getItem v u) → wpAny (model X.prog X.w) X.A (subscriptTail value slice v u) (EP X pins σ Q) X.xe s
/-- a call of a builtin's method by values: the receiver, the arguments -/
def MtR (X : Cx) (id : String) (r : V → List V → Hp → VK → Prop) : Prop :=
  ∀ (pins : List (Addr × Obj)) (s : Shared) (σ : St) (H : Hp) (x : V) (xs : List V) (v : Value) (us : List Value) (Q : VK), Inv X pins σ H s → RelV x v → Vals xs us → r x xs H Q →
    wpAny (model X.prog X.w) X.A (call (.builtin id) (v :: us)) (EP X pins σ Q) X.xe s
section
variable {X : Cx} {a b : Expr} {ta tb : TE} {pos : Pos}
theorem IxR.or {r r' : R2} (h : IxR X r) (h' : IxR X r') : IxR X (fun x y H Q => r x y H Q ∨ r' x y H Q) := by
  intro value slice pins s σ H x y v u Q I rx ry q hs
  rcases q with q | q
  · exact h value slice pins s σ H x y v u Q I rx ry q hs
  · exact h' value slice pins s σ H x y v u Q I rx ry q hs
/-- a[b] -/
theorem pe_ix {r : R2} (hr : IxR X r) (ha : PE X a ta) (hb : PE X b tb) (hs : PlainIx b) : PE X (.Subscript a b pos) (tOp r ta tb) := by
  intro pins s σ H Q I h
  exact Subscript_ (binT ha hb I h fun v u s2 x y H2 I2 rx ry q => hr a b pins s2 σ H2 x y v u Q I2 rx ry q (hs _ _))

inductive rIxLI (K : PySem.W.Frag) (x : V) (y : V) (H : Hp) (Q : VK) : Prop
  | mk (p : _) (xs : _) (i : _) (v : _) (h0_ : x = .ref p) (h1_ : y = .int i) (h2_ : SqL K H p xs) (h3_ : atI xs i = some v) (h4_ : Q v H) : rIxLI K x y H Q
def rIxL (K : PySem.W.Frag) : R2 := fun x y H Q => rIxLI K x y H Q
inductive rIxTI (K : PySem.W.Frag) (x : V) (y : V) (H : Hp) (Q : VK) : Prop
  | mk (p : _) (xs : _) (i : _) (v : _) (h0_ : x = .ref p) (h1_ : y = .int i) (h2_ : SqT K H p xs) (h3_ : atI xs i = some v) (h4_ : Q v H) : rIxTI K x y H Q
def rIxT (K : PySem.W.Frag) : R2 := fun x y H Q => rIxTI K x y H Q
inductive rIxSI (x : V) (y : V) (H : Hp) (Q : VK) : Prop
  | mk (z : _) (i : _) (c : _) (h0_ : x = .str z) (h1_ : y = .int i) (h2_ : z.length ≤ sizeLine) (h3_ : atI z.cps.toList i = some c) (h4_ : Q (.str ⟨#[c]⟩) H) : rIxSI x y H Q
def rIxS  : R2 := fun x y H Q => rIxSI x y H Q
theorem ix_list : IxR X (rIxL X.K) := by
  intro value slice pins s σ H x y v u Q I rx ry h hs
  obtain ⟨p, xs, i, z, rfl, rfl, hq, he, q⟩ := h
  cases rx
  obtain ⟨t, rfl⟩ := ry
  obtain ⟨its, r, pl, hz⟩ := I.list hq
  obtain ⟨j, h1, h2, h3, h4, h5⟩ := atI_get he
  obtain ⟨w, ew, rw'⟩ := r.get h2
  have hl := r.length
  have hn := line63
  have fin : EP X pins σ Q w s := ⟨z, H, I, rw', q⟩
  by_cases h0 : 0 ≤ i
  · have hj : i.toNat = j := by
      rw [seqIndex_of h0 h5] at h1
      exact Option.some.inj h1
    exact item_listR pl.isList h0 (by omega) (by rw [hj]; simpa using ew) fin hs
  · have hj : (i + (its.toArray.size : Int)).toNat = j := by
      rw [seqIndex_neg (by omega) h4] at h1
      rw [List.size_toArray, ← hl]
      exact Option.some.inj h1
    exact subscriptTail_builtinR (x := w) pl.isList.typeIs slot_list_getitem.lookup
      (wpAny_getItem_list_neg (Q := fun r s' => r = w ∧ EP X pins σ Q r s') pl.isList (by omega) (by rw [List.size_toArray] <;> omega) (by omega) (by rw [hj]; simpa using ew) ⟨rfl, fin⟩) hs
theorem ix_tup : IxR X (rIxT X.K) := by
  intro value slice pins s σ H x y v u Q I rx ry h hs
  obtain ⟨p, xs, i, z, rfl, rfl, hq, he, q⟩ := h
  cases rx
  obtain ⟨t, rfl⟩ := ry
  obtain ⟨its, r, pl, hz⟩ := I.tuple hq
  obtain ⟨j, h1, h2, h3, h4, h5⟩ := atI_get he
  obtain ⟨w, ew, rw'⟩ := r.get h2
  have hl := r.length
  have hn := line63
  have fin : EP X pins σ Q w s := ⟨z, H, I, rw', q⟩
  exact subscriptTail_builtinR (x := w) pl.typeIs slot_tuple_getitem.lookup
    (getItem_tuple (j := j) (Q := fun r s' => r = w ∧ EP X pins σ Q r s') pl (by omega) (by omega) (by rw [List.size_toArray, ← hl]; exact h1) (by simpa using ew) ⟨rfl, fin⟩) hs
theorem ix_str : IxR X rIxS := by
  intro value slice pins s σ H x y v u Q I rx ry h hs
  obtain ⟨z, i, c, rfl, rfl, hz, he, q⟩ := h
  obtain ⟨t, rfl⟩ := rx
  obtain ⟨t', rfl⟩ := ry
  obtain ⟨j, h1, h2, h3, h4, h5⟩ := atI_get he
  have hl : z.cps.toList.length = z.length := by simp [Str.length]
  rw [hl] at h1 h4 h5
  have hn := line63
  exact tail_any (typeIs_str s z t) slot_str_getitem.lookup (getItem_str (c := c) (by
    have e1 : decide (i < -(2 ^ 63 : Int)) = false := decide_eq_false (by omega)
    have e2 : decide (i ≥ 2 ^ 63) = false := decide_eq_false (by omega)
    rw [e1, e2, Bool.or_false]) (by rw [h1]; simpa using h2) ⟨.str ⟨#[c]⟩, H, I.tok _, ⟨_, rfl⟩, q⟩) hs
/-- list, tuple or str -/
def rIx (K : PySem.W.Frag) : R2 := fun x y H Q => rIxL K x y H Q ∨ rIxT K x y H Q ∨ rIxS x y H Q
theorem ix_seq : IxR X (rIx X.K) := ix_list.or (ix_tup.or ix_str)

/-! ### xs[i] = v, any sign -/
inductive rSetLI (o : V) (i : V) (v : V) (H : Hp) (Q : (Hp → Prop)) : Prop
  | mk (p : _) (xs : _) (k : _) (j : _) (h0_ : o = .ref p) (h1_ : i = .int k) (h2_ : H p = some (.lst xs)) (h3_ : ixN xs.length k = some j) (h4_ : Q (upd H p (.lst (xs.set j v)))) : rSetLI o i v H Q
def rSetL  : V → V → V → Hp → (Hp → Prop) → Prop := fun o i v H Q => rSetLI o i v H Q
/-! ### slices -/
theorem slice_bounds (lo hi : Option Int) (n : Nat) : (sliceBounds lo hi none n).1 = ((HT.sIx n 0 lo : Nat) : Int) ∧ (sliceBounds lo hi none n).2.1 = ((HT.sIx n n hi : Nat) : Int) ∧ (sliceBounds lo hi none n).2.2 = 1 := by
  refine ⟨?_, ?_, rfl⟩
  · cases lo with
    | none => simp [sliceBounds, HT.sIx]
    | some i =>
      simp only [sliceBounds, HT.sIx, Option.getD_none, show (1 : Int) > 0 by decide, if_true]
      by_cases h : i < 0
      · simp only [h, if_true] <;> omega
      · simp only [h, if_false] <;> omega
  · cases hi with
    | none => simp [sliceBounds, HT.sIx]
    | some i =>
      simp only [sliceBounds, HT.sIx, Option.getD_none, show (1 : Int) > 0 by decide, if_true]
      by_cases h : i < 0
      · simp only [h, if_true] <;> omega
      · simp only [h, if_false] <;> omega
theorem slicePick_cut (its : List Value) (lo hi : Option Int) : slicePick its.toArray lo hi none = ((its.drop (HT.sIx its.length 0 lo)).take (HT.sIx its.length its.length hi - HT.sIx its.length 0 lo)).toArray := by
  obtain ⟨h1, h2, h3⟩ := slice_bounds lo hi its.toArray.size
  unfold slicePick
  rw [h1, h2, h3]
  simp only [sliceRange_one, pick_run, List.size_toArray] <;> rfl
/-- xs[lo:hi] of a list: a new list -/
inductive rSlLI (K : PySem.W.Frag) (x : V) (lo : Option Int) (hi : Option Int) (H : Hp) (Q : VK) : Prop
  | mk (a : _) (xs : _) (h0_ : x = .ref a) (h1_ : SqL K H a xs) (h2_ : ∀ p, H p = none → Q (.ref p) (upd H p (.lst (cutV xs lo hi)))) : rSlLI K x lo hi H Q
def rSlL (K : PySem.W.Frag) : V → Option Int → Option Int → Hp → VK → Prop := fun x lo hi H Q => rSlLI K x lo hi H Q
theorem sl_list : SlR X (rSlL X.K) := by
  intro pins s σ H x v vl vu lo hi sl Q I rx hs pl pu h
  obtain ⟨a, xs, rfl, hx, q⟩ := h
  cases rx
  obtain ⟨its, r, ht, hz⟩ := I.list hx
  have hlen := r.length
  refine ⟨"list", _, slot_list_getitem.lookup, ht.isList.typeIs, ?_⟩
  refine wpAny_getItem_list_slice ht.isList hs pl pu .none (by simp) ?_ (by rw [List.size_toArray] <;> omega)
  rw [slicePick_cut, ← hlen]
  refine ⟨.ref s.heap.objs.size, _, I.laid (t' := s.toks) (o := .lst (cutV xs lo hi)) (fun b ob q => Heap.get?_push_of_some _ q) (Nat.le_refl _) ?_, rfl, q _ (I.hok.fresh (Nat.le_refl _))⟩
  exact ⟨Nat.le_trans (cutV_length xs lo hi) hz, _, 0, (r.drop (HT.sIx xs.length 0 lo)).take (HT.sIx xs.length xs.length hi - HT.sIx xs.length 0 lo), Heap.get?_push_size _ rfl⟩

/-! ### in, not in: flat items -/
def flatV : V → Bool
  | .non => true
  | .bl _ => true
  | .int _ => true
  | .str _ => true
  | _ => false
/-- == of flat values -/
def eqV : V → V → Bool
  | .non, .non => true
  | .bl a, .bl b => a == b
  | .bl a, .int b => (if a then 1 else 0) == b
  | .int a, .bl b => a == (if b then 1 else 0)
  | .int a, .int b => a == b
  | .str a, .str b => a == b
  | _, _ => false
theorem eqAt_V {A : Around} {s : Shared} {y x : V} {u v : Value} (ry : RelV y u) (rx : RelV x v) (fy : flatV y = true) (fx : flatV x = true) : SeqAt.EqAt A s u v (eqV y x) := by
  cases y with
  | non =>
    cases ry
    cases x with
    | non => cases rx; exact SeqAt.EqAt.same _
    | bl b => cases rx; exact SeqAt.EqAt.none_bool b
    | int b => obtain ⟨t, rfl⟩ := rx; exact SeqAt.EqAt.none_int b t
    | str b => obtain ⟨t, rfl⟩ := rx; exact SeqAt.EqAt.none_str b t
    | _ => exact absurd (show false = true from fx) Bool.false_ne_true
  | bl a =>
    cases ry
    cases x with
    | non => cases rx; exact SeqAt.EqAt.bool_none a
    | bl b => cases rx; exact SeqAt.EqAt.bool_bool a b
    | int b => obtain ⟨t, rfl⟩ := rx; exact SeqAt.EqAt.bool_int a b t
    | str b => obtain ⟨t, rfl⟩ := rx; exact SeqAt.EqAt.bool_str a b t
    | _ => exact absurd (show false = true from fx) Bool.false_ne_true
  | int a =>
    obtain ⟨t', rfl⟩ := ry
    cases x with
    | non => cases rx; exact SeqAt.EqAt.int_none a t'
    | bl b => cases rx; exact SeqAt.EqAt.int_bool a t' b
    | int b => obtain ⟨t, rfl⟩ := rx; exact SeqAt.EqAt.int_int a t' b t
    | str b => obtain ⟨t, rfl⟩ := rx; exact SeqAt.EqAt.int_str a t' b t
    | _ => exact absurd (show false = true from fx) Bool.false_ne_true
  | str a =>
    obtain ⟨t', rfl⟩ := ry
    cases x with
    | non => cases rx; exact SeqAt.EqAt.str_none a t'
    | bl b => cases rx; exact SeqAt.EqAt.str_bool a t' b
    | int b => obtain ⟨t, rfl⟩ := rx; exact SeqAt.EqAt.str_int a t' b t
    | str b => obtain ⟨t, rfl⟩ := rx; exact SeqAt.EqAt.str_str a t' b t
    | _ => exact absurd (show false = true from fx) Bool.false_ne_true
  | _ => exact absurd (show false = true from fy) Bool.false_ne_true
/-- the items' answers, read off the values (a value's own answer does not lean on its token) -/
def eqU (x : V) (u : Value) : Bool := match u with
  | .none => eqV .non x
  | .bool b => eqV (.bl b) x
  | .int i _ => eqV (.int i) x
  | .str z _ => eqV (.str z) x
  | _ => false
theorem eqU_of {x y : V} {u : Value} (r : RelV y u) (f : flatV y = true) : eqU x u = eqV y x := by
  cases y with
  | non => cases r; rfl
  | bl b => cases r; rfl
  | int i => obtain ⟨t, rfl⟩ := r; rfl
  | str z => obtain ⟨t, rfl⟩ := r; rfl
  | _ => exact absurd (show false = true from f) Bool.false_ne_true
theorem any_eqU {x : V} : ∀ {xs : List V} {us : List Value}, Vals xs us → xs.all flatV = true → us.any (eqU x) = xs.any fun y => eqV y x
  | _, _, .nil, _ => rfl
  | y :: xs, u :: us, .cons r t, f => by
    rw [List.all_cons, Bool.and_eq_true] at f
    rw [List.any_cons, List.any_cons, eqU_of r f.1, any_eqU t f.2]
theorem mem_eqAt {A : Around} {s : Shared} {x : V} {v : Value} (rx : RelV x v) (fx : flatV x = true) : ∀ {xs : List V} {us : List Value}, Vals xs us → xs.all flatV = true → ∀ u ∈ us, SeqAt.EqAt A s u v (eqU x u)
  | _, _, .nil, _ => fun u hu => by cases hu
  | y :: xs, u :: us, .cons r t, f => fun u' hu => by
    rw [List.all_cons, Bool.and_eq_true] at f
    rcases List.mem_cons.mp hu with rfl | hu
    · rw [eqU_of r f.1]; exact eqAt_V r rx f.1 fx
    · exact mem_eqAt rx fx t f.2 u' hu
def inV (x : V) (xs : List V) : Bool := xs.any fun y => eqV y x
/-- x in a list or tuple of flat items -/
inductive rInI (K : PySem.W.Frag) (neg : Bool) (x : V) (y : V) (H : Hp) (Q : VK) : Prop
  | mk (p : _) (xs : _) (h0_ : y = .ref p) (h1_ : (SqL K H p xs ∨ SqT K H p xs)) (h2_ : flatV x = true) (h3_ : xs.all flatV = true) (h4_ : Q (.bl (if neg then !inV x xs else inV x xs)) H) : rInI K neg x y H Q
def rIn (K : PySem.W.Frag) (neg : Bool) : R2 := fun x y H Q => rInI K neg x y H Q
theorem op_in_seq : OpR X (compareOp .In) (rIn X.K false) := by
  intro pins s σ H x y v u Q I rx ry h
  obtain ⟨p, xs, rfl, hq, fx, fs, q⟩ := h
  cases ry
  rcases hq with hq | hq
  · obtain ⟨its, r, pl, hz⟩ := I.list hq
    refine SeqAt.in_listAt (eqU x) pl.isList (fun w hw => mem_eqAt rx fx r fs w (by simpa using hw)) ⟨.bl _, H, I, rfl, ?_⟩
    rw [show its.toArray.any (eqU x) = its.any (eqU x) by simp, any_eqU r fs]
    exact q
  · obtain ⟨its, r, pl, hz⟩ := I.tuple hq
    refine SeqAt.in_tupleAt (eqU x) pl (fun w hw => mem_eqAt rx fx r fs w (by simpa using hw)) ⟨.bl _, H, I, rfl, ?_⟩
    rw [show its.toArray.any (eqU x) = its.any (eqU x) by simp, any_eqU r fs]
    exact q
theorem op_notIn_seq : OpR X (compareOp .NotIn) (rIn X.K true) := by
  intro pins s σ H x y v u Q I rx ry h
  obtain ⟨p, xs, rfl, hq, fx, fs, q⟩ := h
  cases ry
  rcases hq with hq | hq
  · obtain ⟨its, r, pl, hz⟩ := I.list hq
    refine SeqAt.notIn_listAt (eqU x) pl.isList (fun w hw => mem_eqAt rx fx r fs w (by simpa using hw)) ⟨.bl _, H, I, rfl, ?_⟩
    rw [show its.toArray.any (eqU x) = its.any (eqU x) by simp, any_eqU r fs]
    exact q
  · obtain ⟨its, r, pl, hz⟩ := I.tuple hq
    refine SeqAt.notIn_tupleAt (eqU x) pl (fun w hw => mem_eqAt rx fx r fs w (by simpa using hw)) ⟨.bl _, H, I, rfl, ?_⟩
    rw [show its.toArray.any (eqU x) = its.any (eqU x) by simp, any_eqU r fs]
    exact q
theorem op_notIn_str : OpR X (compareOp .NotIn) (fun x y H Q => ∃ i j, x = .str i ∧ y = .str j ∧ Q (.bl (!(!(Builtin.Str.occurrences j i 0 j.length 1).isEmpty))) H) := by
  intro pins s σ H x y v u Q I rx ry h
  obtain ⟨i, j, rfl, rfl, q⟩ := h
  obtain ⟨t, rfl⟩ := rx
  obtain ⟨t', rfl⟩ := ry
  exact notIn_str ⟨.bl _, H, I, rfl, q⟩

/-! ### len, list(x), tuple(x) of any list or tuple that is read -/
theorem call_len_seq : CallR X (.builtin "len") (fun xs H Q => ∃ p ys, xs = [.ref p] ∧ (SqL X.K H p ys ∨ SqT X.K H p ys) ∧ Q (.int ys.length) H) := by
  intro pins s σ H xs us Q I r h
  obtain ⟨p, ys, rfl, hq, q⟩ := h
  obtain ⟨u, rfl, rx⟩ := vals1 r
  cases rx
  have hn := line63
  rcases hq with hq | hq
  · obtain ⟨its, r', pl, hz⟩ := I.list hq
    have hlen := r'.length
    exact Calls.call_len_list pl.isList (by simp only [List.size_toArray] <;> omega) ⟨.int ys.length, H, I.tok _, ⟨s.toks + 1, by rw [List.size_toArray, hlen]⟩, q⟩
  · obtain ⟨its, r', pl, hz⟩ := I.tuple hq
    have hlen := r'.length
    exact len_tuple pl (by simp only [List.size_toArray] <;> omega) ⟨.int ys.length, H, I.tok _, ⟨s.toks + 1, by rw [List.size_toArray, hlen]⟩, q⟩
theorem call_len_str : CallR X (.builtin "len") (fun xs H Q => ∃ z, xs = [.str z] ∧ z.length ≤ sizeLine ∧ Q (.int z.length) H) := by
  intro pins s σ H xs us Q I r h
  obtain ⟨z, rfl, hz, q⟩ := h
  obtain ⟨u, rfl, t, rfl⟩ := vals1 r
  have hn := line63
  exact len_str (by omega) ⟨.int z.length, H, I.tok _, ⟨_, rfl⟩, q⟩
theorem CallR.or {f : Value} {r r' : List V → Hp → VK → Prop} (h : CallR X f r) (h' : CallR X f r') : CallR X f (fun xs H Q => r xs H Q ∨ r' xs H Q) := by
  intro pins s σ H xs us Q I rs q
  rcases q with q | q
  · exact h pins s σ H xs us Q I rs q
  · exact h' pins s σ H xs us Q I rs q
/-! ### the call of a builtin's method: o.m(..) -/
/-- the value is of that builtin type -/
def tyV (K : PySem.W.Frag) (T : String) (x : V) (H : Hp) : Prop := match x with
  | .str _ => T = "str"
  | .int _ => T = "int"
  | .ref p => (T = "list" ∧ ∃ xs, SqL K H p xs) ∨ (T = "tuple" ∧ ∃ o, K.lookup p = some o ∧ o.cls = .type "tuple" ∧ o.dict = none) ∨
      (T = "dict" ∧ ((∃ kvs, H p = some (.dK kvs)) ∨ ∃ kvs, H p = some (.dT kvs))) ∨ (T = "set" ∧ ∃ S n, H p = some (.set S n))
  | _ => False
theorem tyV_is {pins : List (Addr × Obj)} {σ : St} {H : Hp} {s : Shared} {T : String} {x : V} {v : Value} (I : Inv X pins σ H s) (r : RelV x v) (ty : tyV X.K T x H) :
    s.TypeIs v T ∧ ∀ a, v = .ref a → ∃ ob, s.heap.get? a = some ob ∧ ob.dict = none := by
  cases x with
  | str z =>
    obtain ⟨t, rfl⟩ := r
    cases (show T = "str" from ty)
    exact ⟨typeIs_str s z t, fun _ e => nomatch e⟩
  | int i =>
    obtain ⟨t, rfl⟩ := r
    cases (show T = "int" from ty)
    exact ⟨typeIs_int s i t, fun _ e => nomatch e⟩
  | ref p =>
    cases r
    rcases ty with ⟨rfl, xs, hq⟩ | ⟨rfl, o, hk, hc, hd⟩ | ⟨rfl, hk⟩ | ⟨rfl, S, n, hk⟩
    · obtain ⟨its, _, pl, _⟩ := I.list hq
      refine ⟨pl.isList.typeIs, fun a e => ?_⟩
      cases e
      obtain ⟨o, n, e, c, hd, _⟩ := pl
      exact ⟨o, e, hd⟩
    · refine ⟨⟨o, I.kIn p o hk, hc⟩, fun a e => ?_⟩
      cases e
      exact ⟨o, I.kIn _ o hk, hd⟩
    · have z : ∃ o, s.heap.get? p = some o ∧ o.ExactDict := by
        rcases hk with ⟨kvs, hk⟩ | ⟨kvs, hk⟩
        · obtain ⟨_, _, _, _, o, _, _, e, ex, _⟩ := I.hok p _ hk
          exact ⟨o, e, ex⟩
        · obtain ⟨_, _, _, _, o, _, _, e, ex, _⟩ := I.hok p _ hk
          exact ⟨o, e, ex⟩
      obtain ⟨o, e, ex⟩ := z
      refine ⟨⟨o, e, ex.1⟩, fun a e2 => ?_⟩
      cases e2
      exact ⟨o, e, ex.2.1⟩
    · obtain ⟨o, _, _, _, e, ex, _⟩ := I.hok p _ hk
      refine ⟨⟨o, e, ex.1⟩, fun a e2 => ?_⟩
      cases e2
      exact ⟨o, e, ex.2.1⟩
  | _ => exact False.elim ty
def tBM0 (K : PySem.W.Frag) (T : String) (r : V → List V → Hp → VK → Prop) (to : TE) : TE := fun σ H Q => to σ H fun x H1 => tyV K T x H1 ∧ r x [] H1 Q
def tBM (K : PySem.W.Frag) (T : String) (r : V → List V → Hp → VK → Prop) (to : TE) (t : TA) : TE := fun σ H Q => to σ H fun x H1 => tyV K T x H1 ∧ t σ H1 fun xs H2 => r x xs H2 Q
variable {o e : Expr} {es : List Expr} {to : TE} {t : TA} {name : Str} {apos cpos : Pos} {T id : String} {r : V → List V → Hp → VK → Prop}
theorem pe_bm (pa : PlainAttrs T) (slot : Slot T name id) (hty : typeOf (.builtin id) = pure (.type "method_descriptor")) (hm : MtR X id r) (ho : PE X o to) (ha : PA X (e :: es) t)
    (hbase : attributeBase o name X.env (eval o X.env) = eval o X.env := by rfl)
    (hfew : ((backTo cpos (starEach (e :: es) X.env)).all (fun x => !x.1) && (backToKw cpos (keywordEach [] X.env)).all (fun x => x.1.isSome)
      && decide ((e :: es).length + ([] : List Keyword).length + (if ([] : List Keyword).isEmpty then 0 else 1) < 30)) = true := by rfl)
    (hline : (apos.endLine == cpos.line) = true := by rfl) (hs : starEach (e :: es) X.env = (false, eval e X.env) :: starEach es X.env := by rfl) (hplain : (backTo cpos (starEach es X.env)).any (·.1) = false := by rfl) :
    PE X (.Call (.Attribute o name apos) (e :: es) [] cpos) (tBM X.K T r to t) := by
  intro pins s σ H Q I h
  refine wpAny_Call_method_late hbase hfew hline rfl (thn (ho pins s σ H _ I h) fun v s1 ⟨x, H1, I1, r1, ty, q1⟩ => ?_)
  obtain ⟨h1, h2⟩ := tyV_is I1 r1 ty
  refine ⟨T, id, pa, slot, hty, h1, h2, ?_⟩
  have hA := ha cpos pins s1 σ H1 _ I1 q1
  rw [hs] at hA ⊢
  refine Calls.callWith_builtin (by show (false || (backTo cpos (starEach es X.env)).any (·.1)) = false; rw [hplain] <;> rfl) (Calls.evalArgs_plain ?_)
  exact thn hA fun us s2 ⟨vs, H2, I2, r2, q2⟩ => hm pins s2 σ H2 x vs v us Q I2 r1 r2 q2
/- xs.append(e), list.index on a module's tuple .. are MtR facts of 06m -/
end
end L2

namespace L2
open PySem PySem.Spec PyProof.Rows

def MtM (X : Cx) (id : String) (r : V → List V → Hp → VK → Prop) : Prop :=
  ∀ (pins : List (Addr × Obj)) (s : Shared) (σ : St) (H : Hp) (x : V) (xs : List V) (v : Value) (us : List Value) (Q : VK), Inv X pins σ H s → RelV x v → Vals xs us → r x xs H Q →
    wpAny (model X.prog X.w) X.A (call (.builtin id) (v :: us)) (EP X pins σ Q) X.xe s

/-! ### lists of values -/
theorem Vals.one : ∀ {x : V} {us : List Value}, Vals [x] us → ∃ u, us = [u] ∧ RelV x u
  | _, _, .cons r .nil => ⟨_, rfl, r⟩
theorem Vals.two : ∀ {x y : V} {us : List Value}, Vals [x, y] us → ∃ u v, us = [u, v] ∧ RelV x u ∧ RelV y v
  | _, _, _, .cons r (.cons q .nil) => ⟨_, _, rfl, r, q⟩
theorem Vals.rep {xs : List V} {us : List Value} (h : Vals xs us) : ∀ k : Nat, Vals (List.replicate k xs).flatten (List.replicate k us).flatten
  | 0 => .nil
  | k + 1 => by
    rw [List.replicate_succ, List.replicate_succ, List.flatten_cons, List.flatten_cons]
    exact Vals.append h (Vals.rep h k)
theorem foldl_rep (its : List Value) : ∀ (k : Nat) (acc : List Value),
    List.foldl (fun x1 x2 => x1 ++ x2) acc.toArray (List.replicate k its.toArray) = (acc ++ (List.replicate k its).flatten).toArray
  | 0, acc => by simp
  | k + 1, acc => by
    have e : acc.toArray ++ its.toArray = (acc ++ its).toArray := by simp
    have e2 : (acc ++ its) ++ (List.replicate k its).flatten = acc ++ (List.replicate (k + 1) its).flatten := by
      rw [List.replicate_succ, List.flatten_cons, List.append_assoc]
    rw [← e2, ← foldl_rep its k (acc ++ its), ← e, List.replicate_succ, List.foldl_cons]

section
variable {X : Cx} {pins : List (Addr × Obj)} {σ : St} {H : Hp} {s : Shared} {l b : Addr} {xs ys zs : List V}

/-! ### the two steps: a tracked list is rewritten, a new list is laid -/
theorem Inv.lset {its its' : List Value} {n : Nat} {f : Array Value → Array Value} {t' : Nat} (I : Inv X pins σ H s) (hH : H l = some (.lst xs))
    (e : s.heap.get? l = some { cls := .type "list", data := .seq its.toArray n }) (hf : f its.toArray = its'.toArray) (hv : Vals ys its') (hz : ys.length ≤ sizeLine) :
    Inv X pins σ (upd H l (.lst ys)) { s with heap := s.heap.update l (Obj.mapSeq f), toks := t' } := by
  have q := PySem.IsL.update e f
  rw [hf] at q
  refine I.write (x := l) (e := l) (by rw [hH]; exact trivial) (.inl rfl) (fun b' u hb hu => (Heap.get?_update_other s.heap (Obj.mapSeq f) (Ne.symm hb)).trans hu) ⟨_, q⟩ ?_
  exact ⟨hz, its', _, hv, q⟩
theorem Inv.lnew {its : List Value} {t' : Nat} (I : Inv X pins σ H s) (hv : Vals ys its) (hz : ys.length ≤ sizeLine) :
    Inv X pins σ (upd H s.heap.objs.size (.lst ys)) { s with heap := s.heap.push { cls := .type "list", data := .seq its.toArray }, toks := t' } :=
  I.laid (fun _ _ q => Heap.get?_push_of_some _ q) (Nat.le_refl _) ⟨hz, its, 0, hv, Heap.get?_push_size _ rfl⟩
theorem Inv.fresh (I : Inv X pins σ H s) : H s.heap.objs.size = none := I.hok.fresh (Nat.le_refl _)
theorem Inv.lstM (I : Inv X pins σ H s) (hH : H l = some (.lst xs)) : xs.length ≤ sizeLine ∧ ∃ (its : List Value) (n : Nat), Vals xs its ∧ xs.length = its.length ∧ s.heap.get? l = some { cls := .type "list", data := .seq its.toArray n } := by
  obtain ⟨z, its, n, r, e⟩ := I.hok l _ hH
  exact ⟨z, its, n, r, r.length, e⟩

theorem notLongL {n : Nat} (h : n ≤ sizeLine) : Builtin.List.listTooLong n = false := by
  unfold Builtin.List.listTooLong
  exact decide_eq_false (by omega)
end

section
variable {X : Cx}

/-! ### methods -/
inductive rAppendI (x : V) (vs : List V) (H : Hp) (Q : VK) : Prop
  | mk (l : _) (xs : _) (y : _) (h0_ : x = .ref l) (h1_ : vs = [y]) (h2_ : H l = some (.lst xs)) (h3_ : xs.length < sizeLine) (h4_ : Q .non (upd H l (.lst (xs ++ [y])))) : rAppendI x vs H Q
def rAppend  : V → List V → Hp → VK → Prop := fun x vs H Q => rAppendI x vs H Q
theorem mt_append : MtM X "list.append" rAppend := by
  intro pins s σ H x vs v us Q I rx rv h
  obtain ⟨l, xs, y, rfl, rfl, hH, hz, q⟩ := h
  cases rx
  obtain ⟨u, rfl, ru⟩ := rv.one
  obtain ⟨z, its, n, r, hl, e⟩ := I.lstM hH
  refine call_meets F.slot_list_append ⟨_, e, rfl⟩ F.entry_list_append (F.args_list_append_2 _ _) (PySem.list_append l its.toArray n u (by rw [List.size_toArray]; omega)) ⟨e, ?_⟩
  refine ⟨.non, _, I.lset (its' := its ++ [u]) hH e (by simp) (r.append (.cons ru .nil)) ?_, rfl, q⟩
  rw [List.length_append, List.length_singleton]
  omega

def rExtend : V → List V → Hp → VK → Prop := fun x vs H Q => ∃ l b xs zs, x = .ref l ∧ vs = [.ref b] ∧ H l = some (.lst xs) ∧ H b = some (.lst zs) ∧ xs.length + zs.length ≤ sizeLine ∧ Q .non (upd H l (.lst (xs ++ zs)))
inductive rPopI (x : V) (vs : List V) (H : Hp) (Q : VK) : Prop
  | mk (l : _) (xs : _) (y : _) (h0_ : x = .ref l) (h1_ : vs = []) (h2_ : H l = some (.lst xs)) (h3_ : xs[xs.length - 1]? = some y) (h4_ : Q y (upd H l (.lst xs.dropLast))) : rPopI x vs H Q
def rPop  : V → List V → Hp → VK → Prop := fun x vs H Q => rPopI x vs H Q
def rPopAt : V → List V → Hp → VK → Prop := fun x vs H Q => ∃ l xs i k y, x = .ref l ∧ vs = [.int i] ∧ H l = some (.lst xs) ∧ -(2 ^ 63) ≤ i ∧ i < 2 ^ 63 ∧ seqIndex? i xs.length = some k ∧ xs[k]? = some y ∧ Q y (upd H l (.lst (xs.eraseIdx k)))
inductive rReverseI (x : V) (vs : List V) (H : Hp) (Q : VK) : Prop
  | mk (l : _) (xs : _) (h0_ : x = .ref l) (h1_ : vs = []) (h2_ : H l = some (.lst xs)) (h3_ : Q .non (upd H l (.lst xs.reverse))) : rReverseI x vs H Q
def rReverse  : V → List V → Hp → VK → Prop := fun x vs H Q => rReverseI x vs H Q
inductive rClearI (x : V) (vs : List V) (H : Hp) (Q : VK) : Prop
  | mk (l : _) (xs : _) (h0_ : x = .ref l) (h1_ : vs = []) (h2_ : H l = some (.lst xs)) (h3_ : Q .non (upd H l (.lst []))) : rClearI x vs H Q
def rClear  : V → List V → Hp → VK → Prop := fun x vs H Q => rClearI x vs H Q
/-! ### list + list, list += list, list * int -/
inductive rCatI (x : V) (y : V) (H : Hp) (Q : VK) : Prop
  | mk (l : _) (b : _) (xs : _) (zs : _) (h0_ : x = .ref l) (h1_ : y = .ref b) (h2_ : H l = some (.lst xs)) (h3_ : H b = some (.lst zs)) (h4_ : xs.length + zs.length ≤ sizeLine) (h5_ : ∀ p, H p = none → Q (.ref p) (upd H p (.lst (xs ++ zs)))) : rCatI x y H Q
def rCat  : R2 := fun x y H Q => rCatI x y H Q
theorem op_cat : OpR X (binaryOp .Add) rCat := by
  intro pins s σ H x y v u Q I rx ry h
  obtain ⟨l, b, xs, zs, rfl, rfl, hH, hB, hz, q⟩ := h
  cases rx
  cases ry
  obtain ⟨z, its, n, r, hl, e⟩ := I.lstM hH
  obtain ⟨z2, its2, n2, r2, hl2, e2⟩ := I.lstM hB
  refine PySem.P.add_list e e2 ?_ (by rw [List.size_toArray, List.size_toArray]; omega)
  have ea : its.toArray ++ its2.toArray = (its ++ its2).toArray := by simp
  rw [ea]
  exact ⟨.ref _, _, I.lnew (t' := s.toks) (r.append r2) (by rw [List.length_append]; omega), rfl, q _ I.fresh⟩
/-- a list times an int (a negative one is nothing) -/
def rRep : R2 := fun x y H Q => ∃ l k xs, x = .ref l ∧ y = .int k ∧ H l = some (.lst xs) ∧ -(2 ^ 63) ≤ k ∧ k < 2 ^ 63 ∧ xs.length * k.toNat ≤ sizeLine ∧
  ∀ p, H p = none → Q (.ref p) (upd H p (.lst (List.replicate k.toNat xs).flatten))
theorem len_rep {α : Type} (xs : List α) (k : Nat) : (List.replicate k xs).flatten.length = k * xs.length := by
  induction k with
  | zero => simp
  | succ k ih => rw [List.replicate_succ, List.flatten_cons, List.length_append, ih, Nat.succ_mul, Nat.add_comm]
theorem op_rep : OpR X (binaryOp .Mult) rRep := by
  intro pins s σ H x y v u Q I rx ry h
  obtain ⟨l, k, xs, rfl, rfl, hH, h1, h2, hz, q⟩ := h
  cases rx
  obtain ⟨t, rfl⟩ := ry
  obtain ⟨z, its, n, r, hl, e⟩ := I.lstM hH
  have hlen : its.toArray.size * k.toNat ≤ sizeLine := by rw [List.size_toArray, ← hl]; exact hz
  have hcap : ¬ its.toArray.size * k.toNat > (2 ^ 63 - 1) / 8 := by
    have : (sizeLine : Nat) ≤ (2 ^ 63 - 1) / 8 := by decide
    omega
  have hfit : ¬ (!Builtin.List.listFitsIndex k) = true := by
    rw [fitsIndex_both h1 h2]
    exact Bool.false_ne_true
  have hlong : ¬ Builtin.List.listTooLong (its.toArray.size * k.toNat) = true := by
    rw [notLongL hlen]
    exact Bool.false_ne_true
  have hnew : List.foldl (fun x1 x2 => x1 ++ x2) #[] (List.replicate (if its.toArray.isEmpty = true then 0 else k.toNat) its.toArray) = (List.replicate k.toNat its).flatten.toArray := by
    have f0 : ∀ m : Nat, List.foldl (fun x1 x2 => x1 ++ x2) #[] (List.replicate m its.toArray) = (List.replicate m its).flatten.toArray := fun m => by
      have := foldl_rep its m []
      rw [List.nil_append] at this
      exact this
    rw [f0]
    cases its with
    | nil => simp
    | cons a r' => rw [if_neg (by simp)]
  refine wpAny_binaryOp_repeat_ref (T := "list") (U := "int") (by decide) ⟨_, e, rfl⟩ (fun s' => typeIs_int s' k t) noFill_list_mul F.fills_int_mul F.slot_int_rmul repeat_list F.slot_int_index.lookup
    (call_meets F.slot_int_rmul (typeIs_int s k t) F.entry_int_rmul (F.args_int_rmul_2 _ _) (int___rmul___int_list k t l its.toArray n)
      ⟨e, rfl, ⟨_, e, rfl⟩, call_meets F.slot_list_mul ⟨_, e, rfl⟩ F.entry_list_mul (F.args_list_mul_2 _ _) (AutoListH.list___mul___list_int_3 l its.toArray n k t hfit hcap hlong) ⟨e, ?_⟩⟩)
  rw [hnew]
  exact ⟨.ref _, _, I.lnew (t' := s.toks) (r.rep k.toNat) (by rw [len_rep, Nat.mul_comm]; exact hz), rfl, q _ I.fresh⟩

/-! ### del xs[i] -/
end

/-! ### xs[a:b] = ys -/
section
variable {prog : Program} {w : World} {A : Around} {E : Value → Shared → Prop} {s : Shared}
set_option maxRecDepth 100000 in
end

section
variable {X : Cx}
end
end L2

namespace Att
open PySem PySem.W PySem.Calls PyProof.Rows

/-! ### the script -/
theorem ints_of_wellAll {P : Params} {h : Heap} : ∀ (ns : List Int) (vs : List Value), WellAll P h vs (ns.map WData.int) → IntsAre vs ns := by
  intro ns
  induction ns with
  | nil =>
    intro vs w
    rw [List.map_nil] at w
    cases w
    exact .nil
  | cons n ns ih =>
    intro vs w
    rw [List.map_cons] at w
    cases w with
    | cons a b =>
      cases a
      exact .cons _ _ (ih _ b)

theorem script_of {l : OpenLaw} {n : Nat} (hn : l.most = some n) {P : Params} {h : Heap} {args : List WData} {vals : List Value}
    (hpre : l.row.toRowW.claim.pre args = true) (hwl : WellAll P h vals args) :
    ∃ a vs ns, vals = [Value.ref a] ∧ args = [WData.list (ns.map WData.int)] ∧ h.get? a = some { cls := .type "list", data := .seq vs.toArray } ∧ IntsAre vs ns ∧ ns.length ≤ n := by
  have hsh : WShape.hasAll [] args [.list .int] = true := (pre_splitW hpre).1
  have hc : l.pre.holds [] { args := args } = true := (pre_splitW hpre).2
  obtain ⟨d, r, rfl, h1, h2⟩ := hasAllW_cons hsh
  obtain rfl := hasAllW_nil h2
  obtain ⟨xs, rfl, h3⟩ := hasW_list h1
  obtain ⟨ns, rfl⟩ := items_int h3
  have hlen : ns.length ≤ n := by
    unfold OpenLaw.pre at hc
    have h4 : (WTm.not (.lt (.lit (.int (n : Int))) (.len (.arg 0)))).holds [] { args := [.list (ns.map .int)] } = true := by
      have h4 := (holds_andW hc).1
      rw [hn] at h4
      exact h4
    have h5 := condW_of h4 (w_not (w_lt w_lit (w_len_list (w_arg rfl))))
    rw [List.length_map] at h5
    refine Nat.le_of_not_lt fun q => ?_
    have q' : (n : Int) < ((ns.length : Nat) : Int) := by omega
    first
      | (rw [decide_eq_true q'] at h5; exact absurd h5 (by decide))
      | (simp at h5; omega)
  cases hwl with
  | cons w1 w2 =>
    cases w2
    cases w1 with
    | list ho hall => exact ⟨_, _, ns, rfl, rfl, ho, ints_of_wellAll ns _ hall, hlen⟩

theorem post_true (l : OpenLaw) (args : List WData) : l.row.toRowW.claim.post args (.bool true) args = true :=
  postW_of (r := l.row.toRowW) (X := (true == true))
    (show WShape.has [] (.bool true) .bool = true by first | rfl | decide | simp [WShape.has, WShape.arms, WShape.armsAll])
    (show (WTm.eq .res (.lit (.bool true))).value [] { args := args, res := some (.bool true), after := args } = some (.bool (true == true)) from w_eq_bool (w_res rfl) w_lit) rfl

/-! ### the attachment: holds_open's last premise (the goal 'hc' behind k_head) from a wpAny of the law's body -/
/-- the same from a codeAny of the CALL (for a layer whose function contracts speak of calls) -/
theorem attach_call {l : OpenLaw} {n : Nat} {q : Program} {loose : List Str} {XP : (Str → Option Value) → Heap → Prop} {YP : World → Heap → Prop} {d : DefRec}
    (hn : l.most = some n) (hdf : d.params.defaults = [])
    (call : ∀ (w : World) (s₀ s₁ : Shared) (mg mb : Str → Option Value) (fa : Addr) (o : Obj) (pm cd doc : Value) (a : Addr) (vs : List Value) (ns : List Int),
      Ground q loose [] XP w s₀ mg mb s₁.heap → YP w s₁.heap →
      s₁.heap.get? fa = some o → o.data = .func (docDef d.name d.params d.body d.scope pm cd doc) → s₁.heap.CodeRec cd d.name → mg d.name = some (.ref fa) →
      s₁.heap.get? a = some { cls := .type "list", data := .seq vs.toArray } → IntsAre vs ns → ns.length ≤ n → s₁.gens = #[] →
      codeAny (model l.prog w) callerA (.call (.ref fa) ⟨[.ref a], []⟩) (fun r s' => r = .ok (.ret (.bool true)) ∧ OldK s₁.heap s'.heap ∧ s'.os = s₁.os ∧ AllBare s'.gens) s₁) :
    WalkO q loose XP YP l.row.toRowW d [] (fun f vs => PySem.call f vs) := by
  intro w s₀ s₁ mg mb G Y fa o pm cd doc dV kV ho hd hcd hD hmg hg args vals as hpre hlay hrd hwl hlo
  obtain rfl : dV = .none := Dflts.none hD hdf
  obtain rfl : kV = .none := Dflts.noKw hD
  obtain ⟨a, vs, ns, rfl, rfl, hobj, hints, hlen⟩ := script_of hn hpre hwl
  refine enter_call (codeAny_mono (call w s₀ s₁ mg mb fa o pm cd doc a vs ns G Y ho (fd_plain hd) hcd hmg hobj hints hlen hg) fun r s' hq => ?_)
  obtain ⟨rfl, h2, h3, h4⟩ := hq
  exact ⟨.inl ⟨.bool true, .bool true, [], rfl, fun _ => rfl, .bool true, post_true l _, fun _ => ⟨List.Pairwise.nil, fun _ hm => (nomatch hm)⟩⟩, h2, h3, h4⟩

/-! ### rules over ANY heap (no ledger) from facts about the written part K: the library's own take a ledger (News) for what they write -/
section
variable {prog : Program} {w : World} {A : Around} {E : Value → Shared → Prop} {s : Shared} {K : Frag}

/-! the whole heap as the ledger: makes every rule that writes through a ledger a rule over any heap -/
def noObjs (h : Heap) : Heap := { h with objs := #[] }
def ledger (h : Heap) (L d : Addr) : List (Addr × Obj) := (List.range h.objs.size).filterMap fun a => if a = L ∨ a = d then none else (h.get? a).map fun o => (a, o)
end
end Att

namespace L2
open PySem PySem.Spec PyProof.Rows

theorem vals_ints : ∀ {vs : List Value} {ns : List Int}, IntsAre vs ns → Vals (ns.map V.int) vs
  | _, _, .nil => .nil
  | _, _, .cons n t h => .cons ⟨t, rfl⟩ (vals_ints h)

/-- nothing is tracked but the script, known to the object (or it is an object of the module) -/
def Only (H : Hp) : Prop := ∀ b, H b = none ∨ ∃ o xs, H b = some (.frz o (.lst xs))

/-- THE HEAD: the law's promise, at the heap behind the top. F, the promise of the law's def, may use that base is part of the heap (so K.In base, base.Ns mainGlobals mg stand in Mod) -/
theorem law_call {P : Program} {w : World} {K : PySem.W.Frag} {mg mb : Str → Option Value} {CX : CXT} {k : Nat} {fa a : Addr} {fd : FuncData} {x : Str} {sp : Sp} {s₁ : Shared} {vs : List Value} {ns : List Int}
    (KX : K.In s₁.heap) (hns : s₁.heap.Ns mainGlobals mg) (hb : s₁.heap.Ns builtinsNs mb) (hbb : ∀ x : Str, x ≠ "__name__" → mb x = bootBuiltins x) (hlim : s₁.heap.NoLimit) (hg : s₁.gens = #[])
    (ha : s₁.heap.get? a = some { cls := .type "list", data := .seq vs.toArray }) (hi : IntsAre vs ns) (hl : ns.length ≤ sizeLine) (hr : Room k callerA)
    (F : ∀ base : Heap, K.In base → base.Ns mainGlobals mg → FnOk P w K mg base CX k fa fd [x] sp) (hbind : ∀ (s : Shared) (u : Value), BindsTo s fd ⟨[u], []⟩ [(x, u)])
    (hsp : ∀ H : Hp, Only H → SqL K H a (ns.map V.int) → sp [.ref a] H (fun v _ => v = .bl true) fun _ _ _ => False)
    (hCX : ∀ H e s', CX [] H s₁ (fun _ _ _ => False) e s' → False) :
    codeAny (model P w) callerA (.call (.ref fa) ⟨[.ref a], []⟩) (fun r s' => r = .ok (.ret (.bool true)) ∧ OldK s₁.heap s'.heap ∧ s'.os = s₁.os ∧ AllBare s'.gens) s₁ := by
  have rv := vals_ints hi
  have lenV := hi.length
  -- from an abstract heap in which nothing but the script may be tracked
  have core : ∀ H : Hp, Only H → SqL K H a (ns.map V.int) → HOk P w H s₁.heap → (∀ b, H b ≠ none → b = a) → (H a ≠ none → K.lookup a = none) →
      codeAny (model P w) callerA (.call (.ref fa) ⟨[.ref a], []⟩) (fun r s' => r = .ok (.ret (.bool true)) ∧ OldK s₁.heap s'.heap ∧ s'.os = s₁.os ∧ AllBare s'.gens) s₁ := by
    intro H hO hS hok hA hK
    have base_of : ∀ {b : Addr} {o : Obj}, s₁.heap.get? b = some o → H b = none → (hidT s₁.heap H).get? b = some o := fun e n => hidT_get e n
    have noA : ∀ {b : Addr} {o : Obj} {es : Array DictEntry} {ep : Nat}, s₁.heap.get? b = some o → o.data = .dict es ep → H b = none := fun {b o es ep} e d => by
      cases q : H b with
      | none => rfl
      | some u =>
        have e' : b = a := hA b (by rw [q]; simp)
        subst e'
        rw [ha] at e; cases e
        have d' : Data.seq vs.toArray _ = Data.dict es ep := d
        cases d'
    have nsK : ∀ {b : Addr} {m : Str → Option Value}, s₁.heap.Ns b m → (hidT s₁.heap H).Ns b m := fun {b m} ⟨o, es, ep, e, d, r⟩ => ⟨o, es, ep, base_of e (noA e d), d, r⟩
    have hKb : K.In (hidT s₁.heap H) := fun b o e => base_of (KX b o e) (by
      cases q : H b with
      | none => rfl
      | some u =>
        have e' : b = a := hA b (by rw [q]; simp)
        subst e'
        rw [hK (by rw [q]; simp)] at e; cases e)
    have hM : Mod K mg (hidT s₁.heap H) := ⟨hKb, nsK hns, ⟨mb, nsK hb, hbb⟩, let ⟨mc, h1, h2⟩ := hlim; ⟨mc, nsK h1, h2⟩⟩
    have e0 : Env0 P w K mg (hidT s₁.heap H) callerA [] s₁ H := ⟨rfl, hM, fun b o e => of_hidT e, Nat.le_of_eq (hidT_size _ _), trivial, fun b hb => absurd (show b ∈ ([] : List Addr) from hb) (by simp), hok, .of_eq hg⟩
    refine codeAny_mono ((F _ hKb (nsK hns)).run callerA [] s₁ H ⟨[.ref a], []⟩ [.ref a] [.ref a] _ _ hr e0 (hbind s₁ (.ref a)) (.cons rfl .nil) (hsp H hO hS)) fun r s' h => ?_
    cases r with
    | error e => exact (hCX H e s' h).elim
    | ok fl =>
      cases fl with
      | next => exact False.elim h
      | brk => exact False.elim h
      | cont => exact False.elim h
      | ret u =>
        obtain ⟨v, H', os, bare, un, hok', r', q⟩ := h
        have q' : v = .bl true := q
        subst q'
        obtain rfl : u = Value.bool true := r'
        refine ⟨rfl, OldK.of_keep fun b o e => ?_, os, bare⟩
        cases q : H b with
        | none => exact un.keep b o e q (by intro z; exact absurd (show b ∈ ([] : List Addr) from z) (by simp)) (by simp)
        | some u =>
          rcases hO b with z | ⟨ob, xs, z⟩
          · rw [q] at z; cases z
          · have z2 := un.frzs b ob _ z
            obtain ⟨e1, _⟩ := hok b _ z
            obtain ⟨e2, _⟩ := hok' b _ z2
            rw [e] at e1; cases e1
            exact e2
  cases hk : K.lookup a with
  | some o =>
    -- the script is one of the module's own objects
    have e := KX a o hk
    rw [ha] at e
    cases e
    refine core (fun _ => none) (fun _ => .inl rfl) (.inr ⟨_, vs.toArray, _, hk, rfl, rfl, rfl, by rw [List.size_toArray, lenV]; exact hl, by simpa using rv⟩) (fun b u z => by have z' : (none : Option HO) = some u := z; cases z') (fun b z => absurd rfl z) fun z => absurd rfl z
  | none =>
    refine core (fun b => if b = a then some (.frz { cls := .type "list", data := .seq vs.toArray } (.lst (ns.map V.int))) else none) (fun b => ?_) (.inl (.inr ⟨{ cls := .type "list", data := .seq vs.toArray }, if_pos rfl⟩)) (fun b u z => ?_) (fun b z => ?_) fun _ => hk
    · by_cases hb : b = a
      · exact .inr ⟨_, _, if_pos hb⟩
      · exact .inl (if_neg hb)
    · by_cases hb : b = a
      · have z' := (if_pos hb).symm.trans z
        cases z'
        subst hb
        exact ⟨ha, by rw [List.length_map]; exact hl, vs, _, rv, ha⟩
      · have z' := (if_neg hb).symm.trans z
        cases z'
    · by_cases hb : b = a
      · exact hb
      · exact absurd (if_neg hb) z
end L2

namespace L2
open PySem PySem.Spec PyProof.Rows

abbrev KOf {K : PySem.W.Frag} {h : Heap} (_ : K.In h) : PySem.W.Frag := K

/-- the goal that k_head leaves (case hc), from the law's promise. F gives the function object fd (K's own) once, then the promise over every base -/
theorem walk_of {l : PySem.W.OpenLaw} {n k : Nat} {q : Program} {loose : List Str} {XP : (Str → Option Value) → Heap → Prop} {YP : World → Heap → Prop} {d : DefRec} {K : Params → PySem.W.Frag} {CX : World → CXT} {sp : World → Sp} {x : Str}
    (hn : l.most = some n) (hn2 : n ≤ sizeLine) (hdf : d.params.defaults = []) (hr : Room k callerA)
    (hY : ∀ (w : World) (h : Heap), YP w h → (K w.params).In h)
    (F : ∀ (w : World) (mg : Str → Option Value) (fa : Addr) (h : Heap), (K w.params).In h → h.Ns mainGlobals mg → mg d.name = some (.ref fa) →
      ∃ fd : FuncData, (∀ (s : Shared) (u : Value), BindsTo s fd ⟨[u], []⟩ [(x, u)]) ∧
        ∀ base : Heap, (K w.params).In base → base.Ns mainGlobals mg → FnOk l.prog w (K w.params) mg base (CX w) k fa fd [x] (sp w))
    (hsp : ∀ (w : World) (H : Hp) (a : Addr) (ns : List Int), ns.length ≤ n → Only H → SqL (K w.params) H a (ns.map V.int) → sp w [.ref a] H (fun v _ => v = .bl true) fun _ _ _ => False)
    (hCX : ∀ (w : World) (H : Hp) (s : Shared) (e : Value) (s' : Shared), CX w [] H s (fun _ _ _ => False) e s' → False) :
    PySem.W.WalkO q loose XP YP l.row.toRowW d [] (fun f vs => PySem.call f vs) := by
  refine Att.attach_call hn hdf fun w s₀ s₁ mg mb fa o pm cd doc a vs ns G Y ho hd hcd hmg hobj hints hlen hg => ?_
  have KX := hY w _ Y
  obtain ⟨fd, hb, hF⟩ := F w mg fa _ KX G.T.g hmg
  exact law_call KX G.T.g G.T.b G.T.builtins G.T.nolimit hg hobj hints (Nat.le_trans hlen hn2) hr hF hb (fun H hO hS => hsp w H a ns hlen hO hS) fun H e s' => hCX w H s₁ e s'
end L2

/- THE LAST THEOREM (shape; LID, My.* are yours):
   My.Adr: a structure of the addresses that your layer names (classes, functions); My.Txt K t: a structure (Prop) of the equations over K;
   My.txt_mk : {K} {implicit addresses ..} (e1 : nsIn K mainGlobals "law" = some (some (.ref f))) (e2 : K.lookup f = some ⟨oc, od, .func (fnOf "law" "law" params body scope dV kV doc pm an cdv ct), sl⟩) (e3 : codeIn K cdv "law" = true) .. : ∃ t, My.Txt K t

set_option maxRecDepth 100000 in
set_option maxHeartbeats 0 in
theorem PySem.Challenge.cw_LID_holds : PySem.Challenge.rw_LID.Holds := by
  w_on; o_law; k_head; (case hw => w_witness2)
  k_fill
  refine L2.walk_of (l := PySem.Challenge.rw_LID) (n := 63) (k := 40) (x := "script") (CX := fun w => ..) (sp := fun _ => My.sp_law) rfl (by decide) rfl ⟨rfl, by decide, by decide⟩ (fun w h Y => PySem.W.kIn_of Y) ?F ?S ?C
  case F =>
    intro w mg fa h KX G hmg
    have T : ∃ t, My.Txt (L2.KOf KX) t := by
      dsimp only [L2.KOf]                          -- K must stand as «<heap const> w.params» for k_is
      refine' My.txt_mk ?e1 ?e2 ?e3 ..
      (case e1 => PySem.W.k_is)                    -- in the order: a name -> its address -> its object -> its parts
      (case e2 => PySem.W.k_is)
      ..
    obtain ⟨t, T⟩ := T
    have e0 := hmg.symm.trans (PySem.W.mg_of KX G T.law)
    cases e0                                       -- fa is the law's own address
    exact ⟨_, fun s u => .of_eq rfl, fun base kb nb => My.law_fn T kb nb⟩     -- if «.of_eq rfl» comes too early: refine' ⟨_, ?b, fun base kb nb => My.law_fn T kb nb⟩; exact fun s u => .of_eq rfl
  case S => exact fun w H a ns hl hO hS => ..
  case C => exact ..
(the tactic k_is has no namespace: write k_is) -/

/-! SHORT WORDS over the layer: a def of the text, its body, what a loop and a test want. -/
namespace L2
open PySem PySem.Spec PyProof.Rows

/-! ### the text by places -/
/-- the j-th statement of a class's body -/
def inClass (s : Stmt) (j : Nat) : Stmt := match s with
  | .ClassDef _ _ _ body _ _ _ _ _ _ _ => body.getD j (.Pass ⟨0, 0, 0, 0⟩)
  | _ => .Pass ⟨0, 0, 0, 0⟩
def defArgs (s : Stmt) : Arguments := match s with
  | .FunctionDef _ a _ _ _ _ _ _ _ _ => a
  | _ => { posonlyargs := [], args := [], vararg := none, kwonlyargs := [], kw_defaults := [], kwarg := none, defaults := [] }
def defBody (s : Stmt) : List Stmt := match s with
  | .FunctionDef _ _ b _ _ _ _ _ _ _ => b
  | _ => []
def defScope (s : Stmt) : Scope := match s with
  | .FunctionDef _ _ _ _ _ _ sc _ _ _ => sc
  | _ => { kind := .function, names := [], isGenerator := false, isCoroutine := false }

/-! ### no exception leaves a def -/
abbrev CX0 : CXT := fun _ _ _ _ _ _ => False
abbrev E0 : XK := fun _ _ _ => False
theorem pass0 {X : Cx} : Passes CX0 X E0 := fun _ _ _ _ _ _ _ h => h.elim

/-! ### a def (or method) of the text as it stands behind the top -/
structure Fun (K : PySem.W.Frag) (x qual : Str) (st : Stmt) (f : Addr) (fd : FuncData) : Prop where
  ex : ∃ (oc : Value) (od : Option Addr) (kV doc pm : Value) (an : Option Addr) (cdv ct : Value) (osl : Array (Option Value)),
    fd = PySem.W.fnOf x qual (defArgs st) (defBody st) (defScope st) .none kV doc pm an cdv ct ∧ K.lookup f = some ⟨oc, od, .func fd, osl⟩ ∧ PySem.W.codeIn K cdv qual = true
  kp : PySem.W.keepIn K (.ref f) = true
section
variable {P : Program} {w : World} {K : PySem.W.Frag} {mg : Str → Option Value} {base : Heap}
/-- THE RULE for a def: its body as a term of rules, and the reading of that term -/
theorem Fun.ok {x qual : Str} {st : Stmt} {f : Addr} {fd : FuncData} {N ps : List Str} {k : Nat} {sp : Sp} (F : Fun K x qual st f fd) (S : FnScope N ps (defScope st)) (len : ∀ vs H Q E, sp vs H Q E → vs.length = ps.length)
    (hbody : ∀ (cdv : Value) (A : Around) (outer : List Env) (s : Shared) (H : Hp) (vs : List V) (Q : VK) (E : XK), Room k (A.deeper (envOfC qual (defScope st) s.heap.objs.size f cdv)) → sp vs H Q E →
      ∃ t, PSs (cxOf CX0 P w K mg base N qual (defScope st) f cdv A outer s H E).nox (defBody st) t ∧ t { nx := fun _ H' => Q .non H', rt := Q } (start N vs) H) : FnOk P w K mg base CX0 (k + 1) f fd ps sp := by
  obtain ⟨oc, od, kV, doc, pm, an, cdv, ct, osl, rfl, lk, hcd⟩ := F.ex
  refine fn_of lk hcd S len fun A outer s H vs Q E hr hsp => ?_
  obtain ⟨t, h, q⟩ := hbody cdv A outer s H vs Q E hr hsp
  exact ⟨t, h.nox, q⟩
/-- how its arguments bind (no defaults): h is «fun _ _ _ _ _ _ us hl => match us, hl with | [_, _], _ => rfl», one _ a parameter -/
theorem Fun.binds {x qual : Str} {st : Stmt} {f : Addr} {fd : FuncData} {ps : List Str} (F : Fun K x qual st f fd)
    (h : ∀ (kV doc pm : Value) (an : Option Addr) (cdv ct : Value) (us : List Value), us.length = ps.length → bindArgs (PySem.W.fnOf x qual (defArgs st) (defBody st) (defScope st) .none kV doc pm an cdv ct) ⟨us, []⟩ = pure (ps.zip us)) : Binds K fd ps [] := by
  obtain ⟨oc, od, kV, doc, pm, an, cdv, ct, osl, rfl, lk, hcd⟩ := F.ex
  exact .all (h kV doc pm an cdv ct)
theorem fun_mk {x qual : Str} {st : Stmt} {f : Addr} {oc : Value} {od an : Option Addr} {osl : Array (Option Value)} {kV doc pm cdv ct : Value} (l : K.lookup f = some ⟨oc, od, .func (PySem.W.fnOf x qual (defArgs st) (defBody st) (defScope st) .none kV doc pm an cdv ct), osl⟩)
    (c : PySem.W.codeIn K cdv qual = true) (k : PySem.W.keepIn K (.ref f) = true) : Fun K x qual st f (PySem.W.fnOf x qual (defArgs st) (defBody st) (defScope st) .none kV doc pm an cdv ct) := ⟨⟨oc, od, kV, doc, pm, an, cdv, ct, osl, rfl, l, c⟩, k⟩
end
theorem small1000 {n : Nat} (h : n ≤ 1000) : n < sizeLine := Nat.lt_of_le_of_lt h (by decide)

/-! ### expressions in short: the name that stands in the i-th slot -/
section
variable {X : Cx}
theorem pv (i : Nat) {x : Str} {pos : Pos} (hN : X.N[i]? = some x := by rfl) (hv : Vis X.env.scope x := by first | exact Or.inl rfl | exact Or.inr (Or.inl rfl) | exact Or.inr (Or.inr rfl)) (hd : (x == ("__debug__" : Str)) = false := by decide)
    (hcd : (x == ("__classdict__" : Str)) = false := by decide) : PE X (.Name x pos) (tVar i) := pe_var hN hv hd hcd
end

/-! ### tests -/
theorem iteF {A B : Prop} (h : B) : if false = true then A else B := by
  rw [if_neg Bool.false_ne_true]
  exact h
theorem iteT {A B : Prop} (h : A) : if true = true then A else B := by
  rw [if_pos rfl]
  exact h
theorem ite2 {c A B : Prop} [Decidable c] (h1 : c → A) (h2 : ¬ c → B) : if c then A else B := by
  by_cases h : c
  · rw [if_pos h]
    exact h1 h
  · rw [if_neg h]
    exact h2 h
/-! ### heaps -/
/-- all that was tracked is as it was -/
def Same (H H' : Hp) : Prop := ∀ b o, H b = some o → H' b = some o
theorem Same.refl (H : Hp) : Same H H := fun _ _ h => h
theorem Same.trans {H H1 H2 : Hp} (a : Same H H1) (b : Same H1 H2) : Same H H2 := fun c o h => b c o (a c o h)
theorem Same.seq {K : PySem.W.Frag} {H H' : Hp} {a : Addr} {xs : List V} (e : Same H H') (h : SqL K H a xs) : SqL K H' a xs := by
  rcases h with (h | ⟨o, h⟩) | h
  · exact .inl (.inl (e _ _ h))
  · exact .inl (.inr ⟨o, e _ _ h⟩)
  · exact .inr h

end L2

set_option maxHeartbeats 4000000
namespace L2
open PySem PySem.Spec PyProof.Rows

/-! ### a list comprehension with one clause -/
/-- the cells that a block takes with it -/
def closOf (env : Env) : List (Str × NameKind) → List (Str × Addr) → List (Str × Addr)
  | [], acc => acc
  | p :: l, acc => closOf env l (if p.2 == .free then (p.1, (env.cells.lookup p.1).getD 0) :: acc else acc)
theorem clos_eq {env : Env} {scope : Scope} (h : ∀ p ∈ scope.names, p.2 = .free → ∃ c, env.cells.lookup p.1 = some c) : closureFor scope env = pure (closOf env scope.names []) := by
  have go : ∀ (l : List (Str × NameKind)) (acc : List (Str × Addr)), (∀ p ∈ l, p.2 = .free → ∃ c, env.cells.lookup p.1 = some c) →
      (forIn l acc fun (p : Str × NameKind) cs => if (p.2 == NameKind.free) = true then (cellOf env p.1 >>= fun a => pure (ForInStep.yield ((p.1, a) :: cs))) else pure (ForInStep.yield cs)) = (pure (closOf env l acc) : Sem (List (Str × Addr))) := by
    intro l
    induction l with
    | nil => intro acc _; rfl
    | cons p l ih =>
      intro acc hl
      rw [List.forIn_cons]
      have hr := fun q hq => hl q (List.mem_cons_of_mem _ hq)
      by_cases hk : p.2 = .free
      · obtain ⟨c, hc⟩ := hl p List.mem_cons_self hk
        have e1 : (p.2 == NameKind.free) = true := by rw [hk]; rfl
        rw [if_pos e1]
        have e2 : cellOf env p.1 = pure c := by unfold cellOf; rw [hc]
        rw [e2, pure_bind, pure_bind]
        show forIn l ((p.1, c) :: acc) _ = _
        rw [ih _ hr]
        show _ = pure (closOf env l (if p.2 == .free then (p.1, (env.cells.lookup p.1).getD 0) :: acc else acc))
        rw [if_pos e1, hc]
        rfl
      · have e1 : ¬ (p.2 == NameKind.free) = true := by intro z; exact hk (by simpa using z)
        rw [if_neg e1, pure_bind]
        show forIn l acc _ = _
        rw [ih _ hr]
        show _ = pure (closOf env l (if p.2 == .free then (p.1, (env.cells.lookup p.1).getD 0) :: acc else acc))
        rw [if_neg e1]
  have e := go scope.names [] h
  unfold closureFor
  show (forIn scope.names ([] : List (Str × Addr)) _ >>= fun r => pure r) = _
  rw [bind_pure]
  exact e
theorem clos_look {env : Env} {x : Str} : ∀ (l : List (Str × NameKind)) (acc : List (Str × Addr)) {c : Addr}, (closOf env l acc).lookup x = some c → acc.lookup x = some c ∨ ((x, NameKind.free) ∈ l ∧ c = (env.cells.lookup x).getD 0)
  | [], acc, c, h => .inl h
  | p :: l, acc, c, h => by
    rcases clos_look l _ h with z | ⟨z, e⟩
    · by_cases hk : (p.2 == NameKind.free) = true
      · rw [if_pos hk, List.lookup_cons] at z
        by_cases hx : (x == p.1) = true
        · rw [hx] at z
          have e : x = p.1 := by simpa using hx
          have e2 : p.2 = .free := by simpa using hk
          refine .inr ⟨?_, ?_⟩
          · rw [e, ← e2]; exact List.mem_cons_self
          · rw [e]; exact (Option.some.inj z).symm
        · have hx' : (x == p.1) = false := by simpa using hx
          rw [hx'] at z
          exact .inl z
      · rw [if_neg hk] at z
        exact .inl z
    · exact .inr ⟨List.mem_cons_of_mem _ z, e⟩
theorem clos_has {env : Env} {x : Str} : ∀ (l : List (Str × NameKind)) (acc : List (Str × Addr)), ((acc.lookup x).isSome = true ∨ (x, NameKind.free) ∈ l) → ((closOf env l acc).lookup x).isSome = true
  | [], acc, h => by
    rcases h with h | h
    · exact h
    · cases h
  | p :: l, acc, h => by
    refine clos_has l _ ?_
    rcases h with h | h
    · left
      by_cases hk : (p.2 == NameKind.free) = true
      · rw [if_pos hk, List.lookup_cons]
        cases (x == p.1) with
        | true => rfl
        | false => exact h
      · rw [if_neg hk]; exact h
    · rcases List.mem_cons.mp h with e | h
      · left
        have e1 : p.1 = x := by rw [← e]
        have e2 : (p.2 == NameKind.free) = true := by rw [← e]; rfl
        rw [if_pos e2, List.lookup_cons, e1]
        simp
      · exact .inr h
theorem relab_look {env : Env} {x : Str} {k : NameKind} : ∀ (l : List (Str × NameKind)),
    (l.map fun (n, k) => if (k == NameKind.free && env.scope.kind == .function && env.kindOf n == some .cell) then (n, NameKind.cell) else (n, k)).lookup x = some k →
      l.lookup x = some k ∨ (k = .cell ∧ l.lookup x = some .free)
  | [], h => by cases h
  | (n, q) :: l, h => by
    rw [List.map_cons] at h
    cases hx : (x == n) with
    | true =>
      rw [List.lookup_cons, hx]
      by_cases hc : (q == NameKind.free && env.scope.kind == .function && env.kindOf n == some .cell) = true
      · simp only [hc, if_true, List.lookup_cons, hx] at h
        have e : q = .free := by
          have := (Bool.and_eq_true_iff.mp (Bool.and_eq_true_iff.mp hc).1).1
          simpa using this
        right
        exact ⟨(Option.some.inj h).symm, by rw [e]⟩
      · have hc' : (q == NameKind.free && env.scope.kind == .function && env.kindOf n == some .cell) = false := by simpa using hc
        simp only [hc', Bool.false_eq_true, if_false, List.lookup_cons, hx] at h
        exact .inl h
    | false =>
      rw [List.lookup_cons, hx]
      refine relab_look (env := env) l ?_
      by_cases hc : (q == NameKind.free && env.scope.kind == .function && env.kindOf n == some .cell) = true
      · simp only [hc, if_true, List.lookup_cons, hx] at h
        exact h
      · have hc' : (q == NameKind.free && env.scope.kind == .function && env.kindOf n == some .cell) = false := by simpa using hc
        simp only [hc', Bool.false_eq_true, if_false, List.lookup_cons, hx] at h
        exact h

/-- what a block runs upon: its dict, the state and heap at its entry, the iterator's records, what is wanted of an exception -/
structure Bk where
  C : Addr
  s₂ : Shared
  H₂ : Hp
  fp : List Addr
  xe : Value → Shared → Prop
/-- the context of a comprehension's block: its own names cn ahead of the def's -/
def compCx (X : Cx) (cn : List Str) (scope : Scope) (b : Bk) : Cx where
  prog := X.prog
  w := X.w
  K := X.K
  mg := X.mg
  base := X.base
  A := X.A
  N := cn ++ X.N
  s₀ := b.s₂
  H₀ := b.H₂
  env := compEnvC scope (closOf X.env scope.names []) b.C X.env
  outer := X.stack
  stack := X.stack
  ex := b.fp
  fn := fun _ => false
  calm := X.calm
  pn := []
  xe := b.xe
/-- the scope of a block beside its def's -/
def compOk (sc : Scope) (N : List Str) (scope : Scope) : Bool :=
  (scope.kind == .function) &&
  (scope.names.all fun p => (p.2 != .cell) && ((p.2 != .free) || (sc.names.lookup p.1 == some .cell) || (sc.names.lookup p.1 == some .free)) && ((p.2 != .local) || (scope.names.lookup p.1 == some .local))) &&
  (N.all fun x => scope.names.lookup x != some .local)
structure CompFit (sc : Scope) (N : List Str) (scope : Scope) : Prop where
  kind : scope.kind = .function
  nocell : ∀ p ∈ scope.names, p.2 ≠ .cell
  free : ∀ p ∈ scope.names, p.2 = .free → sc.names.lookup p.1 = some .cell ∨ sc.names.lookup p.1 = some .free
  loc : ∀ p ∈ scope.names, p.2 = .local → scope.names.lookup p.1 = some .local
  apart : ∀ x ∈ N, scope.names.lookup x ≠ some .local
theorem CompFit.of {sc : Scope} {N : List Str} {scope : Scope} (h : compOk sc N scope = true) : CompFit sc N scope := by
  unfold compOk at h
  rw [Bool.and_eq_true, Bool.and_eq_true] at h
  obtain ⟨⟨h1, h2⟩, h3⟩ := h
  rw [List.all_eq_true] at h2 h3
  refine ⟨by simpa using h1, fun p hp => ?_, fun p hp e => ?_, fun p hp e => ?_, fun x hx => ?_⟩
  · have := h2 p hp
    rw [Bool.and_eq_true, Bool.and_eq_true] at this
    simpa using this.1.1
  · have := h2 p hp
    rw [Bool.and_eq_true, Bool.and_eq_true] at this
    have q := this.1.2
    rw [e] at q
    rw [Bool.or_eq_true, Bool.or_eq_true] at q
    rcases q with (q | q) | q
    · exact absurd q (by decide)
    · exact .inl (by simpa using q)
    · exact .inr (by simpa using q)
  · have := h2 p hp
    rw [Bool.and_eq_true, Bool.and_eq_true] at this
    have q := this.2
    rw [e] at q
    rw [Bool.or_eq_true] at q
    rcases q with q | q
    · exact absurd q (by decide)
    · simpa using q
  · have := h3 x hx
    simpa using this

section
variable {X : Cx} {pins : List (Addr × Obj)} {σ : St} {H : Hp}
theorem mem_of_look {l : List (Str × NameKind)} {x : Str} {k : NameKind} (h : l.lookup x = some k) : (x, k) ∈ l := PySem.mem_of_lookup h
/-- the block's context is sound, and its invariant holds at its entry -/
theorem Inv.block {s₂ : Shared} {h₁ : Heap} {tk : Nat} {cn : List Str} {scope : Scope} {fp : List Addr} {xe : Value → Shared → Prop} {C D : Addr} {m : Str → Option Value}
    (I : Inv X pins σ H s₂) (F : CompFit X.env.scope X.N scope) (hc : X.calm = true) (hf : ∀ b ∈ fp, FpOk X pins H b) (hfl : ∀ b ∈ fp, b < s₂.heap.objs.size)
    (hC : s₂.heap.objs.size ≤ C) (hD : s₂.heap.objs.size ≤ D) (hDC : D ≠ C) (hn : h₁.Ns C m) (old : ∀ b o, s₂.heap.get? b = some o → h₁.get? b = some o)
    (hacc : h₁.get? D = some { cls := .type "list", data := .seq ([] : List Value).toArray 0 }) :
    Inv (compCx X cn scope ⟨C, s₂, H, fp, xe⟩) [] (List.replicate cn.length none ++ σ) (upd H D (.lst [])) { s₂ with heap := h₁, toks := tk } := by
  have cellHas : ∀ x, ((compCx X cn scope ⟨C, s₂, H, fp, xe⟩).env.kindOf x = some .cell ∨ (compCx X cn scope ⟨C, s₂, H, fp, xe⟩).env.kindOf x = some .free) → (x, NameKind.free) ∈ scope.names := by
    intro x hx
    have hx' : (relabel scope X.env).names.lookup x = some .cell ∨ (relabel scope X.env).names.lookup x = some .free := hx
    rcases hx' with z | z
    · rcases relab_look scope.names z with z | ⟨_, z⟩
      · exact absurd rfl (F.nocell _ (mem_of_look z))
      · exact mem_of_look z
    · rcases relab_look scope.names z with z | ⟨e, _⟩
      · exact mem_of_look z
      · cases e
  have kindOut : ∀ x, (x, NameKind.free) ∈ scope.names → X.env.kindOf x = some .cell ∨ X.env.kindOf x = some .free := fun x hx => F.free _ hx rfl
  have lookOut : ∀ x c, (closOf X.env scope.names []).lookup x = some c → X.env.cells.lookup x = some c := by
    intro x c e
    rcases clos_look _ _ e with z | ⟨z, e2⟩
    · cases z
    · obtain ⟨c', hc'⟩ := I.ok.has x (kindOut x z)
      rw [hc'] at e2 ⊢
      rw [e2]
      rfl
  have fsEq : (compCx X cn scope ⟨C, s₂, H, fp, xe⟩).fs = frs X.stack := rfl
  have fpfs : ∀ b ∈ fp, b ∉ frs X.stack := by
    intro b hb z
    obtain ⟨_, f1, f2, _⟩ := hf b hb
    rcases List.mem_cons.mp (I.stkSub b z) with e | e
    · exact f1 e
    · exact f2 e
  have cellLt : ∀ x c, X.env.cells.lookup x = some c → c < s₂.heap.objs.size := by
    intro x c e
    obtain ⟨v, o, ho, _⟩ := I.cell x c e
    exact Heap.lt_size ho
  have ok : (compCx X cn scope ⟨C, s₂, H, fp, xe⟩).Ok := by
    refine ⟨I.ok.mod, ?_, I.ok.glob, I.ok.blt, hC, fun x y c h1 h2 => I.ok.inj x y c (lookOut x c h1) (lookOut y c h2), fun x hx => ?_, fun x c z => ?_, fun _ => I.ok.hd hc, I.ok.frames, .inl rfl, fun b hb => ⟨?_, fun x c e => ?_⟩,
      fun b o e => I.bs b o e, Nat.le_trans I.ok.bsz I.sz, fun b o e hb => ?_, fun b hb => ?_, I.stack, I.stkFree⟩
    · show (relabel scope X.env).kind = .function
      exact F.kind
    · have := clos_has (env := X.env) (x := x) scope.names [] (.inr (cellHas x hx))
      exact Option.isSome_iff_exists.mp this
    · cases z
    · exact Nat.ne_of_lt (Nat.lt_of_lt_of_le (hfl b hb) hC)
    · exact (hf b hb).2.2.2.2.1 x c (lookOut x c e)
    · have : X.base.objs.size ≤ X.s₀.heap.objs.size := I.ok.bsz
      rcases (hf b hb).2.2.2.1 with z | z
      · exact I.ok.noex b o e z
      · exact absurd (Nat.lt_of_lt_of_le (Heap.lt_size e) (Nat.le_trans I.ok.bsz z)) (Nat.lt_irrefl _)
    · exact fpfs b hb
  have hDn : H D = none := I.hok.fresh hD
  have hok1 : HOk X.prog X.w (upd H D (.lst [])) h₁ := I.hok.laid old hD ⟨Nat.zero_le _, [], 0, .nil, hacc⟩
  refine ⟨ok, rfl, I.bare, Un.laid old hD hDn, ⟨m, hn, fun i x v e1 e2 e3 => ?_⟩, fun x c e => ?_, ?_, fun x c e => ?_, fun p hp => absurd (show p ∈ ([] : List (Addr × Obj)) from hp) (by simp), hok1, ?_⟩
  · have hi : ¬ i < cn.length := by
      intro hi
      rw [List.getElem?_append_left (by simpa using hi), List.getElem?_replicate] at e2
      split at e2 <;> cases e2
    rw [List.getElem?_append_right (by simpa using hi), List.length_replicate] at e2
    have e1' : (cn ++ X.N)[i]? = some x := e1
    rw [List.getElem?_append_right (by omega)] at e1'
    obtain ⟨m0, hm0, hl⟩ := I.loc
    have hxN : x ∈ X.N := List.mem_of_getElem? e1'
    have hfr : (x, NameKind.free) ∈ scope.names := by
      have e3' : (relabel scope X.env).names.lookup x = some .local ∨ (relabel scope X.env).names.lookup x = some .cell ∨ (relabel scope X.env).names.lookup x = some .free := e3
      rcases e3' with z | z | z
      · rcases relab_look scope.names z with z | ⟨e, _⟩
        · exact absurd z (F.apart x hxN)
        · cases e
      · exact cellHas x (.inl z)
      · exact cellHas x (.inr z)
    have hk := kindOut x hfr
    have vis : Vis X.env.scope x := by
      rcases hk with z | z
      · exact .inr (.inl z)
      · exact .inr (.inr z)
    obtain ⟨u, r, lk⟩ := hl (i - cn.length) x v e1' e2 vis
    refine ⟨u, r, ?_⟩
    rcases lk with ⟨z, _⟩ | ⟨_, c, ec, z⟩
    · rcases hk with q | q
      · rw [z] at q; cases q
      · rw [z] at q; cases q
    · have hcl : (closOf X.env scope.names []).lookup x = some c := by
        obtain ⟨c', e'⟩ := Option.isSome_iff_exists.mp (clos_has (env := X.env) (x := x) scope.names [] (.inr hfr))
        rw [e']
        have := lookOut x c' e'
        rw [ec] at this
        exact this.symm
      refine .inr ⟨?_, c, hcl, ?_⟩
      · have e3' : (relabel scope X.env).names.lookup x = some .local ∨ (relabel scope X.env).names.lookup x = some .cell ∨ (relabel scope X.env).names.lookup x = some .free := e3
        rcases e3' with y | y | y
        · rcases relab_look scope.names y with y | ⟨e, _⟩
          · exact absurd y (F.apart x hxN)
          · cases e
        · exact .inl y
        · exact .inr y
      · obtain ⟨o, ho, hd⟩ := z
        exact ⟨o, old c o ho, hd⟩
  · obtain ⟨v, o, ho, hd⟩ := I.cell x c (lookOut x c e)
    exact ⟨v, o, old c o ho, hd⟩
  · show upd H D (.lst []) C = none
    rw [upd_ne (Ne.symm hDC)]
    exact I.hok.fresh hC
  · rw [upd_ne (Nat.ne_of_lt (Nat.lt_of_lt_of_le (cellLt x c (lookOut x c e)) hD))]
    exact I.freeC x c (lookOut x c e)
  · show (List.replicate cn.length none ++ σ).length = (cn ++ X.N).length
    rw [List.length_append, List.length_replicate, List.length_append, I.len]
/-- behind the block -/
theorem Inv.unblock {s₂ s' : Shared} {h' : Heap} {cn : List Str} {scope : Scope} {fp : List Addr} {xe : Value → Shared → Prop} {C : Addr} {H' : Hp} {σ' : St} {pl : List (Addr × Obj)}
    (I : Inv X pins σ H s₂) (hf : ∀ b ∈ fp, FpOk X pins H b) (hC : s₂.heap.objs.size ≤ C) (J : Inv (compCx X cn scope ⟨C, s₂, H, fp, xe⟩) pl σ' H' s') (sb : Heap.SameBut C s'.heap h') :
    Inv X pins σ H' { s' with heap := h' } := by
  have neC : ∀ b o, s₂.heap.get? b = some o → b ≠ C := fun b o e => Nat.ne_of_lt (Nat.lt_of_lt_of_le (Heap.lt_size e) hC)
  have u : Un (frs X.stack) fp H H' s₂.heap s'.heap := J.base
  have un : Un (frs X.stack) fp H H' s₂.heap h' :=
    ⟨fun b o e n hb hx => (sb.2 b (neC b o e)).trans (u.keep b o e n hb hx),
     fun b o e n hb hx => by
      obtain ⟨sl, q⟩ := u.slot b o e n hb hx
      exact ⟨sl, (sb.2 b (neC b o e)).trans q⟩,
     u.free, fun b o e hx => by
      obtain ⟨o', q⟩ := u.there b o e hx
      exact ⟨o', (sb.2 b (neC b o e)).trans q⟩, u.tups, u.frzs, u.tbls⟩
  have fC : H' C = none := J.free
  have hok : HOk X.prog X.w H' h' := fun b o e => by
    refine (J.hok b o e).stay (fun c v hc q => (sb.2 c ?_).trans q) (fun _ q => q) fun _ _ q => q
    rintro rfl
    rcases hc with z | z
    · rw [← z, fC] at e; cases e
    · rw [fC] at z; cases z
  have os : s'.os = s₂.os := J.os
  refine I.call' (s' := { s' with heap := h' }) os un hok J.bare fun b hb => ?_
  obtain ⟨_, f1, _, f3, f4, f5⟩ := hf b hb
  exact ⟨f3, f1, f4, f5⟩
end
end L2

set_option maxHeartbeats 4000000
namespace L2
open PySem PySem.Spec PyProof.Rows

/-- the loop of a comprehension with one clause, whatever its target -/
theorem comp_loop {prog : Program} {w : World} {A : Around} {R : Result → Shared → Prop} {s : Shared} {elt tg iter : Expr} {ifs : List Expr} {scope : Scope} {pos : Pos} {it acc : Value} {env : Env} (J : Nat → Shared → Prop)
    (turn : ∀ n s, J n s → wpAny (model prog w) A (pyNext it) (fun r s₁ => (r = none ∧ R (.ok .next) s₁) ∨ ∃ v, r = some v ∧
      wpAny (model prog w) A (letOwnedTupleGo tg it v) (fun _ s₂ => wpAny (model prog w) A (assign tg env v) (fun _ s₃ =>
        wpAny (model prog w) A (forIn ifs true fun c r => if r = true then do let ok ← isTrue c env (eval c env); pure (ForInStep.yield ok) else pure (ForInStep.yield r)) (fun ok s₄ =>
          if ok = true then wpAny (model prog w) A (eval elt env) (fun x s₅ => wpAny (model prog w) A (call (.builtin "list.append") [acc, x]) (fun _ s₆ => ∃ m, m < n ∧ J m s₆) (notedBy (model prog w) A env fun e s' => R (.error e) s') s₅)
            (notedBy (model prog w) A env fun e s' => R (.error e) s') s₄
          else ∃ m, m < n ∧ J m s₄) (notedBy (model prog w) A env fun e s' => R (.error e) s') s₃) (notedBy (model prog w) A env fun e s' => R (.error e) s') s₂) (notedBy (model prog w) A env fun e s' => R (.error e) s') s₁)
      (notedBy (model prog w) A env fun e s' => R (.error e) s') s)
    (n : Nat) (h : J n s) : codeAny (model prog w) A (.compLoop (.ListComp elt [⟨tg, iter, ifs, 0⟩] scope pos) 0 it acc env) R s := by
  refine codeAny_loop rfl J (fun n s hJ => ?_) n h
  refine wpAny_noted (A := A) (m := compTurn (.ListComp elt [⟨tg, iter, ifs, 0⟩] scope pos) 0 it acc env) (env := env) ?_
  rw [compTurn_list]
  refine wpAny_bind (wpAny_standAt (wpAny_bind (thn (turn n s hJ) fun r s₁ h₁ => ?_)))
  rcases h₁ with ⟨e, h₁⟩ | ⟨v, e, h₁⟩
  · subst e
    exact wpAny_pure h₁
  · subst e
    refine wpAny_bind (thn h₁ fun _ s₂ h₂ => wpAny_bind (thn h₂ fun _ s₃ h₃ => wpAny_bind (thn h₃ fun ok s₄ h₄ => ?_)))
    cases ok with
    | false => exact wpAny_pure ⟨rfl, h₄⟩
    | true => exact wpAny_bind (wpAny_bind (thn h₄ fun x s₅ h₅ => wpAny_bind (thn h₅ fun _ s₆ h₆ => wpAny_pure (wpAny_pure ⟨rfl, h₆⟩))))

/-- the tests of a clause: all of them -/
def PF (X : Cx) (ifs : List Expr) (t : TT) : Prop :=
  ∀ (pins : List (Addr × Obj)) (s : Shared) (σ : St) (H : Hp) (Q : Bool → Hp → Prop), Inv X pins σ H s → t σ H Q →
    wpAny (model X.prog X.w) X.A (forIn ifs true fun c r => if r = true then do let ok ← isTrue c X.env (eval c X.env); pure (ForInStep.yield ok) else pure (ForInStep.yield r)) (TP X pins σ Q) X.xe s
def tAll : TT := fun _ H Q => Q true H
theorem pf_nil {X : Cx} : PF X [] tAll := by
  intro pins s σ H Q I h
  rw [List.forIn_nil]
  exact wpAny_pure ⟨H, I, h⟩
/-- an exception out of a block: its names go, then it passes on -/
def blkErr (X : Cx) (C : Addr) (e : Value) (s' : Shared) : Prop :=
  ∃ m, s'.heap.Ns C m ∧ ∀ h', Heap.SameBut C s'.heap h' → ∀ cenv : Env, cenv.locals = C → wpAny (model X.prog X.w) X.A (passOn "comprehension.variables-let-go" e cenv : Sem Value) (fun _ _ => False) X.xe { s' with heap := h' }
def blkXe (X : Cx) (scope : Scope) (C : Addr) : Value → Shared → Prop :=
  notedBy (model X.prog X.w) X.A (compEnvC scope (closOf X.env scope.names []) C X.env) (blkErr X C)

/-- W: the invariant by the turn, a measure, the items so far, the block's names, the heap -/
def tComp (n : Nat) (wi : TI) (g : Bk → TG) (tc : Bk → TT) (te : Bk → TE) : TE := fun σ H Q => wi σ H fun J H1 => ∀ (D : Addr) (b : Bk), H1 D = none → ∃ W : Nat → Nat → List V → St → Hp → Prop,
  (∃ m, W 0 m [] (List.replicate n none ++ σ) (upd H1 D (.lst []))) ∧ ∀ i m ys σ H, W i m ys σ H →
    (J.stop i H ∧ Q (.ref D) H) ∨ (J.go i H ∧ ∀ x H', J.yld i H x H' → g b x σ H' fun σ2 H2 => tc b σ2 H2 fun ok H3 =>
      if ok = true then te b σ2 H3 fun y H4 => H4 D = some (.lst ys) ∧ ys.length < sizeLine ∧ ∃ m', m' < m ∧ W (i + 1) m' (ys ++ [y]) σ2 (upd H4 D (.lst (ys ++ [y])))
      else ∃ m', m' < m ∧ W (i + 1) m' ys σ2 H3)

section
variable {X : Cx} {tg iter elt : Expr} {ifs : List Expr} {scope : Scope} {pos : Pos} {cn : List Str} {wi : TI} {g : Bk → TG} {tc : Bk → TT} {te : Bk → TE} {TH : Bk → Prop}

/-- the block runs: RR what is wanted at its end -/
theorem comp_run {pins : List (Addr × Obj)} {σ : St} {H : Hp} {s₂ : Shared} {it : Addr} {fp : List Addr} {tn : Nat → Heap → Prop} {J : It} {RR : Value → Addr → Result → Shared → Prop} {QQ : Addr → Hp → Prop} {EE : Value → Shared → Prop}
    (hcalm : X.calm = true) (F : CompFit X.env.scope X.N scope) (hg : ∀ b, TH b → PG (compCx X cn scope b) tg (g b)) (ht : ∀ b, TH b → PF (compCx X cn scope b) ifs (tc b)) (he : ∀ b, TH b → PE (compCx X cn scope b) elt (te b))
    (hTH : ∀ C, s₂.heap.objs.size ≤ C → TH ⟨C, s₂, H, fp, blkXe X scope C⟩)
    (I : Inv X pins σ H s₂) (T : Turn X.prog X.w X.K tg J fp it tn) (st : tn 0 s₂.heap) (hf : ∀ b ∈ fp, FpOk X pins H b)
    (h : ∀ (D : Addr) (b : Bk), H D = none → ∃ W : Nat → Nat → List V → St → Hp → Prop, (∃ m, W 0 m [] (List.replicate cn.length none ++ σ) (upd H D (.lst []))) ∧ ∀ i m ys σ H, W i m ys σ H →
      (J.stop i H ∧ QQ D H) ∨ (J.go i H ∧ ∀ x H', J.yld i H x H' → g b x σ H' fun σ2 H2 => tc b σ2 H2 fun ok H3 =>
        if ok = true then te b σ2 H3 fun y H4 => H4 D = some (.lst ys) ∧ ys.length < sizeLine ∧ ∃ m', m' < m ∧ W (i + 1) m' (ys ++ [y]) σ2 (upd H4 D (.lst (ys ++ [y])))
        else ∃ m', m' < m ∧ W (i + 1) m' ys σ2 H3))
    (hR : ∀ C D σ' H' s', s₂.heap.objs.size ≤ C → Inv (compCx X cn scope ⟨C, s₂, H, fp, blkXe X scope C⟩) [] σ' H' s' → QQ D H' → RR (.ref D) C (.ok .next) s')
    (hE : ∀ C D e s', blkErr X C e s' → RR (.ref D) C (.error e) s') :
    wpAny (model X.prog X.w) X.A (newList []) (fun acc s₃ => wpAny (model X.prog X.w) X.A (newFunctionEnv scope X.env.globals (closOf X.env scope.names []) [] X.env.qual none .none (some X.env)) (fun cenv s₄ =>
      codeAny (model X.prog X.w) X.A (.compStart (.ListComp elt [⟨tg, iter, ifs, 0⟩] scope pos) 0 (.ref it) acc { cenv with scope := relabel scope X.env }) (RR acc cenv.locals) s₄) EE s₃) EE s₂ := by
  refine wpAny_newObj_type (wpAny_newFunctionEnv F.nocell (by intro y hy; simp at hy) (fun h₁ hns₁ hsb₁ => ?_) F.kind)
  dsimp only at hns₁ hsb₁ ⊢
  generalize hH2 : s₂.heap.push { cls := .type "list", dict := none, data := .seq ([] : List Value).toArray } = H2 at hns₁ hsb₁ ⊢
  have hC : H2.objs.size = s₂.heap.objs.size + 1 := by rw [← hH2, Heap.size_push]
  have hDC : s₂.heap.objs.size ≠ H2.objs.size := by omega
  have hCle : s₂.heap.objs.size ≤ H2.objs.size := by omega
  have hfl : ∀ b ∈ fp, b < s₂.heap.objs.size := fun b hb => by
    obtain ⟨o, e, _⟩ := T.obj 0 _ st b hb
    exact Heap.lt_size e
  have old2 : ∀ b o, s₂.heap.get? b = some o → H2.get? b = some o := fun b o e => hH2 ▸ Heap.get?_push_of_some _ e
  have old : ∀ b o, s₂.heap.get? b = some o → h₁.get? b = some o := fun b o e => by
    have hb := Heap.lt_size e
    refine hsb₁.extBut b o (Nat.ne_of_lt (Nat.lt_of_lt_of_le hb hCle)) (Heap.get?_push_of_some _ (old2 b o e))
  have hacc : h₁.get? s₂.heap.objs.size = some { cls := .type "list", data := .seq ([] : List Value).toArray 0 } :=
    hsb₁.extBut _ _ hDC (Heap.get?_push_of_some _ (hH2 ▸ Heap.get?_push_size _ rfl))
  have I0 := Inv.block (cn := cn) (xe := blkXe X scope H2.objs.size) (tk := s₂.toks + ([] : List (Str × Value)).length) I F hcalm hf hfl hCle (Nat.le_refl _) hDC hns₁ old hacc
  have th := hTH _ hCle
  obtain ⟨W, ⟨m0, w0⟩, turn⟩ := h s₂.heap.objs.size ⟨H2.objs.size, s₂, H, fp, blkXe X scope H2.objs.size⟩ (I.hok.fresh (Nat.le_refl _))
  have fpx : ∀ {H' : Hp}, (∀ b ∈ fp, H' b = none) → ∀ b ∈ fp, FpOk (compCx X cn scope ⟨H2.objs.size, s₂, H, fp, blkXe X scope H2.objs.size⟩) [] H' b := fun {H'} hn b hb => by
    refine ⟨hn b hb, (I0.ok.exf b hb).1, I0.ok.exfs b hb, .inl hb, (I0.ok.exf b hb).2, fun p hp => absurd (show p ∈ ([] : List (Addr × Obj)) from hp) (by simp)⟩
  have hcomp : (compCx X cn scope ⟨H2.objs.size, s₂, H, fp, blkXe X scope H2.objs.size⟩).calm = true := hcalm
  have loop : ∀ s₃ : Shared, s₃ = { s₂ with heap := h₁, toks := s₂.toks + ([] : List (Str × Value)).length } →
      codeAny (model X.prog X.w) X.A (.compLoop (.ListComp elt [⟨tg, iter, ifs, 0⟩] scope pos) 0 (.ref it) (.ref s₂.heap.objs.size) (compEnvC scope (closOf X.env scope.names []) H2.objs.size X.env))
        (RR (.ref s₂.heap.objs.size) H2.objs.size) s₃ := by
    rintro s₃ rfl
    have toE : ∀ e s', (compCx X cn scope ⟨H2.objs.size, s₂, H, fp, blkXe X scope H2.objs.size⟩).xe e s' →
        notedBy (model X.prog X.w) X.A (compEnvC scope (closOf X.env scope.names []) H2.objs.size X.env) (fun e s' => RR (.ref s₂.heap.objs.size) H2.objs.size (.error e) s') e s' := fun e s' z =>
      wpAny_mono (show notedBy (model X.prog X.w) X.A (compEnvC scope (closOf X.env scope.names []) H2.objs.size X.env) (blkErr X H2.objs.size) e s' from z) (fun _ _ q => hE _ _ _ _ q) fun _ _ q => hE _ _ _ _ q
    refine comp_loop (env := compEnvC scope (closOf X.env scope.names []) H2.objs.size X.env)
      (fun n s' => ∃ i ys σ' H', Inv (compCx X cn scope ⟨H2.objs.size, s₂, H, fp, blkXe X scope H2.objs.size⟩) [] σ' H' s' ∧ tn i s'.heap ∧ (∀ b ∈ fp, H' b = none) ∧ W i n ys σ' H') ?_ m0
      ⟨0, [], _, _, I0, T.keep _ _ _ st fun b _ o e => old b o e, fun b hb => ?_, w0⟩
    · rintro n s' ⟨i, ys, σ', H', I', st', fr', w'⟩
      rcases turn i n ys σ' H' w' with ⟨stop, qn⟩ | ⟨go, step⟩
      · refine wpAny_mono (T.done (compCx X cn scope ⟨H2.objs.size, s₂, H, fp, blkXe X scope H2.objs.size⟩) rfl rfl rfl hcomp i [] s' σ' H' (fun _ _ => False) I' (fpx fr') st' stop) (fun r s4 ⟨hr, I4⟩ => ?_) fun _ _ z => z.elim
        exact .inl ⟨hr, hR _ _ _ _ _ hCle I4 qn⟩
      · refine wpAny_mono (T.item (compCx X cn scope ⟨H2.objs.size, s₂, H, fp, blkXe X scope H2.objs.size⟩) rfl rfl rfl hcomp i [] s' σ' H' (fun _ _ => False) I' (fpx fr') st' go) (fun r s4 ⟨u, hr, h4⟩ => ?_) fun _ _ z => z.elim
        refine .inr ⟨u, hr, wpAny_mono h4 (fun _ s5 ⟨x, H5, I5, r5, y5, st5, fr5⟩ => ?_) fun _ _ z => z.elim⟩
        have I5' := I5.pinned (fpx fr5) (T.obj _ _ st5)
        refine wpAny_mono (hg _ th _ s5 σ' H5 x u _ I5' r5 (step x H5 y5)) (fun _ s6 ⟨σ6, H6, I6, q6⟩ => ?_) toE
        refine wpAny_mono (ht _ th _ s6 σ6 H6 _ I6 q6) (fun ok s7 ⟨H7, I7, q7⟩ => ?_) toE
        have back : ∀ {σ8 : St} {H8 : Hp} {s8 : Shared}, Inv (compCx X cn scope ⟨H2.objs.size, s₂, H, fp, blkXe X scope H2.objs.size⟩) ([] ++ pinsAt fp s5.heap) σ8 H8 s8 → tn (i + 1) s8.heap ∧ ∀ b ∈ fp, H8 b = none := fun {σ8 H8 s8} I8 => by
          refine ⟨T.keep _ _ _ st5 fun b hb o e => (I8.pin (b, o) (List.mem_append_right _ (List.mem_append_right _ (mem_pinsAt hb e)))).1, fun b hb => ?_⟩
          obtain ⟨o, e, d⟩ := T.obj _ _ st5 b hb
          exact (I8.pin (b, o) (List.mem_append_right _ (List.mem_append_right _ (mem_pinsAt hb e)))).2.1
        cases ok with
        | false =>
          rw [if_neg Bool.false_ne_true] at q7 ⊢
          obtain ⟨m', hm, w7⟩ := q7
          obtain ⟨t8, f8⟩ := back I7
          exact ⟨m', hm, i + 1, ys, σ6, H7, I7.unpinned, t8, f8, w7⟩
        | true =>
          rw [if_pos rfl] at q7 ⊢
          refine wpAny_mono (he _ th _ s7 σ6 H7 _ I7 q7) (fun v s8 ⟨y, H8, I8, r8, hl, hz, m', hm, w8⟩ => ?_) toE
          refine wpAny_mono (mt_append (X := compCx X cn scope ⟨H2.objs.size, s₂, H, fp, blkXe X scope H2.objs.size⟩) _ s8 σ6 H8 (.ref s₂.heap.objs.size) [y] (.ref s₂.heap.objs.size) [v] (fun _ H9 => W (i + 1) m' (ys ++ [y]) σ6 H9) I8 rfl (.cons r8 .nil) ⟨_, ys, y, rfl, rfl, hl, hz, w8⟩)
            (fun _ s9 ⟨_, H9, I9, _, w9⟩ => ?_) toE
          obtain ⟨t9, f9⟩ := back I9
          exact ⟨m', hm, i + 1, _, σ6, H9, I9.unpinned, t9, f9, w9⟩
    · rw [upd_ne (Nat.ne_of_lt (hfl b hb))]
      exact (hf b hb).1
  exact codeAny_compStart_list (loop _ rfl) (T.self _ 0 _ _ _ (T.keep _ _ _ st fun b _ o e => old b o e) (loop _ rfl))

/-- [elt for tg in iter if ..] -/
theorem pe_compT (hcalm : X.calm = true) (F : CompFit X.env.scope X.N scope) (hi : PI X tg iter wi) (hg : ∀ b, TH b → PG (compCx X cn scope b) tg (g b)) (ht : ∀ b, TH b → PF (compCx X cn scope b) ifs (tc b))
    (he : ∀ b, TH b → PE (compCx X cn scope b) elt (te b))
    (hTH : ∀ pins σ H s₂ fp C, Inv X pins σ H s₂ → (∀ b ∈ fp, FpOk X pins H b) → s₂.heap.objs.size ≤ C → TH ⟨C, s₂, H, fp, blkXe X scope C⟩)
    (hs : ∀ x, foldedSetIterable iter X.env x = pure x := by intro _; rfl) : PE X (.ListComp elt [⟨tg, iter, ifs, 0⟩] scope pos) (tComp cn.length wi g tc te) := by
  intro pins s σ H Q I h
  rw [eval_ListComp]
  have hcl : closureFor scope X.env = pure (closOf X.env scope.names []) := clos_eq fun p hp e => I.ok.has p.1 (F.free p hp e)
  refine wpAny_comprehension_free (use := none) rfl hs hcl F.kind F.loc (thn (hi pins s σ H _ I h) fun xv s₁ h₁ => thn h₁ fun itv s₂ h₂ => ?_)
  obtain ⟨it, fp, tn, J, H2, rfl, I2, T, st, f2, R⟩ := h₂
  refine comp_run (QQ := fun D H' => Q (.ref D) H') (RR := fun acc C => compPost (model X.prog X.w) X.A X.xe none (EP X pins σ Q) acc C) hcalm F hg ht he (fun C hC => hTH pins σ H2 s₂ fp C I2 f2 hC) I2 T st f2 R ?_ ?_
  · intro C D σ' H' s' hC I' q
    obtain ⟨m, hm, _⟩ := I'.loc
    exact ⟨m, hm, fun h' sb => ⟨.ref D, H', I2.unblock f2 hC I' sb, rfl, q⟩⟩
  · intro C D e s' z
    exact z
theorem pe_comp (hcalm : X.calm = true) (F : CompFit X.env.scope X.N scope) (hi : PI X tg iter wi) (hg : ∀ b, PG (compCx X cn scope b) tg (g b)) (ht : ∀ b, PF (compCx X cn scope b) ifs (tc b)) (he : ∀ b, PE (compCx X cn scope b) elt (te b))
    (hs : ∀ x, foldedSetIterable iter X.env x = pure x := by intro _; rfl) : PE X (.ListComp elt [⟨tg, iter, ifs, 0⟩] scope pos) (tComp cn.length wi g tc te) :=
  pe_compT (TH := fun _ => True) hcalm F hi (fun b _ => hg b) (fun b _ => ht b) (fun b _ => he b) (fun _ _ _ _ _ _ _ _ _ => trivial) hs
/-- name = [elt for ..] on one row: the name is stored ahead of the block's names going -/
def tSetComp (n : Nat) (i : Nat) (wi : TI) (g : Bk → TG) (tc : Bk → TT) (te : Bk → TE) : TS := fun D σ H => tComp n wi g tc te σ H fun v H' => D.nx (σ.set i (some v)) H'
end
end L2

set_option maxHeartbeats 4000000
namespace L2
open PySem PySem.Spec PyProof.Rows
section
variable {X : Cx} {e : Expr} {es : List Expr} {te : TE} {pos : Pos}

/-! ### f-strings -/
abbrev TP1 := St → Hp → (Str → Hp → Prop) → Prop
abbrev TPs := Str → St → Hp → (Str → Hp → Prop) → Prop
def StrP (X : Cx) (pins : List (Addr × Obj)) (σ : St) (Q : Str → Hp → Prop) (u : Value) (s' : Shared) : Prop := ∃ y t H', u = .str y t ∧ Inv X pins σ H' s' ∧ Q y H'
/-- a part of an f-string: its value is a text -/
def PP (X : Cx) (e : Expr) (t : TP1) : Prop :=
  ∀ (pins : List (Addr × Obj)) (s : Shared) (σ : St) (H : Hp) (Q : Str → Hp → Prop), Inv X pins σ H s → t σ H Q → wpAny (model X.prog X.w) X.A (eval e X.env) (StrP X pins σ Q) X.xe s
def PPs (X : Cx) (es : List Expr) (t : TPs) : Prop :=
  ∀ (pins : List (Addr × Obj)) (s : Shared) (σ : St) (H : Hp) (acc : Str) (Q : Str → Hp → Prop), Inv X pins σ H s → t acc σ H Q →
    Joins (model X.prog X.w) X.A X.xe (evalEach es X.env) acc (fun out s₁ => ∃ H', Inv X pins σ H' s₁ ∧ Q out H') s
def tPC (x : Str) : TP1 := fun _ H Q => Q x H
/-- {value} of a text or an int -/
def tPV (te : TE) : TP1 := fun σ H Q => te σ H fun v H1 => (∃ z, v = .str z ∧ z.length ≤ sizeLine ∧ Q z H1) ∨ ∃ i : Int, v = .int i ∧ i.natAbs.log2 < 1920 ∧ Q (toString i) H1
theorem pp_const {x j} : PP X (.Constant (.str x) j pos) (tPC x) := fun _ _ _ H _ I h => Calls.Constant_str ⟨x, _, H, rfl, I.tok _, h⟩
theorem pp_val (he : PE X e te) : PP X (.FormattedValue e (-1) none pos) (tPV te) := by
  intro pins s σ H Q I h
  refine FormattedValue_plain (thn (he pins s σ H _ I h) fun v s1 ⟨x, H1, I1, r1, q1⟩ => ?_)
  rcases q1 with ⟨z, rfl, hz, q⟩ | ⟨i, rfl, hi, q⟩
  · obtain ⟨t, rfl⟩ := r1
    exact formatField_str (fun t' tk => ⟨z, t', H1, rfl, I1.tok _, q⟩) hz
  · obtain ⟨t, rfl⟩ := r1
    exact formatField_int_small hi ⟨_, _, H1, rfl, I1.tok _, q⟩
def tJ0 : TPs := fun acc _ H Q => Q acc H
def tJ (t : TP1) (u : TPs) : TPs := fun acc σ H Q => t σ H fun y H1 => (acc ++ y).length ≤ sizeLine ∧ u (acc ++ y) σ H1 Q
theorem pps_nil : PPs X [] tJ0 := fun _ _ _ H _ _ I h => ⟨H, I, h⟩
theorem pps_cons {t : TP1} {u : TPs} (h1 : PP X e t) (h2 : PPs X es u) : PPs X (e :: es) (tJ t u) := by
  intro pins s σ H acc Q I h
  refine wpAny_mono (h1 pins s σ H _ I h) (fun v s1 q => ?_) fun _ _ z => z
  obtain ⟨y, tk, H1, rfl, I1, hz, q⟩ := q
  exact ⟨y, tk, rfl, hz, h2 pins s1 σ H1 _ Q I1 q⟩
def tF (u : TPs) : TE := fun σ H Q => u Str.empty σ H fun out H1 => out.length ≤ sizeLine ∧ Q (.str out) H1
theorem pe_fstr {e2 : Expr} {u : TPs} (h : PPs X (e :: e2 :: es) u) : PE X (.JoinedStr (e :: e2 :: es) pos) (tF u) := by
  intro pins s σ H Q I hw
  refine wpAny_JoinedStr ?_
  have mono : ∀ (l : List (Sem Value)) (acc : Str) (Q1 Q2 : Str → Shared → Prop) (s : Shared), (∀ o s, Q1 o s → Q2 o s) → Joins (model X.prog X.w) X.A X.xe l acc Q1 s → Joins (model X.prog X.w) X.A X.xe l acc Q2 s := by
    intro l
    induction l with
    | nil => intro acc Q1 Q2 s hm h; exact hm _ _ h
    | cons a l ih =>
      intro acc Q1 Q2 s hm h
      refine wpAny_mono h (fun v s1 q => ?_) fun _ _ z => z
      obtain ⟨y, t, e1, hz, q⟩ := q
      exact ⟨y, t, e1, hz, ih _ _ _ _ hm q⟩
  refine mono _ _ _ _ _ (fun out s1 q => ?_) (h pins s σ H _ _ I hw)
  obtain ⟨H1, I1, hz, q⟩ := q
  exact ⟨hz, .str out, H1, I1.tok _, ⟨_, rfl⟩, q⟩

/-! ### int(text), join, split, a slice of a text -/
theorem call_int_text : CallR X (.type "int") (fun xs H Q => ∃ z n, xs = [.str z] ∧ PySem.intText? z = some n ∧ z.length ≤ 640 ∧ Q (.int n) H) := by
  intro pins s σ H xs us Q I r h
  obtain ⟨z, n, rfl, hn, hl, q⟩ := h
  obtain ⟨u, rfl, t, rfl⟩ := r.one
  exact PySem.W.KIN.call_text hn hl ⟨.int n, H, I.tok _, ⟨_, rfl⟩, q⟩
theorem strsAre_of {ys : List Str} : ∀ {us : List Value}, Vals (ys.map V.str) us → StrsAre us ys := by
  induction ys with
  | nil => intro us r; rw [List.map_nil] at r; cases r; exact .nil
  | cons n ns ih =>
    intro us r
    rw [List.map_cons] at r
    cases r with
    | cons r1 r2 =>
      obtain ⟨t, e⟩ := r1
      subst e
      exact .cons n t (ih r2)
def rJoin (K : PySem.W.Frag) : V → List V → Hp → VK → Prop := fun x vs H Q => ∃ sep a ys, x = .str sep ∧ vs = [.ref a] ∧ SqL K H a (ys.map V.str) ∧ (ys.map (·.length)).sum + ys.length * sep.length ≤ 16777216 ∧ Q (.str (Str.join sep ys)) H
theorem mt_join : MtM X "str.join" (rJoin X.K) := by
  intro pins s σ H x vs v us Q I rx rv h
  obtain ⟨sep, a, ys, rfl, rfl, hq, hz, q⟩ := h
  obtain ⟨t, rfl⟩ := rx
  obtain ⟨u, rfl, rfl⟩ := rv.one
  obtain ⟨its, r, p, _⟩ := I.list hq
  refine join_list p.isList (strsAre_of r) hz fun t' k => ⟨.str (Str.join sep ys), H, I.tok _, ⟨t', ?_⟩, q⟩
  show Value.str (Builtin.Str.glued sep ys) t' = _
  rw [StrLaws.glued_eq_join]
theorem vals_numbered : ∀ (tk : Nat) (ys : List Str), Vals (ys.map V.str) (strsFrom tk ys)
  | _, [] => .nil
  | tk, y :: r => .cons ⟨tk, rfl⟩ (vals_numbered (tk + 1) r)
def rSplit : V → List V → Hp → VK → Prop := fun x vs H Q => ∃ z y, x = .str z ∧ vs = [.str y] ∧ (y.length == 0) = false ∧ z.length ≤ sizeLine ∧ (Txt.split z y).length ≤ sizeLine ∧
  ∀ p, H p = none → Q (.ref p) (upd H p (.lst ((Txt.split z y).map V.str)))
theorem mt_split : MtM X "str.split" rSplit := by
  intro pins s σ H x vs v us Q I rx rv h
  obtain ⟨z, y, rfl, rfl, hy, hz, hn, q⟩ := h
  obtain ⟨t, rfl⟩ := rx
  obtain ⟨u, rfl, tu, rfl⟩ := rv.one
  have lay : ∀ (ws : List Value) (tk : Nat), Vals ((Txt.split z y).map V.str) ws → EP X pins σ Q (.ref s.heap.objs.size) { s with heap := s.heap.push { cls := .type "list", data := .seq ws.toArray }, toks := tk } := by
    intro ws tk hv
    refine ⟨.ref s.heap.objs.size, _, I.lnew hv (by rw [List.length_map]; exact hn), rfl, q _ I.fresh⟩
  cases h1 : (decide (z.length < y.length) || decide (Builtin.Str.strKind z < Builtin.Str.strKind y))
  · cases hf : (Builtin.Str.occurrences z y 0 z.length (z.length + 1)).isEmpty
    · have es : Txt.split z y = Builtin.Str.partsBetween z (Builtin.Str.occurrences z y 0 z.length (z.length + 1)) y.length := (if_neg (ne_true_of_eq_false h1)).trans (if_neg (ne_true_of_eq_false hf))
      refine call_meets F.slot_str_split (typeIs_str _ _ _) F.entry_str_split (F.args_str_split_2 _ _) (meets_str_split_sep z y t tu h1 hy hf hz (by rw [← es]; exact hn)) ?_
      rw [← es]
      exact lay _ _ (vals_numbered _ _)
    · have es : Txt.split z y = [z] := (if_neg (ne_true_of_eq_false h1)).trans (if_pos hf)
      refine call_meets F.slot_str_split (typeIs_str _ _ _) F.entry_str_split (F.args_str_split_2 _ _) (meets_str_split_not_found z y t tu h1 hy hf) ?_
      exact lay [.str z t] s.toks (by rw [es]; exact .cons ⟨t, rfl⟩ .nil)
  · have es : Txt.split z y = [z] := if_pos h1
    refine call_meets F.slot_str_split (typeIs_str _ _ _) F.entry_str_split (F.args_str_split_2 _ _) (meets_str_split_cannot_occur z y t tu h1) ?_
    exact lay [.str z t] s.toks (by rw [es]; exact .cons ⟨t, rfl⟩ .nil)
/-- t[lo:hi] -/
def rSlS : V → Option Int → Option Int → Hp → VK → Prop := fun x lo hi H Q => ∃ z, x = .str z ∧ z.length ≤ sizeLine ∧ Q (.str (Txt.slice z lo hi)) H
theorem part_pair {v : Value} {o : Option Int} (p : IsPart v o) : ∃ l : Option (Int × Tok), v = partValue l ∧ l.map (·.1) = o := by
  cases p with
  | none => exact ⟨none, rfl, rfl⟩
  | int i t => exact ⟨some (i, t), rfl, rfl⟩
theorem sl_str : SlR X rSlS := by
  intro pins s σ H x v vl vu lo hi sl Q I rx hs pl pu h
  obtain ⟨z, rfl, hz, q⟩ := h
  obtain ⟨t, rfl⟩ := rx
  obtain ⟨l, rfl, el⟩ := part_pair pl
  obtain ⟨u, rfl, eu⟩ := part_pair pu
  subst el eu
  refine ⟨"str", _, F.slot_str_getitem.lookup, typeIs_str _ _ _, ?_⟩
  obtain ⟨o, ho, hc, hd⟩ := hs
  refine wpAny_getItem_str_slice (l := l) (u := u) (st := none) ⟨o, ho, hc, hd⟩ rfl ?_
  exact post_val_or_str ⟨Nat.le_trans (Txt.slice_le z _ _) hz, fun t' k => ⟨.str _, H, I.tok _, ⟨t', rfl⟩, q⟩⟩

/-! ### the signs of a text, one after another -/
def Its (z : Str) : It := ⟨fun i _ => i < z.cps.size, fun i H x H' => H' = H ∧ ∃ c, z.cps[i]? = some c ∧ x = .str ⟨#[c]⟩, fun i _ => z.cps.size ≤ i⟩
def iStr (tl : TE) : TI := fun σ H R => tl σ H fun x H1 => ∃ z, x = .str z ∧ R (Its z) H1
theorem turn_str {P : Program} {w : World} {K : PySem.W.Frag} {tg : Expr} {z : Str} {it : Addr} {T : String} {t : Tok} (hT : ["enumerate", "zip", "dict_itemiterator", "dict_reverseitemiterator", "odict_iterator", "itertools.zip_longest", "itertools.pairwise"].contains T = false)
    (W : ∀ A : Around, A.handled = none → Walks P w A it [it] [it] z.cps.size (SignAt z) (fun i h => h.IsStrIter it T z t i)) 
    (S : ∀ (A : Around) (i : Nat) (s : Shared) (Q : Value → Shared → Prop) (E : Value → Shared → Prop), s.heap.IsStrIter it T z t i → Q (.ref it) s → wpAny (model P w) A (pyIter (.ref it)) Q E s) :
    Turn P w K tg (Its z) [it] it (fun i h => h.IsStrIter it T z t i ∧ i ≤ z.cps.size) where
  mem := by simp
  obj := fun i h st b hb => by
    have e : b = it := by simpa using hb
    subst e
    obtain ⟨⟨o, e, c, d⟩, _⟩ := st
    exact ⟨o, e, fun v q => by rw [d] at q; cases q⟩
  keep := fun i h h' st k => ⟨by
    obtain ⟨⟨o, e, c, d⟩, _⟩ := st
    exact ⟨o, k it (by simp) o e, c, d⟩, st.2⟩
  item := by
    intro X hP hw hK hc i pins s σ H E I hf st hg
    subst hP hw hK
    obtain ⟨f0, f1, f2, f3, f4, f5⟩ := hf it (by simp)
    have hgi : i < z.cps.size := hg
    refine (W X.A (I.ok.hd hc)).item i s _ _ hgi st.1 fun v h' tk hv st' kk => ?_
    obtain ⟨c, u, hc', rfl⟩ := hv
    have I1 : Inv X pins σ H { s with heap := h', toks := tk } := I.turned (fun b o hb e => kk b o (by simpa using hb) e) f0 f1 f3 f4 f5
    obtain ⟨o, e, cc, d⟩ := id st'
    exact ⟨_, rfl, go_of (s := { s with heap := h', toks := tk }) e cc d hT ⟨.str ⟨#[c]⟩, H, I1, ⟨u, rfl⟩, ⟨rfl, c, hc', rfl⟩, ⟨st', hgi⟩, fun b hb => (hf b hb).1⟩⟩
  done := by
    intro X hP hw hK hc i pins s σ H E I hf st hg
    subst hP hw hK
    obtain ⟨f0, f1, f2, f3, f4, f5⟩ := hf it (by simp)
    have hge : z.cps.size ≤ i := hg
    have e : i = z.cps.size := Nat.le_antisymm st.2 hge
    subst e
    exact (W X.A (I.ok.hd hc)).done s _ _ st.1 fun h' tk kk => ⟨rfl, I.turned (fun b o hb e => kk b o (by simpa using hb) e) f0 f1 f3 f4 f5⟩
  self := fun A i s Q E st h => S A i s Q E st.1 h
theorem pi_str {tg l : Expr} {tl : TE} (hl : PE X l tl) : PI X tg l (iStr tl) := by
  intro pins s σ H R I h
  refine thn (hl pins s σ H _ I h) fun v s1 ⟨x, H1, I1, r1, q1⟩ => ?_
  obtain ⟨z, rfl, q⟩ := q1
  obtain ⟨t, rfl⟩ := r1
  have fp : ∀ b ∈ [s1.heap.objs.size], FpOk X pins H1 b := fun b hb => by
    have e : b = s1.heap.objs.size := by simpa using hb
    subst e
    exact I1.fpOk (Nat.le_refl _) (I1.hok.fresh (Nat.le_refl _))
  cases ha : z.cps.all (· < 128)
  · refine wpAny_pyIter_wide ha ?_
    refine ⟨s1.heap.objs.size, [s1.heap.objs.size], _, _, H1, rfl, I1.kept (t' := s1.toks) fun b o e => Heap.get?_push_of_some _ e, turn_str (T := "str_iterator") (t := t) (by decide) (fun A hA => Walks.strWide hA _ z t)
      (fun A i s Q E st hq => wpAny_pyIter_striter_wide st hq), ⟨⟨_, Heap.get?_push_size _ rfl, rfl, rfl⟩, Nat.zero_le _⟩, fp, q⟩
  · refine wpAny_pyIter_ascii ha ?_
    refine ⟨s1.heap.objs.size, [s1.heap.objs.size], _, _, H1, rfl, I1.kept (t' := s1.toks) fun b o e => Heap.get?_push_of_some _ e, turn_str (T := "str_ascii_iterator") (t := t) (by decide) (fun A hA => Walks.strAscii hA _ z t)
      (fun A i s Q E st hq => wpAny_pyIter_striter_ascii st hq), ⟨⟨_, Heap.get?_push_size _ rfl, rfl, rfl⟩, Nat.zero_le _⟩, fp, q⟩

/-! ### any of a list of bools -/
theorem any_range : ∀ bs : List Bool, (List.range bs.length).any (fun i => bs.getD i false) = bs.any id
  | [] => rfl
  | b :: bs => by
    rw [List.length_cons, List.range_succ_eq_map, List.any_cons, List.any_map, List.any_cons]
    have : ((fun i => (b :: bs).getD i false) ∘ Nat.succ) = fun i => bs.getD i false := by
      funext i
      rfl
    rw [this, any_range bs]
    rfl
theorem call_any : CallR X (.builtin "any") (fun xs H Q => X.calm = true ∧ ∃ (a : Addr) (bs : List Bool), xs = [.ref a] ∧ SqL X.K H a (bs.map V.bl) ∧ Q (.bl (bs.any id)) H) := by
  intro pins s σ H xs us Q I r h
  obtain ⟨hc, a, bs, rfl, hq, q⟩ := h
  obtain ⟨u, rfl, rfl⟩ := r.one
  obtain ⟨its, rv, p, hz⟩ := I.list hq
  have hl := rv.length
  rw [List.length_map] at hl
  have bsAt : ∀ (i : Nat) (v : Value), its.toArray[i]? = some v → v = Value.bool (bs.getD i false) := by
    intro i v hv
    have hv' : its[i]? = some v := by simpa using hv
    have hi : i < its.length := (List.getElem?_eq_some_iff.mp hv').1
    have hb : i < bs.length := by omega
    obtain ⟨u, hu, ru⟩ := rv.get (i := i) (x := .bl (bs[i])) (by rw [List.getElem?_map, List.getElem?_eq_getElem hb]; rfl)
    rw [hv'] at hu; cases hu
    have : v = .bool bs[i] := ru
    rw [this, List.getD_eq_getElem?_getD, List.getElem?_eq_getElem hb]
    rfl
  refine call_any_walk (wpAny_pyIter_list p.isList ?_)
  have ane : a ≠ s.heap.objs.size := by
    obtain ⟨o, ho, _⟩ := p.isList
    exact Nat.ne_of_lt (Heap.lt_size ho)
  have hd : X.A.in1.handled = none := I.ok.hd hc
  refine ⟨s.heap.objs.size, _, _, _, _, _, fun i => bs.getD i false, rfl, Walks.list hd s.heap.objs.size a ane its.toArray, ⟨⟨_, Heap.get?_push_size _ rfl, rfl, rfl⟩, p.isList.push _⟩, ?_, ?_⟩
  · intro i v s' Q' E' hP hQ'
    rw [bsAt i v hP]
    exact wpAny_truthy_bool hQ'
  · intro h' tk kk
    have e : (List.range its.toArray.size).any (fun i => bs.getD i false) = bs.any id := by
      rw [List.size_toArray, ← hl]
      exact any_range bs
    rw [e]
    refine ⟨.bl _, H, I.kept (t' := tk) fun b o e => kk b o (fun z => ?_) (Heap.get?_push_of_some _ e), rfl, q⟩
    have : b = s.heap.objs.size := by simpa using z
    exact absurd (Heap.lt_size e) (by rw [this]; exact Nat.lt_irrefl _)
end
end L2

set_option maxHeartbeats 4000000
namespace L2
open PySem PySem.Spec PyProof.Rows PySem.SeqAt

/-! ### deep equality: two values that are the same all through -/
inductive Deq (K : PySem.W.Frag) (H : Hp) : Nat → V → V → Prop where
  | flat {n : Nat} {x : V} (f : flatV x = true) : Deq K H n x x
  | tup {n : Nat} {a b : Addr} {xs ys : List V} (ha : SqT K H a xs) (hb : SqT K H b ys) (hl : xs.length = ys.length) (h : ∀ (i : Nat) x y, xs[i]? = some x → ys[i]? = some y → Deq K H n x y) : Deq K H (n + 1) (.ref a) (.ref b)
  | lst {n : Nat} {a b : Addr} {xs ys : List V} (ha : SqL K H a xs) (hb : SqL K H b ys) (hl : xs.length = ys.length) (h : ∀ (i : Nat) x y, xs[i]? = some x → ys[i]? = some y → Deq K H n x y) : Deq K H (n + 1) (.ref a) (.ref b)
section
variable {X : Cx} {pins : List (Addr × Obj)} {σ : St} {H : Hp} {s : Shared}
theorem eqV_self : ∀ {x : V}, flatV x = true → eqV x x = true := by
  intro x f
  cases x <;> first | (simp [eqV]; done) | (cases f)
theorem range_all_true (n : Nat) : (List.range n).all (fun _ => true) = true := by simp
theorem Deq.at {n : Nat} {x y : V} (d : Deq X.K H n x y) (I : Inv X pins σ H s) : ∀ {A : Around} {u v : Value}, A.units + n < cLine → RelV x u → RelV y v →
    EqAt A s u v true ∧ (∀ a b, x = .ref a → y = .ref b → RcAt A s u v true ∧ RcNeAt A s u v false) := by
  induction d with
  | @flat n x f =>
    intro A u v hu ru rv
    refine ⟨?_, fun a b e _ => ?_⟩
    · have := eqAt_V (A := A) (s := s) ru rv f f
      rw [eqV_self f] at this
      exact this
    · subst e; cases f
  | @tup n a b xs ys ha hb hl h ih =>
    intro A u v hu ru rv
    cases ru
    cases rv
    obtain ⟨its, r, p, _⟩ := I.tuple ha
    obtain ⟨its', r', p', _⟩ := I.tuple hb
    have e1 := r.length
    have e2 := r'.length
    have he : ∀ j (h1 : j < its.toArray.size) (h2 : j < its'.toArray.size), EqAt A.in1 s its.toArray[j] its'.toArray[j] true := by
      intro j h1 h2
      have h1' : j < its.length := by simpa using h1
      have h2' : j < its'.length := by simpa using h2
      have g1 : xs[j]? = some xs[j] := List.getElem?_eq_getElem (by omega)
      have g2 : ys[j]? = some ys[j] := List.getElem?_eq_getElem (by omega)
      obtain ⟨u1, q1, k1⟩ := r.get g1
      obtain ⟨u2, q2, k2⟩ := r'.get g2
      have z1 : its.toArray[j] = u1 := by
        rw [List.getElem?_eq_getElem h1'] at q1
        simpa using q1
      have z2 : its'.toArray[j] = u2 := by
        rw [List.getElem?_eq_getElem h2'] at q2
        simpa using q2
      rw [z1, z2]
      exact (ih j _ _ g1 g2 (by show A.units + 1 + n < cLine; omega) k1 k2).1
    have bt : ((List.range (min its.toArray.size its'.toArray.size)).all (fun _ => true) && its.toArray.size == its'.toArray.size) = true := by
      rw [range_all_true]
      simp
      omega
    have rc : RcAt A s (.ref a) (.ref b) true := by
      have := RcAt.tuples (A := A) (e := fun _ => true) (show s.heap.IsTuple a its.toArray from p) (show s.heap.IsTuple b its'.toArray from p') (by omega) he
      rw [bt] at this
      exact this
    have rn : RcNeAt A s (.ref a) (.ref b) false := by
      have := RcNeAt.tuples (A := A) (e := fun _ => true) (show s.heap.IsTuple a its.toArray from p) (show s.heap.IsTuple b its'.toArray from p') (by omega) he
      rw [bt] at this
      exact this
    refine ⟨?_, fun _ _ _ _ => ⟨rc, rn⟩⟩
    by_cases e : a = b
    · subst e; exact EqAt.same _
    · exact EqAt.of_refs e rc
  | @lst n a b xs ys ha hb hl h ih =>
    intro A u v hu ru rv
    cases ru
    cases rv
    obtain ⟨its, r, p, _⟩ := I.list ha
    obtain ⟨its', r', p', _⟩ := I.list hb
    have e1 := r.length
    have e2 := r'.length
    have he : ∀ j (h1 : j < its.toArray.size) (h2 : j < its'.toArray.size), EqAt A.in1 s its.toArray[j] its'.toArray[j] true := by
      intro j h1 h2
      have h1' : j < its.length := by simpa using h1
      have h2' : j < its'.length := by simpa using h2
      have g1 : xs[j]? = some xs[j] := List.getElem?_eq_getElem (by omega)
      have g2 : ys[j]? = some ys[j] := List.getElem?_eq_getElem (by omega)
      obtain ⟨u1, q1, k1⟩ := r.get g1
      obtain ⟨u2, q2, k2⟩ := r'.get g2
      have z1 : its.toArray[j] = u1 := by
        rw [List.getElem?_eq_getElem h1'] at q1
        simpa using q1
      have z2 : its'.toArray[j] = u2 := by
        rw [List.getElem?_eq_getElem h2'] at q2
        simpa using q2
      rw [z1, z2]
      exact (ih j _ _ g1 g2 (by show A.units + 1 + n < cLine; omega) k1 k2).1
    have bt : (List.range its.toArray.size).all (fun _ => true) = true := range_all_true _
    have rc : RcAt A s (.ref a) (.ref b) true := by
      have := RcAt.lists (A := A) (e := fun _ => true) p.isList p'.isList (by simp; omega) (by omega) he
      rw [bt] at this
      exact this
    have rn : RcNeAt A s (.ref a) (.ref b) false := by
      have := RcNeAt.lists (A := A) (e := fun _ => true) p.isList p'.isList (by simp; omega) (by omega) he
      rw [bt] at this
      exact this
    refine ⟨?_, fun _ _ _ _ => ⟨rc, rn⟩⟩
    by_cases e : a = b
    · subst e; exact EqAt.same _
    · exact EqAt.of_refs e rc
inductive rEqDI (K : PySem.W.Frag) (b : Bool) (x : V) (y : V) (H : Hp) (Q : VK) : Prop
  | mk (a : _) (c : _) (h0_ : x = .ref a) (h1_ : y = .ref c) (h2_ : Deq K H 60 x y ∧ Q (.bl b) H) : rEqDI K b x y H Q
def rEqD (K : PySem.W.Frag) (b : Bool) : R2 := fun x y H Q => rEqDI K b x y H Q
theorem op_eqD (hu : X.A.units + 64 < cLine) : OpR X (compareOp .Eq) (rEqD X.K true) := by
  intro pins s σ H x y v u Q I r1 r2 h
  obtain ⟨a, c, rfl, rfl, d, q⟩ := h
  exact (((d.at I (A := X.A) (by omega) r1 r2).2 a c rfl rfl).1) X.prog X.w X.xe _ ⟨.bl true, H, I, rfl, q⟩
theorem op_neD (hu : X.A.units + 64 < cLine) : OpR X (compareOp .NotEq) (rEqD X.K false) := by
  intro pins s σ H x y v u Q I r1 r2 h
  obtain ⟨a, c, rfl, rfl, d, q⟩ := h
  exact (((d.at I (A := X.A) (by omega) r1 r2).2 a c rfl rfl).2) X.prog X.w X.xe _ ⟨.bl false, H, I, rfl, q⟩
/-! ### isinstance(x, T), T a built-in type -/
theorem call_isT : CallR X (.builtin "isinstance") (fun xs H Q => ∃ x T t b, xs = [x, .ty T] ∧ TyOf X.K H x t ∧ PySem.W.kitOne X.K t (.type T) = some b ∧ Q (.bl b) H) := by
  intro pins s σ H xs us Q I r h
  obtain ⟨x, T, t, b, rfl, ty, e, q⟩ := h
  obtain ⟨u, v, rfl, r1, r2⟩ := r.two
  cases r2
  exact isinst_ok I r1 ty e fun tk => ⟨.bl b, H, I.tok _, rfl, q⟩

/-! ### zip of two lists, enumerate of a list: the pair is a tuple that is not looked at -/
/-- (i, x) of the list at a -/
def Ite (K : PySem.W.Frag) (a : Addr) : It :=
  ⟨fun i H => ∃ xs x, SqL K H a xs ∧ xs[i]? = some x, fun i H x H' => ∃ y t, x = .ref t ∧ H t = none ∧ (∀ xs, SqL K H a xs → xs[i]? = some y) ∧ H' = upd H t (.tup [.int i, y]), fun i H => ∃ xs, SqL K H a xs ∧ xs.length ≤ i⟩
/-- (x, y) of the lists at a and b -/
def Itz (K : PySem.W.Frag) (a b : Addr) : It :=
  ⟨fun i H => ∃ xs ys x y, SqL K H a xs ∧ SqL K H b ys ∧ xs[i]? = some x ∧ ys[i]? = some y,
   fun i H p H' => ∃ x y t, p = .ref t ∧ H t = none ∧ (∀ xs, SqL K H a xs → xs[i]? = some x) ∧ (∀ ys, SqL K H b ys → ys[i]? = some y) ∧ H' = upd H t (.tup [x, y]),
   fun i H => ∃ xs ys, SqL K H a xs ∧ SqL K H b ys ∧ min xs.length ys.length = i⟩
theorem notList_of {a : Addr} {K : PySem.W.Frag} {X : Cx} {pins : List (Addr × Obj)} {σ : St} {H : Hp} {s : Shared} {xs : List V} {b : Addr} {o : Obj} (I : Inv X pins σ H s) (hq : SqL X.K H a xs) (e : s.heap.get? b = some o) (hc : o.cls ≠ .type "list") : a ≠ b := by
  rintro rfl
  obtain ⟨its, _, p, _⟩ := I.list hq
  obtain ⟨o', e', c', _⟩ := p.isList
  rw [e] at e'; cases e'
  exact hc c'
/-- behind an iterator's step: its own records wr turned, a new tuple lies at T -/
theorem Inv.pairLaid {tk : Nat} {h' : Heap} {wr : List Addr} {T : Addr} {xs : List V} {vals : List Value} (I : Inv X pins σ H s) (hw : ∀ b ∈ wr, FpOk X pins H b) (hT : s.heap.objs.size ≤ T) (ht : h'.IsTuple T vals.toArray) (rv : Vals xs vals) (hz : xs.length ≤ sizeLine)
    (kk : ∀ b o, b ∉ wr → s.heap.get? b = some o → h'.get? b = some o) (there : ∀ b ∈ wr, ∃ o, h'.get? b = some o) : Inv X pins σ (upd H T (.tup xs)) { s with heap := h', toks := tk } := by
  have hTn : H T = none := I.hok.fresh hT
  have nT : ∀ b o, s.heap.get? b = some o → b ≠ T := fun b o e => Nat.ne_of_lt (Nat.lt_of_lt_of_le (Heap.lt_size e) hT)
  refine I.step (g' := s.gens) (d' := s.drawn) (ch := wr) (fun b hb => ?_) (fun b o _ _ hc e _ => kk b o hc e) (fun b o _ _ hc e _ => ⟨o.slots, kk b o hc e⟩) (fun b o _ e n => by rw [upd_ne (nT b o e)]; exact n)
    (fun b o hc e => ⟨o, kk b o hc e⟩) (fun b ys e => by rw [upd_ne (ne_of_none e hTn)]; exact e) (fun b o u e => by rw [upd_ne (ne_of_none e hTn)]; exact e) (fun b ps e => ⟨#[], by rw [upd_ne (ne_of_none e hTn), e]; simp⟩) (fun m hm => ?_) (fun b u e => ?_) I.bare
  · obtain ⟨_, f1, _, f3, f4, f5⟩ := hw b hb
    exact ⟨f3, f1, f4, f5⟩
  · obtain ⟨o, es, ep, ho, r⟩ := hm
    exact ⟨o, es, ep, kk _ o (fun z => (hw _ z).2.1 rfl) ho, r⟩
  · by_cases hb : b = T
    · subst hb
      rw [upd_same] at e
      cases e
      exact ⟨hz, vals, rv, ht⟩
    · rw [upd_ne hb] at e
      refine (I.hok b u e).stay (fun c v hc q => kk c v (fun z => ?_) q) (fun c q => by rw [upd_ne (ne_of_none q hTn)]; exact q) fun c ys q => by rw [upd_ne (ne_of_none q hTn)]; exact q
      have hn := (hw c z).1
      rcases hc with hc | hc
      · rw [hc, e] at hn; cases hn
      · rw [hc] at hn; cases hn
theorem Inv.turnedMany {tk : Nat} {h' : Heap} {wr : List Addr} (I : Inv X pins σ H s) (hw : ∀ b ∈ wr, FpOk X pins H b) (kk : ∀ b o, b ∉ wr → s.heap.get? b = some o → h'.get? b = some o) : Inv X pins σ H { s with heap := h', toks := tk } := by
  refine I.step (g' := s.gens) (d' := s.drawn) (ch := wr) (fun b hb => ?_) (fun b o _ _ hc e _ => kk b o hc e) (fun b o _ _ hc e _ => ⟨o.slots, kk b o hc e⟩) (fun b o _ e n => n)
    (fun b o hc e => ⟨o, kk b o hc e⟩) (fun b ys e => e) (fun b o u e => e) (fun b ps e => ⟨#[], by rw [e]; simp⟩) (fun m hm => ?_) (fun b u e => ?_) I.bare
  · obtain ⟨_, f1, _, f3, f4, f5⟩ := hw b hb
    exact ⟨f3, f1, f4, f5⟩
  · obtain ⟨o, es, ep, ho, r⟩ := hm
    exact ⟨o, es, ep, kk _ o (fun z => (hw _ z).2.1 rfl) ho, r⟩
  · refine (I.hok b u e).stay (fun c v hc q => kk c v (fun z => ?_) q) (fun c q => q) fun c ys q => q
    have hn := (hw c z).1
    rcases hc with hc | hc
    · rw [hc, e] at hn; cases hn
    · rw [hc] at hn; cases hn
end
end L2

set_option maxHeartbeats 4000000
namespace L2
open PySem PySem.Spec PyProof.Rows PySem.SeqAt
/-! ### one word for an operation, whatever it is upon -/
section
variable {X : Cx}
theorem hu_of64 {k : Nat} {A : Around} (hr : Room k A) : A.units + 64 < cLine := hr.units
theorem bt_len : bootBuiltins "len" = some (.builtin "len") := by decide +kernel
theorem bt_min : bootBuiltins "min" = some (.builtin "min") := by decide +kernel
theorem bt_enumerate : bootBuiltins "enumerate" = some (.type "enumerate") := by decide +kernel
theorem bt_zip : bootBuiltins "zip" = some (.type "zip") := by decide +kernel
theorem bt_isinstance : bootBuiltins "isinstance" = some (.builtin "isinstance") := by decide +kernel
theorem bt_int : bootBuiltins "int" = some (.type "int") := by decide +kernel
theorem bt_bool : bootBuiltins "bool" = some (.type "bool") := by decide +kernel
theorem bt_str : bootBuiltins "str" = some (.type "str") := by decide +kernel
theorem bt_list : bootBuiltins "list" = some (.type "list") := by decide +kernel
theorem bt_tuple : bootBuiltins "tuple" = some (.type "tuple") := by decide +kernel
theorem bt_any : bootBuiltins "any" = some (.builtin "any") := by decide +kernel
/-- text * n -/
def rRepS : R2 := fun x y H Q => ∃ z k, x = .str z ∧ y = .int k ∧ 0 ≤ k ∧ z.length * k.toNat ≤ 1000 ∧ ∀ r : Str, r.cps.toList = (List.replicate k.toNat z.cps.toList).flatten → Q (.str r) H
end
end L2
namespace L2
open PySem PySem.Spec PyProof.Rows
/-! ### a row of written texts as arguments -/
def cstrs : List Expr → Option (List Str)
  | [] => some []
  | .Constant (.str x) _ _ :: r => (cstrs r).map fun ys => x :: ys
  | _ => none
end L2

namespace L2
open PySem
theorem seq_upd {K : PySem.W.Frag} {H : Hp} {a l : Addr} {o : HO} {xs : List V} (h : SqL K H a xs) (hn : H l = none) : SqL K (upd H l o) a xs := by
  have ne : ∀ {u}, H a = some u → a ≠ l := fun e => ne_of_none e hn
  rcases h with (h | ⟨u, h⟩) | h
  · exact .inl (.inl (by rw [upd_ne (ne h)]; exact h))
  · exact .inl (.inr ⟨u, by rw [upd_ne (ne h)]; exact h⟩)
  · exact .inr h
theorem Same.upd {H : Hp} {l : Addr} {o : HO} (hn : H l = none) : Same H (upd H l o) := fun b u e => by
  rw [upd_ne (ne_of_none e hn)]
  exact e
end L2
namespace L2
theorem bodyOk {X : Cx} {b : List PySem.Stmt} {t : TS} {D : Ends} {σ : St} {H : Hp} (h : PSs X b t) (q : t D σ H) : ∃ t, PSs X b t ∧ t D σ H := ⟨t, h, q⟩
theorem dec_int' (i j : Int) : decide (V.int i = V.int j) = decide (i = j) := by
  by_cases h : i = j
  · subst h; simp
  · rw [decide_eq_false h]
    exact decide_eq_false fun e => h (V.int.inj e)
end L2
namespace L2
open PySem
/-- written texts, by their places -/
theorem pa_cs {X : Cx} : ∀ cs : List (Str × Pos), PA X (cs.map fun c => Expr.Constant (.str c.1) 0 c.2) (fun _ H Q => Q (cs.map fun c => V.str c.1) H)
  | [] => pa_nil
  | c :: cs => pa_cons pe_str (pa_cs cs)
end L2
namespace L2
open PySem
/-- name = [written texts] -/
theorem ps_setcs {X : Cx} {i : Nat} {x : Str} {pos pos' p : Pos} (cs : List (Str × Pos)) (hN : X.N.Nodup) (hi : X.N[i]? = some x) (hx : Loc X.env.scope x) (hf : X.fn x = true ∨ X.env.scope.names.lookup x = some .local := by first | exact .inl rfl | exact .inr rfl | assumption) :
    PS X (.Assign [.Name x pos'] (.List (cs.map fun c => Expr.Constant (.str c.1) 0 c.2) p) pos) (tAsg (tLst (fun _ H Q => Q (cs.map fun c => V.str c.1) H)) (gName i)) := ps_set hN hi hx (pe_lst (pa_cs cs)) rfl hf
end L2

set_option maxHeartbeats 4000000
namespace L2
open PySem PySem.Spec PyProof.Rows
section
variable {X : Cx} {tg : Expr}
theorem list_inj2 {pins : List (Addr × Obj)} {σ : St} {H : Hp} {s : Shared} {a : Addr} {xs : List V} {i : Nat} {y : V} (I : Inv X pins σ H s) (hq : SqL X.K H a xs) (hy : xs[i]? = some y) : ∀ ys, SqL X.K H a ys → ys[i]? = some y := fun ys h => by
  rw [I.list_inj h hq]
  exact hy
/-- the tuple that an iterator hands out, for a target that takes it apart -/
theorem turn_enum {P : Program} {w : World} {K : PySem.W.Frag} {es : List Expr} {k : Nat} {tp : Pos} (a e it : Addr) (hei : e ≠ it) :
    Turn P w K (.Tuple es k tp) (Ite K a) [e, it] e (fun i h => (∃ old, IsEnum h e it i old) ∧ h.IsListIter it a i) where
  mem := by simp
  obj := fun i h st b hb => by
    obtain ⟨⟨old, he⟩, o, e2, c, d⟩ := st
    rcases List.mem_cons.mp hb with rfl | hb
    · exact ⟨_, he, fun v z => by
        have z' : Data.fields _ = Data.cell v := z
        cases z'⟩
    · have : b = it := by simpa using hb
      subst this
      exact ⟨o, e2, fun v z => by rw [d] at z; cases z⟩
  keep := fun i h h' st kp => by
    obtain ⟨⟨old, he⟩, hit⟩ := st
    exact ⟨⟨old, kp e (by simp) _ he⟩, hit.at fun o x => kp it (by simp) o x⟩
  item := by
    intro X hP hw hK hc i pins s σ H E I hf st hg
    subst hP hw hK
    obtain ⟨xs, x, hq, hx⟩ := hg
    obtain ⟨its, rv, p, hz⟩ := I.list hq
    obtain ⟨u, hu, ru⟩ := rv.get hx
    obtain ⟨⟨old, he⟩, hit⟩ := st
    have hle : a ≠ e := notList_of (K := X.K) I hq he (by intro z; injection z with z; exact absurd z (by decide))
    have hli : a ≠ it := by
      obtain ⟨o, e2, c, _⟩ := hit
      exact notList_of (K := X.K) I hq e2 (by rw [c]; intro z; injection z with z; exact absurd z (by decide))
    have hiu : i < its.toArray.size := by
      have := (List.getElem?_eq_some_iff.mp hu).1
      simpa using this
    have W := WalksT.enumerate (prog := X.prog) (w := X.w) (I.ok.hd hc) e it a hei hle hli its.toArray
    refine W.item i s _ _ hiu ⟨⟨old, he⟩, hit, p.isList⟩ fun T vals h' tk hv hT ht mid kk => ?_
    refine ⟨_, rfl, ?_⟩
    obtain ⟨t, x', hx', rfl⟩ := hv
    have ex : x' = u := by
      have : its[i]? = some x' := by simpa using hx'
      rw [hu] at this
      exact (Option.some.inj this).symm
    subst ex
    have fw : ∀ b ∈ [e, it], FpOk X pins H b := hf
    have I1 : Inv X pins σ (upd H T (.tup [.int i, x])) { s with heap := h', toks := tk } := by
      refine I.pairLaid (vals := [.int i t, x']) fw hT (by simpa using ht) (.cons ⟨t, rfl⟩ (.cons ru .nil)) (by show 2 ≤ sizeLine; decide) kk fun b hb => ?_
      obtain ⟨⟨xx, ho⟩, ⟨o, e2, _⟩, _⟩ := mid
      rcases List.mem_cons.mp hb with rfl | hb
      · exact ⟨_, ho⟩
      · have : b = it := by simpa using hb
        subst this
        exact ⟨o, e2⟩
    have hTn : H T = none := I.hok.fresh hT
    have neT : ∀ b ∈ [e, it], b ≠ T := fun b hb z => by
      subst z
      exact W.apart i b _ mid hb
    refine W.go es k tp i T _ _ _ mid fun h'' st'' kk'' => ?_
    have hf2 : ∀ b ∈ [e, it], FpOk X pins (upd H T (.tup [.int i, x])) b := fun b hb => by
      obtain ⟨f0, fr⟩ := hf b hb
      exact ⟨by rw [upd_ne (neT b hb)]; exact f0, fr⟩
    refine ⟨.ref T, upd H T (.tup [.int i, x]), I1.turnedMany (tk := tk) hf2 kk'', rfl, ⟨x, T, rfl, hTn, list_inj2 I hq hx, rfl⟩, ⟨st''.1, st''.2.1⟩, fun b hb => (hf2 b hb).1⟩
  done := by
    intro X hP hw hK hc i pins s σ H E I hf st hg
    subst hP hw hK
    obtain ⟨xs, hq, hx⟩ := hg
    obtain ⟨its, rv, p, hz⟩ := I.list hq
    obtain ⟨⟨old, he⟩, hit⟩ := st
    have hl := rv.length
    refine wpAny_pyNext_enum_end (I.ok.hd hc) he hit p.isList (Array.getElem?_eq_none (by simp; omega)) fun h' hx' => ?_
    exact ⟨rfl, I.turnedMany (tk := s.toks) hf fun b o hb q => hx' b o (fun z => hb (by simp [z])) q⟩
  self := fun _ _ _ _ _ st h => by
    obtain ⟨⟨old, he⟩, _⟩ := st
    exact wpAny_pyIter_enum he h
/-- one argument, with what is known of it -/
theorem pa_one {l : Expr} {tl : TE} (hl : PE X l tl) (hs : starEach [l] X.env = [(false, eval l X.env)]) (pos : Pos) (pins : List (Addr × Obj)) (s : Shared) (σ : St) (H : Hp) {Q : VK} (I : Inv X pins σ H s) (h : tl σ H Q) :
    wpAny (model X.prog X.w) X.A (spliced (backTo pos (starEach [l] X.env))) (fun us s1 => ∃ v u H1, Inv X pins σ H1 s1 ∧ us = [u] ∧ RelV v u ∧ Q v H1) X.xe s := by
  have ha : PA X [l] (fun σ H Q => tl σ H fun x H1 => Q [x] H1) := pa_cons hl pa_nil hs
  have mono : wpAny (model X.prog X.w) X.A (spliced (backTo pos (starEach [l] X.env))) (AP X pins σ fun vs H1 => ∃ v, vs = [v] ∧ Q v H1) X.xe s := by
    have he : PE X l (fun σ' H' Q' => σ' = σ ∧ H' = H ∧ ∀ v H1, Q v H1 → Q' v H1) := by
      intro pins s σ' H' Q' I' hw
      obtain ⟨rfl, rfl, hm⟩ := hw
      exact thn (hl pins s σ' H' Q I' h) fun u s1 ⟨v, H1, I1, r, q⟩ => ⟨v, H1, I1, r, hm v H1 q⟩
    exact pa_cons he pa_nil hs pos pins s σ H _ I ⟨rfl, rfl, fun v H1 q => ⟨v, rfl, q⟩⟩
  refine thn mono fun us s1 ⟨vs, H1, I1, r, v, e, q⟩ => ?_
  subst e
  obtain ⟨u, rfl, ru⟩ := r.one
  exact ⟨v, u, H1, I1, rfl, ru, q⟩
inductive iEnumI (K : PySem.W.Frag) (R : (It → Hp → Prop)) (x : V) (H1 : Hp) : Prop
  | mk (a : _) (h0_ : x = .ref a) (h1_ : (∃ xs, SqL K H1 a xs) ∧ R (Ite K a) H1) : iEnumI K R x H1
def iEnum (K : PySem.W.Frag) (tl : TE) : TI := fun σ H R => tl σ H fun x H1 => iEnumI K R x H1
theorem pi_enum {l : Expr} {tl : TE} {p pos tp : Pos} {es : List Expr} {k : Nat} (hg : Gl X "enumerate") (hm : X.mg "enumerate" = none) (hl : PE X l tl) (hs : starEach [l] X.env = [(false, eval l X.env)] := by rfl) :
    PI X (.Tuple es k tp) (.Call (.Name "enumerate" p) [l] [] pos) (iEnum X.K tl) := by
  intro pins s σ H R I h
  refine Call_ (ld_blt I hg hm bt_enumerate (PyProof.Rows.callWith_type1 (thn (pa_one hl hs pos pins s σ H I h) fun us s1 ⟨v, u, H1, I1, e1, r1, q1⟩ => ?_) (by rw [hs]; rfl) (by rfl)))
  · obtain ⟨a, rfl, ⟨xs, hq⟩, q⟩ := q1
    subst e1
    cases r1
    obtain ⟨its, rv, pl, hz⟩ := I1.list hq
    refine call_enumerate_list pl.isList fun h' he hit hsz kk => ?_
    have hee : s1.heap.objs.size + 1 ≠ s1.heap.objs.size := Nat.succ_ne_self _
    refine wpAny_pyIter_enum he ?_
    refine ⟨s1.heap.objs.size + 1, [s1.heap.objs.size + 1, s1.heap.objs.size], _, _, H1, rfl, I1.kept (t' := s1.toks) kk, turn_enum a _ _ hee, ⟨⟨.none, he⟩, hit⟩, fun b hb => ?_, q⟩
    have hb' : s1.heap.objs.size ≤ b := by
      rcases List.mem_cons.mp hb with rfl | hb
      · exact Nat.le_succ _
      · have : b = s1.heap.objs.size := by simpa using hb
        rw [this]
        exact Nat.le_refl _
    exact I1.fpOk hb' (I1.hok.fresh hb')
end
end L2

set_option maxHeartbeats 4000000
namespace L2
open PySem PySem.Spec PyProof.Rows
structure ZipOwn (z TI TO i1 i2 : Addr) : Prop where
  TIz : TI ≠ z
  TOz : TO ≠ z
  i1z : i1 ≠ z
  i2z : i2 ≠ z
  TITO : TI ≠ TO
  TIi1 : TI ≠ i1
  TIi2 : TI ≠ i2
  TOi1 : TO ≠ i1
  TOi2 : TO ≠ i2
  i12 : i1 ≠ i2
section
variable {X : Cx}
def zipSt (z TI TO i1 i2 a b : Addr) (i : Nat) (h : Heap) : Prop := IsZip h z TI TO .none ∧ IsPair h TI (.ref i1) (.ref i2) ∧ (∃ x y, IsPair h TO x y) ∧ h.IsListIter i1 a i ∧ h.IsListIter i2 b i
theorem zip_apart {pins : List (Addr × Obj)} {σ : St} {H : Hp} {s : Shared} {z TI TO i1 i2 a b : Addr} {i : Nat} {xs ys : List V} (I : Inv X pins σ H s) (O : ZipOwn z TI TO i1 i2) (st : zipSt z TI TO i1 i2 a b i s.heap) (ha : SqL X.K H a xs) (hb : SqL X.K H b ys) :
    ZipApart z TI TO i1 i2 a b := by
  obtain ⟨hz, hTI, ⟨x, y, hTO⟩, ⟨o1, e1, c1, _⟩, ⟨o2, e2, c2, _⟩⟩ := st
  have nz : ∀ {c : Addr} {zs : List V}, SqL X.K H c zs → c ≠ z := fun h => notList_of (K := X.K) I h hz (by intro q; injection q with q; exact absurd q (by decide))
  have nT : ∀ {c : Addr} {zs : List V}, SqL X.K H c zs → c ≠ TO := fun h => notList_of (K := X.K) I h hTO (by intro q; injection q with q; exact absurd q (by decide))
  have n1 : ∀ {c : Addr} {zs : List V}, SqL X.K H c zs → c ≠ i1 := fun h => notList_of (K := X.K) I h e1 (by rw [c1]; intro q; injection q with q; exact absurd q (by decide))
  have n2 : ∀ {c : Addr} {zs : List V}, SqL X.K H c zs → c ≠ i2 := fun h => notList_of (K := X.K) I h e2 (by rw [c2]; intro q; injection q with q; exact absurd q (by decide))
  exact ⟨O.TIz, O.TOz, O.i1z, O.i2z, O.TITO, O.TIi1, O.TIi2, O.TOi1, O.TOi2, O.i12, nz ha, nT ha, n1 ha, n2 ha, nz hb, nT hb, n1 hb, n2 hb⟩
theorem turn_zip {P : Program} {w : World} {K : PySem.W.Frag} {es : List Expr} {k : Nat} {tp : Pos} {z TI TO i1 i2 : Addr} (a b : Addr) (O : ZipOwn z TI TO i1 i2) :
    Turn P w K (.Tuple es k tp) (Itz K a b) [z, TI, TO, i1, i2] z (zipSt z TI TO i1 i2 a b) where
  mem := by simp
  obj := fun i h st c hc => by
    obtain ⟨hz, hTI, ⟨x, y, hTO⟩, ⟨o1, e1, _, d1⟩, ⟨o2, e2, _, d2⟩⟩ := st
    have hc' : c = z ∨ c = TI ∨ c = TO ∨ c = i1 ∨ c = i2 := by simpa using hc
    rcases hc' with rfl | rfl | rfl | rfl | rfl
    · exact ⟨_, hz, fun v q => by
        have q' : Data.fields _ = Data.cell v := q
        cases q'⟩
    · exact ⟨_, hTI, fun v q => by
        have q' : Data.seq _ _ = Data.cell v := q
        cases q'⟩
    · exact ⟨_, hTO, fun v q => by
        have q' : Data.seq _ _ = Data.cell v := q
        cases q'⟩
    · exact ⟨o1, e1, fun v q => by rw [d1] at q; cases q⟩
    · exact ⟨o2, e2, fun v q => by rw [d2] at q; cases q⟩
  keep := fun i h h' st kp => by
    obtain ⟨hz, hTI, ⟨x, y, hTO⟩, h1, h2⟩ := st
    exact ⟨kp z (by simp) _ hz, kp TI (by simp) _ hTI, ⟨x, y, kp TO (by simp) _ hTO⟩, h1.at fun o q => kp i1 (by simp) o q, h2.at fun o q => kp i2 (by simp) o q⟩
  item := by
    intro X hP hw hK hc i pins s σ H E I hf st hg
    subst hP hw hK
    obtain ⟨xs, ys, x, y, hq, hq2, hx, hy⟩ := hg
    have D := zip_apart I O st hq hq2
    obtain ⟨its, rv, p, _⟩ := I.list hq
    obtain ⟨its2, rv2, p2, _⟩ := I.list hq2
    obtain ⟨u, hu, ru⟩ := rv.get hx
    obtain ⟨u2, hu2, ru2⟩ := rv2.get hy
    have h1 : i < its.length := (List.getElem?_eq_some_iff.mp hu).1
    have h2 : i < its2.length := (List.getElem?_eq_some_iff.mp hu2).1
    have W := WalksT.zip2 (prog := X.prog) (w := X.w) (I.ok.hd hc) z TI TO i1 i2 a b D its.toArray its2.toArray
    obtain ⟨hz, hTI, hTO, g1, g2⟩ := st
    refine W.item i s _ _ (by simp; omega) ⟨hz, hTI, hTO, g1, g2, p.isList, p2.isList⟩ fun T vals h' tk hv hT ht mid kk => ?_
    refine ⟨_, rfl, ?_⟩
    obtain ⟨x', y', hx', hy', rfl⟩ := hv
    have ex : x' = u := by
      have : its[i]? = some x' := by simpa using hx'
      rw [hu] at this
      exact (Option.some.inj this).symm
    have ey : y' = u2 := by
      have : its2[i]? = some y' := by simpa using hy'
      rw [hu2] at this
      exact (Option.some.inj this).symm
    subst ex ey
    have sub : ∀ c ∈ [z, TO, i1, i2], c ∈ [z, TI, TO, i1, i2] := fun c hc => by
      have : c = z ∨ c = TO ∨ c = i1 ∨ c = i2 := by simpa using hc
      simp
      rcases this with r | r | r | r <;> simp [r]
    have fw : ∀ c ∈ [z, TO, i1, i2], FpOk X pins H c := fun c hc => hf c (sub c hc)
    have I1 : Inv X pins σ (upd H T (.tup [x, y])) { s with heap := h', toks := tk } := by
      refine I.pairLaid (vals := [x', y']) fw hT (by simpa using ht) (.cons ru (.cons ru2 .nil)) (by show 2 ≤ sizeLine; decide) kk fun c hc => ?_
      obtain ⟨m1, _, ⟨_, _, m2⟩, ⟨o1, m3, _⟩, ⟨o2, m4, _⟩, _⟩ := mid
      have : c = z ∨ c = TO ∨ c = i1 ∨ c = i2 := by simpa using hc
      rcases this with rfl | rfl | rfl | rfl
      · exact ⟨_, m1⟩
      · exact ⟨_, m2⟩
      · exact ⟨_, m3⟩
      · exact ⟨_, m4⟩
    have hTn : H T = none := I.hok.fresh hT
    have neT : ∀ c ∈ [z, TI, TO, i1, i2], c ≠ T := fun c hc q => by
      subst q
      have : c = TI ∨ c ∈ [z, TO, i1, i2] := by
        have : c = z ∨ c = TI ∨ c = TO ∨ c = i1 ∨ c = i2 := by simpa using hc
        simp
        rcases this with r | r | r | r | r <;> simp [r]
      rcases this with r | r
      · subst r
        exact absurd (Nat.lt_of_lt_of_le (Heap.lt_size hTI) hT) (Nat.lt_irrefl _)
      · exact W.apart i c _ mid r
    refine W.go es k tp i T _ _ _ mid fun h'' st'' kk'' => ?_
    have hf2 : ∀ c ∈ [z, TI, TO, i1, i2], FpOk X pins (upd H T (.tup [x, y])) c := fun c hc => by
      obtain ⟨f0, fr⟩ := hf c hc
      exact ⟨by rw [upd_ne (neT c hc)]; exact f0, fr⟩
    obtain ⟨s1, s2, s3, s4, s5, _⟩ := st''
    refine ⟨.ref T, upd H T (.tup [x, y]), I1.turnedMany (tk := tk) (fun c hc => hf2 c (sub c hc)) kk'', rfl, ⟨x, y, T, rfl, hTn, list_inj2 I hq hx, list_inj2 I hq2 hy, rfl⟩, ⟨s1, s2, s3, s4, s5⟩, fun c hc => (hf2 c hc).1⟩
  done := by
    intro X hP hw hK hc i pins s σ H E I hf st hg
    subst hP hw hK
    obtain ⟨xs, ys, hq, hq2, hx⟩ := hg
    have D := zip_apart I O st hq hq2
    obtain ⟨its, rv, p, _⟩ := I.list hq
    obtain ⟨its2, rv2, p2, _⟩ := I.list hq2
    have W := WalksT.zip2 (prog := X.prog) (w := X.w) (I.ok.hd hc) z TI TO i1 i2 a b D its.toArray its2.toArray
    obtain ⟨hz, hTI, hTO, g1, g2⟩ := st
    have e : min its.toArray.size its2.toArray.size = i := by
      rw [List.size_toArray, List.size_toArray, ← rv.length, ← rv2.length]
      exact hx
    refine W.done s _ _ (by rw [e]; exact ⟨hz, hTI, hTO, g1, g2, p.isList, p2.isList⟩) fun h' tk kk => ?_
    refine ⟨rfl, I.turnedMany (tk := tk) (wr := [z, TO, i1, i2]) (fun c hc => hf c ?_) kk⟩
    have : c = z ∨ c = TO ∨ c = i1 ∨ c = i2 := by simpa using hc
    simp
    rcases this with r | r | r | r <;> simp [r]
  self := fun _ i s _ _ st h => by
    obtain ⟨hz, _⟩ := st
    exact wpAny_pyIter_zip hz h
inductive iZipI (K : PySem.W.Frag) (R : (It → Hp → Prop)) (x : V) (y : V) (H2 : Hp) : Prop
  | mk (a : _) (b : _) (h0_ : x = .ref a) (h1_ : y = .ref b) (h2_ : (∃ xs, SqL K H2 a xs) ∧ (∃ ys, SqL K H2 b ys) ∧ R (Itz K a b) H2) : iZipI K R x y H2
def iZip (K : PySem.W.Frag) (tl tm : TE) : TI := fun σ H R => tl σ H fun x H1 => tm σ H1 fun y H2 => iZipI K R x y H2
theorem pa_two {l m : Expr} {tl tm : TE} (hl : PE X l tl) (hm : PE X m tm) (hs : starEach [l, m] X.env = [(false, eval l X.env), (false, eval m X.env)]) (hs2 : starEach [m] X.env = [(false, eval m X.env)]) (pos : Pos) (pins : List (Addr × Obj)) (s : Shared) (σ : St) (H : Hp) {Q : V → V → Hp → Prop} (I : Inv X pins σ H s) (h : tl σ H fun x H1 => tm σ H1 fun y H2 => Q x y H2) :
    wpAny (model X.prog X.w) X.A (spliced (backTo pos (starEach [l, m] X.env))) (fun us s1 => ∃ x y u v H1, Inv X pins σ H1 s1 ∧ us = [u, v] ∧ RelV x u ∧ RelV y v ∧ Q x y H1) X.xe s := by
  have he : PE X l (fun σ' H' Q' => σ' = σ ∧ H' = H ∧ ∀ x H1, (tm σ H1 fun y H2 => Q x y H2) → Q' x H1) := by
    intro pins s σ' H' Q' I' hw
    obtain ⟨rfl, rfl, k⟩ := hw
    exact thn (hl pins s σ' H' _ I' h) fun u s1 ⟨v, H1, I1, r, q⟩ => ⟨v, H1, I1, r, k v H1 q⟩
  have hf : PE X m (fun σ' H' Q' => ∃ x, σ' = σ ∧ (tm σ H' fun y H2 => Q x y H2) ∧ ∀ y H2, Q x y H2 → Q' y H2) := by
    intro pins s σ' H' Q' I' hw
    obtain ⟨x, rfl, hh, k⟩ := hw
    exact thn (hm pins s σ' H' _ I' hh) fun u s1 ⟨v, H1, I1, r, q⟩ => ⟨v, H1, I1, r, k v H1 q⟩
  have main := pa_cons he (pa_cons hf pa_nil hs2) (by rw [hs, hs2]) pos pins s σ H (fun vs H2 => ∃ x y, vs = [x, y] ∧ Q x y H2) I ⟨rfl, rfl, fun x H1 q => ⟨x, rfl, q, fun y H2 q2 => ⟨x, y, rfl, q2⟩⟩⟩
  refine thn main fun us s1 ⟨vs, H1, I1, r, x, y, e, q⟩ => ?_
  subst e
  obtain ⟨u, v, rfl, r1, r2⟩ := r.two
  exact ⟨x, y, u, v, H1, I1, rfl, r1, r2, q⟩
theorem pi_zip {l m : Expr} {tl tm : TE} {p pos tp : Pos} {es : List Expr} {k : Nat} (hg : Gl X "zip") (hz : X.mg "zip" = none) (hl : PE X l tl) (hm : PE X m tm) (hs : starEach [l, m] X.env = [(false, eval l X.env), (false, eval m X.env)] := by rfl) (hs2 : starEach [m] X.env = [(false, eval m X.env)] := by rfl) :
    PI X (.Tuple es k tp) (.Call (.Name "zip" p) [l, m] [] pos) (iZip X.K tl tm) := by
  intro pins s σ H R I h
  refine Call_ (ld_blt I hg hz bt_zip (PyProof.Rows.callWith_type1 (thn (pa_two hl hm hs hs2 pos pins s σ H I h) fun us s1 ⟨x, y, u, v, H1, I1, e1, r1, r2, q1⟩ => ?_) (by rw [hs, hs2]) (by rw [hs2]; rfl)))
  obtain ⟨a, b, rfl, rfl, ⟨xs, hq⟩, ⟨ys, hq2⟩, q⟩ := q1
  subst e1
  cases r1
  cases r2
  obtain ⟨its, rv, pl, _⟩ := I1.list hq
  obtain ⟨its2, rv2, pl2, _⟩ := I1.list hq2
  refine call_zip_2 pl.isList pl2.isList fun h' z1 z2 z3 z4 z5 hsz kk => ?_
  refine wpAny_pyIter_zip z1 ?_
  have O : ZipOwn (s1.heap.objs.size + 4) (s1.heap.objs.size + 2) (s1.heap.objs.size + 3) s1.heap.objs.size (s1.heap.objs.size + 1) := by
    constructor <;> exact (by intro q; have q' : (_ : Nat) = _ := q; omega)
  refine ⟨_, [s1.heap.objs.size + 4, s1.heap.objs.size + 2, s1.heap.objs.size + 3, s1.heap.objs.size, s1.heap.objs.size + 1], _, _, H1, rfl, I1.kept (t' := s1.toks) kk, turn_zip a b O, ⟨z1, z2, ⟨_, _, z3⟩, z4, z5⟩, fun c hc => ?_, q⟩
  have hc' : s1.heap.objs.size ≤ c := by
    have : c = s1.heap.objs.size + 4 ∨ c = s1.heap.objs.size + 2 ∨ c = s1.heap.objs.size + 3 ∨ c = s1.heap.objs.size ∨ c = s1.heap.objs.size + 1 := by simpa using hc
    rcases this with r | r | r | r | r <;> (rw [r]; first | exact Nat.le_add_right _ _ | exact Nat.le_refl _)
  exact I1.fpOk hc' (I1.hok.fresh hc')
end
end L2

set_option maxHeartbeats 4000000
namespace L2
open PySem
/-! ### a comprehension by what holds between two turns -/
abbrev CompW (J : It) (g : TG) (tc : TT) (te : TE) (D : Addr) (R : Hp → Prop) (σ : St) (H : Hp) : Prop := ∃ W : Nat → Nat → List V → St → Hp → Prop, (∃ m, W 0 m [] σ H) ∧ ∀ i m ys σ H, W i m ys σ H →
    (J.stop i H ∧ R H) ∨ (J.go i H ∧ ∀ x H', J.yld i H x H' → g x σ H' fun σ2 H2 => tc σ2 H2 fun ok H3 =>
      if ok = true then te σ2 H3 fun y H4 => H4 D = some (.lst ys) ∧ ys.length < sizeLine ∧ ∃ m', m' < m ∧ W (i + 1) m' (ys ++ [y]) σ2 (upd H4 D (.lst (ys ++ [y])))
      else ∃ m', m' < m ∧ W (i + 1) m' ys σ2 H3)
/-- one turn: N is what the rest asks -/
abbrev CompT (g : TG) (tc : TT) (te : TE) (D : Addr) (ys : List V) (x : V) (σ : St) (H : Hp) (N : List V → St → Hp → Prop) : Prop :=
  g x σ H fun σ2 H2 => tc σ2 H2 fun ok H3 => if ok = true then te σ2 H3 fun y H4 => H4 D = some (.lst ys) ∧ ys.length < sizeLine ∧ N (ys ++ [y]) σ2 (upd H4 D (.lst (ys ++ [y]))) else N ys σ2 H3
theorem comp_range {lo : Int} {n : Nat} {g : TG} {tc : TT} {te : TE} {D : Addr} {R : Hp → Prop} {σ : St} {H : Hp} (Pv : Nat → List V → St → Hp → Prop) (h0 : Pv 0 [] σ H)
    (hs : ∀ i ys σ H, i < n → Pv i ys σ H → ∀ N : List V → St → Hp → Prop, (∀ ys σ H, Pv (i + 1) ys σ H → N ys σ H) → CompT g tc te D ys (.int (lo + i)) σ H N) (hd : ∀ ys σ H, Pv n ys σ H → R H) : CompW (Itr lo n) g tc te D R σ H := by
  refine ⟨fun i m ys σ H => m = n - i ∧ i ≤ n ∧ Pv i ys σ H, ⟨n, by simp, Nat.zero_le _, h0⟩, ?_⟩
  rintro i m ys σ H ⟨rfl, hi, p⟩
  by_cases hlt : i < n
  · refine .inr ⟨hlt, fun x H' y => ?_⟩
    obtain ⟨e, y⟩ := y
    subst e y
    exact hs i ys σ _ hlt p (fun ys' σ' H' => ∃ m', m' < n - i ∧ m' = n - (i + 1) ∧ i + 1 ≤ n ∧ Pv (i + 1) ys' σ' H') fun ys' σ' H' q => ⟨n - (i + 1), by omega, rfl, hlt, q⟩
  · have e : i = n := by omega
    subst e
    exact .inl ⟨Nat.le_refl _, hd ys σ H p⟩
theorem comp_str {z : Str} {g : TG} {tc : TT} {te : TE} {D : Addr} {R : Hp → Prop} {σ : St} {H : Hp} (Pv : Nat → List V → St → Hp → Prop) (h0 : Pv 0 [] σ H)
    (hs : ∀ i ys c σ H, z.cps[i]? = some c → Pv i ys σ H → ∀ N : List V → St → Hp → Prop, (∀ ys σ H, Pv (i + 1) ys σ H → N ys σ H) → CompT g tc te D ys (.str ⟨#[c]⟩) σ H N) (hd : ∀ ys σ H, Pv z.cps.size ys σ H → R H) : CompW (Its z) g tc te D R σ H := by
  refine ⟨fun i m ys σ H => m = z.cps.size - i ∧ i ≤ z.cps.size ∧ Pv i ys σ H, ⟨z.cps.size, by simp, Nat.zero_le _, h0⟩, ?_⟩
  rintro i m ys σ H ⟨rfl, hi, p⟩
  by_cases hlt : i < z.cps.size
  · refine .inr ⟨hlt, fun x H' y => ?_⟩
    obtain ⟨e, c, hc, y⟩ := y
    subst e y
    exact hs i ys c σ _ hc p (fun ys' σ' H' => ∃ m', m' < z.cps.size - i ∧ m' = z.cps.size - (i + 1) ∧ i + 1 ≤ z.cps.size ∧ Pv (i + 1) ys' σ' H') fun ys' σ' H' q => ⟨z.cps.size - (i + 1), by omega, rfl, hlt, q⟩
  · have e : i = z.cps.size := by omega
    subst e
    exact .inl ⟨Nat.le_refl _, hd ys σ H p⟩
/-- for pair in enumerate(list) -/
theorem for_enum {K : PySem.W.Frag} {a : Addr} {xs : List V} {g : TG} {tb : TS} {D : Ends} {σ : St} {H : Hp} (Pv : Nat → St → Hp → Prop) (h0 : Pv 0 σ H) (hl : ∀ i σ H, Pv i σ H → SqL K H a xs)
    (hs : ∀ i x t σ H, xs[i]? = some x → Pv i σ H → H t = none → g (.ref t) σ (upd H t (.tup [.int i, x])) fun σ2 H2 => tb { D with nx := Pv (i + 1), ct := Pv (i + 1), bk := D.nx } σ2 H2) (hd : ∀ σ H, Pv xs.length σ H → D.nx σ H) :
    ∃ W : Nat → Nat → St → Hp → Prop, (∃ m, W 0 m σ H) ∧ ∀ i m σ H, W i m σ H →
      ((Ite K a).stop i H ∧ D.nx σ H) ∨ ((Ite K a).go i H ∧ ∃ N : St → Hp → Prop, (∀ σ' H', N σ' H' → ∃ m', m' < m ∧ W (i + 1) m' σ' H') ∧ ∀ x H', (Ite K a).yld i H x H' → g x σ H' fun σ2 H2 => tb { D with nx := N, ct := N, bk := D.nx } σ2 H2) := by
  refine ⟨fun i m σ H => m = xs.length - i ∧ i ≤ xs.length ∧ Pv i σ H, ⟨xs.length, by simp, Nat.zero_le _, h0⟩, ?_⟩
  rintro i m σ H ⟨rfl, hi, p⟩
  have q := hl i σ H p
  by_cases hlt : i < xs.length
  · refine .inr ⟨⟨xs, xs[i], q, by simp [hlt]⟩, Pv (i + 1), fun σ' H' p' => ⟨xs.length - (i + 1), by omega, rfl, hlt, p'⟩, fun x H' y => ?_⟩
    obtain ⟨y0, t, rfl, hn, hy, rfl⟩ := y
    exact hs i y0 t σ H (hy xs q) p hn
  · have e : i = xs.length := by omega
    subst e
    exact .inl ⟨⟨xs, q, Nat.le_refl _⟩, hd σ H p⟩
/-- for pair in zip(list, list), lists of one length -/
theorem for_zip {K : PySem.W.Frag} {a b : Addr} {xs ys : List V} {g : TG} {tb : TS} {D : Ends} {σ : St} {H : Hp} (Pv : Nat → St → Hp → Prop) (he : xs.length = ys.length) (h0 : Pv 0 σ H) (hl : ∀ i σ H, Pv i σ H → SqL K H a xs ∧ SqL K H b ys)
    (hs : ∀ i x y t σ H, xs[i]? = some x → ys[i]? = some y → Pv i σ H → H t = none → g (.ref t) σ (upd H t (.tup [x, y])) fun σ2 H2 => tb { D with nx := Pv (i + 1), ct := Pv (i + 1), bk := D.nx } σ2 H2) (hd : ∀ σ H, Pv xs.length σ H → D.nx σ H) :
    ∃ W : Nat → Nat → St → Hp → Prop, (∃ m, W 0 m σ H) ∧ ∀ i m σ H, W i m σ H →
      ((Itz K a b).stop i H ∧ D.nx σ H) ∨ ((Itz K a b).go i H ∧ ∃ N : St → Hp → Prop, (∀ σ' H', N σ' H' → ∃ m', m' < m ∧ W (i + 1) m' σ' H') ∧ ∀ x H', (Itz K a b).yld i H x H' → g x σ H' fun σ2 H2 => tb { D with nx := N, ct := N, bk := D.nx } σ2 H2) := by
  refine ⟨fun i m σ H => m = xs.length - i ∧ i ≤ xs.length ∧ Pv i σ H, ⟨xs.length, by simp, Nat.zero_le _, h0⟩, ?_⟩
  rintro i m σ H ⟨rfl, hi, p⟩
  obtain ⟨q, q2⟩ := hl i σ H p
  by_cases hlt : i < xs.length
  · have hlt2 : i < ys.length := by omega
    refine .inr ⟨⟨xs, ys, xs[i], ys[i], q, q2, by simp [hlt], by simp [hlt2]⟩, Pv (i + 1), fun σ' H' p' => ⟨xs.length - (i + 1), by omega, rfl, hlt, p'⟩, fun x H' y => ?_⟩
    obtain ⟨x0, y0, t, rfl, hn, hx, hy, rfl⟩ := y
    exact hs i x0 y0 t σ H (hx xs q) (hy ys q2) p hn
  · have e : i = xs.length := by omega
    subst e
    exact .inl ⟨⟨xs, ys, q, q2, by omega⟩, hd σ H p⟩
end L2
namespace L2
open PySem
/-- one name, no test -/
theorem compT_name {j : Nat} {te : TE} {D : Addr} {ys : List V} {x : V} {σ : St} {H : Hp} {N : List V → St → Hp → Prop}
    (h : te (σ.set j (some x)) H fun y H4 => H4 D = some (.lst ys) ∧ ys.length < sizeLine ∧ N (ys ++ [y]) (σ.set j (some x)) (upd H4 D (.lst (ys ++ [y])))) : CompT (gName j) tAll te D ys x σ H N := by
  unfold CompT gName tAll
  exact (if_pos (rfl : true = true)).mpr h
end L2

set_option maxHeartbeats 4000000
namespace L2
open PySem PySem.Spec PyProof.Rows
open Sem (wp)
/-! ### enumerate over a zip: the inner pair may still be alive at the next turn -/
abbrev ZipG (h : Heap) (z TI TO : Addr) (f0 f1 : Value) : Prop :=
  h.get? z = some { cls := .type "zip", dict := none, data := .fields #[f0, f1, .bool false, .ref TI, .ref TO], slots := #[] }
def Loose (f0 f1 : Value) : Prop := (f0 = .none ∨ ∃ a : Nat, f0 = rawInt (a : Int)) ∧ ∃ b, f1 = .bool b
section
variable {prog : Program} {w : World} {A : Around} {E : Value → Shared → Prop} {s : Shared}
/-- one turn of enumerate over such a zip -/
def zipS (z TI TO i1 i2 a b : Addr) (i : Nat) (h : Heap) : Prop := (∃ f0 f1, ZipG h z TI TO f0 f1 ∧ Loose f0 f1) ∧ IsPair h TI (.ref i1) (.ref i2) ∧ (∃ x y, IsPair h TO x y) ∧ h.IsListIter i1 a i ∧ h.IsListIter i2 b i
end
end L2

set_option maxHeartbeats 4000000
namespace L2
open PySem PySem.Spec PyProof.Rows
section
variable {X : Cx} {pins : List (Addr × Obj)} {σ : St} {H : Hp} {s : Shared}
/-- (i, (x, y)) of the lists at a and b -/
def Itez (K : PySem.W.Frag) (a b : Addr) : It :=
  ⟨fun i H => ∃ xs ys x y, SqL K H a xs ∧ SqL K H b ys ∧ xs[i]? = some x ∧ ys[i]? = some y,
   fun i H p H' => ∃ x y t0 t1, p = .ref t1 ∧ H t0 = none ∧ H t1 = none ∧ t0 ≠ t1 ∧ (∀ xs, SqL K H a xs → xs[i]? = some x) ∧ (∀ ys, SqL K H b ys → ys[i]? = some y) ∧ H' = upd (upd H t0 (.tup [x, y])) t1 (.tup [.int i, .ref t0]),
   fun i H => ∃ xs ys, SqL K H a xs ∧ SqL K H b ys ∧ xs.length ≤ i⟩
inductive iEzI (K : PySem.W.Frag) (R : (It → Hp → Prop)) (x : V) (y : V) (H2 : Hp) : Prop
  | mk (a : _) (b : _) (h0_ : x = .ref a) (h1_ : y = .ref b) (h2_ : (∃ xs, SqL K H2 a xs) ∧ (∃ ys, SqL K H2 b ys) ∧ R (Itez K a b) H2) : iEzI K R x y H2
def iEz (K : PySem.W.Frag) (tl tm : TE) : TI := fun σ H R => tl σ H fun x H1 => tm σ H1 fun y H2 => iEzI K R x y H2
end
end L2

set_option maxHeartbeats 4000000
namespace L2
open PySem PySem.Spec PyProof.Rows
/-! ### a def with defaults -/
structure FunD (K : PySem.W.Frag) (x qual : Str) (st : Stmt) (f : Addr) (fd : FuncData) (dV : Value) : Prop where
  ex : ∃ (oc : Value) (od : Option Addr) (kV doc pm : Value) (an : Option Addr) (cdv ct : Value) (osl : Array (Option Value)),
    fd = PySem.W.fnOf x qual (defArgs st) (defBody st) (defScope st) dV kV doc pm an cdv ct ∧ K.lookup f = some ⟨oc, od, .func fd, osl⟩ ∧ PySem.W.codeIn K cdv qual = true
  kp : PySem.W.keepIn K (.ref f) = true
section
variable {P : Program} {w : World} {K : PySem.W.Frag} {mg : Str → Option Value} {base : Heap}
end
/-! ### a dict of the module: texts as keys -/
inductive EsOk (w : World) : List DictEntry → List (Str × V) → Prop
  | nil : EsOk w [] []
  | cons {x : Str} {t : Tok} {u : Value} {v : V} {es : List DictEntry} {kvs : List (Str × V)} : RelV v u → EsOk w es kvs → EsOk w (⟨PyData.keyHash w.params x, .str x t, u⟩ :: es) ((x, v) :: kvs)
structure KD (K : PySem.W.Frag) (w : World) (a : Addr) (kvs : List (Str × V)) : Prop where
  sys : (a == sysModules) = false
  ok : ∃ es n, K.lookup a = some ⟨.type "dict", none, .dict es n, #[]⟩ ∧ EsOk w es.toList kvs ∧ (kvs.map (·.1)).Nodup
section
variable {X : Cx}
/-- d.get(k, x) of a dict of the module -/
def tKGet2 (K : PySem.W.Frag) (w : World) (td ty tx : TE) : TE := fun σ H Q => td σ H fun x H1 => ∃ a kvs, x = .ref a ∧ KD K w a kvs ∧ ty σ H1 fun y H2 => tx σ H2 fun z H3 => ∃ k, y = .str k ∧ Q ((kvs.lookup k).getD z) H3
/-! ### sum of a list of ints -/
def sumI : List Int → Int
  | [] => 0
  | x :: l => x + sumI l
end
end L2

set_option maxHeartbeats 4000000
namespace L2
open PySem PySem.Spec PyProof.Rows
/-! ### a halt amidst: what is known behind a part, said once -/
def tMidE (t : TE) : TE := fun σ H Q => ∃ R : V → Hp → Prop, t σ H R ∧ ∀ v H', R v H' → Q v H'
def tMidT (t : TT) : TT := fun σ H Q => ∃ R : Bool → Hp → Prop, t σ H R ∧ ∀ v H', R v H' → Q v H'
def tMidS (t : TS) : TS := fun D σ H => ∃ R : St → Hp → Prop, t { D with nx := R } σ H ∧ ∀ σ' H', R σ' H' → D.nx σ' H'
section
variable {X : Cx}
theorem pe_mid {e : Expr} {t : TE} (h : PE X e t) : PE X e (tMidE t) := by
  intro pins s σ H Q I ⟨R, hR, hQ⟩
  exact thn (h pins s σ H R I hR) fun u s1 ⟨v, H1, I1, r, q⟩ => ⟨v, H1, I1, r, hQ v H1 q⟩
theorem pt_mid {e : Expr} {t : TT} (h : PT X e t) : PT X e (tMidT t) := by
  intro pins s σ H Q I ⟨R, hR, hQ⟩
  exact thn (h pins s σ H R I hR) fun u s1 ⟨H1, I1, q⟩ => ⟨H1, I1, hQ u H1 q⟩
theorem ps_mid {st : Stmt} {t : TS} (h : PS X st t) : PS X st (tMidS t) := by
  intro pins s σ H D I ⟨R, hR, hQ⟩
  refine thn (h pins s σ H _ I hR) fun f s1 q => ?_
  cases f with
  | next => exact let ⟨σ', H', I', q'⟩ := q; ⟨σ', H', I', hQ _ _ q'⟩
  | brk => exact q
  | cont => exact q
  | ret u => exact q
end
theorem midV {t : TE} {σ : St} {H : Hp} {Q : VK} (v : V) (h : t σ H fun x H1 => x = v ∧ H1 = H) (q : Q v H) : ∃ R : V → Hp → Prop, t σ H R ∧ ∀ v H', R v H' → Q v H' := ⟨_, h, by rintro _ _ ⟨rfl, rfl⟩; exact q⟩
theorem midB {t : TT} {σ : St} {H : Hp} {Q : Bool → Hp → Prop} (b : Bool) (h : t σ H fun x H1 => x = b ∧ H1 = H) (q : Q b H) : ∃ R : Bool → Hp → Prop, t σ H R ∧ ∀ v H', R v H' → Q v H' := ⟨_, h, by rintro _ _ ⟨rfl, rfl⟩; exact q⟩
/-- the end of a pure part -/
theorem endV {x v : V} {H : Hp} (e : x = v) : x = v ∧ H = H := ⟨e, rfl⟩
theorem endB {x v : Bool} {H : Hp} (e : x = v) : x = v ∧ H = H := ⟨e, rfl⟩
end L2

set_option maxHeartbeats 4000000
namespace L2
open PySem PySem.Spec PyProof.Rows
/-! ### a name that a comprehension shadows: its slot is forgotten by name while it is empty -/
abbrev Cx.names (X : Cx) (N : List Str) : Cx := { X with N := N }
section
variable {X : Cx} {pins : List (Addr × Obj)} {σ : St} {H : Hp} {s : Shared}
end
def tHide (k : Nat) (t : TE) : TE := fun σ H Q => σ[k]? = some none ∧ t σ H Q
end L2

set_option maxHeartbeats 4000000
namespace L2
open PySem PySem.Spec PyProof.Rows
section
variable {X : Cx} {tg iter elt : Expr} {ifs : List Expr} {scope : Scope} {pos : Pos} {cn : List Str} {wi : TI} {g : Bk → TG} {tc : Bk → TT} {te : Bk → TE}
end
/-- the same where the block's name shadows one of the def's -/
def tHideS (k : Nat) (t : TS) : TS := fun D σ H => σ[k]? = some none ∧ t { D with nx := fun σ' H' => σ'[k]? = some none ∧ D.nx σ' H' } σ H
end L2

set_option maxHeartbeats 4000000
namespace L2
open PySem PySem.Spec PyProof.Rows PySem.SeqAt
section
variable {X : Cx}
/-! ### pairs of flat values beside each other -/
def rEq2 (K : PySem.W.Frag) (neg : Bool) : R2 := fun x y H Q => ∃ a c x0 x1 y0 y1, x = .ref a ∧ y = .ref c ∧ SqT K H a [x0, x1] ∧ SqT K H c [y0, y1] ∧ (flatV x0 = true ∧ flatV x1 = true ∧ flatV y0 = true ∧ flatV y1 = true) ∧ Q (.bl (if neg then !(eqV x0 y0 && eqV x1 y1) else (eqV x0 y0 && eqV x1 y1))) H
/-! ### a list beside an empty one -/
inductive rEqEI (K : PySem.W.Frag) (neg : Bool) (x : V) (y : V) (H : Hp) (Q : VK) : Prop
  | mk (a : _) (c : _) (xs : _) (h0_ : x = .ref a) (h1_ : y = .ref c) (h2_ : SqL K H a xs) (h3_ : SqL K H c []) (h4_ : Q (.bl (if neg then !xs.isEmpty else xs.isEmpty)) H) : rEqEI K neg x y H Q
def rEqE (K : PySem.W.Frag) (neg : Bool) : R2 := fun x y H Q => rEqEI K neg x y H Q
end
end L2

set_option maxHeartbeats 4000000
namespace L2
open PySem PySem.Spec PyProof.Rows
/-! ### xs[::-1] -/
def tBack (K : PySem.W.Frag) (te : TE) (ts : TO) : TE := fun σ H Q => te σ H fun x H1 => ts σ H1 fun o H2 => o = some (-1) ∧ ∃ a xs, x = .ref a ∧ SqL K H2 a xs ∧ ∀ p, H2 p = none → Q (.ref p) (upd H2 p (.lst xs.reverse))
/-! ### displays of displays -/
/-- a for over another expression -/
def setIter (s : Stmt) (e : Expr) : Stmt := match s with
  | .For t _ b o p => .For t e b o p
  | s => s
structure PEw (X : Cx) (e : Expr) (t : TE) : Prop where
  out : PE X e t
structure PAw (X : Cx) (es : List Expr) (t : TA) : Prop where
  out : PA X es t
end L2

set_option maxHeartbeats 4000000
namespace L2
open PySem PySem.Spec PyProof.Rows
/-! ### exceptions of the text's own: raised, passed on, caught -/
/-- an exception of the class cls flies over the frames l; G is the heap behind which it was made -/
def Fly (l : List Env) (G : Heap) (e : Addr) (cls : Value) (h : Heap) : Prop :=
  ∃ B a0, (∀ b o, G.get? b = some o → b ∉ frs l → B.get? b = some o) ∧ Heap.FlyingW B l e cls a0 h ∧ G.UpToSlots h ∧ G.get? e = none
/-- how it lies behind a call -/
def CX1 (P : Program) (w : World) : CXT := fun outer H s E ev s' =>
  ∃ a cls H' G, ev = .ref a ∧ s'.os = s.os ∧ AllBare s'.gens ∧ Un (frs outer) [] H H' s.heap G ∧ HOk P w H' G ∧ Fly outer G a cls s'.heap ∧ E cls none H'
abbrev XSt := St → Value → Hp → Prop
/-- within a body: one that came from a callee -/
def WX (X : Cx) (XS : XSt) : Value → Shared → Prop := fun ev s' =>
  ∃ pins σ H' G a cls, ev = .ref a ∧ Inv X pins σ H' { s' with heap := G } ∧ Fly X.stack G a cls s'.heap ∧ XS σ cls H'
/-- within a body: that, or one that was raised here -/
def WD (X : Cx) (XS : XSt) : Value → Shared → Prop := fun ev s' => WX X XS ev s' ∨
  ∃ pins σ H' G a cls args, ev = .ref a ∧ Inv X pins σ H' { s' with heap := G } ∧ Heap.MadeExcOf G s'.heap a cls args ∧ XS σ cls H'
section
variable {X : Cx} {pins : List (Addr × Obj)} {σ : St} {H H' : Hp} {s s' : Shared}
/-- the frame's own part is struck out of the heap that counts -/
theorem strike {P : Program} {w : World} {h G : Heap} {L : Addr} {fs : List Addr} (un : Un fs [] H H' h G) (hok : HOk P w H' G) (hL : h.objs.size ≤ L) (hf : H' L = none) : Un fs [] H H' h (PySem.W.hideAll G [L]) ∧ HOk P w H' (PySem.W.hideAll G [L]) := by
  have get : ∀ {b o}, G.get? b = some o → b ≠ L → (PySem.W.hideAll G [L]).get? b = some o := fun e hn => PySem.W.hideAll_get _ e (by simpa using hn)
  have ne : ∀ {b o}, h.get? b = some o → b ≠ L := fun e z => absurd (z ▸ Heap.lt_size e) (Nat.not_lt.mpr hL)
  refine ⟨⟨fun b o e n hb hx => get (un.keep b o e n hb hx) (ne e), fun b o e n hb hx => ?_, un.free, fun b o e hx => ?_, un.tups, un.frzs, un.tbls⟩, fun b u e => ?_⟩
  · obtain ⟨sl, z⟩ := un.slot b o e n hb hx
    exact ⟨sl, get z (ne e)⟩
  · obtain ⟨o', z⟩ := un.there b o e hx
    exact ⟨o', get z (ne e)⟩
  · refine (hok b u e).stay (fun c v hc q => get q ?_) (fun _ q => q) fun _ _ q => q
    rintro rfl
    rcases hc with rfl | hc
    · rw [hf] at e; cases e
    · rw [hf] at hc; cases hc
theorem Fly.strike {env : Env} {outer : List Env} {G h : Heap} {B : Heap} {e L : Addr} {cls a0 : Value} (hf : env.frame = some L) (cov : ∀ b o, G.get? b = some o → b ∉ frs (env :: outer) → B.get? b = some o) (fl : Heap.FlyingW B outer e cls a0 h) (up : G.UpToSlots h) (hn : G.get? e = none) : Fly outer (PySem.W.hideAll G [L]) e cls h := by
  have back : ∀ {b o}, (PySem.W.hideAll G [L]).get? b = some o → G.get? b = some o ∧ b ≠ L := fun {b o} q => ⟨PySem.W.of_hideAll _ q, fun z => by
    rw [PySem.W.hideAll_none [L] (by rw [z]; simp)] at q; cases q⟩
  refine ⟨B, a0, fun b o q hb => ?_, fl, fun b o q hd => up b o (back q).1 hd, ?_⟩
  · obtain ⟨q1, q2⟩ := back q
    refine cov b o q1 ?_
    unfold frs
    rw [List.filterMap_cons, hf]
    intro z
    rcases List.mem_cons.mp z with z | z
    · exact q2 z
    · exact hb z
  · cases q : (PySem.W.hideAll G [L]).get? e with
    | none => rfl
    | some o => rw [(back q).1] at hn; cases hn
end
section
variable {P : Program} {w : World} {K : PySem.W.Frag} {mg : Str → Option Value} {base : Heap}
end
/-! ### calls of defs that may raise -/
def tCallX (sp : Sp) (dvs : List V) (XS : XSt) (t : TA) : TE := fun σ H Q => t σ H fun vs H1 => sp (vs ++ dvs) H1 Q fun cls _ H' => XS σ cls H'
inductive tMethXI (C : Addr) (m : Str) (sp : Sp) (dvs : List V) (XS : XSt) (t : TA) (σ : St) (Q : VK) (x : V) (H1 : Hp) : Prop
  | mk (a : _) (dx : _) (fs : _) (h0_ : x = .ref a) (h1_ : H1 a = some (.ins C dx fs)) (h2_ : fs.lookup m = none) (h3_ : t σ H1 fun vs H2 => sp (x :: (vs ++ dvs)) H2 Q fun cls _ H' => XS σ cls H') : tMethXI C m sp dvs XS t σ Q x H1
def tMethX (C : Addr) (m : Str) (sp : Sp) (dvs : List V) (XS : XSt) (ta : TE) (t : TA) : TE := fun σ H Q => ta σ H fun x H1 => tMethXI C m sp dvs XS t σ Q x H1
section
variable {X : Cx} {W : Value → Shared → Prop} {XS : XSt} {k : Nat} {f C : Addr} {fd : FuncData} {ps : List Str} {sp : Sp} {dvs : List V} {ds : List Value} {x m : Str} {p pos apos : Pos} {e o : Expr} {es : List Expr} {ta : TE} {t : TA}
end
/-! ### raise C(e) of an own class without __init__ -/
abbrev veMro : List Value := [.type "ValueError", .type "Exception", .type "BaseException", .type "object"]
/-- an own class of refusals, of ValueError -/
def ExC (K : PySem.W.Frag) (C : Addr) : Prop := PySem.W.excIn K C veMro "ValueError.__new__" = true
def tRaise (C : Addr) (XS : XSt) (te : TA) : TS := fun _ σ H => te σ H fun vs H1 => vs.length ≤ sizeLine ∧ XS σ (.ref C) H1
/-! ### try: .. except C as n: .. -/
/-- pins that every state bears -/
abbrev Cx.pnd (X : Cx) (pn : List (Addr × Obj)) : Cx := { X with pn := pn }
/-- within an except suite, the exception at a -/
abbrev Cx.hand (X : Cx) (a : Addr) : Cx := { X with A := X.A.mark (some (.ref a)), calm := false, xe := fun _ _ => False }
theorem Cx.Ok.pnd {X : Cx} (ok : X.Ok) (pn : List (Addr × Obj)) : (X.pnd pn).Ok :=
  ⟨ok.mod, ok.kind, ok.glob, ok.blt, ok.above, ok.inj, ok.has, ok.cab, ok.hd, ok.frames, ok.stk, ok.exf, ok.bs, ok.bsz, ok.noex, ok.exfs, ok.funs, ok.frf⟩
theorem Cx.Ok.hand {X : Cx} (ok : X.Ok) (a : Addr) : (X.hand a).Ok :=
  ⟨ok.mod, ok.kind, ok.glob, ok.blt, ok.above, ok.inj, ok.has, ok.cab, (fun z => nomatch z), ok.frames, ok.stk, ok.exf, ok.bs, ok.bsz, ok.noex, ok.exfs, ok.funs, ok.frf⟩
section
variable {X : Cx} {pins pins' : List (Addr × Obj)} {σ : St} {H H' : Hp} {s : Shared}
theorem Inv.pnd (I : Inv X pins σ H s) : Inv (X.pnd (X.pn ++ pins)) [] σ H s := ⟨I.ok.pnd _, I.os, I.bare, I.base, I.loc, I.cell, I.free, I.freeC, fun p hp => I.pin p (by simpa using hp), I.hok, I.len⟩
theorem Inv.unpnd (I : Inv (X.pnd (X.pn ++ pins)) pins' σ H s) (ok : X.Ok) : Inv X pins σ H s := ⟨ok, I.os, I.bare, I.base, I.loc, I.cell, I.free, I.freeC, fun p hp => I.pin p (List.mem_append_left _ hp), I.hok, I.len⟩
theorem SP.unpnd {D : Ends} {f : Flow} {s' : Shared} (ok : X.Ok) (h : SP (X.pnd (X.pn ++ pins)) [] D f s') : SP X pins D f s' := by
  cases f with
  | next => obtain ⟨σ', H', I, q⟩ := h; exact ⟨σ', H', I.unpnd ok, q⟩
  | brk => obtain ⟨σ', H', I, q⟩ := h; exact ⟨σ', H', I.unpnd ok, q⟩
  | cont => obtain ⟨σ', H', I, q⟩ := h; exact ⟨σ', H', I.unpnd ok, q⟩
  | ret u => obtain ⟨v, σ', H', I, r, q⟩ := h; exact ⟨v, σ', H', I.unpnd ok, r, q⟩
theorem Inv.hand (I : Inv X pins σ H s) (a : Addr) : Inv (X.hand a) pins σ H s := ⟨I.ok.hand a, I.os, I.bare, I.base, I.loc, I.cell, I.free, I.freeC, I.pin, I.hok, I.len⟩
theorem Inv.unhand {a : Addr} (I : Inv (X.hand a) pins σ H s) (ok : X.Ok) : Inv X pins σ H s := ⟨ok, I.os, I.bare, I.base, I.loc, I.cell, I.free, I.freeC, I.pin, I.hok, I.len⟩
/-- the heap as the exception has left it -/
theorem Inv.flown {G h' B : Heap} (I : Inv X pins σ H { s with heap := G }) (cov : ∀ b o, G.get? b = some o → b ∉ frs X.stack → B.get? b = some o) (st : B.StaysIn h') (up : G.UpToSlots h') : Inv X pins σ H { s with heap := h' } := by
  have keep : ∀ b o, G.get? b = some o → b ∉ frs X.stack → h'.get? b = some o := fun b o e hb => st b o (cov b o e hb)
  have slot : ∀ b o, G.get? b = some o → b ∈ frs X.stack → ∃ sl, h'.get? b = some { o with slots := sl } := fun b o e hb => by
    obtain ⟨_, o', e', hd⟩ := I.stack.mem hb
    have : o' = o := Option.some.inj (e'.symm.trans e)
    subst this
    exact up b o' e hd
  refine I.call' (s' := { s with heap := h' }) (ch := []) rfl ⟨fun b o e _ hb _ => keep b o e hb, fun b o e _ hb _ => slot b o e hb, fun _ _ _ n _ => n, fun b o e _ => ?_, fun _ _ q => q, fun _ _ _ q => q, fun _ ps q => ⟨#[], by rw [q]; simp⟩⟩ (fun b u e => ?_) I.bare fun b z => absurd z (by simp)
  · by_cases hb : b ∈ frs X.stack
    · obtain ⟨sl, z⟩ := slot b o e hb
      exact ⟨_, z⟩
    · exact ⟨o, keep b o e hb⟩
  · refine (I.hok b u e).stay (fun c v hc q => keep c v q fun hm => ?_) (fun _ q => q) fun _ _ q => q
    have hf := I.stkFree c hm
    rcases hc with rfl | hc
    · rw [hf] at e; cases e
    · rw [hf] at hc; cases hc
theorem ObjOk.is {P : Program} {w : World} {h : Heap} {a : Addr} {o : HO} (x : ObjOk P w H h a o) : ∃ ob, h.get? a = some ob := by
  cases o with
  | lst xs => obtain ⟨_, _, _, _, e⟩ := x; exact ⟨_, e⟩
  | tup xs => obtain ⟨_, _, _, p⟩ := x; obtain ⟨ob, e, _⟩ := p; exact ⟨ob, e⟩
  | dK kvs => obtain ⟨_, _, _, _, o, _, _, e, _⟩ := x; exact ⟨_, e⟩
  | dT kvs => obtain ⟨_, _, _, _, o, _, _, e, _⟩ := x; exact ⟨_, e⟩
  | set S n => obtain ⟨o, _, _, _, e, _⟩ := x; exact ⟨_, e⟩
  | ins C dx fs => obtain ⟨_, _, _, e, _⟩ := x; exact ⟨_, e⟩
  | own y => exact x
  | xd fs => obtain ⟨_, ⟨_, _, _, e, _⟩, _⟩ := x; exact ⟨_, e⟩
  | rng lo hi => obtain ⟨_, _, _, e⟩ := x; exact ⟨_, e⟩
  | frz ob u => obtain ⟨e, _⟩ := x; exact ⟨_, e⟩
  | tbl ps => exact ⟨_, show h.get? a = some _ from x⟩
  | met f y => exact ⟨_, show h.get? a = some _ from x⟩
  | ext φ => obtain ⟨_, e, _⟩ := x; exact e
theorem Inv.untracked {G : Heap} {a : Addr} (I0 : Inv X pins σ H { s with heap := G }) (hn : G.get? a = none) : H a = none := by
  cases q : H a with
  | none => rfl
  | some u =>
    obtain ⟨ob, e⟩ := (I0.hok a u q).is
    have e : G.get? a = some ob := e
    rw [hn] at e; cases e
/-- a thing that was not tracked is tracked from now on -/
theorem Inv.track {G : Heap} {a : Addr} {o : HO} (I0 : Inv X pins σ H { s with heap := G }) (hn : G.get? a = none) (I : Inv X pins σ H s) (new : ObjOk X.prog X.w (upd H a o) s.heap a o) : Inv X pins σ (upd H a o) s := by
  have hH := I0.untracked hn
  have ne : ∀ {b ob}, G.get? b = some ob → b ≠ a := fun e z => by rw [z, hn] at e; cases e
  have neS : ∀ {b ob}, X.s₀.heap.get? b = some ob → b ∉ X.ex → b ≠ a := fun {b ob} e hx => by
    obtain ⟨o', z⟩ := I0.base.there b ob e hx
    exact ne z
  refine ⟨I.ok, I.os, I.bare, ⟨I.base.keep, I.base.slot, fun b ob e n hx => ?_, I.base.there, fun b xs q => ?_, fun b ob u q => ?_, fun b ps q => ?_⟩, I.loc, I.cell, ?_, fun x c e => ?_, fun p hp => ?_, fun b u e => ?_, I.len⟩
  · rw [upd_ne (neS e hx)]; exact I.base.free b ob e n hx
  · have := I.base.tups b xs q
    rw [upd_ne (ne_of_none this hH)]; exact this
  · have := I.base.frzs b ob u q
    rw [upd_ne (ne_of_none this hH)]; exact this
  · obtain ⟨m, this⟩ := I.base.tbls b ps q
    exact ⟨m, by rw [upd_ne (ne_of_none this hH)]; exact this⟩
  · obtain ⟨m, ⟨ob, _, _, e, _⟩, _⟩ := I0.loc
    rw [upd_ne (ne e)]; exact I.free
  · obtain ⟨v, ob, z, _⟩ := I0.cell x c e
    rw [upd_ne (ne z)]; exact I.freeC x c e
  · obtain ⟨e, n, r⟩ := I.pin p hp
    refine ⟨e, ?_, r⟩
    rw [upd_ne (ne (I0.pin p hp).1)]; exact n
  · by_cases hb : b = a
    · subst hb; rw [upd_same] at e; cases e; exact new
    · rw [upd_ne hb] at e
      refine (I.hok b u e).stay (fun _ _ _ q => q) (fun c q => ?_) fun c xs q => ?_
      · rw [upd_ne (ne_of_none q hH)]; exact q
      · rw [upd_ne (ne_of_none q hH)]; exact q
/-- a name goes -/
theorem unbind_ok {M : Model} {A : Around} {E : Value → Shared → Prop} {i : Nat} {n : Str} {pos : Pos} {Q : Unit → Shared → Prop} (I : Inv X pins σ H s) (hN : X.N.Nodup) (hi : X.N[i]? = some n) (hl : X.env.kindOf n = some .local)
    (h : ∀ s', Inv X pins (σ.set i none) H s' → Q () s') : wpAny M A (do bindName X.env n .none; unbindBehindTheSuite X.env n pos) Q E s := by
  obtain ⟨m, hn, hm⟩ := id I.loc
  have hiσ : i < σ.length := by rw [I.len]; exact (List.getElem?_eq_some_iff.mp hi).1
  refine wpAny_nameGoes_keeps hl hn (by rw [I.ok.kind]; rfl) fun h' v hn' hs => h _ ?_
  obtain ⟨oL, _, _, hoL, _⟩ := id hn
  have old : ∀ {b o}, X.s₀.heap.get? b = some o → b ≠ X.env.locals := fun e => Nat.ne_of_lt (Nat.lt_of_lt_of_le (Heap.lt_size e) I.ok.above)
  refine ⟨I.ok, I.os, I.bare, ⟨fun b o e n hb hx => (hs.2 b (old e)).trans (I.base.keep b o e n hb hx), fun b o e n hb hx => ?_, I.base.free, fun b o e hx => ?_, I.base.tups, I.base.frzs, I.base.tbls⟩, ⟨_, hn', fun j y v' e1 e2 e3 => ?_⟩, fun y c e => ?_, I.free, I.freeC, fun p hp => ?_, fun b ob e => ?_, by simpa using I.len⟩
  · obtain ⟨sl, z⟩ := I.base.slot b o e n hb hx
    exact ⟨sl, (hs.2 b (old e)).trans z⟩
  · obtain ⟨o', z⟩ := I.base.there b o e hx
    exact ⟨o', (hs.2 b (old e)).trans z⟩
  · by_cases hj : j = i
    · subst hj
      rw [List.getElem?_set_self hiσ] at e2
      cases e2
    · rw [List.getElem?_set_ne (Ne.symm hj)] at e2
      obtain ⟨u', r', q⟩ := hm j y v' e1 e2 e3
      refine ⟨u', r', ?_⟩
      rcases q with ⟨k, z⟩ | ⟨k, c, z1, z2⟩
      · have : y ≠ n := fun z => hj (nodup_ix hN e1 (z ▸ hi))
        exact .inl ⟨k, by simp [this, z]⟩
      · exact .inr ⟨k, c, z1, z2.sameBut hs (I.cne y c z1)⟩
  · obtain ⟨w', z⟩ := I.cell y c e
    exact ⟨w', z.sameBut hs (I.cne y c e)⟩
  · obtain ⟨e, n, ne, nf, d⟩ := I.pin p hp
    exact ⟨(hs.2 p.1 ne).trans e, n, ne, nf, d⟩
  · refine (I.hok b ob e).stay (fun c w' hc q => (hs.2 c ?_).trans q) (fun _ q => q) fun _ _ q => q
    rintro rfl
    rcases hc with rfl | hc
    · rw [I.free] at e; cases e
    · rw [I.free] at hc; cases hc
end
/-- an exception as a thing in the heap -/
def excO (a : Addr) (cls : Value) : HO := .ext fun h => ∃ o, h.get? a = some o ∧ o.cls = cls ∧ ∃ vs, o.data = .fields vs
/-- what is wanted behind the suite, the name gone -/
def Ends.gone (D : Ends) (i : Nat) : Ends := { nx := fun σ H => D.nx (σ.set i none) H, rt := D.rt, bk := fun σ H => D.bk (σ.set i none) H, ct := fun σ H => D.ct (σ.set i none) H }
def tTryAs (K : PySem.W.Frag) (CT : Addr) (i : Nat) (tb : XSt → TS) (ts : TS) : TS := fun D σ H =>
  tb (fun σ' cls H' => PySem.W.exmOne K cls (.ref CT) = some true ∧ ∀ a, H' a = none → ts (D.gone i) (σ'.set i (some (.ref a))) (upd H' a (excO a cls))) D σ H
end L2

set_option maxHeartbeats 4000000
namespace L2
open PySem PySem.Spec PyProof.Rows
/-! ### isinstance(e, ..) of a caught exception -/
structure ExA (K : PySem.W.Frag) (C : Addr) : Prop where
  exc : ExC K C
  ga : PySem.W.findIn K (.ref C) "__getattribute__" = some (some (.builtin "BaseException.__getattribute__"))
  noga : PySem.W.findIn K (.ref C) "__getattr__" = some none
  cl : PySem.W.findIn K (.ref C) "__class__" = some (some (.builtin "object.__class__"))
section
variable {prog : Program} {w : World} {A : Around} {E : Value → Shared → Prop} {h : Heap} {g : Array GenState} {d : Drawn} {t : Nat} {os : OsState} {a : Addr} {o : Obj} {vs : Array Value} {K : PySem.W.Frag}
  {nm q : Str} {C N : Addr} {bs bm : List Value} {hdct : Bool} {sn : List Str} {sub : List Value} {ab : Bool} {col : Option Bool} {dd : Option Addr} {k0 k1 k2 k3 k5 : Option Value} {newId : String}
theorem exc_clsGet {R : Result → Shared → Prop} (hC : h.get? C = some (excClassObj nm q C N bs bm hdct sn sub ab col dd k0 k1 k2 k3 k5 newId)) (T : OwnTail h veMro bm) (hx : h.get? a = some o) (hc : o.cls = .ref C) (hq : R (.ok (.ret (.ref C))) ⟨h, g, d, t, os⟩) :
    codeAny (model prog w) A (.call (.builtin "getset_descriptor.__get__") ⟨[.builtin "object.__class__", .ref a, .ref C], []⟩) R ⟨h, g, d, t, os⟩ := by
  have hG : (⟨h, g, d, t, os⟩ : Shared).TypeIs (.builtin "object.__class__") "getset_descriptor" := F.typeOf_object_class
  have own : (Value.ref C :: bm).contains (.type (".".intercalate ("object.__class__".cutAt '.').dropLast)) = true := by
    rw [F.owner_object_class, List.contains_cons, T.hasType (show veMro.contains (.type "object") = true from rfl)]; rfl
  refine codeAny_call_builtin F.slot_gs_get.plain F.entry_gs_get (F.slot_gs_get.check _ _ _ _ _ _ _ _ hG (F.args_gs_get _ _ _) ?_)
  repeat (any_goals (first | assumption | (with_reducible refine wpAny_loadPart_at hx ?_; rw [hc]) | (with_reducible refine wpAny_isSubtype_exc hC ?_; rw [own]) | wp_step))
  refine ⟨Code.quiet_builtin _ (by decide +kernel), codeAny_builtin F.entry_object_class ?_⟩
  repeat (any_goals (first | assumption | (with_reducible refine wpAny_loadPart_at hx ?_; rw [hc]) | wp_step))
theorem exc_gaCheck {M : Model} {nameV : Value} {Q : Unit → Shared → Prop} (hC : h.get? C = some (excClassObj nm q C N bs bm hdct sn sub ab col dd k0 k1 k2 k3 k5 newId)) (T : OwnTail h veMro bm)
    (hx : h.get? a = some o) (hc : o.cls = .ref C) (hq : Q () ⟨h, g, d, t, os⟩) : wpAny M A (checkBuiltinCall "BaseException.__getattribute__" ⟨[.ref a, nameV], []⟩) Q E ⟨h, g, d, t, os⟩ := by
  have kd : builtinKind "BaseException.__getattribute__" = some .slot := by decide +kernel
  have sp : splitId "BaseException.__getattribute__" = some ("BaseException", "__getattribute__") := by decide +kernel
  have own : (Value.ref C :: bm).contains (.type "BaseException") = true := by rw [List.contains_cons, T.hasType (show veMro.contains (.type "BaseException") = true from rfl)]; rfl
  have ar := F.args_bexc_ga (.ref a) nameV
  simp only [checkBuiltinCall, kd, sp]
  refine wpAny_bind ?_
  unfold isInstance
  repeat (first | (with_reducible refine wpAny_loadPart_at hx ?_; rw [hc]) | (with_reducible refine wpAny_isSubtype_exc hC ?_; rw [own]) | wp_step)
  exact hq
end
section
variable {X : Cx}
/-- isinstance: the old reading, or a caught exception against a built-in class, an own class, a tuple of own classes -/
def rIsX (K : PySem.W.Frag) : List V → Hp → VK → Prop := fun xs H Q =>
  (∃ x T t b, xs = [x, .ty T] ∧ TyOf K H x t ∧ PySem.W.kitOne K t (.type T) = some b ∧ Q (.bl b) H) ∨
  (∃ a C T b, xs = [.ref a, .ty T] ∧ H a = some (excO a (.ref C)) ∧ ExA K C ∧ PySem.W.kitOne K (.ref C) (.type T) = some b ∧ Q (.bl b) H) ∨
  (∃ a C C' b, xs = [.ref a, .ref C'] ∧ H a = some (excO a (.ref C)) ∧ ExA K C ∧ PySem.W.kitOne K (.ref C) (.ref C') = some b ∧ Q (.bl b) H) ∨
  (∃ (a C p : Addr) (cs : List Addr) (b : Bool), xs = [.ref a, .ref p] ∧ H a = some (excO a (.ref C)) ∧ ExA K C ∧ H p = some (.tup (cs.map V.ref)) ∧ PySem.W.kitAny K (.ref C) (cs.map Value.ref) = some b ∧ Q (.bl b) H)
theorem valsRef : ∀ {cs : List Addr} {us : List Value}, Vals (cs.map V.ref) us → us = cs.map Value.ref
  | [], _, .nil => rfl
  | c :: t, _, .cons r s => by
    have : _ = Value.ref c := r
    rw [this, valsRef s]
    rfl
theorem bt_ValueError : bootBuiltins "ValueError" = some (.type "ValueError") := PyProof.Rows.Boot.«ValueError»
end
end L2

set_option maxHeartbeats 4000000
namespace L2
open PySem PySem.Spec PyProof.Rows
/-! ### an exception out of a comprehension without free names -/
/-- within a body: one that is held at the frame -/
def HeldX (X : Cx) (XS : XSt) : Value → Shared → Prop := fun ev s' =>
  ∃ pins σ H' G a cls B a0 L, ev = .ref a ∧ X.env.frame = some L ∧ Inv X pins σ H' { s' with heap := G } ∧ (∀ b o, G.get? b = some o → b ∉ frs X.stack → B.get? b = some o) ∧ Heap.HeldW B X.stack a cls a0 L s'.heap ∧ G.UpToSlots s'.heap ∧ G.get? a = none ∧ XS σ cls H'
def WH (X : Cx) (XS : XSt) : Value → Shared → Prop := fun ev s' => WD X XS ev s' ∨ HeldX X XS ev s'
section
variable {P : Program} {w : World} {K : PySem.W.Frag} {mg : Str → Option Value} {base : Heap}
end
/-- an exception out of the block: its names go, then it passes on -/
def bxErr (X : Cx) (scope : Scope) (C : Addr) (e : Value) (s' : Shared) : Prop :=
  ∃ m, s'.heap.Ns C m ∧ ∀ h', Heap.SameBut C s'.heap h' → ∀ cenv : Env, cenv.frame = X.env.frame → wpAny (model X.prog X.w) X.A (passOn "comprehension.variables-let-go" e cenv : Sem Value) (fun _ _ => False) X.xe { s' with heap := h' }
def bxXe (X : Cx) (scope : Scope) (C : Addr) : Value → Shared → Prop :=
  notedBy (model X.prog X.w) X.A (compEnvC scope (closOf X.env scope.names []) C X.env) (bxErr X scope C)
section
variable {X : Cx} {tg iter elt : Expr} {ifs : List Expr} {scope : Scope} {pos : Pos} {cn : List Str} {wi : TI} {g : Bk → TG} {tc : Bk → TT} {te : Bk → TE} {TH : Bk → Prop}
end
/-- what is known at the block's beginning -/
def THX (X : Cx) (scope : Scope) : Bk → Prop := fun b => ∃ pins σ, Inv X pins σ b.H₂ b.s₂ ∧ (∀ x ∈ b.fp, FpOk X pins b.H₂ x) ∧ b.s₂.heap.objs.size ≤ b.C ∧ b.xe = bxXe X scope b.C
/-- a text times a number -/
def repS (x : Str) (n : Int) : Str := if n < 1 then Str.empty else if (n == 1 || x.length == 0) = true then x else { cps := List.foldl (fun x1 x2 => x1 ++ x2) #[] (List.replicate n.toNat x.cps) }
end L2

set_option maxHeartbeats 4000000
namespace L2
open PySem PySem.Spec PyProof.Rows
/-! ### xs[a:c] = ys -/
def gSlice (to : TE) (tl th : St → Hp → (Option Int → Hp → Prop) → Prop) : TG := fun v σ H Q => to σ H fun x H1 => tl σ H1 fun l H2 => th σ H2 fun u H3 =>
  ∃ (p b : Addr) (xs ys : List V) (a c : Int), x = .ref p ∧ v = .ref b ∧ l = some a ∧ u = some c ∧ H3 p = some (.lst xs) ∧ H3 b = some (.lst ys) ∧ p ≠ b ∧ 0 ≤ a ∧ a ≤ c ∧ c ≤ xs.length ∧ xs.length + ys.length ≤ sizeLine ∧ Q σ (upd H3 p (.lst (xs.take a.toNat ++ ys ++ xs.drop c.toNat)))
end L2
namespace L2
open PySem PySem.Spec PyProof.Rows
/-! ### all of a list of bools -/
section
variable {X : Cx}
/-! ### for .. in range(a, b, -1) -/
def Itd (lo : Int) (n : Nat) : It := { go := fun i _ => i < n, yld := fun i H x H' => H' = H ∧ x = V.int (lo - (i : Int)), stop := fun i _ => n ≤ i }
def iRng3 (ta : TA) : TI := fun σ H R => ta σ H fun vs H1 => ∃ i j : Int, vs = [.int i, .int j, .int (-1)] ∧ (-(2 ^ 62) ≤ i ∧ i < 2 ^ 62 ∧ -(2 ^ 62) ≤ j ∧ j < 2 ^ 62) ∧ R (Itd i (i - j).toNat) H1
/-- an expression that is not reached -/
def tNeverE : TE := fun _ _ _ => False
end
end L2

set_option maxHeartbeats 4000000
namespace L2
open PySem PySem.Spec PyProof.Rows
/-! ### trees that call nothing and leave every thing's dict as it is -/
inductive Tame {α : Type} : Sem α → Prop
  | pure (a : α) : Tame (.pure a)
  | raise (e : Value) : Tame (.raise e)
  | unsup (w : String) : Tame (.unsupported w)
  | rule {t : String} {k : Unit → Sem α} (h : Tame (k ())) : Tame (.rule t k)
  | at' {p : Pos} {k : Unit → Sem α} (h : Tame (k ())) : Tame (.at p k)
  | load {a : Addr} {q : Option Value} {k : Obj → Sem α} (h : ∀ o, Tame (k o)) : Tame (.load a q k)
  | update {a : Addr} {q : Option Value} {f : Obj → Obj} {k : Unit → Sem α} (hf : ∀ o, (f o).dict = o.dict ∧ (o.isFreed = false → (f o).isFreed = false)) (h : Tame (k ())) : Tame (.update a q f k)
  | alloc {o : Obj} {k : Addr → Sem α} (h : ∀ a, Tame (k a)) : Tame (.alloc o k)
  | ask {k : Setting → Sem α} (h : ∀ a, Tame (k a)) : Tame (.ask k)
  | register {a : Addr} {k : Unit → Sem α} : Tame (.register a k)
  | stack {k : List (Code × Pos) → Sem α} (h : ∀ a, Tame (k a)) : Tame (.stack k)
/-- what is known of a thing's dict -/
def DictIs (D : Addr) (e : Addr) (h : Heap) : Prop := ∃ o, h.get? e = some o ∧ o.dict = some D
theorem Tame.keeps {α : Type} {M : Model} {Γ : PySem.Ctx} {D e : Addr} {m : Sem α} (t : Tame m) : ∀ {Q : α → Pos → Shared → Prop} {E : Value → Pos → Shared → Prop} {p : Pos} {s : Shared}, Sem.wp M Γ m Q E p s → DictIs D e s.heap → Sem.wp M Γ m (fun a p s' => Q a p s' ∧ DictIs D e s'.heap) (fun x p s' => E x p s' ∧ DictIs D e s'.heap) p s := by
  induction t with
  | pure a => intro Q E p s h d; rw [Sem.wp] at h ⊢; exact ⟨h, d⟩
  | raise x => intro Q E p s h d; rw [Sem.wp] at h ⊢; exact ⟨h, d⟩
  | unsup w => intro Q E p s h d; rw [Sem.wp] at h; exact h.elim
  | rule _ ih => intro Q E p s h d; rw [Sem.wp] at h ⊢; exact ih h d
  | at' _ ih => intro Q E p s h d; rw [Sem.wp] at h ⊢; exact ih h d
  | load _ ih =>
    intro Q E p s h d
    rw [Sem.wp] at h ⊢
    obtain ⟨o, ho, h⟩ := h
    exact ⟨o, ho, ih o h d⟩
  | @update a q f k hf _ ih =>
    intro Q E p s h d
    rw [Sem.wp] at h ⊢
    obtain ⟨hs, h⟩ := h
    refine ⟨hs, ih h ?_⟩
    obtain ⟨o, ho, hd⟩ := d
    by_cases z : a = e
    · subst z
      refine ⟨f o, Heap.get?_update_self f ho ((hf o).2 (Heap.get?_some_iff.mp ho).2), ?_⟩
      rw [(hf o).1]; exact hd
    · exact ⟨o, (Heap.get?_update_other _ f z).trans ho, hd⟩
  | alloc _ ih =>
    intro Q E p s h d
    rw [Sem.wp] at h ⊢
    obtain ⟨o, ho, hd⟩ := d
    exact ih _ h ⟨o, Heap.get?_push_of_some _ ho, hd⟩
  | ask _ ih => intro Q E p s h d; rw [Sem.wp] at h ⊢; exact ih _ h d
  | register => intro Q E p s h d; rw [Sem.wp] at h; exact h.elim
  | stack _ ih => intro Q E p s h d; rw [Sem.wp] at h ⊢; exact ih _ h d
theorem Tame.any {α : Type} {M : Model} {A : Around} {D e : Addr} {m : Sem α} (t : Tame m) {Q : α → Shared → Prop} {E : Value → Shared → Prop} {s : Shared} (h : wpAny M A m Q E s) (d : DictIs D e s.heap) : wpAny M A m (fun a s' => Q a s' ∧ DictIs D e s'.heap) (fun x s' => E x s' ∧ DictIs D e s'.heap) s :=
  fun Γ p hΓ => t.keeps (h Γ p hΓ) d
theorem Tame.bnd {α β : Type} {m : Sem α} {f : α → Sem β} (t : Tame m) (hf : ∀ a, Tame (f a)) : Tame (m.bind f) := by
  induction t with
  | pure a => exact hf a
  | raise x => exact .raise x
  | unsup w => exact .unsup w
  | rule _ ih => exact .rule ih
  | at' _ ih => exact .at' ih
  | load _ ih => exact .load fun o => ih o
  | update h _ ih => exact .update h ih
  | alloc _ ih => exact .alloc fun a => ih a
  | ask _ ih => exact .ask fun a => ih a
  | register => exact .register
  | stack _ ih => exact .stack fun a => ih a
theorem Tame.bind' {α β : Type} {m : Sem α} {f : α → Sem β} (t : Tame m) (hf : ∀ a, Tame (f a)) : Tame (m >>= f) := t.bnd hf
theorem tame_load (a : Addr) : Tame (load a) := .load fun o => .pure o
theorem tame_update {a : Addr} {f : Obj → Obj} (hf : ∀ o, (f o).dict = o.dict ∧ (o.isFreed = false → (f o).isFreed = false)) : Tame (update a f) := .update hf (.pure ())
theorem tame_stack : Tame stack := .stack fun l => .pure l
theorem tame_fieldsOf (v : Value) : Tame (fieldsOf v) := by
  unfold fieldsOf
  split
  · refine (tame_load _).bind' fun o => ?_
    split
    · exact .pure _
    · exact .unsup _
  · exact .unsup _
theorem tame_field (v : Value) (i : Nat) : Tame (field v i) := by
  unfold field
  refine (tame_fieldsOf v).bind' fun vs => ?_
  split
  · exact .pure _
  · exact .unsup _
theorem tame_setField (v : Value) (i : Nat) (x : Value) : Tame (setField v i x) := by
  unfold setField
  split
  · unfold updateField
    refine (tame_load _).bind' fun o => ?_
    split
    · split
      · refine tame_update fun o => ⟨?_, fun h => ?_⟩
        · obtain ⟨c, d, dt, sl⟩ := o
          cases dt <;> rfl
        · obtain ⟨c, d, dt, sl⟩ := o
          cases dt <;> first | rfl | exact h
      · exact .unsup _
    · exact .unsup _
  · exact .unsup _
theorem tame_setFlight (e : Value) (f : Option Addr) : Tame (setFlight e f) := by
  unfold setFlight
  refine (tame_field e 1).bind' fun tb => ?_
  split
  · exact tame_setField _ _ _
  · exact .pure _
theorem tame_ite {α : Type} {c : Prop} [Decidable c] {a b : Sem α} (ha : Tame a) (hb : Tame b) : Tame (if c then a else b) := by
  by_cases h : c
  · rw [if_pos h]; exact ha
  · rw [if_neg h]; exact hb
theorem tame_keptBack (env : Env) (b : Bool) (l : List Env) : Tame (keptBack env b l) := by
  cases l with
  | nil =>
    refine tame_ite (.pure _) (Tame.bind' ?_ fun r => .pure _)
    unfold underTheClaimsCaller
    exact tame_stack.bind' fun l => .pure _
  | cons c r => exact .pure _
theorem tame_behindIsImport (env : Env) (l : List Env) : Tame (behindIsImport env l) := by
  unfold behindIsImport
  exact tame_ite (.pure _) (tame_ite (.pure _) ((tame_field _ _).bind' fun x => .pure _))
theorem tame_readyFrames : ∀ l, Tame (readyFrames l)
  | [] => .pure _
  | env :: outer => by
    unfold readyFrames
    split
    · refine (tame_load _).bind' fun o => ?_
      refine tame_ite (.pure _) ?_
      exact (tame_behindIsImport _ _).bind' fun i => (tame_keptBack _ _ _).bind' fun b => Tame.bind' (tame_update (f := fun o => { o with slots := _ }) fun o => ⟨rfl, fun h => by
        obtain ⟨c, d, dt, sl⟩ := o
        cases dt <;> first | rfl | exact h⟩) fun _ => tame_readyFrames outer
    · exact .unsup _
theorem tame_frameObject (l : List Env) : Tame (frameObject l) := by
  cases l with
  | nil => exact .pure _
  | cons e r => exact (tame_readyFrames _).bind' fun _ => .pure _
theorem tame_frameOf (env : Env) : Tame (PySem.frameOf env) := by
  unfold PySem.frameOf
  refine Tame.bind' ?_ fun l => (tame_frameObject _).bind' fun r => ?_
  · unfold frameEnvs
    exact tame_stack.bind' fun l => .pure _
  · split
    · exact .pure _
    · exact .unsup _
theorem tame_entryPlaceOf (f : Addr) (b : Bool) : Tame (entryPlaceOf f b) := by
  unfold entryPlaceOf
  refine tame_stack.bind' fun l => ?_
  split
  · exact .pure _
  · exact .pure _
theorem tame_newFields (T : String) (vs : List Value) : Tame (newFields T vs) := by
  have h : Tame (newObjAsIs (.type T) (.fields vs.toArray)) := by
    unfold newObjAsIs
    exact Tame.bind' (m := alloc _) (.alloc fun a => .pure a) fun a => .pure _
  unfold newFields newObj
  exact tame_ite (.unsup _) h
theorem tame_entry (e : Value) (env : Env) (hd : Value) (f : Addr) (b : Bool) : Tame (do setField e 1 (← EntryCells.newEntry hd (← PySem.frameOf env) .none (rawInt f) .none (← entryPlaceOf f b))) :=
  (tame_frameOf _).bind' fun a => (tame_entryPlaceOf _ _).bind' fun pl => Tame.bind' (tame_newFields _ _) fun x => tame_setField _ _ _
theorem tame_noteFrame (e : Value) (env : Env) : Tame (noteFrame e env) := by
  unfold noteFrame
  split
  · refine (tame_field _ _).bind' fun hd => ?_
    exact tame_ite ((tame_field _ _).bind' fun x => tame_ite (.pure _) ((tame_setField _ _ _).bind' fun _ => tame_entry _ _ _ _ _)) (tame_entry _ _ _ _ _)
  · exact .unsup _
theorem tame_leaving (env : Env) (e : Value) : Tame (leaving env e) := by
  unfold leaving
  exact (tame_noteFrame e env).bind' fun _ => tame_setFlight e none
end L2

set_option maxHeartbeats 4000000
namespace L2
open PySem PySem.Spec PyProof.Rows
/-! ### an own class of refusals with an __init__ of its own -/
/-- C, whose own names lie at N, under ValueError; f is its __init__ -/
structure ExI (K : PySem.W.Frag) (C f : Addr) : Prop where
  obj : ∃ bm N nm qn bs sn sub ab col dd k0 k1 k2 k3 k5, K.lookup C = some (excClassObj nm qn C N bs bm true sn sub ab col dd k0 k1 k2 k3 k5 "ValueError.__new__") ∧ PySem.W.nsOkIn K N = true ∧ PySem.W.nsIn K N "__init__" = some (some (.ref f)) ∧ PySem.W.tailIn K veMro bm = true
  fn : PySem.W.typeIn K (.ref f) = some (.type "function")
theorem nsHas {K : PySem.W.Frag} {h : Heap} {N : Addr} {mg : Str → Option Value} {n : Str} {v : Value} (X : K.In h) (G : h.Ns N mg) (e : PySem.W.nsIn K N n = some (some v)) : mg n = some v := by
  unfold PySem.W.nsIn at e
  cases q : K.lookup N with
  | none => rw [q] at e; cases e
  | some ob =>
    rw [q] at e
    obtain ⟨c, dd, dt, sl⟩ := ob
    cases dt with
    | dict es k =>
      dsimp only at e
      obtain ⟨o, es1, ep1, ho, hd, _, hf⟩ := G
      rw [X _ _ q] at ho
      cases ho
      cases hd
      cases he : es.toList.find? (·.key.isStr n) with
      | none =>
        rw [he] at e
        dsimp only at e
        split at e <;> cases e
      | some en =>
        rw [he] at e
        cases e
        rw [← hf]
        unfold nsFind findBy
        rw [← Array.find?_toList, he]
        rfl
    | _ => cases e
theorem ExI.at {K : PySem.W.Frag} {C f : Addr} {h : Heap} (q : ExI K C f) (X : K.In h) : ∃ bm N nm qn bs sn sub ab col dd k0 k1 k2 k3 k5 mN, h.get? C = some (excClassObj nm qn C N bs bm true sn sub ab col dd k0 k1 k2 k3 k5 "ValueError.__new__") ∧ h.Ns N mN ∧ mN "__init__" = some (.ref f) ∧ OwnTail h veMro bm := by
  obtain ⟨bm, N, nm, qn, bs, sn, sub, ab, col, dd, k0, k1, k2, k3, k5, e1, e2, e3, e4⟩ := q.obj
  have ns : h.Ns N (h.nsMap N) := .of_isNs (PySem.W.isNs_of_in X e2)
  exact ⟨bm, N, nm, qn, bs, sn, sub, ab, col, dd, k0, k1, k2, k3, k5, h.nsMap N, X _ _ e1, ns, nsHas X ns e3, PySem.W.tail_of_in X e4⟩
section
variable {prog : Program} {w : World} {A : Around} {E : Value → Shared → Prop} {h : Heap} {g : Array GenState} {d : Drawn} {t : Nat} {os : OsState}
  {nm q : Str} {C N : Addr} {bs bm : List Value} {hdct : Bool} {sn : List Str} {sub : List Value} {ab : Bool} {col : Option Bool} {dd : Option Addr} {k0 k1 k2 k3 k5 : Option Value} {mN : Str → Option Value}
abbrev fV := PySem.F.excBase_ValueError
/-- type.__call__ on such a class: the exception is made, then handed to its __init__ -/
theorem callI_entry {us : List Value} {fI : Addr} {oI : Obj} {Q : Fin → Shared → Prop} (T : OwnTail h veMro bm) (hC : h.get? C = some (excClassObj nm q C N bs bm hdct sn sub ab col dd k0 k1 k2 k3 k5 "ValueError.__new__")) (hn : h.Ns N mN) (hi : mN "__init__" = some (.ref fI)) (ho : h.get? fI = some oI) (hoc : oI.cls = .type "function") (hz : us.length ≤ sizeLine)
    (go : ∀ h' e, Heap.MadeExcOf h h' e (.ref C) us → wpAny (model prog w) A (call (.ref fI) (.ref e :: us)) (fun r s' => r = .none ∧ Q (.done (.ret (.ref e))) s') E ⟨h', g, d, t, os⟩) :
    wpAny (model prog w) A (Builtin.«type.__call__» ⟨.ref C :: us, []⟩) Q E ⟨h, g, d, t, os⟩ := by
  have nid := fV
  repeat (first | with_reducible refine wpAny_madeBy_exc hC ?_ | with_reducible refine wpAny_loadPart_at hC ?_ | wp_step)
  refine codeAny_call_builtin_code (Code.quiet_builtin _ nid.quiet) (wpAny_check_new_subT nid T hC (codeAny_exc_new_subT nid T hC ?_ hz))
  show wpAny _ _ _ _ _ _
  generalize hg1 : h.push { cls := .type "tuple", data := .seq us.toArray } = h1
  have sz1 : h1.objs.size = h.objs.size + 1 := by rw [← hg1]; exact Heap.size_push ..
  have up1 : ∀ b o, h.get? b = some o → h1.get? b = some o := fun b o e => by rw [← hg1]; exact Heap.get?_push_of_some _ e
  have ht1 : h1.get? h.objs.size = some { cls := .type "tuple", data := .seq us.toArray } := by rw [← hg1]; exact Heap.get?_push_size _ rfl
  generalize hg2 : h1.push { cls := .ref C, data := .fields #[.ref h.objs.size, .none, .none, .none, .bool false, .none] } = h2
  have up2 : ∀ b o, h1.get? b = some o → h2.get? b = some o := fun b o e => by rw [← hg2]; exact Heap.get?_push_of_some _ e
  have he2 : h2.get? (h.objs.size + 1) = some { cls := .ref C, data := .fields #[.ref h.objs.size, .none, .none, .none, .bool false, .none] } := by rw [← hg2, ← sz1]; exact Heap.get?_push_size _ rfl
  have up : ∀ b o, h.get? b = some o → h2.get? b = some o := fun b o e => up2 b o (up1 b o e)
  have hC2 := up _ _ hC
  have hin : (Value.ref C :: bm).contains (.ref C) = true := by simp
  unfold isInstance
  repeat (first | with_reducible refine wpAny_loadPart_at he2 ?_ | (with_reducible refine wpAny_isSubtype_exc hC2 ?_; rw [hin]) | wp_step)
  show wpAny _ _ (typeLookup (.ref C) _) _ _ _
  refine wpAny_typeLookup_tail hC2 (hn.keeps up) (T.keeps up) nid.mroIs nid.init.lookup ?_
  rw [hi]
  refine wpAny_holding (wpAny_bind ?_)
  unfold bindSpecial
  refine wpAny_bind (wpAny_typeOf (T := "function") ⟨_, up _ _ ho, hoc⟩ ?_)
  rw [if_pos (by decide)]
  refine wpAny_pure (wpAny_bind (wpAny_mono (go h2 (h.objs.size + 1) ⟨up, Heap.get?_none_of_le (Nat.le_succ _), h.objs.size, he2, Heap.get?_none_of_le (Nat.le_refl _), up2 _ _ ht1⟩) (fun r s' z => ?_) fun _ _ z => z))
  obtain ⟨rfl, z⟩ := z
  wp_walk
  exact z
theorem callI {us : List Value} {fI : Addr} {oI : Obj} {Q : Value → Shared → Prop} (T : OwnTail h veMro bm) (hC : h.get? C = some (excClassObj nm q C N bs bm hdct sn sub ab col dd k0 k1 k2 k3 k5 "ValueError.__new__")) (hn : h.Ns N mN) (hi : mN "__init__" = some (.ref fI)) (ho : h.get? fI = some oI) (hoc : oI.cls = .type "function") (hz : us.length ≤ sizeLine)
    (go : ∀ h' e, Heap.MadeExcOf h h' e (.ref C) us → wpAny (model prog w) (A.under (.builtin "type.__call__" ⟨.ref C :: us, []⟩)) (call (.ref fI) (.ref e :: us)) (fun r s' => r = .none ∧ Q (.ref e) s') E ⟨h', g, d, t, os⟩) :
    wpAny (model prog w) A (call (.ref C) us) Q E ⟨h, g, d, t, os⟩ := by
  have b1 := tc_lookup
  have b2 := tc_bind (.ref C)
  have isT : (⟨h, g, d, t, os⟩ : Shared).TypeIs (.ref C) "type" := ⟨_, hC, rfl⟩
  refine wpAny_call (codeAny_of_tree ?_)
  show wpAny _ _ (callAny (.ref C) _) _ _ _
  repeat (any_goals (first | assumption | wp_step | with_reducible refine wpAny_loadPart_at hC ?_))
  exact ⟨rfl, codeAny_call_builtin_at (Code.quiet_builtin _ (by decide +kernel)) entry_typeCall (wpAny_check_type_call_sub hC (callI_entry T hC hn hi ho hoc hz go))⟩
end
/-! ### self.f = e on an exception that has no dict yet -/
/-- the classes of an own refusal, the last ones ValueError's -/
def endsVE : List Value → Bool
  | .ref _ :: r => endsVE r
  | l => l == veMro
theorem refuse_ve (x : Value) : ∀ {l : List Value}, endsVE l = true → refuseLoop x "__setattr__" l = pure ()
  | .ref c :: r, e => by rw [refuseLoop_ref]; exact refuse_ve x (l := r) e
  | [], e => by cases e
  | .type n :: r, e => by
    have : Value.type n :: r = veMro := beq_iff_eq.mp e
    rw [this]
    exact PySem.F.store_ValueError.passes x
  | .none :: r, e => by cases (show _ = veMro from beq_iff_eq.mp e)
  | .ellipsis :: r, e => by cases (show _ = veMro from beq_iff_eq.mp e)
  | .notImplemented :: r, e => by cases (show _ = veMro from beq_iff_eq.mp e)
  | .bool _ :: r, e => by cases (show _ = veMro from beq_iff_eq.mp e)
  | .int _ _ :: r, e => by cases (show _ = veMro from beq_iff_eq.mp e)
  | .float _ _ :: r, e => by cases (show _ = veMro from beq_iff_eq.mp e)
  | .str _ _ :: r, e => by cases (show _ = veMro from beq_iff_eq.mp e)
  | .bytes _ _ :: r, e => by cases (show _ = veMro from beq_iff_eq.mp e)
  | .builtin _ :: r, e => by cases (show _ = veMro from beq_iff_eq.mp e)
theorem has_obj : ∀ {l : List Value}, endsVE l = true → l.contains (.type "object") = true
  | .ref c :: r, e => by rw [List.contains_cons, has_obj (l := r) e, Bool.or_true]
  | [], e => by cases e
  | .type n :: r, e => by
    have : Value.type n :: r = veMro := beq_iff_eq.mp e
    rw [this]
    decide +kernel
  | .none :: r, e => by cases (show _ = veMro from beq_iff_eq.mp e)
  | .ellipsis :: r, e => by cases (show _ = veMro from beq_iff_eq.mp e)
  | .notImplemented :: r, e => by cases (show _ = veMro from beq_iff_eq.mp e)
  | .bool _ :: r, e => by cases (show _ = veMro from beq_iff_eq.mp e)
  | .int _ _ :: r, e => by cases (show _ = veMro from beq_iff_eq.mp e)
  | .float _ _ :: r, e => by cases (show _ = veMro from beq_iff_eq.mp e)
  | .str _ _ :: r, e => by cases (show _ = veMro from beq_iff_eq.mp e)
  | .bytes _ _ :: r, e => by cases (show _ = veMro from beq_iff_eq.mp e)
  | .builtin _ :: r, e => by cases (show _ = veMro from beq_iff_eq.mp e)
section
variable {prog : Program} {w : World} {A : Around} {E : Value → Shared → Prop} {s : Shared} {K : PySem.W.Frag} {x C : Addr} {ox : Obj}
theorem setX_code {name : Str} {v : Value} {tk : Tok} {cd : ClassData} {vs : Array Value} {R : Result → Shared → Prop} (X : K.In s.heap) (hx : s.heap.get? x = some ox) (hc : ox.cls = .ref C) (hdn : ox.dict = none) (hdt : ox.data = .fields vs)
    (hcd : PySem.W.clsIn K C = some cd) (hm : endsVE cd.mro = true) (hdd : cd.hasDict = true) (hat : PySem.W.findIn K (.ref C) name = some none)
    (hR : ∀ h' tk', (∀ b o, b ≠ x → s.heap.get? b = some o → h'.get? b = some o) → h'.get? x = some { ox with dict := some s.heap.objs.size } → h'.Ns1 s.heap.objs.size (fun y => if y = name then some v else none) → R (.ok (.ret .none)) { s with heap := h', toks := tk' }) :
    codeAny (model prog w) A (.call (.builtin "object.__setattr__") ⟨[.ref x, .str name tk, v], []⟩) R s := by
  have J : PySem.W.InstAt s.heap x ox C none := ⟨hx, hc, by unfold PySem.W.notCls; rw [hdt], by rw [hdn]; trivial⟩
  have SF := PySem.F.store_object
  have ne : cd.mro.isEmpty = false := by cases q : cd.mro with | nil => rw [q] at hm; cases hm | cons _ _ => rfl
  have isO : PySem.W.Looks (model prog w) s.heap (isInstance (.ref x) (.type "object")) true := J.type.andThen (PySem.W.looks_mroIn X (by unfold PySem.W.mroIn; rw [hcd, Option.bind_some, if_neg (by rw [ne]; decide), has_obj hm]))
  have lm : PySem.W.Looks (model prog w) s.heap (mroOf (.ref C)) cd.mro := (PySem.W.looks_clsIn X hcd).andThen .now
  have la : PySem.W.Looks (model prog w) s.heap (typeLookup (.ref C) name) none := PySem.W.looks_findIn X hat
  refine codeAny_call_builtin SF.slot.plain SF.entry (@PySem.W.check_slot (model prog w) _ _ s "object.__setattr__" "object" "__setattr__" (.ref x) [.str name tk, v] [] _ SF.kind SF.split isO (SF.args (.ref x) (.str name tk) v) ?_)
  rw [PySem.W.osa_eq, refuse_eq]
  refine wpAny_bind (wpAny_bind (J.type.here (wpAny_bind (lm.here ?_))))
  rw [refuse_ve (.ref x) hm]
  refine wpAny_pure (wpAny_bind (J.type.here (wpAny_bind (la.here (wpAny_bind (wpAny_pure ?_))))))
  show wpAny _ _ (Builtin.ObjectAttr.storeInOwnDict (.ref x) (.ref C) (.str name tk) name v false) _ _ _
  obtain ⟨oc, od, dt, sl⟩ := ox
  dsimp only at hc hdn hdt
  subst hc hdn hdt
  unfold Builtin.ObjectAttr.storeInOwnDict
  refine wpAny_bind (wpAny_pure ?_)
  rw [if_neg (show ¬ (Value.ref C == Value.type "module") = true from Bool.false_ne_true)]
  refine wpAny_bind ?_
  unfold Builtin.ObjectAttr.ownDictForStores instanceDict
  refine wpAny_bind (wpAny_loadPart hx ?_)
  have lc : PySem.W.Looks (model prog w) s.heap (classData C) cd := PySem.W.looks_clsIn X hcd
  refine wpAny_bind (lc.here ?_)
  rw [hdd]
  have hxs : x ≠ s.heap.objs.size := Nat.ne_of_lt (Heap.lt_size hx)
  have hx1 : (s.heap.push { cls := .type "dict", data := .dict #[] }).get? x = some { cls := .ref C, dict := none, data := .fields vs, slots := sl } := Heap.get?_push_of_some _ hx
  refine wpAny_bind (wpAny_alloc (wpAny_bind (wpAny_update hx1 (wpAny_pure ?_))))
  generalize hg : (s.heap.push { cls := .type "dict", data := .dict #[] }).update x (fun o => { o with dict := some s.heap.objs.size }) = h1
  have gx : h1.get? x = some { cls := .ref C, dict := some s.heap.objs.size, data := .fields vs, slots := sl } := by rw [← hg]; exact Heap.get?_update_self _ hx1 rfl
  have gd : h1.get? s.heap.objs.size = some { cls := .type "dict", data := .dict #[] } := by rw [← hg, Heap.get?_update_other _ _ hxs]; exact Heap.get?_push_size _ rfl
  have gk : ∀ b o, b ≠ x → s.heap.get? b = some o → h1.get? b = some o := fun b o hb e => by rw [← hg, Heap.get?_update_other _ _ (Ne.symm hb)]; exact Heap.get?_push_of_some _ e
  have nd : h1.Ns s.heap.objs.size (fun _ => none) := ⟨_, #[], _, gd, rfl, fun e he => absurd he (by simp), fun _ => rfl⟩
  show wpAny _ _ (Builtin.ObjectAttr.storeInDict s.heap.objs.size (.str name tk) name v) _ _ _
  unfold Builtin.ObjectAttr.storeInDict Builtin.ObjectAttr.newKeyGuard
  refine wpAny_bind (wpAny_pure (wpAny_bind (wpAny_nsSet1 (Heap.Ns1.of_empty nd) fun h2 n2 s2 => ?_)))
  obtain ⟨oD, eD, pD, gD, dD, cD⟩ := n2.count (Within.cons name v Within.nil)
  refine wpAny_bind (wpAny_lookBehind gD (by rw [dD]; exact pastItsLine_dict (Nat.le_trans cD (by show 1 ≤ _; rw [sizeLine_eq]; omega))) (wpAny_pure ?_))
  exact hR h2 _ (fun b o hb e => (s2.2 b (Nat.ne_of_lt (Heap.lt_size e))).trans (gk b o hb e)) ((s2.2 x hxs).trans gx) n2
theorem setX {name : Str} {v : Value} {cd : ClassData} {vs : Array Value} {Q : Unit → Shared → Prop} (X : K.In s.heap) (hx : s.heap.get? x = some ox) (hc : ox.cls = .ref C) (hdn : ox.dict = none) (hdt : ox.data = .fields vs)
    (hcd : PySem.W.clsIn K C = some cd) (hm : endsVE cd.mro = true) (hdd : cd.hasDict = true) (hsa : PySem.W.findIn K (.ref C) "__setattr__" = some (some (.builtin "object.__setattr__"))) (hat : PySem.W.findIn K (.ref C) name = some none)
    (hQ : ∀ h' tk, (∀ b o, b ≠ x → s.heap.get? b = some o → h'.get? b = some o) → h'.get? x = some { ox with dict := some s.heap.objs.size } → h'.Ns1 s.heap.objs.size (fun y => if y = name then some v else none) → Q () { s with heap := h', toks := tk }) :
    wpAny (model prog w) A (setAttr (.ref x) name v) Q E s := by
  refine PySem.W.set_plain (od := none) X ⟨hx, hc, by unfold PySem.W.notCls; rw [hdt], by rw [hdn]; trivial⟩ hsa ?_
  exact setX_code (s := { s with toks := s.toks + 1 }) X hx hc hdn hdt hcd hm hdd hat fun h' tk k1 k2 k3 => hQ h' tk k1 k2 k3
end
/-! ### Base.__init__(self, ..) of an exception -/
section
variable {prog : Program} {w : World} {A : Around} {E : Value → Shared → Prop} {h : Heap} {g : Array GenState} {d : Drawn} {t : Nat} {os : OsState}
  {nm q : Str} {C N : Addr} {bs bm : List Value} {hdct : Bool} {sn : List Str} {sub : List Value} {ab : Bool} {col : Option Bool} {dd : Option Addr} {k0 k1 k2 k3 k5 : Option Value} {mN : Str → Option Value}
theorem initX {e : Addr} {oe : Obj} {vs : Array Value} {us : List Value} {Q : Value → Shared → Prop} (T : OwnTail h veMro bm) (hC : h.get? C = some (excClassObj nm q C N bs bm hdct sn sub ab col dd k0 k1 k2 k3 k5 "ValueError.__new__")) (he : h.get? e = some oe) (hc : oe.cls = .ref C) (hd : oe.data = .fields vs) {a0 : Value} (h0 : vs[0]? = some a0) (hz : us.length ≤ sizeLine)
    (hQ : ∀ h', (∀ b o, b ≠ e → h.get? b = some o → h'.get? b = some o) → h'.get? e = some { oe with data := .fields (vs.setIfInBounds 0 (.ref h.objs.size)) } → Q .none ⟨h', g, d, t, os⟩) :
    wpAny (model prog w) A (call (.builtin "ValueError.__init__") (.ref e :: us)) Q E ⟨h, g, d, t, os⟩ := by
  refine wpAny_call (codeAny_call_builtin fV.init.plain fV.initEntry (wpAny_check_init_subT fV T hC he hc ?_))
  have he1 := Heap.get?_push_of_some { cls := .type "tuple", data := .seq us.toArray } he
  refine wpAny_bind (m := newTuple us) (wpAny_newTuple ?_ hz)
  have hs : 0 < vs.size := (Array.getElem?_eq_some_iff.mp h0).1
  refine wpAny_bind (m := field (.ref e) 0 >>= _) (wpAny_bind (wpAny_field (s := ⟨h.push { cls := .type "tuple", data := .seq us.toArray }, g, d, t, os⟩) he1 hd h0 ?_))
  refine wpAny_bind (wpAny_setField (s := ⟨h.push { cls := .type "tuple", data := .seq us.toArray }, g, d, t, os⟩) he1 hd hs ?_)
  have fin : wpAny (model prog w) A.in1 (match a0 with | .ref _ => letGo [a0] [] | _ => pure ()) (fun _ s' => wpAny (model prog w) A.in1 (ret .none) (fun fin s' => match fin with
      | .done f => (match (Except.ok f : Result) with | .ok (.ret v) => Q v s' | .ok _ => False | .error e => E e s')
      | .again c' => c'.quiet = true ∧ codeAny (model prog w) A c' (fun r s' => match r with | .ok (.ret v) => Q v s' | .ok _ => False | .error e => E e s') s') (fun x s' => E x s') s') (fun x s' => E x s')
      ⟨(h.push { cls := .type "tuple", data := .seq us.toArray }).update e (Obj.mapFields (·.setIfInBounds 0 (.ref h.objs.size))), g, d, t, os⟩ := by
    have z : Q .none ⟨(h.push { cls := .type "tuple", data := .seq us.toArray }).update e (Obj.mapFields (·.setIfInBounds 0 (.ref h.objs.size))), g, d, t, os⟩ := by
      obtain ⟨oc, od, dt, sl⟩ := oe
      dsimp only at hc hd
      subst hc hd
      exact hQ _ (fun b o hb z => (Heap.get?_update_other _ _ (Ne.symm hb)).trans (Heap.get?_push_of_some _ z)) (Heap.get?_update_self _ he1 rfl)
    cases a0 with
    | ref a => exact wpAny_letGo (wpAny_pure z)
    | _ => exact wpAny_pure (wpAny_pure z)
  exact fin
end
/-! ### e.f of an exception with a dict -/
section
variable {prog : Program} {w : World} {A : Around} {E : Value → Shared → Prop} {h : Heap} {g : Array GenState} {d : Drawn} {t : Nat} {os : OsState} {a D : Addr} {o : Obj} {vs : Array Value} {K : PySem.W.Frag}
  {nm q : Str} {C N : Addr} {bs bm : List Value} {sn : List Str} {sub : List Value} {ab : Bool} {col : Option Bool} {dd : Option Addr} {k0 k1 k2 k3 k5 : Option Value} {newId : String} {name : Str} {v : Value} {mA : Str → Option Value}
theorem getX_entry {tk : Tok} {Q : Fin → Shared → Prop} (X : K.In h) (hat : PySem.W.findIn K (.ref C) name = some none) (hC : h.get? C = some (excClassObj nm q C N bs bm true sn sub ab col dd k0 k1 k2 k3 k5 newId)) (hx : h.get? a = some o) (hc : o.cls = .ref C) (hdt : o.data = .fields vs) (hdx : o.dict = some D) (hns : h.Ns D mA) (hv : mA name = some v) (hq : Q (.done (.ret v)) ⟨h, g, d, t, os⟩) :
    wpAny (model prog w) A (Builtin.«object.__getattribute__» ⟨[.ref a, .str name tk], []⟩) Q E ⟨h, g, d, t, os⟩ := by
  have lk : PySem.W.Looks (model prog w) h (typeLookup (.ref C) name) none := PySem.W.looks_findIn X hat
  unfold Builtin.«object.__getattribute__»
  repeat (first | with_reducible refine lk.at ?_ | (with_reducible refine wpAny_loadPart_at hx ?_; rw [hc]) | wp_step)
  split
  · next c e => rw [hdt] at e; cases e
  unfold instanceDict
  repeat (first | with_reducible refine wpAny_loadPart_at hC ?_ | (with_reducible refine wpAny_loadPart_at hx ?_; rw [hc]) | wp_step)
  rw [hdx]
  repeat (first | (with_reducible refine wpAny_nsGet hns ?_; rw [hv]) | wp_step)
  exact hq
theorem getX {Q : Value → Shared → Prop} {expr : Bool} (X : K.In h) (hga : PySem.W.findIn K (.ref C) "__getattribute__" = some (some (.builtin "BaseException.__getattribute__"))) (hgn : PySem.W.findIn K (.ref C) "__getattr__" = some none) (hat : PySem.W.findIn K (.ref C) name = some none) (hC : h.get? C = some (excClassObj nm q C N bs bm true sn sub ab col dd k0 k1 k2 k3 k5 newId)) (T : OwnTail h veMro bm)
    (hx : h.get? a = some o) (hc : o.cls = .ref C) (hdt : o.data = .fields vs) (hdx : o.dict = some D) (hns : h.Ns D mA) (hv : mA name = some v) (hh : handedOut v = pure v) (hq : Q v ⟨h, g, d, t + 1, os⟩) : wpAny (model prog w) A (getAttr (.ref a) name expr) Q E ⟨h, g, d, t, os⟩ := by
  have f3 := PySem.F.attrBase_ValueError.ga.bind (.ref a)
  have n2 : (Value.builtin "BaseException.__getattribute__" == Value.builtin "object.__getattribute__") = false := by decide +kernel
  have n1 : (onTheHeap (Value.ref C) && Value.builtin "BaseException.__getattribute__" == Value.builtin "object.__getattribute__") = false := by rw [n2]; rfl
  have l1 : PySem.W.Looks (model prog w) h (typeLookup (.ref C) "__getattribute__") (some (.builtin "BaseException.__getattribute__")) := PySem.W.looks_findIn X hga
  have l2 : PySem.W.Looks (model prog w) h (typeLookup (.ref C) "__getattr__") none := PySem.W.looks_findIn X hgn
  unfold getAttr getAttrBy
  repeat (any_goals (first | assumption | (with_reducible refine wpAny_loadPart_at hx ?_; rw [hc]) | with_reducible refine l1.at ?_ | with_reducible refine l2.at ?_ | wp_step))
  rw [if_neg (show ¬ (expr && onTheHeap (Value.builtin "BaseException.__getattribute__")) = true by rw [show onTheHeap (Value.builtin "BaseException.__getattribute__") = false from rfl, Bool.and_false]; exact Bool.false_ne_true)]
  repeat (any_goals (first | assumption | wp_step))
  refine codeAny_call_builtin PySem.F.attrBase_ValueError.ga.plain F.entry_bexc_ga (exc_gaCheck hC T hx hc (getX_entry X hat hC hx hc hdt hdx hns hv ?_))
  repeat (any_goals (first | assumption | wp_step))
end
end L2

set_option maxHeartbeats 4000000
namespace L2
open PySem PySem.Spec PyProof.Rows
/-! ### an exception under way through its __init__ -/
/-- an exception of the class C that was not raised yet, its dict -/
def exN (a C : Addr) (od : Option Addr) : HO := .ext fun h => ∃ o vs a0, h.get? a = some o ∧ o.cls = .ref C ∧ o.data = .fields vs ∧ vs[0]? = some a0 ∧ vs[1]? = some .none ∧ o.dict = od
theorem exN_ok {P : Program} {w : World} {H : Hp} {h : Heap} {a C : Addr} {od : Option Addr} {o : Obj} {vs : Array Value} {a0 : Value} (e : h.get? a = some o) (hc : o.cls = .ref C) (hd : o.data = .fields vs) (h0 : vs[0]? = some a0) (h1 : vs[1]? = some .none) (hx : o.dict = od) : ObjOk P w H h a (exN a C od) :=
  ⟨⟨o, vs, a0, e, hc, hd, h0, h1, hx⟩, ⟨o, e⟩, fun h1 h2 ⟨o1, vs1, a1, e1, r⟩ k => ⟨o1, vs1, a1, k o1 e1, r⟩⟩
/-- what is asked of the class -/
structure ExS (K : PySem.W.Frag) (C f : Addr) : Prop where
  ini : ExI K C f
  cd : ∃ cd, PySem.W.clsIn K C = some cd ∧ endsVE cd.mro = true ∧ cd.hasDict = true
  sa : PySem.W.findIn K (.ref C) "__setattr__" = some (some (.builtin "object.__setattr__"))
  ga : PySem.W.findIn K (.ref C) "__getattribute__" = some (some (.builtin "BaseException.__getattribute__"))
  noga : PySem.W.findIn K (.ref C) "__getattr__" = some none
  cl : PySem.W.findIn K (.ref C) "__class__" = some (some (.builtin "object.__class__"))
  kp : PySem.W.keepIn K (.ref C) = true
/-- what is asked of its base, whose __init__ it calls -/
structure ExB (K : PySem.W.Frag) (B : Addr) : Prop where
  sp : PySem.W.specialIn K (.ref B) "__getattribute__" = some (some (.builtin "type.__getattribute__"))
  rd : PySem.W.readsIn K B (.type "type") = true
  fd : PySem.W.findCls K (.ref B) (.type "type") "__init__" = some (.val (.builtin "ValueError.__init__"))
section
variable {X : Cx} {B C f : Addr} {x fl : Str} {np apos pos pos' : Pos} {e o value : Expr} {es : List Expr} {t : TA} {ta tv : TE}
def tInitX (C : Addr) (t : TA) : TE := fun σ H Q => t σ H fun vs H1 => ∃ a us, vs = V.ref a :: us ∧ us.length ≤ sizeLine ∧ H1 a = some (exN a C none) ∧ Q .non H1
theorem pe_initX {pl : Sem Bool} (hg : Gl X x) (hm : X.mg x = some (.ref B)) (b : ExB X.K B) (q : ExI X.K C f) (ha : PA X (e :: es) t)
    (hst : starEach (e :: es) X.env = (false, eval e X.env) :: starEach es X.env := by rfl) (hpl : (backTo pos (starEach es X.env)).any (·.1) = false := by rfl) (hdb : (x == ("__debug__" : Str)) = false := by decide)
    (ht : eval (.Call (.Attribute (.Name x np) "__init__" apos) (e :: es) [] pos) X.env = (do
      let ov ← eval (.Name x np) X.env
      standAt apos.atName
      let (f, first) ← holding [ov] (getMethod ov "__init__" pl)
      callWith pos f first (backTo pos (starEach (e :: es) X.env)) (backToKw pos (keywordEach [] X.env))) := by rfl) :
    PE X (.Call (.Attribute (.Name x np) "__init__" apos) (e :: es) [] pos) (tInitX C t) := by
  intro pins s σ H Q I h
  refine PySem.W.methodCall_KW (pl := pl) (ld_glob I hg hm ?_ hdb) ht
  refine PySem.W.method_cls I.kIn b.sp (PySem.W.cls_value I.kIn b.rd b.fd (by decide +kernel) ?_)
  have I1 : Inv X pins σ H { s with toks := s.toks + 1 } := I.tok _
  have hA := ha pos pins { s with toks := s.toks + 1 } σ H _ I1 h
  rw [hst] at hA ⊢
  refine Calls.callWith_builtin (by show (false || (backTo pos (starEach es X.env)).any (·.1)) = false; rw [hpl] <;> rfl) (Calls.evalArgs_plain ?_)
  refine thn hA fun us s2 ⟨vs, H2, I2, r2, a, ws, e1, hz, e2, q2⟩ => ?_
  subst e1
  cases r2 with
  | @cons _ u _ us r1 r2 =>
    obtain rfl : u = Value.ref a := r1
    obtain ⟨⟨o, vs, a0, ho, hc, hd, h0, h1, hx⟩, _⟩ := I2.hok a _ e2
    obtain ⟨bm, N, nm, qn, bs, sn, sub, ab, col, dd, k0, k1, k2, k3, k5, mN, hC, hN, hi, T⟩ := q.at I2.kIn
    obtain ⟨hp, g, d, tk, os⟩ := s2
    refine initX T hC ho hc hd h0 (by rw [← r2.length]; exact hz) fun h' k1' k2' => ?_
    have I3 := I2.write (x := a) (e := a) (o := exN a C none) (t' := tk) (h' := h') (by rw [e2]; exact trivial) (.inl rfl) k1' ⟨_, k2'⟩ (exN_ok k2' hc rfl (by rw [Array.getElem?_setIfInBounds_self_of_lt (Array.getElem?_eq_some_iff.mp h0).1]) (by rw [Array.getElem?_setIfInBounds_ne (by decide)]; exact h1) hx)
    have e3 : upd H2 a (exN a C none) = H2 := by
      funext b
      by_cases hb : b = a
      · subst hb; rw [upd_same, e2]
      · rw [upd_ne hb]
    rw [e3] at I3
    exact ⟨.non, H2, I3, rfl, q2⟩
def sSetX (C : Addr) (fl : Str) (ta tv : TE) : TS := fun D σ H => tv σ H fun y H1 => ta σ H1 fun z H2 => ∃ a, z = .ref a ∧ H2 a = some (exN a C none) ∧ ∀ d, H2 d = none → d ≠ a → D.nx σ (upd (upd H2 d (.xd [(fl, y)])) a (exN a C (some d)))
theorem ps_setX (q : ExS X.K C f) (hat : PySem.W.findIn X.K (.ref C) fl = some none) (ha : PE X o ta) (hv : PE X value tv) (hs : swapsWith value (some (.Attribute o fl pos')) pos.line X.env = pure false) : PS X (.Assign [.Attribute o fl pos'] value pos) (sSetX C fl ta tv) := by
  intro pins s σ H D I h
  refine plainObj_wpAny_Assign_Attribute (thn (hv pins s σ H _ I h) fun u s1 ⟨y, H1, I1, ry, z1⟩ => thn (ha pins s1 σ H1 _ I1 z1) fun ov s2 ⟨w, H2, I2, rw', a, ex, ea, z2⟩ => ?_) hs
  subst ex
  obtain rfl : ov = Value.ref a := rw'
  obtain ⟨⟨ob, vs, a0, ho, hc, hd, h0, h1, hx⟩, _⟩ := I2.hok a _ ea
  obtain ⟨cd, hcd, hm, hdd⟩ := q.cd
  refine setX I2.kIn ho hc hx hd hcd hm hdd q.sa hat fun h' tk k1 k2 k3 => ?_
  have hn := I2.hok.fresh (Nat.le_refl s2.heap.objs.size)
  have hne : s2.heap.objs.size ≠ a := fun z => by rw [z, ea] at hn; cases hn
  have hfr := (Heap.get?_some_iff.mp ho).2
  have ma : (h'.update a fun _ => ob).get? a = some ob := Heap.get?_update_self _ k2 hfr
  have mo : ∀ b, b ≠ a → (h'.update a fun _ => ob).get? b = h'.get? b := fun b hb => Heap.get?_update_other _ _ (Ne.symm hb)
  have I3 : Inv X pins σ (upd H2 s2.heap.objs.size (.xd [(fl, y)])) { s2 with heap := h'.update a fun _ => ob, toks := tk } := by
    refine I2.laid (fun b v e => ?_) (Nat.le_refl _) ?_
    · by_cases hb : b = a
      · subst hb; rw [ho] at e; cases e; exact ma
      · rw [mo b hb]; exact k1 b v hb e
    · refine ⟨fun n => if n = fl then some u else none, ?_, fun n => ?_⟩
      · obtain ⟨oD, es, ep, e1, r⟩ := k3
        exact ⟨oD, es, ep, (mo _ hne).trans e1, r⟩
      · show RelO (List.lookup n [(fl, y)]) (if n = fl then some u else none)
        rw [List.lookup_cons]
        by_cases hb : n = fl
        · subst hb
          rw [if_pos rfl, beq_self_eq_true]
          exact ry
        · rw [if_neg hb, beq_eq_false_iff_ne.mpr hb]
          exact trivial
  have I4 := I3.write (x := a) (e := a) (o := exN a C (some s2.heap.objs.size)) (t' := tk) (h' := h') (by rw [upd_ne (Ne.symm hne), ea]; exact trivial) (.inl rfl) (fun b v hb e => by rw [← mo b hb]; exact e) ⟨_, k2⟩ (exN_ok k2 hc hd h0 h1 rfl)
  exact ⟨σ, _, I4, z2 _ hn hne⟩
end
/-! ### raise C(..), C with an __init__ of its own -/
theorem raiseX {M : Model} {A : Around} {E : Value → Shared → Prop} {env : Env} {s : Shared} {y : Sem Value} {Q : Flow → Shared → Prop} {C : Addr} (hh : A.handled = none)
    (h : wpAny M A y (fun v s1 => ∃ e oe bm N nm qn bs hdct sn sub ab col dd k0 k1 k2 k3 k5, v = .ref e ∧ s1.heap.get? C = some (excClassObj nm qn C N bs bm hdct sn sub ab col dd k0 k1 k2 k3 k5 "ValueError.__new__") ∧ bm.contains (.type "BaseException") = true ∧ s1.heap.get? e = some oe ∧ oe.cls = .ref C ∧ (∃ vs, oe.data = .fields vs ∧ vs[1]? = some .none) ∧ E (.ref e) s1) E s) :
    wpAny M A (raiseStmt env (some y) none) Q E s := by
  unfold raiseStmt
  refine wpAny_bind (wpAny_mono h (fun v s1 z => ?_) fun _ _ z => z)
  obtain ⟨e, oe, bm, N, nm, qn, bs, hdct, sn, sub, ab, col, dd, k0, k1, k2, k3, k5, rfl, hC, hb, he, hc, ⟨vs, hd, h1⟩, z⟩ := z
  obtain ⟨oc, od, dt, sl⟩ := oe
  dsimp only at hc hd
  subst hc hd
  have inB : (Value.ref C :: bm).contains (.type "BaseException") = true := by rw [List.contains_cons, hb, Bool.or_true]
  obtain ⟨hp, g, d, tk, os⟩ := s1
  have fl : wpAny M A (setFlight (.ref e) none) (fun _ s' => wpAny M A (raiseNew (.ref e)) Q E s') E ⟨hp, g, d, tk, os⟩ := by
    unfold setFlight
    refine wpAny_bind (wpAny_field (s := ⟨hp, g, d, tk, os⟩) he rfl h1 ?_)
    rw [if_neg (by decide)]
    exact wpAny_pure (wpAny_raiseNew_none hh z)
  repeat (first | with_reducible exact fl | with_reducible refine wpAny_loadPart_at he ?_ | with_reducible refine wpAny_loadPart_at hC ?_ | (with_reducible refine wpAny_isSubtype_exc hC ?_; rw [inB]) | wp_step)
/-- one that was made and is being raised; its dict lies at D -/
structure Raised (G h : Heap) (a : Addr) (cls : Value) (D : Addr) : Prop where
  keeps : ∀ b o, G.get? b = some o → h.get? b = some o
  new : G.get? a = none
  there : ∃ o vs a0, h.get? a = some o ∧ o.cls = cls ∧ o.data = .fields vs ∧ vs[0]? = some a0 ∧ vs[1]? = some .none ∧ o.dict = some D
abbrev XS2 := St → Value → Addr → Hp → Prop
def WR (X : Cx) (XS : XS2) : Value → Shared → Prop := fun ev s' => ∃ pins σ H' G a cls D, ev = .ref a ∧ Inv X pins σ H' { s' with heap := G } ∧ Raised G s'.heap a cls D ∧ XS σ cls D H'
/-- a place is not tracked any more -/
def without (H : Hp) (a : Addr) : Hp := fun b => if b = a then none else H b
theorem without_ne {H : Hp} {a b : Addr} (h : b ≠ a) : without H a b = H b := if_neg h
theorem without_self {H : Hp} {a : Addr} : without H a a = none := if_pos rfl
/-- a thing of one's own is struck out of what is known and of the heap that counts -/
theorem Inv.strike {X : Cx} {pins : List (Addr × Obj)} {σ : St} {H : Hp} {s : Shared} {a : Addr} {φ : Heap → Prop} (I : Inv X pins σ H s) (ea : H a = some (.ext φ)) (hs : X.s₀.heap.get? a = none) : Inv X pins σ (without H a) { s with heap := PySem.W.hideAll s.heap [a] } := by
  have get : ∀ {b o}, s.heap.get? b = some o → b ≠ a → (PySem.W.hideAll s.heap [a]).get? b = some o := fun e hn => PySem.W.hideAll_get _ e (by simpa using hn)
  have ne0 : ∀ {b o}, X.s₀.heap.get? b = some o → b ≠ a := fun e z => by rw [z, hs] at e; cases e
  have neN : ∀ {b}, H b = none → b ≠ a := fun e z => by rw [z, ea] at e; cases e
  have ns : ∀ {b m}, H b = none → s.heap.Ns b m → (PySem.W.hideAll s.heap [a]).Ns b m := fun {b m} hb ⟨o, es, ep, e, r⟩ => ⟨o, es, ep, get e (neN hb), r⟩
  have cellK : ∀ {c v}, H c = none → s.heap.IsCell c v → (PySem.W.hideAll s.heap [a]).IsCell c v := fun {c v} hc ⟨o, e, r⟩ => ⟨o, get e (neN hc), r⟩
  refine ⟨I.ok, I.os, I.bare, ⟨fun b o e n hb hx => get (I.base.keep b o e n hb hx) (ne0 e), fun b o e n hb hx => ?_, fun b o e n hx => ?_, fun b o e hx => ?_, fun b xs q => ?_, fun b ob u q => ?_, fun b ps q => ?_⟩, ?_, fun x c e => ?_, ?_, fun x c e => ?_, fun p hp => ?_, fun b u e => ?_, I.len⟩
  · obtain ⟨sl, z⟩ := I.base.slot b o e n hb hx
    exact ⟨sl, get z (ne0 e)⟩
  · rw [without_ne (ne0 e)]; exact I.base.free b o e n hx
  · obtain ⟨o', z⟩ := I.base.there b o e hx
    exact ⟨o', get z (ne0 e)⟩
  · have := I.base.tups b xs q
    rw [without_ne (fun z => by rw [z, ea] at this; cases this)]; exact this
  · have := I.base.frzs b ob u q
    rw [without_ne (fun z => by rw [z, ea] at this; cases this)]; exact this
  · obtain ⟨m, this⟩ := I.base.tbls b ps q
    exact ⟨m, by rw [without_ne (fun z => by rw [z, ea] at this; cases this)]; exact this⟩
  · obtain ⟨m, hn, hm⟩ := I.loc
    refine ⟨m, ns I.free hn, fun i y v e1 e2 e3 => ?_⟩
    obtain ⟨u, r, lk⟩ := hm i y v e1 e2 e3
    refine ⟨u, r, ?_⟩
    rcases lk with z | ⟨k, c, z1, z2⟩
    · exact .inl z
    · exact .inr ⟨k, c, z1, cellK (I.freeC _ _ z1) z2⟩
  · obtain ⟨v, z⟩ := I.cell x c e
    exact ⟨v, cellK (I.freeC x c e) z⟩
  · rw [without_ne (neN I.free)]; exact I.free
  · rw [without_ne (neN (I.freeC x c e))]; exact I.freeC x c e
  · obtain ⟨q1, q2, q3⟩ := I.pin p hp
    exact ⟨get q1 (neN q2), by rw [without_ne (neN q2)]; exact q2, q3⟩
  · by_cases hb : b = a
    · subst hb; rw [without_self] at e; cases e
    · rw [without_ne hb] at e
      refine (I.hok b u e).stay (fun c v hc q => get q ?_) (fun c q => ?_) fun c xs q => ?_
      · rcases hc with rfl | hc
        · exact hb
        · exact fun z => by rw [z, ea] at hc; cases hc
      · rw [without_ne (fun z => by rw [z, ea] at q; cases q)]; exact q
      · rw [without_ne (fun z => by rw [z, ea] at q; cases q)]; exact q
def tRaiseI (C : Addr) (sp : Sp) (XS : XS2) (t : TA) : TS := fun _ σ H => t σ H fun vs H1 => vs.length ≤ sizeLine ∧ ∀ a, H1 a = none → sp (.ref a :: vs) (upd H1 a (exN a C none)) (fun v H2 => v = .non ∧ ∃ D, H2 a = some (exN a C (some D)) ∧ XS σ (.ref C) D (without H2 a)) E0
theorem ps_raiseI {X : Cx} {XS : XS2} {C f : Addr} {x : Str} {np cpos pos : Pos} {e : Expr} {es : List Expr} {t : TA} {k : Nat} {fd : FuncData} {ps : List Str} {sp : Sp} (hx : ∀ ev s', WR X XS ev s' → X.xe ev s') (hc : X.calm = true) (hex : X.ex = []) (q : ExS X.K C f) (F : FnOk X.prog X.w X.K X.mg X.base CX0 k f fd ps sp) (hr : Room (k + 1) X.A) (hb : Binds X.K fd ps []) (hg : Gl X x) (hm : X.mg x = some (.ref C)) (ha : PA X (e :: es) t)
    (hdb : (x == ("__debug__" : Str)) = false := by decide) (he : starEach (e :: es) X.env = (false, eval e X.env) :: starEach es X.env := by rfl) (hpl : (backTo cpos (starEach es X.env)).any (·.1) = false := by rfl) :
    PS X (.Raise (some (.Call (.Name x np) (e :: es) [] cpos)) none pos) (tRaiseI C sp XS t) := by
  intro pins s σ H D I h
  rw [arm_exec_Raise]
  refine wpAny_bind (wpAny_standAt (raiseX (C := C) (I.ok.hd hc) (wpAny_bind (wpAny_Call_Name_kw (ld_glob I hg hm ?_ hdb)))))
  refine PySem.W.callWith_K (h₀ := X.base) I.ok.mod.kin q.kp (thn (ha cpos pins s σ H _ I h) fun us s1 ⟨vs, H1, I1, r, hz, hq⟩ => ⟨I1.kIn, ?_⟩) he hpl
  obtain ⟨bm, N, nm, qn, bs, sn, sub, ab, col, dd, k0, k1, k2, k3, k5, mN, hC, hN, hi, T⟩ := q.ini.at I1.kIn
  obtain ⟨oI, hoK, hoc⟩ := Option.map_eq_some_iff.mp q.ini.fn
  have ho := I1.kIn _ _ hoK
  rw [show ([] : List Value) ++ us = us from rfl]
  obtain ⟨hp, g, d, tk, os⟩ := s1
  refine callI T hC hN hi ho hoc (by rw [← r.length]; exact hz) fun h' ex made => ?_
  obtain ⟨tt, hex1, _, _⟩ := made.there
  have hnone : H1 ex = none := Inv.untracked (G := hp) (s := ⟨hp, g, d, tk, os⟩) I1 made.new
  have hS : X.s₀.heap.get? ex = none := by
    cases z : X.s₀.heap.get? ex with
    | none => rfl
    | some ob =>
      obtain ⟨o', z'⟩ := I1.base.there ex ob z (by rw [hex]; simp)
      rw [made.new] at z'
      cases z'
  have I2 : Inv X pins σ (upd H1 ex (exN ex C none)) ⟨h', g, d, tk, os⟩ := Inv.track (G := hp) (s := ⟨h', g, d, tk, os⟩) I1 made.new (I1.kept (t' := tk) made.keeps) (exN_ok hex1 rfl rfl rfl rfl rfl)
  have hq2 := hq ex hnone
  have r2 : Vals (V.ref ex :: vs) (Value.ref ex :: us) := .cons rfl r
  have hl : (Value.ref ex :: us ++ []).length = ps.length := by
    have e1 := r2.length
    rw [F.len _ _ _ _ hq2] at e1
    rw [List.append_nil]
    exact e1.symm
  have hbd := hb ⟨h', g, d, tk, os⟩ (Value.ref ex :: us) I2.kIn hl
  rw [List.append_nil] at hbd
  refine wpAny_call (codeAny_mono (F.run _ X.stack ⟨h', g, d, tk, os⟩ _ ⟨Value.ref ex :: us, []⟩ (Value.ref ex :: us) (V.ref ex :: vs) _ E0 (hr.make C us []) (I2.env0.make C us []) hbd r2 hq2) fun rr s' hq' => ?_)
  cases rr with
  | error z => exact False.elim hq'
  | ok fl =>
    cases fl with
    | next => exact False.elim hq'
    | brk => exact False.elim hq'
    | cont => exact False.elim hq'
    | ret u =>
      obtain ⟨v, H', I3, rv, ev, DD, e3, z3⟩ := I2.after hq'
      subst ev
      obtain rfl : u = Value.none := rv
      obtain ⟨⟨o3, vs3, a3, ho3, hc3, hd3, h03, h13, hx3⟩, _⟩ := I3.hok ex _ e3
      obtain ⟨bm', N', nm', qn', bs', sn', sub', ab', col', dd', k0', k1', k2', k3', k5', mN', hC', _, _, T'⟩ := q.ini.at I3.kIn
      refine ⟨rfl, wpAny_bind (wpAny_standAt (wpAny_pure ⟨ex, o3, bm', N', nm', qn', bs', true, sn', sub', ab', col', dd', k0', k1', k2', k3', k5', rfl, hC', T'.hasType fV.hasBase, ho3, hc3, ⟨vs3, hd3, h13⟩, hx _ _ ?_⟩))⟩
      refine ⟨pins, σ, without H' ex, PySem.W.hideAll s'.heap [ex], ex, .ref C, DD, rfl, I3.strike e3 hS, ⟨fun b o z => PySem.W.of_hideAll _ z, PySem.W.hideAll_none [ex] (by simp), o3, vs3, a3, ho3, hc3, hd3, h03, h13, hx3⟩, z3⟩
end L2

set_option maxHeartbeats 4000000
namespace L2
open PySem PySem.Spec PyProof.Rows
/-! ### a refusal with a dict flies, is caught -/
def CX2 (P : Program) (w : World) : CXT := fun outer H s E ev s' =>
  ∃ a cls D H' G, ev = .ref a ∧ s'.os = s.os ∧ AllBare s'.gens ∧ Un (frs outer) [] H H' s.heap G ∧ HOk P w H' G ∧ Fly outer G a cls s'.heap ∧ DictIs D a s'.heap ∧ E cls (some D) H'
theorem leave2 {P : Program} {w : World} {K : PySem.W.Frag} {mg : Str → Option Value} {base : Heap} {N : List Str} {qual : Str} {scope : Scope} {f : Addr} {cdv : Value} {A : Around} {outer : List Env} {s : Shared} {H : Hp} {E : XK} {ev : Value} {s' : Shared}
    (h : WR (cxOf (CX2 P w) P w K mg base N qual scope f cdv A outer s H E) (fun _ cls D H' => E cls (some D) H') ev s') : (cxOf (CX2 P w) P w K mg base N qual scope f cdv A outer s H E).xe ev s' := by
  obtain ⟨pins, σ, H', G, a, cls, D, rfl, I, ⟨keeps, new, oe, vs, a0, he, hc, hd, h0, h1, hx⟩, q⟩ := h
  subst hc
  show wpAny (model P w) _ (leaving _ (.ref a)) _ _ s'
  have hin : ∀ env ∈ (cxOf (CX2 P w) P w K mg base N qual scope f cdv A outer s H E).stack, ∀ b, env.frame = some b → b ∈ frs (cxOf (CX2 P w) P w K mg base N qual scope f cdv A outer s H E).stack := fun env he b hb => List.mem_filterMap.mpr ⟨env, he, hb⟩
  have stay : (PySem.W.hideAll G (frs (cxOf (CX2 P w) P w K mg base N qual scope f cdv A outer s H E).stack)).StaysIn G := fun b o z => PySem.W.of_hideAll _ z
  have hl := PySem.W.funFrames_hide I.stack hin
  have fresh : (PySem.W.hideAll G (frs (cxOf (CX2 P w) P w K mg base N qual scope f cdv A outer s H E).stack)).get? a = none := by
    cases z : (PySem.W.hideAll G (frs (cxOf (CX2 P w) P w K mg base N qual scope f cdv A outer s H E).stack)).get? a with
    | none => rfl
    | some o => have := stay a o z; rw [new] at this; cases this
  have key := (tame_leaving (cxOf (CX2 P w) P w K mg base N qual scope f cdv A outer s H E).env (.ref a)).any (D := D) (e := a) (wpAny_leaving_firstW (M := model P w) (E := fun _ _ => False) (a0 := a0) (Q := fun _ s2 => ∃ h', s2 = { s' with heap := h' } ∧ Heap.LeftW (PySem.W.hideAll G (frs (cxOf (CX2 P w) P w K mg base N qual scope f cdv A outer s H E).stack)) (cxOf (CX2 P w) P w K mg base N qual scope f cdv A outer s H E).stack a oe.cls a0 s'.heap h')
    I.ok.frames (hl.of_keeps fun b o hb _ => ⟨o, keeps b o hb, rfl⟩) rfl he (fun b o hb => keeps b o (stay b o hb)) fresh hd h1 h0 (fun h' hL => ⟨h', rfl, hL⟩)) ⟨oe, he, hx⟩
  refine wpAny_mono key (fun _ s2 z => ?_) fun _ _ z => z.1.elim
  obtain ⟨⟨h', rfl, k1, ⟨_, _, k2⟩, k3, k4⟩, dk⟩ := z
  obtain ⟨un, hok⟩ := strike I.base I.hok I.ok.above I.free
  exact ⟨a, oe.cls, D, H', _, rfl, I.os, I.bare, un, hok, Fly.strike rfl (fun b o z hb => PySem.W.hideAll_get _ z hb) ⟨k1, fresh, k2, k3⟩ ((Heap.UpToSlots.of_keeps keeps).trans k4) new, dk, q⟩
section
variable {P : Program} {w : World} {K : PySem.W.Frag} {mg : Str → Option Value} {base : Heap}
/-- THE RULE for a def that may raise such a one -/
theorem Fun.ok2 {x qual : Str} {st : Stmt} {f : Addr} {fd : FuncData} {N ps : List Str} {k : Nat} {sp : Sp} (F : Fun K x qual st f fd) (S : FnScope N ps (defScope st)) (len : ∀ vs H Q E, sp vs H Q E → vs.length = ps.length)
    (hbody : ∀ (cdv : Value) (A : Around) (outer : List Env) (s : Shared) (H : Hp) (vs : List V) (Q : VK) (E : XK), Room k (A.deeper (envOfC qual (defScope st) s.heap.objs.size f cdv)) → sp vs H Q E →
      ∃ t, PSs (cxOf (CX2 P w) P w K mg base N qual (defScope st) f cdv A outer s H E) (defBody st) t ∧ t { nx := fun _ H' => Q .non H', rt := Q } (start N vs) H) : FnOk P w K mg base (CX2 P w) (k + 1) f fd ps sp := by
  obtain ⟨oc, od, kV, doc, pm, an, cdv, ct, osl, rfl, lk, hcd⟩ := F.ex
  exact fn_of lk hcd S len fun A outer s H vs Q E hr hsp => hbody cdv A outer s H vs Q E hr hsp
end
def WX2 (X : Cx) (XS : XS2) : Value → Shared → Prop := fun ev s' =>
  ∃ pins σ H' G a cls D, ev = .ref a ∧ Inv X pins σ H' { s' with heap := G } ∧ Fly X.stack G a cls s'.heap ∧ DictIs D a s'.heap ∧ XS σ cls D H'
def toXK (XS : Value → Addr → Hp → Prop) : XK := fun cls od H' => ∃ D, od = some D ∧ XS cls D H'
def tCall2 (sp : Sp) (XS : XS2) (t : TA) : TE := fun σ H Q => t σ H fun vs H1 => sp vs H1 Q (toXK (XS σ))
section
variable {X : Cx} {XS : XS2} {W : Value → Shared → Prop} {pins : List (Addr × Obj)} {σ : St} {H H' : Hp} {s s' : Shared} {k : Nat} {f C : Addr} {fd : FuncData} {ps : List Str} {sp : Sp} {x : Str} {p pos : Pos} {e : Expr} {es : List Expr} {t : TA}
theorem passX2 {ev : Value} (I : Inv X pins σ H s) (h : CX2 X.prog X.w X.stack H s (toXK (XS σ)) ev s') : WX2 X XS ev s' := by
  obtain ⟨a, cls, D, H', G, e, os, bare, un, hok, fly, dk, D', eD, q⟩ := h
  cases eD
  exact ⟨pins, σ, H', G, a, cls, D, e, I.call' (s' := { s' with heap := G }) (ch := []) os un hok bare fun b z => absurd z (by simp), fly, dk, q⟩
theorem pe_call2 (F : FnOk X.prog X.w X.K X.mg X.base (CX2 X.prog X.w) k f fd ps sp) (hr : Room k X.A) (hg : Gl (X.wish W) x) (hm : X.mg x = some (.ref f)) (hk : PySem.W.keepIn X.K (.ref f) = true) (hb : Binds X.K fd ps []) (hx : ∀ ev s', WX2 X XS ev s' → W ev s')
    (ha : PA (X.wish W) (e :: es) t) (hdb : (x == ("__debug__" : Str)) = false := by decide) (he : starEach (e :: es) X.env = (false, eval e X.env) :: starEach es X.env := by rfl) (hpl : (backTo pos (starEach es X.env)).any (·.1) = false := by rfl) :
    PE (X.wish W) (.Call (.Name x p) (e :: es) [] pos) (tCall2 sp XS t) := by
  intro pins s σ H Q I h
  refine wpAny_Call_Name_kw (ld_glob I hg hm ?_ hdb)
  refine PySem.W.callWith_K (h₀ := X.base) I.ok.mod.kin hk (thn (ha pos pins s σ H _ I h) fun us s1 ⟨vs, H1, I1, r, q⟩ => ⟨I1.kIn, ?_⟩) he hpl
  have I0 := I1.unwish
  have hl : (us ++ []).length = ps.length := by rw [List.append_nil, ← r.length]; exact F.len _ _ _ _ q
  have hbd := hb s1 us I0.kIn hl
  rw [List.append_nil] at hbd
  refine wpAny_call (codeAny_mono (F.run X.A X.stack s1 H1 ⟨us, []⟩ us vs Q _ hr I0.env0 hbd r q) fun rr s2 hq => ?_)
  cases rr with
  | error z => exact hx _ _ (passX2 (XS := XS) I0 hq)
  | ok fl =>
    cases fl with
    | ret u => exact I1.after hq
    | next => exact False.elim hq
    | brk => exact False.elim hq
    | cont => exact False.elim hq
end
/-! ### isinstance, e.f of a caught one -/
structure ExG (K : PySem.W.Frag) (C : Addr) : Prop where
  ga : PySem.W.findIn K (.ref C) "__getattribute__" = some (some (.builtin "BaseException.__getattribute__"))
  noga : PySem.W.findIn K (.ref C) "__getattr__" = some none
  cl : PySem.W.findIn K (.ref C) "__class__" = some (some (.builtin "object.__class__"))
theorem ExS.g {K : PySem.W.Frag} {C f : Addr} (q : ExS K C f) : ExG K C := ⟨q.ga, q.noga, q.cl⟩
section
variable {prog : Program} {w : World} {A : Around} {E : Value → Shared → Prop} {h : Heap} {g : Array GenState} {d : Drawn} {t : Nat} {os : OsState} {a : Addr} {o : Obj} {vs : Array Value} {K : PySem.W.Frag}
  {nm q : Str} {C N f : Addr} {bs bm : List Value} {hdct : Bool} {sn : List Str} {sub : List Value} {ab : Bool} {col : Option Bool} {dd : Option Addr} {k0 k1 k2 k3 k5 : Option Value} {newId : String}
theorem exI_clsEntry {tk : Tok} {Q : Fin → Shared → Prop} (X : K.In h) (F0 : ExG K C) (hC : h.get? C = some (excClassObj nm q C N bs bm hdct sn sub ab col dd k0 k1 k2 k3 k5 newId)) (T : OwnTail h veMro bm) (hx : h.get? a = some o) (hc : o.cls = .ref C) (hq : Q (.done (.ret (.ref C))) ⟨h, g, d, t, os⟩) :
    wpAny (model prog w) A (Builtin.«object.__getattribute__» ⟨[.ref a, .str "__class__" tk], []⟩) Q E ⟨h, g, d, t, os⟩ := by
  have hG : (⟨h, g, d, t, os⟩ : Shared).TypeIs (.builtin "object.__class__") "getset_descriptor" := F.typeOf_object_class
  have g1 := F.typeOf_object_class
  have g2 := F.slot_gs_get.lookup
  have g3 := F.slot_gs_set.lookup
  have lk : PySem.W.Looks (model prog w) h (typeLookup (.ref C) "__class__") (some (.builtin "object.__class__")) := PySem.W.looks_findIn X F0.cl
  repeat (any_goals (first | assumption | (with_reducible refine wpAny_loadPart_at hx ?_; rw [hc]) | with_reducible refine lk.at ?_ | wp_step))
  refine exc_clsGet hC T hx hc ?_
  repeat (any_goals (first | assumption | wp_step))
theorem exI_clsBy {tk : Tok} {Q : Value → Shared → Prop} (X : K.In h) (F0 : ExG K C) (hC : h.get? C = some (excClassObj nm q C N bs bm hdct sn sub ab col dd k0 k1 k2 k3 k5 newId)) (T : OwnTail h veMro bm) (hx : h.get? a = some o) (hc : o.cls = .ref C) (hq : Q (.ref C) ⟨h, g, d, t, os⟩) :
    wpAny (model prog w) A (getAttrBy (.ref a) (.str "__class__" tk) false) Q E ⟨h, g, d, t, os⟩ := by
  have f3 := PySem.F.attrBase_ValueError.ga.bind (.ref a)
  have n2 : (Value.builtin "BaseException.__getattribute__" == Value.builtin "object.__getattribute__") = false := by decide +kernel
  have n1 : (onTheHeap (Value.ref C) && Value.builtin "BaseException.__getattribute__" == Value.builtin "object.__getattribute__") = false := by rw [n2]; rfl
  have l1 : PySem.W.Looks (model prog w) h (typeLookup (.ref C) "__getattribute__") (some (.builtin "BaseException.__getattribute__")) := PySem.W.looks_findIn X F0.ga
  have l2 : PySem.W.Looks (model prog w) h (typeLookup (.ref C) "__getattr__") none := PySem.W.looks_findIn X F0.noga
  repeat (any_goals (first | assumption | (with_reducible refine wpAny_loadPart_at hx ?_; rw [hc]) | with_reducible refine l1.at ?_ | with_reducible refine l2.at ?_ | wp_step))
  refine codeAny_call_builtin PySem.F.attrBase_ValueError.ga.plain F.entry_bexc_ga (exc_gaCheck hC T hx hc (exI_clsEntry X F0 hC T hx hc ?_))
  repeat (any_goals (first | assumption | wp_step))
theorem exI_cls {Q : Option Value → Shared → Prop} (X : K.In h) (F0 : ExS K C f) (hx : h.get? a = some o) (hc : o.cls = .ref C) (hq : Q (some (.ref C)) ⟨h, g, d, t + 1, os⟩) : wpAny (model prog w) A (getAttr? (.ref a) "__class__") Q E ⟨h, g, d, t, os⟩ := by
  obtain ⟨bm, N, nm, qn, bs, sn, sub, ab, col, dd, k0, k1, k2, k3, k5, mN, hC, hN, hi, T⟩ := F0.ini.at X
  unfold getAttr? getAttrBy?
  repeat (any_goals (first | assumption | with_reducible apply exI_clsBy X F0.g hC T hx hc | wp_step))
end
theorem kitx_exI {K : PySem.W.Frag} {a C f : Addr} (F0 : ExS K C f) : PySem.W.KitX K (.ref a) (.ref C) (fun h => ∃ o, h.get? a = some o ∧ o.cls = .ref C) where
  ty := fun M h _ ⟨o, e, c⟩ => c ▸ (PySem.W.Looks.ld e).andThen .now
  it := fun M h X _ => by
    obtain ⟨bm, N, nm, qn, bs, sn, sub, ab, col, dd, k0, k1, k2, k3, k5, mN, hC, _⟩ := F0.ini.at X
    intro A' Q' E' s' k q
    unfold isType loadHead
    exact wpAny_bind (wpAny_loadPart (k _ _ hC) (wpAny_pure q))
  ne := fun h tp dd its n sl X htp => by
    obtain ⟨bm, N, nm, qn, bs, sn, sub, ab, col, dd, k0, k1, k2, k3, k5, mN, hC, _⟩ := F0.ini.at X
    refine Bool.eq_false_iff.mpr fun q => ?_
    have e : C = tp := Value.ref.inj (beq_iff_eq.mp q)
    subst e
    rw [hC] at htp
    have z := congrArg Obj.cls (Option.some.inj htp)
    exact absurd (Value.type.inj z) (by decide)
  ca := fun {prog w A E Q s} X ⟨o, e, c⟩ k => by
    obtain ⟨h, g, d, t, os⟩ := s
    exact exI_cls X F0 e c k
/-- a caught one as a thing in the heap -/
def excD (a : Addr) (cls : Value) (D : Addr) : HO := .ext fun h => ∃ o, h.get? a = some o ∧ o.cls = cls ∧ (∃ vs, o.data = .fields vs) ∧ o.dict = some D
theorem excD_ok {P : Program} {w : World} {H : Hp} {h : Heap} {a D : Addr} {cls : Value} {o : Obj} {vs : Array Value} (e : h.get? a = some o) (hc : o.cls = cls) (hd : o.data = .fields vs) (hx : o.dict = some D) : ObjOk P w H h a (excD a cls D) :=
  ⟨⟨o, e, hc, ⟨vs, hd⟩, hx⟩, ⟨o, e⟩, fun h1 h2 ⟨o1, e1, r⟩ k => ⟨o1, k o1 e1, r⟩⟩
section
variable {X : Cx} {f C : Addr}
/-- isinstance: the old reading, or a caught one against a built-in class, an own class, a tuple of own classes -/
def rIsI (K : PySem.W.Frag) : List V → Hp → VK → Prop := fun xs H Q =>
  (∃ x T t b, xs = [x, .ty T] ∧ TyOf K H x t ∧ PySem.W.kitOne K t (.type T) = some b ∧ Q (.bl b) H) ∨
  (∃ a C D f T b, xs = [.ref a, .ty T] ∧ H a = some (excD a (.ref C) D) ∧ ExS K C f ∧ PySem.W.kitOne K (.ref C) (.type T) = some b ∧ Q (.bl b) H) ∨
  (∃ a C D f C' b, xs = [.ref a, .ref C'] ∧ H a = some (excD a (.ref C) D) ∧ ExS K C f ∧ PySem.W.kitOne K (.ref C) (.ref C') = some b ∧ Q (.bl b) H) ∨
  (∃ (a C D f p : Addr) (cs : List Addr) (b : Bool), xs = [.ref a, .ref p] ∧ H a = some (excD a (.ref C) D) ∧ ExS K C f ∧ H p = some (.tup (cs.map V.ref)) ∧ PySem.W.kitAny K (.ref C) (cs.map Value.ref) = some b ∧ Q (.bl b) H)
theorem call_isI0 : CallR X (.builtin "isinstance") (rIsI X.K) := by
  intro pins s σ H xs us Q I r h
  rcases h with h | h | h | h
  · exact call_isT pins s σ H xs us Q I r h
  · obtain ⟨a, C, D, f, T, b, rfl, hH, F0, e, q⟩ := h
    obtain ⟨u1, u2, rfl, r1, r2⟩ := r.two
    cases (show _ = Value.ref a from r1)
    cases (show _ = Value.type T from r2)
    obtain ⟨⟨o, e1, e2, _⟩, _⟩ := I.hok a _ hH
    exact PySem.W.kia_one (kitx_exI F0) I.kIn ⟨o, e1, e2⟩ e (fun z => nomatch z) fun tk => ⟨.bl b, H, I.tok _, rfl, q⟩
  · obtain ⟨a, C, D, f, C', b, rfl, hH, F0, e, q⟩ := h
    obtain ⟨u1, u2, rfl, r1, r2⟩ := r.two
    cases (show _ = Value.ref a from r1)
    cases (show _ = Value.ref C' from r2)
    obtain ⟨⟨o, e1, e2, _⟩, _⟩ := I.hok a _ hH
    exact PySem.W.kia_one (kitx_exI F0) I.kIn ⟨o, e1, e2⟩ e (fun z => nomatch z) fun tk => ⟨.bl b, H, I.tok _, rfl, q⟩
  · obtain ⟨a, C, D, f, p, cs, b, rfl, hH, F0, hp, e, q⟩ := h
    obtain ⟨u1, u2, rfl, r1, r2⟩ := r.two
    cases (show _ = Value.ref a from r1)
    cases (show _ = Value.ref p from r2)
    obtain ⟨⟨o, e1, e2, _⟩, _⟩ := I.hok a _ hH
    obtain ⟨_, its, rv, ob, h1, h2, n, h3⟩ := I.hok p _ hp
    have := valsRef rv
    subst this
    obtain ⟨oc, od, odt, osl⟩ := ob
    dsimp only at h2 h3
    subst h2 h3
    exact PySem.W.kia_tup (kitx_exI F0) I.kIn ⟨o, e1, e2⟩ h1 e (fun z => nomatch z) fun tk => ⟨.bl b, H, I.tok _, rfl, q⟩
theorem call_isI {K : PySem.W.Frag} (h : X.K = K) : CallR X (.builtin "isinstance") (rIsI K) := h ▸ call_isI0
/-- e.fl, an int -/
def tFldE (K : PySem.W.Frag) (ta : TE) (fl : Str) : TE := fun σ H Q => ta σ H fun x H1 => ∃ a C D f fs n, x = .ref a ∧ H1 a = some (excD a (.ref C) D) ∧ ExS K C f ∧ PySem.W.findIn K (.ref C) fl = some none ∧ H1 D = some (.xd fs) ∧ fs.lookup fl = some (.int n) ∧ Q (.int n) H1
theorem pe_fldI {K : PySem.W.Frag} {e : Expr} {fl : Str} {ta : TE} {pos : Pos} (hK : X.K = K) (he : PE X e ta) (hb : attributeBase e fl X.env (eval e X.env) = eval e X.env) : PE X (.Attribute e fl pos) (tFldE K ta fl) := by
  subst hK
  intro pins s σ H Q I h
  refine attr_of hb (thn (he pins s σ H _ I h) fun u s1 ⟨x, H1, I1, rx, a, C, D, f, fs, n, ex, ea, F0, hat, eD, l, q⟩ => ?_)
  subst ex
  obtain rfl : u = Value.ref a := rx
  obtain ⟨⟨o, e1, e2, ⟨vs, e3⟩, e4⟩, _⟩ := I1.hok a _ ea
  obtain ⟨bm, N, nm, qn, bs, sn, sub, ab, col, dd, k0, k1, k2, k3, k5, mN, hC, hN, hi, T⟩ := F0.ini.at I1.kIn
  obtain ⟨mA, hns, rel⟩ := (show ObjOk X.prog X.w H1 s1.heap D (.xd fs) from I1.hok D _ eD)
  have hr := rel fl
  rw [l] at hr
  cases hv : mA fl with
  | none => rw [hv] at hr; exact hr.elim
  | some v =>
    rw [hv] at hr
    obtain ⟨tk, rfl⟩ := hr
    obtain ⟨hp, g, d, t, os⟩ := s1
    exact getX I1.kIn F0.ga F0.noga hat hC T e1 e2 e3 e4 hns.ns hv rfl ⟨.int n, H1, I1.tok _, ⟨tk, rfl⟩, q⟩
end
/-! ### try: .. except C as n: .. of such ones -/
def tTryAs2 (K : PySem.W.Frag) (CT : Addr) (i : Nat) (tb : XS2 → TS) (ts : TS) : TS := fun D σ H =>
  tb (fun σ' cls Dx H' => PySem.W.exmOne K cls (.ref CT) = some true ∧ ∀ a, H' a = none → ts (D.gone i) (σ'.set i (some (.ref a))) (upd H' a (excD a cls Dx))) D σ H
theorem ps_tryAs2 {X : Cx} {CT : Addr} {i : Nat} {x n : Str} {body : List Stmt} {b₀ : Stmt} {suite : List Stmt} {np hpos pos : Pos} {tb : XS2 → TS} {ts : TS}
    (hb : ∀ pn XS, PSs ((X.pnd pn).wish (WX2 (X.pnd pn) XS)) body (tb XS)) (hs : ∀ pn a, PSs ((X.pnd pn).hand a) (b₀ :: suite) ts) (hN : X.N.Nodup) (hi : X.N[i]? = some n) (hl : X.env.scope.names.lookup n = some .local) (hst : X.stack = X.env :: X.outer) (hfr : X.env.frame = some X.env.locals)
    (hg : Gl X x) (hm : X.mg x = some (.ref CT)) (hd : (x == ("__debug__" : Str)) = false := by decide) :
    PS X (.Try body [.ExceptHandler (some (.Name x np)) (some n) (b₀ :: suite) hpos] [] [] pos) (tTryAs2 X.K CT i tb ts) := by
  intro pins s σ H D I h
  refine wpAny_Try_except (wpAny_mono (hb (X.pn ++ pins) _ [] s σ H D (I.pnd.wish _) h) (fun f s1 q => ?_) fun ev s1 z => ?_)
  · have q' : SP X pins D f s1 := q.unwish.unpnd I.ok
    cases f with
    | next => exact wpAny_execs_nil q'
    | brk => exact q'
    | cont => exact q'
    | ret u => exact q'
  · obtain ⟨pins', σ', H', G, a, cls, Dx, rfl, I', ⟨B, a0, cov, fl, up, hn⟩, dk, hx, q⟩ := z
    have I1 : Inv X pins σ' H' { s1 with heap := G } := I'.unpnd I.ok
    have hH := I1.untracked hn
    have q := q a hH
    have hF : X.A.frames = some (X.env :: X.outer) := by rw [← hst]; exact I.ok.frames
    have fl : Heap.FlyingW B (X.env :: X.outer) a cls a0 s1.heap := by rw [← hst]; exact fl
    refine wpAny_mono ((tame_noteFrame _ _).any (D := Dx) (e := a) (wpAny_looks_onW (E := fun _ _ => False) (Q := fun _ s2 => ∃ h', s2 = { s1 with heap := h' } ∧ Heap.HeldW B (X.env :: X.outer) a cls a0 X.env.locals h' ∧ s1.heap.UpToSlots h') hF hfr fl fun h' z1 z2 => ⟨h', rfl, z1, z2⟩) dk) (fun _ s2 z => ?_) fun _ _ z => z.1.elim
    obtain ⟨⟨h4, rfl, held4, up4⟩, dk4⟩ := z
    refine wpAny_mono ((tame_setFlight _ _).any (D := Dx) (e := a) (wpAny_landsW (E := fun _ _ => False) (Q := fun _ s2 => ∃ h', s2 = { s1 with heap := h' } ∧ Heap.FlyingW B (X.env :: X.outer) a cls a0 h' ∧ h4.UpToSlots h') held4 fun h' z1 z2 => ⟨h', rfl, z1, z2⟩) dk4) (fun _ s3 z => ?_) fun _ _ z => z.1.elim
    obtain ⟨⟨h5, rfl, fl5, up5⟩, dk5⟩ := z
    have U5 := (up.trans up4).trans up5
    have I5 : Inv X pins σ' H' { s1 with heap := h5 } := I1.flown cov fl5.1 U5
    have I5h := I5.hand a
    refine wpAny_handleBy_cons (codeAny_handlers_test (ld_glob I5h hg hm ?_ hd)) (by intro q; cases q)
    obtain ⟨ob, hob, hobc⟩ := fl5.there
    refine (PySem.W.exm_one (M := model X.prog X.w) I5.kIn (hobc ▸ (PySem.W.Looks.ld hob).andThen .now) hx).here ?_
    refine codeAny_handlers_suite_as ?_
    refine wpAny_mono ((tame_setFlight _ _).any (D := Dx) (e := a) (lands_againW (E := fun _ _ => False) (Q := fun _ s2 => ∃ h' t, s2 = { s1 with heap := h', toks := t } ∧ Heap.FlyingW B (X.env :: X.outer) a cls a0 h' ∧ h5.UpToSlots h') fl5 fun h' z1 z2 => ⟨h', _, rfl, z1, z2⟩) dk5) (fun _ s3 z => ?_) fun _ _ z => z.1.elim
    obtain ⟨⟨h6, t6, rfl, fl6, up6⟩, dk6⟩ := z
    have U6 := U5.trans up6
    have I6 : Inv X pins σ' H' { s1 with heap := h6, toks := t6 } := (I1.flown cov fl6.1 U6).tok _
    obtain ⟨oe, vs, hoe, hoec, hoed, _⟩ := fl6.first
    obtain ⟨oe', hoe', hod⟩ := dk6
    obtain rfl : oe' = oe := Option.some.inj (hoe'.symm.trans hoe)
    have I7 := Inv.track (s := { s1 with heap := h6, toks := t6 }) (I1.tok t6) hn I6 (excD_ok hoe hoec hoed hod)
    refine store_ok I7 hN hi (.inl hl) (show RelV (.ref a) (.ref a) from rfl) (fun s8 I8 => ?_) (.inr hl)
    refine wpAny_mono ((hs (X.pn ++ pins) a) [] s8 _ _ _ (I8.pnd.hand a) q) (fun f s9 z => ?_) fun _ _ z => z.elim
    have gone : ∀ {σ9 : St} {H9 : Hp} {R : Prop}, Inv ((X.pnd (X.pn ++ pins)).hand a) [] σ9 H9 s9 → (∀ s', Inv X pins (σ9.set i none) H9 s' → SP X pins D f s') → wpAny (model X.prog X.w) X.A (do bindName X.env n .none; unbindBehindTheSuite X.env n hpos) (fun _ s' => SP X pins D f s') X.xe s9 := fun {σ9 H9 _} J k =>
      unbind_ok (X := X) ((J.unhand (I.ok.pnd _)).unpnd I.ok) hN hi hl fun s' J' => k s' J'
    cases f with
    | next => obtain ⟨σ9, H9, J, w⟩ := z; exact gone (R := True) J fun s' J' => ⟨_, H9, J', w⟩
    | brk => obtain ⟨σ9, H9, J, w⟩ := z; exact gone (R := True) J fun s' J' => ⟨_, H9, J', w⟩
    | cont => obtain ⟨σ9, H9, J, w⟩ := z; exact gone (R := True) J fun s' J' => ⟨_, H9, J', w⟩
    | ret u => obtain ⟨v, σ9, H9, J, r, w⟩ := z; exact gone (R := True) J fun s' J' => ⟨v, _, H9, J', r, w⟩
theorem pass2 {X : Cx} : Passes (CX2 X.prog X.w) X E0 := fun _ _ _ _ _ _ _ ⟨_, _, _, _, _, _, _, _, _, _, _, _, z⟩ => z.elim
end L2

set_option maxHeartbeats 4000000
namespace L2
open PySem PySem.Spec PyProof.Rows
/-! ### defs called within an except suite -/
structure FnOkH (P : Program) (w : World) (K : PySem.W.Frag) (mg : Str → Option Value) (base : Heap) (k : Nat) (f : Addr) (fd : FuncData) (ps : List Str) (sp : Sp) : Prop where
  len : ∀ vs H Q E, sp vs H Q E → vs.length = ps.length
  run : ∀ (A : Around) (ea : Addr) (outer : List Env) (s : Shared) (H : Hp) (args : Args) (us : List Value) (vs : List V) (Q : VK), Room k A → Env0 P w K mg base A outer s H → BindsTo s fd args (ps.zip us) → Vals vs us → sp vs H Q E0 →
    codeAny (model P w) (A.mark (some (.ref ea))) (.call (.ref f) args) (CR CX0 outer P w H s Q E0) s
theorem fn_ofH {P : Program} {w : World} {K : PySem.W.Frag} {mg : Str → Option Value} {base : Heap} {k : Nat} {f : Addr} {name qual : Str} {params : Arguments} {body : List Stmt} {scope : Scope} {dV kV doc pm cdv ct oc : Value} {an od : Option Addr}
    {osl : Array (Option Value)} {N ps : List Str} {sp : Sp} (lk : K.lookup f = some ⟨oc, od, .func (PySem.W.fnOf name qual params body scope dV kV doc pm an cdv ct), osl⟩) (hcd : PySem.W.codeIn K cdv qual = true) (S : FnScope N ps scope)
    (len : ∀ vs H Q E, sp vs H Q E → vs.length = ps.length)
    (hbody : ∀ (A : Around) (ea : Addr) (outer : List Env) (s : Shared) (H : Hp) (vs : List V) (Q : VK), Room k (A.deeper (envOfC qual scope s.heap.objs.size f cdv)) → sp vs H Q E0 →
      ∃ t, PSs ((cxOf CX0 P w K mg base N qual scope f cdv A outer s H E0).hand ea) body t ∧ t { nx := fun _ H' => Q .non H', rt := Q } (start N vs) H) :
    FnOkH P w K mg base (k + 1) f (PySem.W.fnOf name qual params body scope dV kV doc pm an cdv ct) ps sp := by
  refine ⟨len, fun A ea outer s H args us vs Q hr e0 hb r hsp => ?_⟩
  have hl := len _ _ _ _ hsp
  have KX : K.In s.heap := e0.mod.kin.keeps fun b o e => (e0.bs b o e).1
  have lim : s.heap.NoLimit := e0.mod.nolimit.keeps fun b o e => (e0.bs b o e).1
  have hkind : ∀ y ∈ ps.zip us, scope.names.lookup y.1 = some .local ∨ (scope.names.lookup y.1 = some .cell ∧ ((cellsFrom (s.heap.objs.size + 1) scope.names []).lookup y.1).isSome = true) := fun ⟨n, v⟩ hy => by
    rcases S.par n (List.of_mem_zip hy).1 with q | q
    · exact .inl q
    · exact .inr ⟨q, PySem.W.cellsFrom_some _ _ _ (.inl q)⟩
  refine codeAny_call_function (show (A.mark (some (.ref ea))).depth < recursionLimit from hr.depth) (KX _ _ lk) rfl S.co S.gen rfl (PySem.W.codeRec_of KX hcd) (hb _ _ _ _ ?_)
  refine wpAny_newFunctionEnv_cells S.kind hkind fun env he s1 x => ?_
  subst he
  refine ⟨lim.keeps x.toInCall.keep, codeAny_func ?_⟩
  obtain ⟨t, ht, hq⟩ := hbody A ea outer s H vs Q (hr.deeper _) hsp
  have I : Inv (cxOf CX0 P w K mg base N qual scope f cdv A outer s H E0) [] (start N vs) H s1 := inv_start S hr.hd e0 hl r x
  refine wpAny_mono (ht [] s1 (start N vs) H _ (I.hand ea) hq) (fun fl s' hs => ?_) fun e s' hs => False.elim hs
  have fin : ∀ {σ' : St} {H' : Hp} {v : V} {u : Value}, Inv ((cxOf CX0 P w K mg base N qual scope f cdv A outer s H E0).hand ea) [] σ' H' s' → RelV v u → Q v H' → CE outer P w H s Q u s' :=
    fun {σ' H' v u} J rv q => ⟨v, H', J.os, J.bare, J.base, J.hok, rv, q⟩
  cases fl with
  | ret u =>
    obtain ⟨v, σ', H', J, rv, q⟩ := hs
    exact fin J rv q
  | next =>
    obtain ⟨σ', H', J, q⟩ := hs
    exact fin (v := V.non) (u := Value.none) J rfl q
  | brk =>
    obtain ⟨_, _, _, q⟩ := hs
    exact False.elim q
  | cont =>
    obtain ⟨_, _, _, q⟩ := hs
    exact False.elim q
section
variable {P : Program} {w : World} {K : PySem.W.Frag} {mg : Str → Option Value} {base : Heap}
theorem Fun.okE {x qual : Str} {st : Stmt} {f : Addr} {fd : FuncData} {N ps : List Str} {k : Nat} {sp : Sp} (F : Fun K x qual st f fd) (S : FnScope N ps (defScope st)) (len : ∀ vs H Q E, sp vs H Q E → vs.length = ps.length)
    (hbody : ∀ (cdv : Value) (A : Around) (ea : Addr) (outer : List Env) (s : Shared) (H : Hp) (vs : List V) (Q : VK), Room k (A.deeper (envOfC qual (defScope st) s.heap.objs.size f cdv)) → sp vs H Q E0 →
      ∃ t, PSs ((cxOf CX0 P w K mg base N qual (defScope st) f cdv A outer s H E0).hand ea) (defBody st) t ∧ t { nx := fun _ H' => Q .non H', rt := Q } (start N vs) H) : FnOkH P w K mg base (k + 1) f fd ps sp := by
  obtain ⟨oc, od, kV, doc, pm, an, cdv, ct, osl, rfl, lk, hcd⟩ := F.ex
  exact fn_ofH lk hcd S len fun A ea outer s H vs Q hr hsp => hbody cdv A ea outer s H vs Q hr hsp
end
section
variable {X : Cx} {k : Nat} {f ea : Addr} {fd : FuncData} {ps : List Str} {sp : Sp} {x : Str} {p pos : Pos} {e : Expr} {es : List Expr} {t : TA}
theorem pe_callE (F : FnOkH X.prog X.w X.K X.mg X.base k f fd ps sp) (hr : Room k X.A) (hg : Gl (X.hand ea) x) (hm : X.mg x = some (.ref f)) (hk : PySem.W.keepIn X.K (.ref f) = true) (hb : Binds X.K fd ps [])
    (ha : PA (X.hand ea) (e :: es) t) (hdb : (x == ("__debug__" : Str)) = false := by decide) (he : starEach (e :: es) X.env = (false, eval e X.env) :: starEach es X.env := by rfl) (hpl : (backTo pos (starEach es X.env)).any (·.1) = false := by rfl) :
    PE (X.hand ea) (.Call (.Name x p) (e :: es) [] pos) (tCall sp [] E0 t) := by
  intro pins s σ H Q I h
  refine wpAny_Call_Name_kw (ld_glob I hg hm ?_ hdb)
  refine PySem.W.callWith_K (h₀ := X.base) I.ok.mod.kin hk (thn (ha pos pins s σ H _ I h) fun us s1 ⟨vs, H1, I1, r, q⟩ => ⟨I1.kIn, ?_⟩) he hpl
  have q : sp vs H1 Q E0 := by have q' : sp (vs ++ []) H1 Q E0 := q; rw [List.append_nil] at q'; exact q'
  have hl : (us ++ []).length = ps.length := by rw [List.append_nil, ← r.length]; exact F.len _ _ _ _ q
  have hbd := hb s1 us I1.kIn hl
  rw [List.append_nil] at hbd
  have e1 := I1.env0
  have e0 : Env0 X.prog X.w X.K X.mg X.base X.A X.stack s1 H1 := ⟨e1.frames, e1.mod, e1.bs, e1.bsz, e1.funs, e1.frf, e1.hok, e1.bare⟩
  refine wpAny_call (codeAny_mono (F.run X.A ea X.stack s1 H1 ⟨us, []⟩ us vs Q hr e0 hbd r q) fun rr s2 hq => ?_)
  cases rr with
  | error z => exact False.elim hq
  | ok fl =>
    cases fl with
    | ret u => exact I1.after hq
    | next => exact False.elim hq
    | brk => exact False.elim hq
    | cont => exact False.elim hq
end
end L2

set_option maxHeartbeats 1000000
namespace Mine
open PySem L2
/-! ### the nine kinds -/
inductive Kd where
  | G | D | R | s | d | r | dot | three | two
  deriving DecidableEq, Repr
def Kd.str : Kd → Str
  | .G => "G" | .D => "D" | .R => "R" | .s => "s" | .d => "d" | .r => "r" | .dot => "." | .three => "3" | .two => "2"
def Kd.cp : Kd → Nat
  | .G => 71 | .D => 68 | .R => 82 | .s => 115 | .d => 100 | .r => 114 | .dot => 46 | .three => 51 | .two => 50
def Kd.great : Kd → Bool
  | .G => true | .D => true | .R => true | _ => false
def Kd.small : Kd → Bool
  | .s => true | .d => true | .r => true | _ => false
def Kd.parting : Kd → Bool
  | .dot => true | .three => true | .two => true | _ => false
def Kd.meas : Kd → Bool
  | .three => true | .two => true | _ => false
def Kd.sounds : Kd → Bool
  | .G => true | .D => true | .s => true | .d => true | _ => false
/-- a kind that may be lacking -/
def okstr : Option Kd → Str
  | some k => k.str
  | none => ""
abbrev Sg := Kd × Int
def inS (x y : Str) : Bool := !(Builtin.Str.occurrences y x 0 y.length 1).isEmpty
/-! ### signs and lines in the heap -/
def SgAt (H : Hp) (v : V) (s : Sg) : Prop := ∃ p, v = .ref p ∧ H p = some (.tup [.str s.1.str, .int s.2])
abbrev Sgs (H : Hp) : List V → List Sg → Prop := Paired (SgAt H)
theorem pget {α β : Type} {F : α → β → Prop} : ∀ {xs : List α} {ys : List β} {i : Nat} {x : α}, Paired F xs ys → xs[i]? = some x → ∃ y, ys[i]? = some y ∧ F x y
  | _, _, _, _, .nil, e => by simp at e
  | _, _, 0, _, .cons r _, e => by simp at e; subst e; exact ⟨_, rfl, r⟩
  | _, _, i + 1, x, .cons _ t, e => by
    obtain ⟨u, h1, h2⟩ := pget (i := i) (x := x) t (by simpa using e)
    exact ⟨u, by simpa using h1, h2⟩
theorem plen {α β : Type} {F : α → β → Prop} {xs : List α} {ys : List β} (h : Paired F xs ys) : xs.length = ys.length := Paired.length h
theorem psnoc {α β : Type} {F : α → β → Prop} : ∀ {xs : List α} {ys : List β} {x : α} {y : β}, Paired F xs ys → F x y → Paired F (xs ++ [x]) (ys ++ [y])
  | _, _, _, _, .nil, h => .cons h .nil
  | _, _, _, _, .cons a b, h => .cons a (psnoc b h)
section
variable {K : PySem.W.Frag} {H : Hp} {p : Addr} {Q : VK}
/-- an item of a pair -/
theorem ix0 {a b : V} (h : H p = some (.tup [a, b])) (q : Q a H) : rIxL K (.ref p) (.int 0) H Q ∨ rIxT K (.ref p) (.int 0) H Q ∨ rIxS (.ref p) (.int 0) H Q := .inr (.inl ⟨p, _, 0, a, rfl, rfl, SqT.of h, rfl, q⟩)
theorem ix1 {a b : V} (h : H p = some (.tup [a, b])) (q : Q b H) : rIxL K (.ref p) (.int 1) H Q ∨ rIxT K (.ref p) (.int 1) H Q ∨ rIxS (.ref p) (.int 1) H Q := .inr (.inl ⟨p, _, 1, b, rfl, rfl, SqT.of h, rfl, q⟩)
/-- an item of a list, by its place -/
theorem ixL {xs : List V} {i : Int} {n : Nat} {v : V} (h : SqL K H p xs) (hn : i = n) (e : xs[n]? = some v) (q : Q v H) : rIxL K (.ref p) (.int i) H Q ∨ rIxT K (.ref p) (.int i) H Q ∨ rIxS (.ref p) (.int i) H Q := .inl ⟨p, xs, i, v, rfl, rfl, h, by rw [hn]; exact atI_nat e, q⟩
end
end Mine

set_option maxHeartbeats 1000000
namespace Mine
open PySem L2
/-! ### words and the signs that they write -/
abbrev Sn := Str × Int
def soundV : List V := [.str "G", .str "D", .str "s", .str "d"]
def silentV : List V := [.str "R", .str "r", .str ".", .str "3", .str "2"]
def figsV : List V := [.str "0", .str "1", .str "2", .str "3", .str "4", .str "5", .str "6", .str "7", .str "8", .str "9"]
def k4 : List Nat := [71, 68, 115, 100]
def figs : List Nat := [48, 49, 50, 51, 52, 53, 54, 55, 56, 57]
def chr (c : Nat) : Str := ⟨#[c]⟩
def numOk (cs : List Nat) : Bool := decide (1 ≤ cs.length) && (decide (cs.length ≤ 2) && (cs.all (fun c => decide (c ∈ figs)) && !(decide (1 < cs.length) && decide (cs[0]? = some 48))))
def numW (cs : List Nat) : Option Int := if numOk cs = true then intText? ⟨cs.toArray⟩ else none
def signW (w : Str) : Option Sn := if inV (.str w) silentV = true then some (w, 0) else match w.cps.toList with
  | [] => none
  | c :: cs => if c ∈ k4 then (numW cs).map fun n => (chr c, n) else none
theorem chr_beq (d c : Nat) : (chr d == chr c) = decide (c = d) := by
  by_cases h : c = d
  · subst h
    rw [beq_self_eq_true, decide_eq_true rfl]
  · rw [decide_eq_false h]
    refine Bool.eq_false_iff.mpr fun q => h ?_
    have e := beq_iff_eq.mp q
    unfold chr at e
    injection e with e
    have : [d] = [c] := congrArg Array.toList e
    exact (List.cons.inj this).1.symm
theorem any_chr (c : Nat) : ∀ l : List Nat, inV (.str (chr c)) (l.map fun d => V.str (chr d)) = decide (c ∈ l)
  | [] => by simp [inV]
  | d :: l => by
    show ((chr d == chr c) || inV (.str (chr c)) (l.map fun d => V.str (chr d))) = _
    rw [any_chr c l, chr_beq]
    by_cases h : c = d <;> simp [h]
theorem fig_chr (c : Nat) : inV (.str (chr c)) figsV = decide (c ∈ figs) := by
  have e : figsV = figs.map fun d => V.str (chr d) := by decide +kernel
  rw [e]; exact any_chr c figs
theorem sound_chr (c : Nat) : inV (.str (chr c)) soundV = decide (c ∈ k4) := by
  have e : soundV = k4.map fun d => V.str (chr d) := by decide +kernel
  rw [e]; exact any_chr c k4
theorem inS_no {y : Str} {c : Nat} (h : c ∉ y.cps.toList) : inS (chr c) y = false := by
  unfold inS
  rw [PySem.W.occ_nil_of_no (x := y) (y := chr c) 1 fun i hi => ?_]
  · rfl
  · refine Bool.eq_false_iff.mpr fun q => h ?_
    have q : (y.cps.extract i (i + 1) == #[c]) = true := q
    have e := beq_iff_eq.mp q
    have : c ∈ (y.cps.extract i (i + 1)).toList := by rw [e]; simp
    rw [Array.toList_extract] at this
    exact List.mem_of_mem_drop (List.mem_of_mem_take this)
theorem inS_list {y : Str} {l : List Nat} (hy : y.cps.toList = l) (ok : l.all (fun c => inS (chr c) y) = true) (c : Nat) : inS (chr c) y = decide (c ∈ l) := by
  by_cases h : c ∈ l
  · rw [decide_eq_true h]; exact List.all_eq_true.mp ok c h
  · rw [decide_eq_false h]; exact inS_no (by rw [hy]; exact h)
theorem inS_k4 (c : Nat) : inS (chr c) "GDsd" = decide (c ∈ k4) := inS_list (by decide +kernel) (by decide +kernel) c
theorem inS_figs (c : Nat) : inS (chr c) "0123456789" = decide (c ∈ figs) := inS_list (by decide +kernel) (by decide +kernel) c
theorem figs_ok1 : figs.all (fun c => (intText? ⟨#[c]⟩).isSome) = true := by decide +kernel
theorem figs_ok2 : figs.all (fun c => figs.all fun d => (intText? ⟨#[c, d]⟩).isSome) = true := by decide +kernel
theorem num_some : ∀ {cs : List Nat}, numOk cs = true → ∃ n, intText? ⟨cs.toArray⟩ = some n
  | [], h => nomatch h
  | [c], h => by
    have hc : c ∈ figs := by simp [numOk] at h; exact h
    exact Option.isSome_iff_exists.mp (List.all_eq_true.mp figs_ok1 c hc)
  | [c, d], h => by
    have hc : c ∈ figs ∧ d ∈ figs := by simp [numOk] at h; exact h.1
    exact Option.isSome_iff_exists.mp (List.all_eq_true.mp (List.all_eq_true.mp figs_ok2 c hc.1) d hc.2)
  | _ :: _ :: _ :: _, h => by simp [numOk] at h
theorem numW_ok {cs : List Nat} (h : numOk cs = true) : numW cs = intText? ⟨cs.toArray⟩ := if_pos h
theorem numW_no {cs : List Nat} (h : numOk cs = false) : numW cs = none := if_neg (by rw [h]; decide)
theorem zero_chr : Str.ofString "0" = chr 48 := by decide +kernel
theorem sl_head {z : Str} {c : Nat} {cs : List Nat} (h : z.cps.toList = c :: cs) : Txt.slice z none (some 1) = chr c := by
  show StrLaws.sliceText z none (some 1) = chr c
  rw [StrLaws.sliceText_to (by rw [h, List.length_cons]; omega), h]
  rfl
theorem sl_tail {z : Str} {c : Nat} {cs : List Nat} (h : z.cps.toList = c :: cs) : Txt.slice z (some 1) none = ⟨cs.toArray⟩ := by
  show StrLaws.sliceText z (some 1) none = ⟨cs.toArray⟩
  rw [StrLaws.sliceText_from (by rw [h, List.length_cons]; omega), h]
  show (⟨_⟩ : Str) = ⟨_⟩
  congr 2
  show cs.take _ = cs
  exact List.take_of_length_le (by rw [List.length_cons]; omega)
theorem str_nil {z : Str} (h : z.cps.toList = []) : z = ⟨#[]⟩ := by
  obtain ⟨a⟩ := z
  have : a.toList = [] := h
  rw [Array.toList_eq_nil_iff] at this
  rw [this]
theorem signW_cons {z : Str} {c : Nat} {cs : List Nat} (hs : inV (.str z) silentV = false) (h : z.cps.toList = c :: cs) : signW z = if c ∈ k4 then (numW cs).map fun n => (chr c, n) else none := by
  unfold signW
  rw [if_neg (by rw [hs]; decide), h]
theorem for_str {z : Str} {g : TG} {tb : TS} {D : Ends} {σ : St} {H : Hp} (Pv : Nat → St → Hp → Prop) (h0 : Pv 0 σ H)
    (hs : ∀ i c σ H, z.cps[i]? = some c → Pv i σ H → g (.str ⟨#[c]⟩) σ H fun σ2 H2 => tb { D with nx := Pv (i + 1), ct := Pv (i + 1), bk := D.nx } σ2 H2) (hd : ∀ σ H, Pv z.cps.size σ H → D.nx σ H) :
    ∃ W : Nat → Nat → St → Hp → Prop, (∃ m, W 0 m σ H) ∧ ∀ i m σ H, W i m σ H →
      ((Its z).stop i H ∧ D.nx σ H) ∨ ((Its z).go i H ∧ ∃ N : St → Hp → Prop, (∀ σ' H', N σ' H' → ∃ m', m' < m ∧ W (i + 1) m' σ' H') ∧ ∀ x H', (Its z).yld i H x H' → g x σ H' fun σ2 H2 => tb { D with nx := N, ct := N, bk := D.nx } σ2 H2) := by
  refine ⟨fun i m σ H => m = z.cps.size - i ∧ i ≤ z.cps.size ∧ Pv i σ H, ⟨z.cps.size, by simp, Nat.zero_le _, h0⟩, ?_⟩
  rintro i m σ H ⟨rfl, hi, p⟩
  by_cases hlt : i < z.cps.size
  · refine .inr ⟨hlt, Pv (i + 1), fun σ' H' p' => ⟨z.cps.size - (i + 1), by omega, rfl, hlt, p'⟩, fun x H' y => ?_⟩
    obtain ⟨rfl, c, hc, rfl⟩ := y
    exact hs i c σ _ hc p
  · have e : i = z.cps.size := by omega
    subst e
    exact .inl ⟨Nat.le_refl _, hd σ H p⟩
theorem numOk_of {cs : List Nat} (h : numOk cs = true) : 1 ≤ cs.length ∧ cs.length ≤ 2 ∧ (∀ c ∈ cs, c ∈ figs) ∧ ¬ (1 < cs.length ∧ cs[0]? = some 48) := by
  unfold numOk at h
  rw [Bool.and_eq_true, Bool.and_eq_true, Bool.and_eq_true, List.all_eq_true] at h
  obtain ⟨a, b, c, d⟩ := h
  refine ⟨of_decide_eq_true a, of_decide_eq_true b, fun x hx => of_decide_eq_true (c x hx), fun z => ?_⟩
  rw [decide_eq_true z.1, decide_eq_true z.2] at d
  cases d
theorem numOk_mk {cs : List Nat} (a : 1 ≤ cs.length) (b : cs.length ≤ 2) (c : ∀ x ∈ cs, x ∈ figs) (d : ¬ (1 < cs.length ∧ cs[0]? = some 48)) : numOk cs = true := by
  unfold numOk
  rw [decide_eq_true a, decide_eq_true b, List.all_eq_true.mpr fun x hx => decide_eq_true (c x hx)]
  cases e : decide (1 < cs.length) && decide (cs[0]? = some 48) with
  | false => rfl
  | true =>
    rw [Bool.and_eq_true] at e
    exact absurd ⟨of_decide_eq_true e.1, of_decide_eq_true e.2⟩ d
theorem signW_none {z : Str} {c : Nat} {cs : List Nat} (hs : inV (.str z) silentV = false) (h : z.cps.toList = c :: cs) (n : c ∉ k4 ∨ ¬ numOk cs = true) : signW z = none := by
  rw [signW_cons hs h]
  by_cases h4 : c ∈ k4
  · rw [if_pos h4, numW_no (Bool.eq_false_iff.mpr (n.resolve_left fun z => z h4))]
    rfl
  · rw [if_neg h4]
def SgQ (z : Str) (H : Hp) (Q : VK) : Prop := (signW z = none → ∀ H', Same H H' → Q .non H') ∧ ∀ s, signW z = some s → ∀ p H', Same H H' → H' p = some (.tup [.str s.1, .int s.2]) → Q (.ref p) H'
def sp_sign_of : Sp := fun vs H Q _ => ∃ z : Str, vs = [.str z] ∧ z.length ≤ 64 ∧ SgQ z H Q
end Mine

set_option maxHeartbeats 1000000
namespace Mine
open PySem L2
/-! ### words apart and together -/
def jl (c : Nat) : List (List Nat) → List Nat
  | [] => []
  | [x] => x
  | x :: y :: r => x ++ c :: jl c (y :: r)
theorem cut_inj {c : Nat} : ∀ {a b x y : List Nat}, c ∉ a → c ∉ b → a ++ c :: x = b ++ c :: y → a = b ∧ x = y
  | [], [], x, y, _, _, h => by
    simp at h
    exact ⟨rfl, h⟩
  | [], d :: b, x, y, _, hb, h => by
    simp at h
    exact absurd (by rw [h.1]; exact List.mem_cons_self) hb
  | d :: a, [], x, y, ha, _, h => by
    simp at h
    exact absurd (by rw [← h.1]; exact List.mem_cons_self) ha
  | d :: a, e :: b, x, y, ha, hb, h => by
    simp at h
    obtain ⟨r1, r2⟩ := cut_inj (fun z => ha (List.mem_cons_of_mem _ z)) (fun z => hb (List.mem_cons_of_mem _ z)) h.2
    exact ⟨by rw [h.1, r1], r2⟩
theorem jl_inj {c : Nat} : ∀ {A B : List (List Nat)}, A ≠ [] → B ≠ [] → (∀ p ∈ A, c ∉ p) → (∀ p ∈ B, c ∉ p) → jl c A = jl c B → A = B
  | [], _, h, _, _, _, _ => absurd rfl h
  | _, [], _, h, _, _, _ => absurd rfl h
  | [a], [b], _, _, _, _, h => by
    simp only [jl] at h
    rw [h]
  | [a], b :: b2 :: r, _, _, ha, _, h => by
    simp only [jl] at h
    exact absurd (by rw [h]; simp) (ha a List.mem_cons_self)
  | a :: a2 :: r, [b], _, _, _, hb, h => by
    simp only [jl] at h
    exact absurd (by rw [← h]; simp) (hb b List.mem_cons_self)
  | a :: a2 :: r, b :: b2 :: q, _, _, ha, hb, h => by
    simp only [jl] at h
    obtain ⟨r1, r2⟩ := cut_inj (ha a List.mem_cons_self) (hb b List.mem_cons_self) h
    have := jl_inj (A := a2 :: r) (B := b2 :: q) (by simp) (by simp) (fun p hp => ha p (List.mem_cons_of_mem _ hp)) (fun p hp => hb p (List.mem_cons_of_mem _ hp)) r2
    rw [r1, this]
theorem join_jl (c : Nat) : ∀ ws : List Str, (Str.join ⟨#[c]⟩ ws).cps.toList = jl c (ws.map (·.cps.toList))
  | [] => rfl
  | [x] => rfl
  | x :: y :: r => by
    show (x ++ ⟨#[c]⟩ ++ Str.join ⟨#[c]⟩ (y :: r)).cps.toList = _
    rw [Str.cps_append, Str.cps_append, Array.toList_append, Array.toList_append, join_jl c (y :: r)]
    simp [jl]
theorem toList_inj : ∀ {A B : List Str}, A.map (·.cps.toList) = B.map (·.cps.toList) → A = B
  | [], [], _ => rfl
  | [], _ :: _, h => by simp at h
  | _ :: _, [], h => by simp at h
  | a :: A, b :: B, h => by
    simp only [List.map_cons, List.cons.injEq] at h
    have e : a = b := Str.ext' (Array.toList_inj.mp h.1)
    rw [e, toList_inj h.2]
theorem split_join {c : Nat} {ws : List Str} (hn : ws ≠ []) (hf : ∀ p ∈ ws, c ∉ p.cps.toList) (hx : Str.join ⟨#[c]⟩ ws ≠ Str.empty) : Txt.split (Str.join ⟨#[c]⟩ ws) ⟨#[c]⟩ = ws := by
  have h1 := StrLaws.join_split (Str.join ⟨#[c]⟩ ws) ⟨#[c]⟩
  have h2 := StrLaws.split_free (Str.join ⟨#[c]⟩ ws) c
  generalize Txt.split (Str.join ⟨#[c]⟩ ws) ⟨#[c]⟩ = A at h1 h2
  have hA : A ≠ [] := by
    rintro rfl
    exact hx h1.symm
  refine toList_inj (jl_inj (c := c) (by simpa using hA) (by simpa using hn) ?_ ?_ ?_)
  · intro p hp
    obtain ⟨q, hq, rfl⟩ := List.mem_map.mp hp
    exact h2 q hq
  · intro p hp
    obtain ⟨q, hq, rfl⟩ := List.mem_map.mp hp
    exact hf q hq
  · rw [← join_jl, ← join_jl, h1]
theorem blank : Str.ofString " " = (⟨#[32]⟩ : Str) := by decide +kernel
theorem join_len (c : Nat) : ∀ ws : List Str, (Str.join ⟨#[c]⟩ ws).length ≤ (ws.map (·.length)).sum + ws.length
  | [] => Nat.zero_le _
  | [x] => by
    show x.length ≤ _
    simp
  | x :: y :: r => by
    show (x ++ ⟨#[c]⟩ ++ Str.join ⟨#[c]⟩ (y :: r)).length ≤ _
    have := join_len c (y :: r)
    rw [Str.length_append, Str.length_append]
    have e : (⟨#[c]⟩ : Str).length = 1 := rfl
    simp only [List.map_cons, List.sum_cons, List.length_cons] at this ⊢
    omega
def SnAt (H : Hp) (v : V) (s : Sn) : Prop := ∃ p, v = .ref p ∧ H p = some (.tup [.str s.1, .int s.2])
theorem SnAt.same {H H' : Hp} {v : V} {s : Sn} (e : Same H H') (h : SnAt H v s) : SnAt H' v s := by
  obtain ⟨p, rfl, q⟩ := h
  exact ⟨p, rfl, e _ _ q⟩
abbrev Sns (H : Hp) : List V → List Sn → Prop := Paired (SnAt H)
theorem Sns.same {H H' : Hp} (e : Same H H') : ∀ {xs : List V} {ss : List Sn}, Sns H xs ss → Sns H' xs ss
  | _, _, .nil => .nil
  | _, _, .cons a b => .cons (a.same e) (Sns.same e b)
theorem Sns.updL {H : Hp} {D : Addr} {o : HO} {zs : List V} (hD : H D = some (.lst zs)) : ∀ {xs : List V} {ss : List Sn}, Sns H xs ss → Sns (upd H D o) xs ss
  | _, _, .nil => .nil
  | _, _, .cons ⟨p, e, q⟩ b => .cons ⟨p, e, by rw [upd_ne (ne_of q hD (by intro z; cases z))]; exact q⟩ (Sns.updL hD b)
/-- what a word writes, as it lies in the heap -/
def OpAt (H : Hp) (v : V) (w : Str) : Prop := match signW w with | none => v = .non | some s => SnAt H v s
theorem OpAt.same {H H' : Hp} {v : V} {w : Str} (e : Same H H') (h : OpAt H v w) : OpAt H' v w := by
  unfold OpAt at h ⊢
  cases q : signW w with
  | none => rw [q] at h; exact h
  | some s => rw [q] at h; exact SnAt.same e h
theorem OpAt.upd1 {H : Hp} {D : Addr} {o : HO} {zs : List V} (hD : H D = some (.lst zs)) {v : V} {w : Str} (h : OpAt H v w) : OpAt (upd H D o) v w := by
  unfold OpAt at h ⊢
  cases q : signW w with
  | none => rw [q] at h; exact h
  | some s =>
    rw [q] at h
    obtain ⟨p, e, r⟩ := h
    exact ⟨p, e, by rw [upd_ne (ne_of r hD (by intro z; cases z))]; exact r⟩
abbrev Ops (H : Hp) : List V → List Str → Prop := Paired (OpAt H)
theorem Ops.same {H H' : Hp} (e : Same H H') : ∀ {xs : List V} {ws : List Str}, Ops H xs ws → Ops H' xs ws
  | _, _, .nil => .nil
  | _, _, .cons a b => .cons (a.same e) (Ops.same e b)
theorem Ops.updL {H : Hp} {D : Addr} {o : HO} {zs : List V} (hD : H D = some (.lst zs)) : ∀ {xs : List V} {ws : List Str}, Ops H xs ws → Ops (upd H D o) xs ws
  | _, _, .nil => .nil
  | _, _, .cons a b => .cons (a.upd1 hD) (Ops.updL hD b)
theorem Ops.sns {H : Hp} : ∀ {xs : List V} {ws : List Str} {ss : List Sn}, Ops H xs ws → ws.map signW = ss.map some → Sns H xs ss
  | _, _, [], .nil, _ => .nil
  | _, _, _ :: _, .nil, h => nomatch h
  | _, _, [], .cons _ _, h => nomatch h
  | _, _, s :: ss, .cons a b, h => by
    simp only [List.map_cons, List.cons.injEq] at h
    refine .cons ?_ (Ops.sns b h.2)
    unfold OpAt at a
    rw [h.1] at a
    exact a
/-- words without blanks -/
def Wd (w : Str) : Prop := 32 ∉ w.cps.toList ∧ w.length ≤ 4
def textW (ws : List Str) : Str := Str.join " " ws
def partsW (ws : List Str) : List Str := if textW ws = Str.empty then [] else ws
def BadAt (ps : List Str) (k : Nat) : Prop := (∃ w, ps[k]? = some w ∧ signW w = none) ∧ ∀ j w, j < k → ps[j]? = some w → signW w ≠ none
theorem words_len : ∀ {ws : List Str}, (∀ w ∈ ws, Wd w) → (ws.map (·.length)).sum ≤ 4 * ws.length
  | [], _ => Nat.le_refl _
  | s :: ss, h => by
    have h1 := (h s List.mem_cons_self).2
    have h2 := words_len fun x hx => h x (List.mem_cons_of_mem _ hx)
    simp only [List.map_cons, List.sum_cons, List.length_cons]
    omega
theorem text_len {ws : List Str} (h : ∀ w ∈ ws, Wd w) : (textW ws).length ≤ 5 * ws.length := by
  unfold textW
  rw [blank]
  have := join_len 32 ws
  have := words_len h
  omega
theorem text_split {ws : List Str} (h : ∀ w ∈ ws, Wd w) (hne : textW ws ≠ Str.empty) : Txt.split (textW ws) " " = partsW ws := by
  unfold partsW
  rw [if_neg hne]
  unfold textW at hne ⊢
  have hn : ws ≠ [] := by rintro rfl; exact hne rfl
  rw [blank] at hne ⊢
  exact split_join hn (fun p hp => (h p hp).1) hne
theorem parts_len (ws : List Str) : (partsW ws).length ≤ ws.length := by
  unfold partsW
  split
  · exact Nat.zero_le _
  · exact Nat.le_refl _
theorem parts_wd {ws : List Str} (h : ∀ w ∈ ws, Wd w) : ∀ w ∈ partsW ws, Wd w := by
  unfold partsW
  split
  · intro w hw; cases hw
  · exact h
/-- none is bad, or one is the first bad one -/
theorem good_take {ps : List Str} {i : Nat} {w : Str} {s : Sn} {ss : List Sn} (h : (ps.take i).map signW = ss.map some) (hw : ps[i]? = some w) (hs : signW w = some s) : (ps.take (i + 1)).map signW = (ss ++ [s]).map some := by
  rw [List.take_succ, hw, List.map_append, List.map_append, h]
  simp [hs]
theorem bad_of {ps : List Str} {i : Nat} {w : Str} {ss : List Sn} (h : (ps.take i).map signW = ss.map some) (hw : ps[i]? = some w) (hs : signW w = none) : BadAt ps i := by
  refine ⟨⟨w, hw, hs⟩, fun j x hj hx e => ?_⟩
  have h1 : ((ps.take i).map signW)[j]? = some none := by rw [List.getElem?_map, List.getElem?_take_of_lt hj, hx]; simp [e]
  rw [h, List.getElem?_map] at h1
  cases q : ss[j]? with
  | none => rw [q] at h1; cases h1
  | some s => rw [q] at h1; cases h1
theorem good_not {ps : List Str} {k : Nat} {ss : List Sn} (h : BadAt ps k) (g : ps.map signW = ss.map some) : False := by
  obtain ⟨⟨w, hw, hs⟩, _⟩ := h
  have h1 : (ps.map signW)[k]? = some none := by rw [List.getElem?_map, hw]; simp [hs]
  rw [g, List.getElem?_map] at h1
  cases q : ss[k]? with
  | none => rw [q] at h1; cases h1
  | some s => rw [q] at h1; cases h1
theorem bad_one {ps : List Str} {k m : Nat} (h : BadAt ps k) (g : BadAt ps m) : k = m := by
  obtain ⟨⟨w, hw, hs⟩, hb⟩ := h
  obtain ⟨⟨x, hx, hy⟩, hc⟩ := g
  rcases Nat.lt_trichotomy k m with z | z | z
  · exact absurd hs (hc k w z hw)
  · exact z
  · exact absurd hy (hb m x z hx)
/-! ### signs by numbers, their words -/
def k9 : List Nat := [71, 68, 82, 115, 100, 114, 46, 51, 50]
def l24 : List Nat := [71, 71, 71, 71, 71, 115, 115, 115, 115, 115, 115, 115, 115, 115, 100, 100, 114, 114, 68, 82, 46, 46, 51, 50]
theorem l24_ok : l24.all (fun c => decide (c ∈ k9)) = true := by decide +kernel
theorem cps24 : (Str.ofString "GGGGGsssssssssddrrDR..32").cps.toList = l24 := by decide +kernel
def fig (n : Int) : Str := Str.ofString (toString n)
theorem wd_ok : (k9.all fun c => (List.range 100).all fun n => decide (32 ∉ (chr c ++ fig (n : Int)).cps.toList) && decide ((chr c ++ fig (n : Int)).length ≤ 4)) = true := by decide +kernel
theorem wd_at {c : Nat} {n : Int} (hc : c ∈ k9) (h0 : 0 ≤ n) (h1 : n < 100) : Wd (chr c ++ fig n) := by
  have := List.all_eq_true.mp (List.all_eq_true.mp wd_ok c hc) n.toNat (List.mem_range.mpr (by omega))
  have e : ((n.toNat : Nat) : Int) = n := by omega
  rw [e, Bool.and_eq_true] at this
  exact ⟨of_decide_eq_true this.1, of_decide_eq_true this.2⟩
theorem k9_free : k9.all (fun c => decide (c ≠ 32)) = true := by decide
theorem wd_chr {c : Nat} (hc : c ∈ k9) : Wd (chr c) := by
  have := of_decide_eq_true (List.all_eq_true.mp k9_free c hc)
  refine ⟨?_, by show 1 ≤ 4; decide⟩
  show 32 ∉ [c]
  simpa using Ne.symm this
theorem log100 {n : Int} (h0 : 0 ≤ n) (h1 : n < 100) : n.natAbs.log2 < 1920 := by
  have hb : n.natAbs < 2 ^ 1920 := Nat.lt_of_lt_of_le (show n.natAbs < 2 ^ 7 by omega) (Nat.pow_le_pow_right (by decide) (by decide))
  by_cases z : n.natAbs = 0
  · rw [z]
    decide
  · exact (Nat.log2_lt z).mpr hb
end Mine

set_option maxHeartbeats 1000000
local macro_rules | `(tactic| array_get_dec) => `(tactic| first
  | refine ⟨_, rfl, ?_⟩
  | refine ⟨_, _, rfl, rfl, ⟨by decide, by decide⟩, ?_⟩
  | refine ⟨_, _, rfl, rfl, (by first | decide | (show (0 : Int) < _; decide)), ?_⟩
  | refine .inl ⟨_, _, rfl, rfl, .inr ⟨by decide, by decide⟩, ?_⟩
  | refine ⟨_, _, rfl, rfl, ?_⟩
  | refine .inl ⟨_, _, rfl, rfl, ?_⟩
  | refine .inl ⟨rfl, ?_⟩
  | refine .inr ⟨_, _, rfl, rfl, ?_⟩
  | refine Mine.ix0 (by assumption) ?_
  | refine Mine.ix1 (by assumption) ?_)

namespace Mine
open PySem L2
def top (i : Nat) : Stmt := PySem.Challenge.pw_noteworth_k06_first_bad_word.main.body.getD i (.Pass ⟨0, 0, 0, 0⟩)
abbrev s_l_cell_at : Stmt := top 13
abbrev s_l_mixed : Stmt := top 14
abbrev s_l_numbers : Stmt := top 15
abbrev s_l_many : Stmt := top 16
abbrev s_l_whole : Stmt := top 20
abbrev s_l_signs : Stmt := top 21
abbrev s_number_of : Stmt := top 7
abbrev s_sign_of : Stmt := top 10
abbrev s_BadWord___init__ : Stmt := inClass (top 2) 0
abbrev s_read_line : Stmt := top 11
abbrev s_l_place : Stmt := top 22
abbrev s_l_word : Stmt := top 18
abbrev s_l_sign_of : Stmt := top 19
abbrev s_l_sign_by : Stmt := top 17
abbrev s_law : Stmt := top 23
theorem sc_l_cell_at : FnScope ["_law_script", "_law_k"] ["_law_script", "_law_k"] (defScope s_l_cell_at) := ⟨rfl, rfl, rfl, by decide +kernel, rfl, by decide +kernel, by decide +kernel⟩
theorem sc_l_mixed : FnScope ["_law_seed", "_law_k", "_law_one", "_law_two"] ["_law_seed", "_law_k"] (defScope s_l_mixed) := ⟨rfl, rfl, rfl, by decide +kernel, rfl, by decide +kernel, by decide +kernel⟩
theorem sc_l_numbers : FnScope ["_law_script", "_law_at", "_law_many_here", "_law_seed", "_law_left", "_law_row"] ["_law_script", "_law_at", "_law_many_here"] (defScope s_l_numbers) := ⟨rfl, rfl, rfl, by decide +kernel, rfl, by decide +kernel, by decide +kernel⟩
theorem sc_l_many : FnScope ["_law_cell"] ["_law_cell"] (defScope s_l_many) := ⟨rfl, rfl, rfl, by decide +kernel, rfl, by decide +kernel, by decide +kernel⟩
theorem sc_l_whole : FnScope ["_law_found"] ["_law_found"] (defScope s_l_whole) := ⟨rfl, rfl, rfl, by decide +kernel, rfl, by decide +kernel, by decide +kernel⟩
theorem sc_l_signs : FnScope ["_law_found", "_law_due", "_law_one", "_law_other"] ["_law_found", "_law_due"] (defScope s_l_signs) := ⟨rfl, rfl, rfl, by decide +kernel, rfl, by decide +kernel, by decide +kernel⟩
theorem sc_number_of : FnScope ["word", "most"] ["word", "most"] (defScope s_number_of) := ⟨rfl, rfl, rfl, by decide +kernel, rfl, by decide +kernel, by decide +kernel⟩
theorem sc_sign_of : FnScope ["word", "kind", "tone"] ["word"] (defScope s_sign_of) := ⟨rfl, rfl, rfl, by decide +kernel, rfl, by decide +kernel, by decide +kernel⟩
theorem sc_BadWord___init__ : FnScope ["self", "at"] ["self", "at"] (defScope s_BadWord___init__) := ⟨rfl, rfl, rfl, by decide +kernel, rfl, by decide +kernel, by decide +kernel⟩
theorem sc_read_line : FnScope ["text", "line", "at", "word", "sign"] ["text"] (defScope s_read_line) := ⟨rfl, rfl, rfl, by decide +kernel, rfl, by decide +kernel, by decide +kernel⟩
theorem sc_l_place : FnScope ["_law_text", "e"] ["_law_text"] (defScope s_l_place) := ⟨rfl, rfl, rfl, by decide +kernel, rfl, by decide +kernel, by decide +kernel⟩
theorem sc_l_word : FnScope ["_law_sign"] ["_law_sign"] (defScope s_l_word) := ⟨rfl, rfl, rfl, by decide +kernel, rfl, by decide +kernel, by decide +kernel⟩
theorem sc_l_sign_of : FnScope ["_law_word_here", "_law_figure"] ["_law_word_here"] (defScope s_l_sign_of) := ⟨rfl, rfl, rfl, by decide +kernel, rfl, by decide +kernel, by decide +kernel⟩
theorem sc_l_sign_by : FnScope ["_law_number", "_law_kind"] ["_law_number"] (defScope s_l_sign_by) := ⟨rfl, rfl, rfl, by decide +kernel, rfl, by decide +kernel, by decide +kernel⟩
theorem sc_law : FnScope ["_law_script", "_law_bad", "_law_share", "_law_words", "_law_number", "_law_text", "_law_due", "_law_at", "_law_k", "_law_word_here"] ["_law_script"] (defScope s_law) := ⟨rfl, rfl, rfl, by decide +kernel, rfl, by decide +kernel, by decide +kernel⟩
theorem nd_l_numbers_0 : (["_law_k", "_law_script", "_law_at", "_law_many_here", "_law_seed", "_law_left", "_law_row"] : List Str).Nodup := by decide +kernel
theorem nd_number_of_1 : (["figure", "word", "most"] : List Str).Nodup := by decide +kernel
def cs_l_sign_of_0 : List (Str × Pos) := [("R", ⟨74, 26, 74, 29⟩), ("r", ⟨74, 31, 74, 34⟩), (".", ⟨74, 36, 74, 39⟩), ("3", ⟨74, 41, 74, 44⟩), ("2", ⟨74, 46, 74, 49⟩)]
def cs_law_0 : List (Str × Pos) := [("", ⟨104, 16, 104, 18⟩), ("g", ⟨104, 20, 104, 23⟩), ("G", ⟨104, 25, 104, 28⟩), ("G100", ⟨104, 30, 104, 36⟩), ("G05", ⟨104, 38, 104, 43⟩), ("s-1", ⟨104, 45, 104, 50⟩), ("R0", ⟨104, 52, 104, 56⟩), ("..", ⟨104, 58, 104, 62⟩), ("33", ⟨104, 64, 104, 68⟩), ("x3", ⟨104, 70, 104, 74⟩), ("G5s", ⟨104, 76, 104, 81⟩), ("2.", ⟨104, 83, 104, 87⟩), ("S4", ⟨104, 89, 104, 93⟩), ("Gx", ⟨104, 95, 104, 99⟩), ("rr", ⟨104, 101, 104, 105⟩), ("d1d", ⟨104, 107, 104, 112⟩)]
def cs_law_1 : List (Str × Pos) := [("G+5", ⟨105, 27, 105, 32⟩), ("s-0", ⟨105, 34, 105, 39⟩), ("G1_", ⟨105, 41, 105, 46⟩), ("d1_0", ⟨105, 48, 105, 54⟩)]
set_option genInjectivity false in
set_option genSizeOf false in
structure Adr where
  f_l_cell_at : Addr
  d_l_cell_at : FuncData
  f_l_mixed : Addr
  d_l_mixed : FuncData
  f_l_numbers : Addr
  d_l_numbers : FuncData
  f_l_many : Addr
  d_l_many : FuncData
  f_l_whole : Addr
  d_l_whole : FuncData
  f_l_signs : Addr
  d_l_signs : FuncData
  f_number_of : Addr
  d_number_of : FuncData
  f_sign_of : Addr
  d_sign_of : FuncData
  f_BadWord___init__ : Addr
  d_BadWord___init__ : FuncData
  f_read_line : Addr
  d_read_line : FuncData
  f_l_place : Addr
  d_l_place : FuncData
  f_l_word : Addr
  d_l_word : FuncData
  f_l_sign_of : Addr
  d_l_sign_of : FuncData
  f_l_sign_by : Addr
  d_l_sign_by : FuncData
  f_law : Addr
  d_law : FuncData
  a_SOUNDING_KINDS : Addr
  a_SILENT_KINDS : Addr
  a_FIGURES : Addr
  t_MOST_FIGURES : Tok
  C_NoteError : Addr
  C_BadWord : Addr
structure Txt (K : PySem.W.Frag) (w : World) (mg : Str → Option Value) (t : Adr) : Prop where
  F_l_cell_at : Fun K "_law_cell_at" "_law_cell_at" s_l_cell_at t.f_l_cell_at t.d_l_cell_at
  b_l_cell_at : Binds K t.d_l_cell_at ["_law_script", "_law_k"] []
  mg_l_cell_at : mg "_law_cell_at" = some (.ref t.f_l_cell_at)
  F_l_mixed : Fun K "_law_mixed" "_law_mixed" s_l_mixed t.f_l_mixed t.d_l_mixed
  b_l_mixed : Binds K t.d_l_mixed ["_law_seed", "_law_k"] []
  mg_l_mixed : mg "_law_mixed" = some (.ref t.f_l_mixed)
  F_l_numbers : Fun K "_law_numbers" "_law_numbers" s_l_numbers t.f_l_numbers t.d_l_numbers
  b_l_numbers : Binds K t.d_l_numbers ["_law_script", "_law_at", "_law_many_here"] []
  mg_l_numbers : mg "_law_numbers" = some (.ref t.f_l_numbers)
  F_l_many : Fun K "_law_many" "_law_many" s_l_many t.f_l_many t.d_l_many
  b_l_many : Binds K t.d_l_many ["_law_cell"] []
  mg_l_many : mg "_law_many" = some (.ref t.f_l_many)
  F_l_whole : Fun K "_law_whole" "_law_whole" s_l_whole t.f_l_whole t.d_l_whole
  b_l_whole : Binds K t.d_l_whole ["_law_found"] []
  mg_l_whole : mg "_law_whole" = some (.ref t.f_l_whole)
  F_l_signs : Fun K "_law_signs" "_law_signs" s_l_signs t.f_l_signs t.d_l_signs
  b_l_signs : Binds K t.d_l_signs ["_law_found", "_law_due"] []
  mg_l_signs : mg "_law_signs" = some (.ref t.f_l_signs)
  F_number_of : Fun K "number_of" "number_of" s_number_of t.f_number_of t.d_number_of
  b_number_of : Binds K t.d_number_of ["word", "most"] []
  mg_number_of : mg "number_of" = some (.ref t.f_number_of)
  F_sign_of : Fun K "sign_of" "sign_of" s_sign_of t.f_sign_of t.d_sign_of
  b_sign_of : Binds K t.d_sign_of ["word"] []
  mg_sign_of : mg "sign_of" = some (.ref t.f_sign_of)
  F_BadWord___init__ : Fun K "__init__" "BadWord.__init__" s_BadWord___init__ t.f_BadWord___init__ t.d_BadWord___init__
  b_BadWord___init__ : Binds K t.d_BadWord___init__ ["self", "at"] []
  F_read_line : Fun K "read_line" "read_line" s_read_line t.f_read_line t.d_read_line
  b_read_line : Binds K t.d_read_line ["text"] []
  mg_read_line : mg "read_line" = some (.ref t.f_read_line)
  F_l_place : Fun K "_law_place" "_law_place" s_l_place t.f_l_place t.d_l_place
  b_l_place : Binds K t.d_l_place ["_law_text"] []
  mg_l_place : mg "_law_place" = some (.ref t.f_l_place)
  F_l_word : Fun K "_law_word" "_law_word" s_l_word t.f_l_word t.d_l_word
  b_l_word : Binds K t.d_l_word ["_law_sign"] []
  mg_l_word : mg "_law_word" = some (.ref t.f_l_word)
  F_l_sign_of : Fun K "_law_sign_of" "_law_sign_of" s_l_sign_of t.f_l_sign_of t.d_l_sign_of
  b_l_sign_of : Binds K t.d_l_sign_of ["_law_word_here"] []
  mg_l_sign_of : mg "_law_sign_of" = some (.ref t.f_l_sign_of)
  F_l_sign_by : Fun K "_law_sign_by" "_law_sign_by" s_l_sign_by t.f_l_sign_by t.d_l_sign_by
  b_l_sign_by : Binds K t.d_l_sign_by ["_law_number"] []
  mg_l_sign_by : mg "_law_sign_by" = some (.ref t.f_l_sign_by)
  F_law : Fun K "law" "law" s_law t.f_law t.d_law
  b_law : Binds K t.d_law ["_law_script"] []
  mg_law : mg "law" = some (.ref t.f_law)
  nb_ValueError : mg "ValueError" = none
  nb_any : mg "any" = none
  nb_bool : mg "bool" = none
  nb_enumerate : mg "enumerate" = none
  nb_int : mg "int" = none
  nb_isinstance : mg "isinstance" = none
  nb_len : mg "len" = none
  nb_list : mg "list" = none
  nb_min : mg "min" = none
  nb_range : mg "range" = none
  nb_str : mg "str" = none
  nb_tuple : mg "tuple" = none
  nb_zip : mg "zip" = none
  c_SOUNDING_KINDS : mg "SOUNDING_KINDS" = some (.ref t.a_SOUNDING_KINDS)
  q_SOUNDING_KINDS : ∀ H, SqT K H t.a_SOUNDING_KINDS [.str "G", .str "D", .str "s", .str "d"]
  c_SILENT_KINDS : mg "SILENT_KINDS" = some (.ref t.a_SILENT_KINDS)
  q_SILENT_KINDS : ∀ H, SqT K H t.a_SILENT_KINDS [.str "R", .str "r", .str ".", .str "3", .str "2"]
  c_FIGURES : mg "FIGURES" = some (.ref t.a_FIGURES)
  q_FIGURES : ∀ H, SqT K H t.a_FIGURES [.str "0", .str "1", .str "2", .str "3", .str "4", .str "5", .str "6", .str "7", .str "8", .str "9"]
  c_MOST_FIGURES : mg "MOST_FIGURES" = some (.int 2 t.t_MOST_FIGURES)
  mg_NoteError : mg "NoteError" = some (.ref t.C_NoteError)
  mg_BadWord : mg "BadWord" = some (.ref t.C_BadWord)
  xs_BadWord : ExS K t.C_BadWord t.f_BadWord___init__
  na_BadWord_at : PySem.W.findIn K (.ref t.C_BadWord) "at" = some none
  xb_NoteError : ExB K t.C_NoteError
  xm_BadWord_NoteError : PySem.W.exmOne K (.ref t.C_BadWord) (.ref t.C_NoteError) = some true
  ki_BadWord_BadWord : PySem.W.kitOne K (.ref t.C_BadWord) (.ref t.C_BadWord) = some true
  kb_BadWord_ValueError : PySem.W.kitOne K (.ref t.C_BadWord) (.type "ValueError") = some true
end Mine

namespace Mine
open PySem L2
/-! ### a cell of the script -/
def cellN (ns : List Int) (k : Nat) : Int := ns.getD k 0
def sp_l_cell_at (K : PySem.W.Frag) : Sp := fun vs H Q _ => ∃ (a : Addr) (ns : List Int) (k : Nat), vs = [.ref a, .int (k : Int)] ∧ SqL K H a (ns.map V.int) ∧ ns.length ≤ 63 ∧ Q (.int (cellN ns k)) H
theorem ok_l_cell_at {P : Program} {w : World} {K : PySem.W.Frag} {mg : Str → Option Value} {base : Heap} {t : Adr} (T : Txt K w mg t) : FnOk P w K mg base CX0 (0 + 1) t.f_l_cell_at t.d_l_cell_at ["_law_script", "_law_k"] (sp_l_cell_at K) := by
  refine T.F_l_cell_at.ok sc_l_cell_at (fun vs H Q E h => ?_) (fun cdv A outer s H vs Q E hr h => ?_)
  · obtain ⟨a, ns, k, rfl, _⟩ := h
    rfl
  · obtain ⟨a, ns, k, rfl, hS, hl, q⟩ := h
    refine bodyOk (pss_cons (ps_if (pt_cmpR op_lt (pv 1) (pe_callB (call_min2 rfl) rfl T.nb_min bt_min (pa_cons pe_int (pa_cons (pe_callB (call_len_seq.or call_len_str) rfl T.nb_len bt_len (pa_cons (pv 0) pa_nil)) pa_nil))) (nomark _)) (pss_one (ps_ret (pe_ix ix_seq (pv 0) (pv 1) (fun _ _ => rfl)))) pss_nil) (pss_one (ps_ret pe_int))) ?_
    refine ⟨_, rfl, _, rfl, .inl ⟨_, _, rfl, .inl hS, _, _, rfl, _, _, rfl, rfl, _, rfl, ?_⟩⟩
    rw [List.length_map]
    refine ite2 (fun h => ?_) (fun h => ?_)
    · have hk : k < ns.length := by
        have := of_decide_eq_true h
        split at this <;> omega
      have e : (ns.map V.int)[k]? = some (V.int (cellN ns k)) := by
        rw [List.getElem?_map, List.getElem?_eq_getElem hk]
        unfold cellN
        rw [List.getD_eq_getElem?_getD, List.getElem?_eq_getElem hk]
        rfl
      exact ⟨_, rfl, _, rfl, .inl ⟨_, _, _, _, rfl, rfl, hS, atI_nat e, q⟩⟩
    · have hk : ns.length ≤ k := by
        have h' : ¬ ((k : Int) < if (ns.length : Int) < 63 then (ns.length : Int) else 63) := fun z => h (decide_eq_true z)
        split at h' <;> omega
      have e : cellN ns k = 0 := by
        unfold cellN
        rw [List.getD_eq_getElem?_getD, List.getElem?_eq_none hk]
        rfl
      rw [e] at q
      exact q

end Mine

namespace Mine
open PySem L2
def sp_l_mixed : Sp := fun vs H Q _ => ∃ seed k : Int, vs = [.int seed, .int k] ∧ ∀ r : Int, 0 ≤ r → r < 65521 → Q (.int r) H
theorem ok_l_mixed {P : Program} {w : World} {K : PySem.W.Frag} {mg : Str → Option Value} {base : Heap} {t : Adr} (T : Txt K w mg t) : FnOk P w K mg base CX0 (0 + 1) t.f_l_mixed t.d_l_mixed ["_law_seed", "_law_k"] sp_l_mixed := by
  refine T.F_l_mixed.ok sc_l_mixed (fun vs H Q E h => ?_) (fun cdv A outer s H vs Q E hr h => ?_)
  · obtain ⟨_, _, rfl, _⟩ := h
    rfl
  · obtain ⟨seed, k, rfl, q⟩ := h
    refine bodyOk (pss_cons (ps_set (i := 2) sc_l_mixed.nd rfl (Or.inl rfl) (pe_op op_mod (pe_op (op_add.or (op_add_str.or op_cat)) (pe_op (op_add.or (op_add_str.or op_cat)) (pe_op (op_mul.or op_rep) (pe_op op_mod (pv 0) pe_int) pe_int) (pe_op (op_mul.or op_rep) (pv 1) pe_int)) pe_int) pe_int)) (pss_cons (ps_set (i := 3) sc_l_mixed.nd rfl (Or.inl rfl) (pe_op op_mod (pe_op (op_add.or (op_add_str.or op_cat)) (pe_op (op_add.or (op_add_str.or op_cat)) (pe_op (op_mul.or op_rep) (pv 2) (pv 2)) (pe_op (op_mul.or op_rep) (pv 1) pe_int)) (pe_op op_mod (pe_op op_fdiv (pv 0) pe_int) pe_int)) pe_int)) (pss_one (ps_ret (pe_op op_mod (pe_op (op_add.or (op_add_str.or op_cat)) (pe_op op_fdiv (pe_op (op_mul.or op_rep) (pv 3) (pv 3)) pe_int) (pv 3)) pe_int))))) ?_
    have p2 : (2 : Int) ^ 64 = 18446744073709551616 := by decide
    refine ⟨_, rfl, _, _, rfl, rfl, (by decide : (0 : Int) < 1000003), .inl ⟨_, _, rfl, rfl, .inr ⟨by decide, by decide⟩, _, rfl, .inl ⟨_, _, rfl, rfl, .inr ⟨by decide, by decide⟩, .inl ⟨_, _, rfl, rfl, .inl ⟨_, _, rfl, rfl, _, _, rfl, rfl, (by decide : (0 : Int) < 1000033), ?_⟩⟩⟩⟩⟩
    generalize hone : (seed % 1000003 * 48271 + k * 30011 + 17) % 1000033 = one
    have b1 : 0 ≤ one ∧ one < 1000033 := by omega
    refine ⟨_, rfl, _, rfl, .inl ⟨_, _, rfl, rfl, .inl ⟨by rw [p2]; omega, by rw [p2]; omega⟩, _, rfl, .inl ⟨_, _, rfl, rfl, .inr ⟨by decide, by decide⟩, .inl ⟨_, _, rfl, rfl, _, rfl, _, _, rfl, rfl, ⟨by decide, by decide⟩, _, _, rfl, rfl, (by decide : (0 : Int) < 997), .inl ⟨_, _, rfl, rfl, _, _, rfl, rfl, (by decide : (0 : Int) < 999983), ?_⟩⟩⟩⟩⟩
    generalize htwo : (one * one + k * 613 + seed / 1000003 % 997) % 999983 = two
    have b2 : 0 ≤ two ∧ two < 999983 := by omega
    refine ⟨_, rfl, _, rfl, .inl ⟨_, _, rfl, rfl, .inl ⟨by rw [p2]; omega, by rw [p2]; omega⟩, _, _, rfl, rfl, ⟨by decide, by decide⟩, _, rfl, .inl ⟨_, _, rfl, rfl, _, _, rfl, rfl, (by decide : (0 : Int) < 65521), ?_⟩⟩⟩
    exact q _ (by omega) (by omega)

end Mine

namespace Mine
open PySem L2
/-! ### numbers -/
def sp_l_numbers (K : PySem.W.Frag) : Sp := fun vs H Q _ => ∃ (a : Addr) (ns : List Int) (k m : Nat), vs = [.ref a, .int (k : Int), .int (m : Int)] ∧ SqL K H a (ns.map V.int) ∧ ns.length ≤ 63 ∧ m ≤ 48 ∧
  ∀ (l : Addr) (ms : List Int) (H' : Hp), Same H H' → H' l = some (.lst (ms.map V.int)) → ms.length ≤ 60 → (∀ x ∈ ms, 0 ≤ x) → Q (.ref l) H'
theorem ok_l_numbers {P : Program} {w : World} {K : PySem.W.Frag} {mg : Str → Option Value} {base : Heap} {t : Adr} (T : Txt K w mg t) : FnOk P w K mg base CX0 (0 + 2) t.f_l_numbers t.d_l_numbers ["_law_script", "_law_at", "_law_many_here"] (sp_l_numbers K) := by
  have G_l_cell_at := ok_l_cell_at (P := P) (w := w) (base := base) T
  have G_l_mixed := ok_l_mixed (P := P) (w := w) (base := base) T
  refine T.F_l_numbers.ok sc_l_numbers (fun vs H Q E h => ?_) (fun cdv A outer s H vs Q E hr h => ?_)
  · obtain ⟨_, _, _, _, rfl, _⟩ := h
    rfl
  · obtain ⟨a, ns, k, m, rfl, hS, hl, hm, q⟩ := h
    refine bodyOk (pss_cons (ps_set (i := 3) sc_l_numbers.nd rfl (Or.inr rfl) (pe_call G_l_cell_at (hr.mono (by decide)) rfl T.mg_l_cell_at T.F_l_cell_at.kp T.b_l_cell_at .nil pass0 (pa_cons (pv 0) (pa_cons (pv 1) pa_nil)))) (pss_cons (ps_if (pt_cmpR op_lt (pv 3) (pe_op op_pow pe_int pe_int) (nomark _)) (pss_one (ps_ret (pe_comp (cn := ["_law_k"]) rfl (CompFit.of rfl) (pi_range1 rfl T.nb_range (pa_cons (pv 2) pa_nil)) (fun _ => (pg_name (i := 0) nd_l_numbers_0 rfl (Or.inl rfl))) (fun _ => pf_nil) (fun _ => (pe_call G_l_mixed (hr.mono (by decide)) rfl T.mg_l_mixed T.F_l_mixed.kp T.b_l_mixed .nil pass0 (pa_cons (pe_op (op_add.or (op_add_str.or op_cat)) (pv 4) (pe_op (op_mul.or op_rep) pe_int (pe_call G_l_cell_at (hr.mono (by decide)) rfl T.mg_l_cell_at T.F_l_cell_at.kp T.b_l_cell_at .nil pass0 (pa_cons (pv 1) (pa_cons (pe_op (op_add.or (op_add_str.or op_cat)) (pe_op (op_add.or (op_add_str.or op_cat)) (pv 2) pe_int) (pv 0)) pa_nil))))) (pa_cons (pv 0) pa_nil))))))) pss_nil) (pss_cons (ps_set (i := 4) sc_l_numbers.nd rfl (Or.inl rfl) (pe_op op_sub (pv 3) (pe_op op_pow pe_int pe_int))) (pss_cons (ps_set (i := 5) sc_l_numbers.nd rfl (Or.inl rfl) (pe_lst pa_nil)) (pss_cons (ps_while PassesOwn.never (pt_mid (PW.pt (pw_and (pt_cmpR op_gt (pv 4) pe_int (nomark _)) (pw_and1 (pt_cmpR op_lt (pe_callB (call_len_seq.or call_len_str) rfl T.nb_len bt_len (pa_cons (pv 5) pa_nil)) pe_int (nomark _)))))) (pss_cons (ps_expr (pe_bm PySem.F.plainAttrs_list PySem.F.slot_list_append PySem.F.type_list_append mt_append (pv 5) (pa_cons (pe_op op_mod (pv 4) pe_int) pa_nil))) (pss_one (ps_set (i := 4) sc_l_numbers.nd rfl (Or.inl rfl) (pe_op op_fdiv (pv 4) pe_int))))) (pss_one (ps_ret (pv 5)))))))) ?_
    refine ⟨_, rfl, _, rfl, a, ns, k, rfl, hS, hl, ?_⟩
    refine ⟨_, rfl, _, _, rfl, rfl, ⟨by decide, by decide, by decide⟩, _, _, rfl, rfl, _, rfl, ?_⟩
    refine ite2 (fun _ => ?_) (fun _ => ?_)
    · refine ⟨_, rfl, (m : Int), rfl, (by omega), (by omega), fun D b hD => ?_⟩
      refine comp_range (lo := 0) (n := ((m : Int)).toNat) (fun i ys σ H' => ∃ (v : Option V) (ms : List Int), σ = [v, some (.ref a), some (.int (k : Int)), some (.int (m : Int)), some (.int (cellN ns k)), none, none] ∧ H' = upd H D (.lst ys) ∧ ys = ms.map V.int ∧ ms.length = i ∧ ∀ x ∈ ms, 0 ≤ x) ⟨none, [], rfl, rfl, rfl, rfl, fun _ h => nomatch h⟩ ?_ ?_
      · rintro i ys σ H' hi ⟨v, ms, rfl, rfl, rfl, hlen, hpos⟩ N hN
        refine compT_name ?_
        refine ⟨_, rfl, _, rfl, _, rfl, .inl ⟨_, _, rfl, rfl, _, rfl, .inl ⟨_, _, rfl, rfl, a, ns, k + 1 + i, ?_, seq_upd hS hD, hl, .inl ⟨_, _, rfl, rfl, .inl ⟨by decide, by decide⟩, ?_⟩⟩⟩⟩
        · show [V.ref a, V.int ((k : Int) + 1 + (0 + (i : Int)))] = [V.ref a, V.int ((k + 1 + i : Nat) : Int)]
          have e : (k : Int) + 1 + (0 + (i : Int)) = ((k + 1 + i : Nat) : Int) := by omega
          rw [e]
        · refine .inl ⟨_, _, rfl, rfl, _, rfl, _, _, rfl, fun r h0 h1 => ⟨upd_same, ?_, ?_⟩⟩
          · rw [List.length_map]
            exact small1000 (by omega)
          · refine hN _ _ _ ⟨some _, ms ++ [r], rfl, upd_upd, by simp, by simp [hlen], fun x hx => ?_⟩
            rcases List.mem_append.mp hx with z | z
            · exact hpos x z
            · have : x = r := by simpa using z
              omega
      · rintro ys σ H' ⟨v, ms, rfl, rfl, rfl, hlen, hpos⟩
        exact q D ms _ (Same.upd hD) upd_same (by omega) hpos
    · refine ⟨_, rfl, _, _, rfl, rfl, ⟨by decide, by decide, by decide⟩, _, _, rfl, rfl, (by decide), fun l hl0 => ?_⟩
      refine ⟨fun mm σ H' => ∃ (left : Int) (ms : List Int), σ = [some (.ref a), some (.int (k : Int)), some (.int (m : Int)), some (.int (cellN ns k)), some (.int left), some (.ref l)] ∧ H' = upd H l (.lst (ms.map V.int)) ∧ mm = 60 - ms.length ∧ ms.length ≤ 60 ∧ ∀ x ∈ ms, 0 ≤ x,
        ⟨60, _, [], rfl, rfl, rfl, Nat.zero_le _, fun _ h => nomatch h⟩, ?_⟩
      rintro mm σ H' ⟨left, ms, rfl, rfl, rfl, hlen, hpos⟩
      refine midB (decide (0 < left) && decide ((ms.length : Int) < 60)) ?_ ?_
      · refine ⟨_, rfl, _, _, rfl, rfl, _, rfl, ?_⟩
        refine ite2 (fun h => ?_) (fun h => ?_)
        · refine ⟨_, rfl, .inl ⟨l, _, rfl, .inl (SqL.of upd_same), _, _, rfl, rfl, _, rfl, ?_⟩⟩
          rw [List.length_map]
          exact ⟨by rw [h, Bool.true_and], rfl⟩
        · exact ⟨by rw [Bool.eq_false_iff.mpr h]; rfl, rfl⟩
      refine ite2 (fun h60 => ?_) (fun _ => ?_)
      · have h60' : ms.length < 60 := by
          have := of_decide_eq_true (Bool.and_eq_true_iff.mp h60).2
          omega
        refine ⟨fun σ' H' => ∃ m', m' < 60 - ms.length ∧ ∃ (left : Int) (ms : List Int), σ' = [some (.ref a), some (.int (k : Int)), some (.int (m : Int)), some (.int (cellN ns k)), some (.int left), some (.ref l)] ∧ H' = upd H l (.lst (ms.map V.int)) ∧ m' = 60 - ms.length ∧ ms.length ≤ 60 ∧ ∀ x ∈ ms, 0 ≤ x, fun _ _ h => h, ?_⟩
        refine ⟨_, rfl, .inl ⟨rfl, _, SqL.of upd_same⟩, _, rfl, _, _, rfl, rfl, (by decide : (0 : Int) < 2400), l, _, _, rfl, rfl, upd_same, (by rw [List.length_map]; exact small1000 (by omega)), _, rfl, _, _, rfl, rfl, ⟨by decide, by decide⟩, 60 - (ms.length + 1), by omega, _, ms ++ [left % 2400], rfl, ?_, by simp, by simp; omega, fun x hx => ?_⟩
        · rw [upd_upd, List.map_append]
          rfl
        · rcases List.mem_append.mp hx with z | z
          · exact hpos x z
          · have : x = left % 2400 := by simpa using z
            omega
      · exact ⟨_, rfl, q l ms _ (Same.upd hl0) upd_same (by omega) hpos⟩

end Mine

namespace Mine
open PySem L2
def sp_l_many : Sp := fun vs H Q _ => ∃ c : Int, vs = [.int c] ∧ ∀ r : Nat, r ≤ 48 → Q (.int (r : Int)) H
theorem ok_l_many {P : Program} {w : World} {K : PySem.W.Frag} {mg : Str → Option Value} {base : Heap} {t : Adr} (T : Txt K w mg t) : FnOk P w K mg base CX0 (0 + 1) t.f_l_many t.d_l_many ["_law_cell"] sp_l_many := by
  refine T.F_l_many.ok sc_l_many (fun vs H Q E h => ?_) (fun cdv A outer s H vs Q E hr h => ?_)
  · obtain ⟨_, rfl, _⟩ := h
    rfl
  · obtain ⟨c, rfl, q⟩ := h
    have q' : ∀ r : Int, 0 ≤ r → r ≤ 48 → Q (.int r) H := fun r h0 h1 => by
      have := q r.toNat (by omega)
      rwa [show ((r.toNat : Nat) : Int) = r by omega] at this
    refine bodyOk (pss_cons (ps_if (pt_cmpR (op_eq.or (op_eqD (hu_of64 hr))) (pe_op op_mod (pe_op op_fdiv (pv 0) pe_int) pe_int) pe_int (nomark _)) (pss_one (ps_ret (pe_op op_mod (pe_op op_fdiv (pv 0) pe_int) pe_int))) pss_nil) (pss_one (ps_ret (pe_op op_mod (pv 0) pe_int)))) ?_
    (repeat array_get_dec)
    refine ite2 (fun _ => ?_) (fun _ => ?_)
    · (repeat array_get_dec)
      exact q' _ (by omega) (by omega)
    · (repeat array_get_dec)
      exact q' _ (by omega) (by omega)

end Mine

namespace Mine
open PySem L2
def sp_l_whole : Sp := fun vs H Q _ => ∃ n : Int, vs = [.int n] ∧ Q (.bl true) H
theorem ok_l_whole {P : Program} {w : World} {K : PySem.W.Frag} {mg : Str → Option Value} {base : Heap} {t : Adr} (T : Txt K w mg t) : FnOk P w K mg base CX0 (0 + 1) t.f_l_whole t.d_l_whole ["_law_found"] sp_l_whole := by
  refine T.F_l_whole.ok sc_l_whole (fun vs H Q E h => ?_) (fun cdv A outer s H vs Q E hr h => ?_)
  · obtain ⟨_, rfl, _⟩ := h
    rfl
  · obtain ⟨n, rfl, q⟩ := h
    refine bodyOk (pss_one (ps_ret (pe_mid (pe_and (pe_callB call_isT rfl T.nb_isinstance bt_isinstance (pa_cons (pv 0) (pa_cons (pe_bltn (v := .ty "int") rfl T.nb_int bt_int rfl) pa_nil))) (pe_one (pe_not (pe_callB call_isT rfl T.nb_isinstance bt_isinstance (pa_cons (pv 0) (pa_cons (pe_bltn (v := .ty "bool") rfl T.nb_bool bt_bool rfl) pa_nil))))))))) ?_
    refine midV (.bl true) ?_ q
    exact ⟨_, rfl, _, _, _, _, rfl, TyOf.int _, rfl, _, rfl, iteT ⟨_, rfl, _, _, _, _, rfl, TyOf.int _, rfl, _, rfl, endV rfl⟩⟩
theorem okE_l_whole {P : Program} {w : World} {K : PySem.W.Frag} {mg : Str → Option Value} {base : Heap} {t : Adr} (T : Txt K w mg t) : FnOkH P w K mg base (0 + 1) t.f_l_whole t.d_l_whole ["_law_found"] sp_l_whole := by
  refine T.F_l_whole.okE sc_l_whole (fun vs H Q E h => ?_) (fun cdv A ea outer s H vs Q hr h => ?_)
  · obtain ⟨_, rfl, _⟩ := h
    rfl
  · obtain ⟨n, rfl, q⟩ := h
    refine bodyOk (pss_one (ps_ret (pe_mid (pe_and (pe_callB call_isT rfl T.nb_isinstance bt_isinstance (pa_cons (pv 0) (pa_cons (pe_bltn (v := .ty "int") rfl T.nb_int bt_int rfl) pa_nil))) (pe_one (pe_not (pe_callB call_isT rfl T.nb_isinstance bt_isinstance (pa_cons (pv 0) (pa_cons (pe_bltn (v := .ty "bool") rfl T.nb_bool bt_bool rfl) pa_nil))))))))) ?_
    refine midV (.bl true) ?_ q
    exact ⟨_, rfl, _, _, _, _, rfl, TyOf.int _, rfl, _, rfl, iteT ⟨_, rfl, _, _, _, _, rfl, TyOf.int _, rfl, _, rfl, endV rfl⟩⟩

end Mine

namespace Mine
open PySem L2
def sp_l_signs (K : PySem.W.Frag) : Sp := fun vs H Q _ => ∃ (l1 l2 : Addr) (xs ys : List V) (ss : List Sn), vs = [.ref l1, .ref l2] ∧ H l1 = some (.lst xs) ∧ SqL K H l2 ys ∧ Sns H xs ss ∧ Sns H ys ss ∧ ∀ H', Same H H' → Q (.bl true) H'
theorem sn_deq {K : PySem.W.Frag} {H : Hp} {p p2 : Addr} {s : Sn} (h1 : H p = some (.tup [.str s.1, .int s.2])) (h2 : H p2 = some (.tup [.str s.1, .int s.2])) : Deq K H 60 (.ref p) (.ref p2) := by
  refine .tup (SqT.of h1) (SqT.of h2) rfl fun i x y e1 e2 => ?_
  have e : x = y := Option.some.inj (e1.symm.trans e2)
  subst e
  match i, e1 with
  | 0, e1 => cases e1; exact .flat rfl
  | 1, e1 => cases e1; exact .flat rfl
  | n + 2, e1 => simp at e1
theorem ok_l_signs {P : Program} {w : World} {K : PySem.W.Frag} {mg : Str → Option Value} {base : Heap} {t : Adr} (T : Txt K w mg t) : FnOk P w K mg base CX0 (0 + 2) t.f_l_signs t.d_l_signs ["_law_found", "_law_due"] (sp_l_signs K) := by
  have G_l_whole := ok_l_whole (P := P) (w := w) (base := base) T
  refine T.F_l_signs.ok sc_l_signs (fun vs H Q E h => ?_) (fun cdv A outer s H vs Q E hr h => ?_)
  · obtain ⟨_, _, _, _, _, rfl, _⟩ := h
    rfl
  · obtain ⟨l1, l2, xs, ys, ss, rfl, h1, h2, g1, g2, q⟩ := h
    have el : xs.length = ys.length := (plen g1).trans (plen g2).symm
    refine bodyOk (pss_cons (ps_if (pt_mid (PW.pt (pw_or (pt_not (pt_val (pe_callB call_isT rfl T.nb_isinstance bt_isinstance (pa_cons (pv 0) (pa_cons (pe_bltn (v := .ty "list") rfl T.nb_list bt_list rfl) pa_nil))))) (pw_or1 (pt_cmpR (op_ne.or (op_neD (hu_of64 hr))) (pe_callB (call_len_seq.or call_len_str) rfl T.nb_len bt_len (pa_cons (pv 0) pa_nil)) (pe_callB (call_len_seq.or call_len_str) rfl T.nb_len bt_len (pa_cons (pv 1) pa_nil)) (nomark _)))))) (pss_one (ps_ret pe_bl)) pss_nil) (pss_cons (ps_for PassesOwn.never rfl (pi_zip rfl T.nb_zip (pv 0) (pv 1)) (pg_tup rfl (pgs_cons (pg_name (i := 2) sc_l_signs.nd rfl (Or.inl rfl)) (pgs_cons (pg_name (i := 3) sc_l_signs.nd rfl (Or.inl rfl)) pgs_nil))) (pss_cons (ps_if (pt_mid (PW.pt (pw_or (pt_not (pt_val (pe_callB call_isT rfl T.nb_isinstance bt_isinstance (pa_cons (pv 2) (pa_cons (pe_bltn (v := .ty "tuple") rfl T.nb_tuple bt_tuple rfl) pa_nil))))) (pw_or1 (pt_cmpR (op_ne.or (op_neD (hu_of64 hr))) (pe_callB (call_len_seq.or call_len_str) rfl T.nb_len bt_len (pa_cons (pv 2) pa_nil)) pe_int (nomark _)))))) (pss_one (ps_ret pe_bl)) pss_nil) (pss_one (ps_if (pt_mid (PW.pt (pw_or (pt_not (pt_val (pe_callB call_isT rfl T.nb_isinstance bt_isinstance (pa_cons (pe_ix ix_seq (pv 2) pe_int (fun _ _ => rfl)) (pa_cons (pe_bltn (v := .ty "str") rfl T.nb_str bt_str rfl) pa_nil))))) (pw_or (pt_not (pt_val (pe_call G_l_whole (hr.mono (by decide)) rfl T.mg_l_whole T.F_l_whole.kp T.b_l_whole .nil pass0 (pa_cons (pe_ix ix_seq (pv 2) pe_int (fun _ _ => rfl)) pa_nil)))) (pw_or1 (pt_cmpR (op_ne.or (op_neD (hu_of64 hr))) (pv 2) (pv 3) (nomark _))))))) (pss_one (ps_ret pe_bl)) pss_nil)))) (pss_one (ps_ret pe_bl)))) ?_
    refine midB false ?_ ?_
    · (repeat array_get_dec)
      refine ⟨_, _, _, _, rfl, TyOf.lst h1, rfl, _, rfl, iteF ?_⟩
      (repeat array_get_dec)
      refine .inl ⟨_, _, rfl, .inl (SqL.of h1), ?_⟩
      (repeat array_get_dec)
      refine .inl ⟨_, _, rfl, .inl h2, ?_⟩
      (repeat array_get_dec)
      exact endB (by rw [el]; simp)
    refine iteF ?_
    (repeat array_get_dec)
    refine ⟨⟨_, SqL.of h1⟩, ⟨_, h2⟩, for_zip (K := K) (xs := xs) (ys := ys) (fun i σ H' => ∃ v1 v2, σ = [some (.ref l1), some (.ref l2), v1, v2] ∧ Same H H') el ⟨none, none, rfl, Same.refl _⟩ ?_ ?_ ?_⟩
    · rintro i σ H' ⟨v1, v2, rfl, s2⟩
      exact ⟨s2.seq (SqL.of h1), s2.seq h2⟩
    · rintro i x y tt σ H' hx hy ⟨v1, v2, rfl, s2⟩ hn
      obtain ⟨sg, e1, p, rfl, hp⟩ := pget g1 hx
      obtain ⟨sg', e2, p2, rfl, hp2⟩ := pget g2 hy
      have es : sg' = sg := Option.some.inj (e2.symm.trans e1)
      subst es
      have s3 : Same H (upd H' tt (.tup [.ref p, .ref p2])) := s2.trans (Same.upd hn)
      have hp' := s3 _ _ hp
      have hp2' := s3 _ _ hp2
      refine ⟨tt, _, rfl, SqT.of upd_same, rfl, _, _, rfl, _, _, rfl, rfl, ?_⟩
      generalize upd H' tt (.tup [.ref p, .ref p2]) = H3 at s3 hp' hp2'
      refine midB false ?_ ?_
      · (repeat array_get_dec)
        refine ⟨_, _, _, _, rfl, TyOf.tup hp', rfl, _, rfl, iteF ?_⟩
        (repeat array_get_dec)
        refine .inl ⟨_, _, rfl, .inr (SqT.of hp'), ?_⟩
        (repeat array_get_dec)
        exact endB rfl
      refine iteF ?_
      refine midB false ?_ ?_
      · (repeat array_get_dec)
        refine ⟨_, _, _, _, rfl, TyOf.str _, rfl, _, rfl, iteF ?_⟩
        (repeat array_get_dec)
        refine ⟨sn_deq hp' hp2', ?_⟩
        (repeat array_get_dec)
        exact endB rfl
      refine iteF ?_
      exact ⟨_, _, rfl, s3⟩
    · rintro σ H' ⟨v1, v2, rfl, s2⟩
      exact q _ s2

end Mine

namespace Mine
open PySem L2
def numV (z : Str) : V := match numW z.cps.toList with | none => .non | some n => .int n
theorem numV_no {z : Str} (h : numOk z.cps.toList = false) : numV z = .non := by unfold numV; rw [numW_no h]
def sp_number_of : Sp := fun vs H Q _ => ∃ z : Str, vs = [.str z, .int 2] ∧ z.length ≤ 64 ∧ ∀ H', Same H H' → Q (numV z) H'
theorem ok_number_of {P : Program} {w : World} {K : PySem.W.Frag} {mg : Str → Option Value} {base : Heap} {t : Adr} (T : Txt K w mg t) : FnOk P w K mg base CX0 (0 + 1) t.f_number_of t.d_number_of ["word", "most"] sp_number_of := by
  refine T.F_number_of.ok sc_number_of (fun vs H Q E h => ?_) (fun cdv A outer s H vs Q E hr h => ?_)
  · obtain ⟨_, rfl, _⟩ := h
    rfl
  · obtain ⟨z, rfl, hz, q⟩ := h
    have big : z.length ≤ sizeLine := Nat.le_trans hz (by decide)
    have hlen : z.cps.toList.length = z.length := Array.length_toList
    refine bodyOk (pss_cons (ps_if (pt_not (pt_chain op_le op_le pe_int (pe_callB (call_len_seq.or call_len_str) rfl T.nb_len bt_len (pa_cons (pv 0) pa_nil)) (pv 1))) (pss_one (ps_ret pe_non)) pss_nil) (pss_cons (ps_if (pt_val (pe_callB call_any rfl T.nb_any bt_any (pa_cons (pe_comp (cn := ["figure"]) rfl (CompFit.of rfl) (pi_str (pv 0)) (fun _ => (pg_name (i := 0) nd_number_of_1 rfl (Or.inl rfl))) (fun _ => pf_nil) (fun _ => (pe_cmpR (op_notIn_seq.or op_notIn_str) (pv 0) (pe_glob (v := .ref t.a_FIGURES) rfl T.c_FIGURES rfl) rfl))) pa_nil))) (pss_one (ps_ret pe_non)) pss_nil) (pss_cons (ps_if (pt_mid (PW.pt (pw_and (pt_cmpR op_gt (pe_callB (call_len_seq.or call_len_str) rfl T.nb_len bt_len (pa_cons (pv 0) pa_nil)) pe_int (nomark _)) (pw_and1 (pt_cmpR (op_eq.or (op_eqD (hu_of64 hr))) (pe_ix ix_seq (pv 0) pe_int (fun _ _ => rfl)) pe_str (nomark _)))))) (pss_one (ps_ret pe_non)) pss_nil) (pss_one (ps_ret (pe_callTy (call_int1.or call_int_text) rfl T.nb_int bt_int (pa_cons (pv 0) pa_nil))))))) ?_
    refine ⟨_, rfl, .inr ⟨_, rfl, big, _, _, rfl, rfl, _, rfl, ?_⟩⟩
    refine ite2 (fun h1 => ?_) (fun h1 => ?_)
    case refine_2 =>
      have hno : numOk z.cps.toList = false := by
        unfold numOk
        rw [hlen, decide_eq_false (fun x => h1 (decide_eq_true (by omega)))]
        rfl
      rw [numV_no hno] at q
      first | exact ⟨_, rfl, iteT (q H (Same.refl H))⟩ | exact iteT (q H (Same.refl H)) | exact ⟨_, rfl, q H (Same.refl H)⟩ | exact q H (Same.refl H)
    refine ⟨_, rfl, _, _, rfl, rfl, _, rfl, ?_⟩
    refine ite2 (fun h2 => ?_) (fun h2 => ?_)
    · have h2 : (!decide (((z.length : Nat) : Int) ≤ 2)) = true := h2
      have hno : numOk z.cps.toList = false := by
        unfold numOk
        rw [hlen, decide_eq_false (p := z.length ≤ 2) (fun x => by rw [decide_eq_true (show ((z.length : Nat) : Int) ≤ 2 by omega)] at h2; cases h2)]
        simp
      rw [numV_no hno] at q
      exact q H (Same.refl H)
    · refine ⟨_, rfl, _, rfl, fun D b hD => ?_⟩
      refine comp_str (fun i ys σ H' => ∃ v, σ = [v, some (.str z), some (.int 2)] ∧ H' = upd H D (.lst ys) ∧ ys = ((z.cps.toList.take i).map fun c => !decide (c ∈ figs)).map V.bl ∧ i ≤ z.cps.size) ⟨none, rfl, rfl, rfl, Nat.zero_le _⟩ ?_ ?_
      · rintro i ys c σ H' hc ⟨v, rfl, rfl, rfl, hi⟩ N hN
        have hi2 : i < z.cps.size := (Array.getElem?_eq_some_iff.mp hc).1
        have hcl : z.cps.toList[i]? = some c := by simpa using hc
        refine compT_name ?_
        refine ⟨_, rfl, .inl ⟨_, _, rfl, .inr (T.q_FIGURES _), rfl, rfl, upd_same, ?_, ?_⟩⟩
        · rw [List.length_map, List.length_map, List.length_take]
          have : z.cps.toList.length ≤ 64 := by rw [hlen]; exact hz
          exact small1000 (by omega)
        · refine hN _ _ _ ⟨_, rfl, upd_upd, ?_, hi2⟩
          have : inV (.str ⟨#[c]⟩) figsV = decide (c ∈ figs) := fig_chr c
          show (((z.cps.toList.take i).map fun c => !decide (c ∈ figs)).map V.bl) ++ [V.bl (!inV (.str ⟨#[c]⟩) figsV)] = _
          rw [this, List.take_succ, hcl]
          simp
      · rintro ys σ H' ⟨v, rfl, rfl, rfl, hi⟩
        refine ⟨rfl, D, _, rfl, SqL.of upd_same, _, rfl, ?_⟩
        have et : z.cps.toList.take z.cps.size = z.cps.toList := List.take_of_length_le (by rw [Array.length_toList]; exact Nat.le_refl _)
        rw [et]
        have last : ∀ v, numV z = v → Q v (upd H D (.lst ((z.cps.toList.map fun c => !decide (c ∈ figs)).map V.bl))) := fun v e => e ▸ q _ (Same.upd hD)
        refine ite2 (fun h3 => ?_) (fun h3 => ?_)
        · have hno : numOk z.cps.toList = false := by
            unfold numOk
            have : (z.cps.toList.all fun c => decide (c ∈ figs)) = false := by
              have h3 : ((z.cps.toList.map fun c => !decide (c ∈ figs)).any id) = true := h3
              rw [List.any_map] at h3
              rw [← Bool.not_eq_true, List.all_eq_true]
              intro h
              obtain ⟨c, hc, hh⟩ := List.any_eq_true.mp h3
              have hh : (!decide (c ∈ figs)) = true := hh
              rw [h c hc] at hh
              cases hh
            rw [this]
            simp
          exact last _ (numV_no hno)
        · have hall : (z.cps.toList.all fun c => decide (c ∈ figs)) = true := by
            have h3 : ¬ ((z.cps.toList.map fun c => !decide (c ∈ figs)).any id) = true := h3
            rw [List.any_map] at h3
            rw [List.all_eq_true]
            intro c hc
            cases hcf : decide (c ∈ figs) with
            | true => rfl
            | false => exact absurd (List.any_eq_true.mpr ⟨c, hc, by show (!decide (c ∈ figs)) = true; rw [hcf]; rfl⟩) h3
          have e1 : decide (1 ≤ z.cps.toList.length) = true := decide_eq_true (by rw [hlen]; have := of_decide_eq_true h1; omega)
          have e2 : decide (z.cps.toList.length ≤ 2) = true := by
            rw [hlen]
            have h2 : ¬ (!decide (((z.length : Nat) : Int) ≤ 2)) = true := h2
            refine decide_eq_true ?_
            by_cases hh : ((z.length : Nat) : Int) ≤ 2
            · omega
            · exact absurd (by rw [decide_eq_false hh]; rfl) h2
          have hl2 : z.length ≤ 2 := by have := of_decide_eq_true e2; omega
          have en : numOk z.cps.toList = !(decide (1 < z.cps.toList.length) && decide (z.cps.toList[0]? = some 48)) := by
            unfold numOk
            rw [e1, e2, hall]
            rfl
          have fin : numOk z.cps.toList = true → ∃ n, PySem.intText? z = some n ∧ numV z = .int n := fun hok => by
            obtain ⟨n, hn⟩ := num_some hok
            refine ⟨n, hn, ?_⟩
            unfold numV
            rw [numW_ok hok, hn]
          cases hb : decide (1 < z.length) && decide (z.cps.toList[0]? = some 48) with
          | true =>
            rw [Bool.and_eq_true] at hb
            have hgt := of_decide_eq_true hb.1
            have h48 := of_decide_eq_true hb.2
            have hno : numOk z.cps.toList = false := by rw [en, hlen, hb.1, hb.2]; rfl
            refine midB true ?_ ?_
            · refine ⟨_, rfl, .inr ⟨_, rfl, big, _, _, rfl, rfl, _, rfl, ?_⟩⟩
              refine ite2 (fun _ => ?_) (fun h => absurd (decide_eq_true (by omega)) h)
              refine ⟨_, rfl, .inr (.inr ⟨_, _, 48, rfl, rfl, big, atI_nat (j := 0) h48, .inl ⟨rfl, _, rfl, endB ?_⟩⟩)⟩
              rw [zero_chr]
              exact decide_eq_true rfl
            · exact iteT (last _ (numV_no hno))
          | false =>
            have hok : numOk z.cps.toList = true := by rw [en, hlen, hb]; rfl
            obtain ⟨n, hn, hv⟩ := fin hok
            refine midB false ?_ ?_
            · refine ⟨_, rfl, .inr ⟨_, rfl, big, _, _, rfl, rfl, _, rfl, ?_⟩⟩
              refine ite2 (fun h => ?_) (fun h => ?_)
              · have hgt : 1 < z.length := by have := of_decide_eq_true h; omega
                rw [decide_eq_true hgt, Bool.true_and] at hb
                obtain ⟨c0, hc0⟩ : ∃ c0, z.cps.toList[0]? = some c0 := ⟨_, List.getElem?_eq_getElem (by rw [hlen]; omega)⟩
                refine ⟨_, rfl, .inr (.inr ⟨_, _, c0, rfl, rfl, big, atI_nat (j := 0) hc0, .inl ⟨rfl, _, rfl, endB ?_⟩⟩)⟩
                refine decide_eq_false fun e => ?_
                injection e with e
                rw [zero_chr] at e
                have e := (chr_beq c0 48).symm.trans (beq_iff_eq.mpr e)
                have e := of_decide_eq_true e
                rw [hc0, ← e] at hb
                exact absurd rfl (of_decide_eq_false hb)
              · exact endB rfl
            · exact iteF ⟨_, rfl, .inr ⟨_, _, rfl, hn, by omega, last _ hv⟩⟩

end Mine

namespace Mine
open PySem L2
theorem ok_sign_of {P : Program} {w : World} {K : PySem.W.Frag} {mg : Str → Option Value} {base : Heap} {t : Adr} (T : Txt K w mg t) : FnOk P w K mg base CX0 (0 + 2) t.f_sign_of t.d_sign_of ["word"] sp_sign_of := by
  have G_number_of := ok_number_of (P := P) (w := w) (base := base) T
  refine T.F_sign_of.ok sc_sign_of (fun vs H Q E h => ?_) (fun cdv A outer s H vs Q E hr h => ?_)
  · obtain ⟨_, rfl, _⟩ := h
    rfl
  · obtain ⟨z, rfl, hz, qn, qs⟩ := h
    have big : z.length ≤ sizeLine := Nat.le_trans hz (by decide)
    have hlen : z.cps.toList.length = z.length := Array.length_toList
    refine bodyOk (pss_cons (ps_if (pt_cmpR (op_in_seq.or op_in_str) (pv 0) (pe_glob (v := .ref t.a_SILENT_KINDS) rfl T.c_SILENT_KINDS rfl) rfl) (pss_one (ps_ret (pe_tup (pa_cons (pv 0) (pa_cons pe_int pa_nil))))) pss_nil) (pss_cons (ps_set (i := 1) sc_sign_of.nd rfl (Or.inl rfl) (pe_slice (sl_list.or (sl_tup.or sl_str)) (pv 0) po_none (po_some pe_int))) (pss_cons (ps_set (i := 2) sc_sign_of.nd rfl (Or.inl rfl) (pe_call G_number_of (hr.mono (by decide)) rfl T.mg_number_of T.F_number_of.kp T.b_number_of .nil pass0 (pa_cons (pe_slice (sl_list.or (sl_tup.or sl_str)) (pv 0) (po_some pe_int) po_none) (pa_cons (pe_glob (v := .int 2) rfl T.c_MOST_FIGURES ⟨_, rfl⟩) pa_nil)))) (pss_cons (ps_if (pt_mid (PW.pt (pw_or (pt_cmpR (op_notIn_seq.or op_notIn_str) (pv 1) (pe_glob (v := .ref t.a_SOUNDING_KINDS) rfl T.c_SOUNDING_KINDS rfl) rfl) (pw_or1 (pt_cmpR op_isN (pv 2) pe_non (nomark _)))))) (pss_one (ps_ret pe_non)) pss_nil) (pss_one (ps_ret (pe_tup (pa_cons (pv 1) (pa_cons (pv 2) pa_nil))))))))) ?_
    refine ⟨_, rfl, .inl ⟨_, _, rfl, .inr (T.q_SILENT_KINDS _), rfl, rfl, _, rfl, ?_⟩⟩
    refine ite2 (fun h => ?_) (fun h => ?_)
    · have h : inV (.str z) silentV = true := h
      refine ⟨_, rfl, (by show 2 ≤ sizeLine; decide), fun p hp => ?_⟩
      exact qs (z, 0) (if_pos h) p _ (Same.upd hp) upd_same
    have hs : inV (.str z) silentV = false := Bool.eq_false_iff.mpr h
    refine ⟨_, rfl, _, rfl, .inr (.inr ⟨_, rfl, big, ?_⟩)⟩
    refine ⟨_, rfl, _, rfl, .inr (.inr ⟨_, rfl, big, ?_⟩)⟩
    cases hc : z.cps.toList with
    | nil =>
      have e := str_nil hc
      subst e
      have e1 : Txt.slice ⟨#[]⟩ none (some 1) = (⟨#[]⟩ : Str) := by decide +kernel
      have e2 : Txt.slice ⟨#[]⟩ (some 1) none = (⟨#[]⟩ : Str) := by decide +kernel
      have e3 : signW ⟨#[]⟩ = none := by unfold signW; rw [if_neg (by rw [hs]; decide)]
      rw [e1, e2]
      refine ⟨_, rfl, by decide, fun H1 s1 => ?_⟩
      refine midB true ?_ (iteT (qn e3 H1 s1))
      refine ⟨_, rfl, .inl ⟨_, _, rfl, .inr (T.q_SOUNDING_KINDS _), rfl, rfl, _, rfl, iteT (endB ?_)⟩⟩
      decide +kernel
    | cons c cs =>
      have e3 := signW_cons hs hc
      rw [sl_head hc, sl_tail hc]
      refine ⟨_, rfl, ?_, fun H1 s1 => ?_⟩
      · rw [hc, List.length_cons] at hlen
        show cs.toArray.size ≤ 64
        rw [List.size_toArray]
        omega
      have snd : inV (.str (chr c)) soundV = decide (c ∈ k4) := sound_chr c
      by_cases h4 : c ∈ k4
      · rw [if_pos h4] at e3
        unfold numV
        show _
        cases hn : numW cs with
        | none =>
          rw [hn] at e3
          refine midB true ?_ (iteT (qn e3 H1 s1))
          refine ⟨_, rfl, .inl ⟨_, _, rfl, .inr (T.q_SOUNDING_KINDS _), rfl, rfl, _, rfl, ?_⟩⟩
          refine ite2 (fun _ => endB rfl) (fun _ => ?_)
          exact ⟨_, rfl, rfl, _, rfl, endB rfl⟩
        | some n =>
          rw [hn] at e3
          refine midB false ?_ (iteF ?_)
          · refine ⟨_, rfl, .inl ⟨_, _, rfl, .inr (T.q_SOUNDING_KINDS _), rfl, rfl, _, rfl, ?_⟩⟩
            refine ite2 (fun h' => ?_) (fun _ => ?_)
            · have h' : (!inV (.str (chr c)) soundV) = true := h'
              rw [snd, decide_eq_true h4] at h'
              cases h'
            · exact ⟨_, rfl, rfl, _, rfl, endB rfl⟩
          · refine ⟨_, rfl, _, rfl, (by show 2 ≤ sizeLine; decide), fun p hp => ?_⟩
            exact qs (chr c, n) e3 p _ (s1.trans (Same.upd hp)) upd_same
      · rw [if_neg h4] at e3
        refine midB true ?_ (iteT (qn e3 H1 s1))
        refine ⟨_, rfl, .inl ⟨_, _, rfl, .inr (T.q_SOUNDING_KINDS _), rfl, rfl, _, rfl, ?_⟩⟩
        refine ite2 (fun _ => endB rfl) (fun h' => ?_)
        exact absurd (show (!inV (.str (chr c)) soundV) = true by rw [snd, decide_eq_false h4]; rfl) h'

end Mine

namespace Mine
open PySem L2
def sp_BadWord___init__ (C : Addr) : Sp := fun vs H Q _ => ∃ (a : Addr) (n : Nat), vs = [.ref a, .int (n : Int)] ∧ n ≤ 400 ∧ H a = some (exN a C none) ∧ ∀ D, H D = none → D ≠ a → Q .non (upd (upd H D (.xd [("at", .int (n : Int))])) a (exN a C (some D)))
theorem fig400 : (List.range 401).all (fun n => decide ((Str.ofString (toString (n : Int))).length ≤ 3)) = true := by decide +kernel
theorem fig400_len {n : Nat} (h : n ≤ 400) : (Str.ofString (toString (n : Int))).length ≤ 3 := of_decide_eq_true (List.all_eq_true.mp fig400 n (List.mem_range.mpr (by omega)))
theorem log400 {n : Nat} (h : n ≤ 400) : ((n : Int)).natAbs.log2 < 1920 := by
  have hb : ((n : Int)).natAbs < 2 ^ 1920 := Nat.lt_of_lt_of_le (show ((n : Int)).natAbs < 2 ^ 9 by omega) (Nat.pow_le_pow_right (by decide) (by decide))
  by_cases z : ((n : Int)).natAbs = 0
  · rw [z]
    decide
  · exact (Nat.log2_lt z).mpr hb
theorem ok_BadWord___init__ {P : Program} {w : World} {K : PySem.W.Frag} {mg : Str → Option Value} {base : Heap} {t : Adr} (T : Txt K w mg t) : FnOk P w K mg base CX0 (0 + 1) t.f_BadWord___init__ t.d_BadWord___init__ ["self", "at"] (sp_BadWord___init__ t.C_BadWord) := by
  refine T.F_BadWord___init__.ok sc_BadWord___init__ (fun vs H Q E h => ?_) (fun cdv A outer s H vs Q E hr h => ?_)
  · obtain ⟨_, _, rfl, _⟩ := h
    rfl
  · obtain ⟨a, n, rfl, hn, ha, q⟩ := h
    refine bodyOk (pss_cons (ps_expr (pe_initX (B := t.C_NoteError) rfl T.mg_NoteError T.xb_NoteError T.xs_BadWord.ini (pa_cons (pv 0) (pa_cons (pe_fstr (pps_cons pp_const (pps_cons (pp_val (pv 1)) pps_nil))) pa_nil)))) (pss_one (ps_setX T.xs_BadWord T.na_BadWord_at (pv 0) (pv 1) rfl))) ?_
    have f3 := fig400_len hn
    have big : ∀ {m : Nat}, m ≤ 200 → m ≤ sizeLine := fun h => Nat.le_trans h (by decide)
    have cl : (Str.ofString "no good sign is written by the word at place ").length = 45 := by decide +kernel
    have l2 : (Str.empty ++ Str.ofString "no good sign is written by the word at place " ++ Str.ofString (toString (n : Int))).length ≤ 200 := by
      rw [PySem.Str.empty_append, PySem.Str.length_append]
      omega
    refine ⟨_, rfl, ?_, _, rfl, .inr ⟨_, rfl, log400 hn, ?_, ?_, ?_⟩⟩
    · rw [PySem.Str.empty_append, cl]
      exact big (by decide)
    · exact big l2
    · exact big l2
    refine ⟨a, _, rfl, by show 1 ≤ sizeLine; decide, ha, ?_⟩
    refine ⟨_, rfl, _, rfl, a, rfl, ha, fun D hD hne => q D hD hne⟩

end Mine

namespace Mine
open PySem L2
def sp_read_line (C : Addr) : Sp := fun vs H Q E => ∃ ws : List Str, vs = [.str (textW ws)] ∧ (∀ w ∈ ws, Wd w) ∧ ws.length ≤ 60 ∧
  (∀ ss, (partsW ws).map signW = ss.map some → ∀ (l : Addr) (xs : List V) (H' : Hp), Same H H' → H' l = some (.lst xs) → Sns H' xs ss → Q (.ref l) H') ∧
  (∀ k, BadAt (partsW ws) k → ∀ D H', Same H H' → H' D = some (.xd [("at", .int (k : Int))]) → E (.ref C) (some D) H')
theorem ok_read_line {P : Program} {w : World} {K : PySem.W.Frag} {mg : Str → Option Value} {base : Heap} {t : Adr} (T : Txt K w mg t) : FnOk P w K mg base (CX2 P w) (0 + 3) t.f_read_line t.d_read_line ["text"] (sp_read_line t.C_BadWord) := by
  have G_sign_of := ok_sign_of (P := P) (w := w) (base := base) T
  have G_BadWord___init__ := ok_BadWord___init__ (P := P) (w := w) (base := base) T
  refine T.F_read_line.ok2 sc_read_line (fun vs H Q E h => ?_) (fun cdv A outer s H vs Q E hr h => ?_)
  · obtain ⟨_, rfl, _⟩ := h
    rfl
  · obtain ⟨ws, rfl, hw, hlen, q, qe⟩ := h
    refine bodyOk (pss_cons (ps_set (i := 1) sc_read_line.nd rfl (Or.inl rfl) (pe_lst pa_nil)) (pss_cons (ps_if (pt_cmpR (op_eq.or (op_eqD (hu_of64 hr))) (pv 0) pe_str (nomark _)) (pss_one (ps_ret (pv 1))) pss_nil) (pss_cons (ps_for PassesOwn.leaving rfl (pi_enum rfl T.nb_enumerate (pe_bm PySem.F.plainAttrs_str PySem.F.slot_str_split PySem.F.type_str_split mt_split (pv 0) (pa_cons pe_str pa_nil))) (pg_tup rfl (pgs_cons (pg_name (i := 2) sc_read_line.nd rfl (Or.inl rfl)) (pgs_cons (pg_name (i := 3) sc_read_line.nd rfl (Or.inl rfl)) pgs_nil))) (pss_cons (ps_set (i := 4) sc_read_line.nd rfl (Or.inl rfl) (pe_call G_sign_of (hr.mono (by decide)) rfl T.mg_sign_of T.F_sign_of.kp T.b_sign_of .nil pass0 (pa_cons (pv 3) pa_nil))) (pss_cons (ps_if (pt_cmpR op_isN (pv 4) pe_non (nomark _)) (pss_one (ps_raiseI (fun _ _ z => leave2 z) rfl rfl T.xs_BadWord G_BadWord___init__ (hr.mono (by decide)) T.b_BadWord___init__ rfl T.mg_BadWord (pa_cons (pv 2) pa_nil))) pss_nil) (pss_one (ps_expr (pe_bm PySem.F.plainAttrs_list PySem.F.slot_list_append PySem.F.type_list_append mt_append (pv 1) (pa_cons (pv 4) pa_nil))))))) (pss_one (ps_ret (pv 1)))))) ?_
    refine ⟨(by decide), fun l hl => ?_⟩
    refine ⟨_, rfl, .inl ⟨rfl, _, rfl, ?_⟩⟩
    refine ite2 (fun h => ?_) (fun h => ?_)
    · have h1 := of_decide_eq_true h
      injection h1 with h1
      have e : partsW ws = [] := if_pos h1
      rw [e] at q
      exact ⟨_, rfl, q [] rfl l [] _ (Same.upd hl) upd_same .nil⟩
    · have hne : textW ws ≠ Str.empty := fun e => h (decide_eq_true (by rw [e]; rfl))
      have sp := text_split hw hne
      have tl := text_len hw
      have pl := parts_len ws
      have pw := parts_wd hw
      generalize partsW ws = S at sp pl pw q qe
      refine ⟨_, rfl, rfl, _, _, rfl, rfl, (by decide +kernel), ?_, ?_, fun l2 hl2 => ?_⟩
      · exact Nat.le_trans (show (textW ws).length ≤ 300 by omega) (by decide)
      · rw [sp]
        exact Nat.le_trans (show S.length ≤ 60 by omega) (by decide)
      · rw [sp]
        have n12 : l ≠ l2 := ne_of_none (upd_same (H := H) (o := .lst [])) hl2
        refine ⟨l2, rfl, ⟨_, SqL.of upd_same⟩, for_enum (K := K) (xs := S.map V.str) (fun i σ H' => ∃ (v1 v2 v3 : Option V) (xs : List V) (ss : List Sn), σ = [some (.str (textW ws)), some (.ref l), v1, v2, v3] ∧ Same H H' ∧ H' l = some (.lst xs) ∧ H' l2 = some (.lst (S.map V.str)) ∧ Sns H' xs ss ∧ (S.take i).map signW = ss.map some ∧ i ≤ S.length)
          ⟨none, none, none, [], [], rfl, ?_, ?_, upd_same, .nil, rfl, Nat.zero_le _⟩ ?_ ?_ ?_⟩
        · exact (Same.upd hl).trans (Same.upd hl2)
        · rw [upd_ne n12, upd_same]
        · rintro i σ H' ⟨v1, v2, v3, xs, ss, rfl, s2, h1, h2, g, eg, hi⟩
          exact SqL.of h2
        · rintro i x tt σ H' hx ⟨v1, v2, v3, xs, ss, rfl, s2, h1, h2, g, eg, hi⟩ hn
          rw [List.getElem?_map] at hx
          obtain ⟨w, hwi, rfl⟩ : ∃ w, S[i]? = some w ∧ x = V.str w := by
            cases e : S[i]? with
            | none => rw [e] at hx; cases hx
            | some sg => rw [e] at hx; exact ⟨sg, rfl, (Option.some.inj hx).symm⟩
          have hi : i < S.length := (List.getElem?_eq_some_iff.mp hwi).1
          refine ⟨tt, _, rfl, SqT.of upd_same, rfl, _, _, rfl, _, _, rfl, rfl, ?_⟩
          have wl := (pw w (List.mem_of_getElem? hwi)).2
          refine ⟨_, rfl, w, rfl, by omega, fun e H4 s4 => ?_, fun sg e p H4 s4 hp => ?_⟩
          · have s5 : Same H' H4 := (Same.upd hn).trans s4
            have s6 := s2.trans s5
            refine ⟨_, rfl, rfl, _, rfl, iteT ?_⟩
            refine ⟨_, rfl, by show 1 ≤ sizeLine; decide, fun a ha => ⟨a, i, rfl, by omega, upd_same, fun D hD hne => ⟨rfl, D, upd_same, ?_⟩⟩⟩
            have hD1 : H4 D = none := by rw [upd_ne hne] at hD; exact hD
            refine qe i (bad_of eg hwi e) D _ (s6.trans fun b o hb => ?_) ?_
            · have hba : b ≠ a := fun z => by rw [z, ha] at hb; cases hb
              have hbD : b ≠ D := fun z => by rw [z, hD1] at hb; cases hb
              rw [without_ne hba, upd_ne hba, upd_ne hbD, upd_ne hba]
              exact hb
            · rw [without_ne hne, upd_ne hne, upd_same]
          · have s5 : Same H' H4 := (Same.upd hn).trans s4
            have h14 := s5 _ _ h1
            refine ⟨_, rfl, rfl, _, rfl, ?_⟩
            refine ite2 (fun h => ?_) (fun _ => ?_)
            · have := of_decide_eq_true h
              cases this
            · refine ⟨_, rfl, .inl ⟨rfl, _, SqL.of h14⟩, _, rfl, l, _, _, rfl, rfl, h14, ?_, _, _, _, _, ss ++ [sg], rfl, fun b o e => ?_, upd_same, ?_, ?_, good_take eg hwi e, hi⟩
              · have e1 := plen g
                have e2 := congrArg List.length eg
                rw [List.length_map, List.length_map, List.length_take] at e2
                exact small1000 (by omega)
              · rw [upd_ne (ne_of_none e hl)]
                exact s5 _ _ (s2 _ _ e)
              · rw [upd_ne (Ne.symm n12)]
                exact s5 _ _ h2
              · refine psnoc ((g.same s5).updL h14) ⟨p, rfl, ?_⟩
                rw [upd_ne (ne_of hp h14 (by intro z; cases z))]
                exact hp
        · rintro σ H' ⟨v1, v2, v3, xs, ss, rfl, s2, h1, h2, g, eg, hi⟩
          rw [List.length_map, List.take_length] at eg
          exact ⟨_, rfl, q ss eg l xs H' s2 h1 g⟩

end Mine

namespace Mine
open PySem L2
def sp_l_place : Sp := fun vs H Q _ => ∃ ws : List Str, vs = [.str (textW ws)] ∧ (∀ w ∈ ws, Wd w) ∧ ws.length ≤ 60 ∧
  (∀ ss : List Sn, (partsW ws).map signW = ss.map some → ∀ H', Same H H' → Q (.int (-1)) H') ∧
  (∀ k, BadAt (partsW ws) k → ∀ H', Same H H' → Q (.int (k : Int)) H')
theorem ok_l_place {P : Program} {w : World} {K : PySem.W.Frag} {mg : Str → Option Value} {base : Heap} {t : Adr} (T : Txt K w mg t) : FnOk P w K mg base CX0 (0 + 4) t.f_l_place t.d_l_place ["_law_text"] sp_l_place := by
  have GE_l_whole := okE_l_whole (P := P) (w := w) (base := base) T
  have G_read_line := ok_read_line (P := P) (w := w) (base := base) T
  have G_l_whole := ok_l_whole (P := P) (w := w) (base := base) T
  refine T.F_l_place.ok sc_l_place (fun vs H Q E h => ?_) (fun cdv A outer s H vs Q E hr h => ?_)
  · obtain ⟨_, rfl, _⟩ := h
    rfl
  · obtain ⟨ws, rfl, hw, hlen, q, qe⟩ := h
    refine bodyOk (pss_cons (ps_tryAs2 (CT := t.C_NoteError) (i := 1) (fun pn XS => (pss_one (ps_expr (pe_call2 (X := Cx.pnd (cxOf CX0 P w K mg base ["_law_text", "e"] "_law_place" (defScope s_l_place) t.f_l_place cdv A outer s H E).nox pn) (XS := XS) G_read_line (hr.mono (by decide)) rfl T.mg_read_line T.F_read_line.kp T.b_read_line (fun _ _ z => z) (pa_cons (pv 0) pa_nil))))) (fun pn a => (pss_cons (ps_if (pt_mid (PW.pt (pw_and (pt_val (pe_callB (call_isI (K := K) rfl) rfl T.nb_isinstance bt_isinstance (pa_cons (pv 1) (pa_cons (pe_glob (v := .ref t.C_BadWord) rfl T.mg_BadWord rfl) pa_nil)))) (pw_and (pt_val (pe_callB (call_isI (K := K) rfl) rfl T.nb_isinstance bt_isinstance (pa_cons (pv 1) (pa_cons (pe_bltn (v := .ty "ValueError") rfl T.nb_ValueError bt_ValueError rfl) pa_nil)))) (pw_and1 (pt_val (pe_callE (X := Cx.pnd (cxOf CX0 P w K mg base ["_law_text", "e"] "_law_place" (defScope s_l_place) t.f_l_place cdv A outer s H E).nox pn) GE_l_whole (hr.mono (by decide)) rfl T.mg_l_whole T.F_l_whole.kp T.b_l_whole (pa_cons (pe_fldI (K := K) rfl (pv 1) rfl) pa_nil)))))))) (pss_one (ps_ret (pe_fldI (K := K) rfl (pv 1) rfl))) pss_nil) (pss_one (ps_ret (pe_un un_neg pe_int))))) sc_l_place.nd rfl rfl rfl rfl rfl T.mg_NoteError) (pss_one (ps_ret (pe_un un_neg pe_int)))) ?_
    refine ⟨_, rfl, ws, rfl, hw, hlen, fun ss e l xs H1 s1 h1 g => ?_, fun k e D H1 s1 hD => ?_⟩
    · exact ⟨_, rfl, q ss e _ s1⟩
    · refine ⟨D, rfl, T.xm_BadWord_NoteError, fun a ha => ?_⟩
      have sa := Same.upd (o := excD a (.ref t.C_BadWord) D) ha
      have hea := upd_same (H := H1) (a := a) (o := excD a (.ref t.C_BadWord) D)
      have hD2 := sa _ _ hD
      have s2 := s1.trans sa
      generalize upd H1 a (excD a (.ref t.C_BadWord) D) = H2 at sa hea hD2 s2
      refine midB true ?_ (iteT ?_)
      · refine ⟨_, rfl, .inr (.inr (.inl ⟨a, _, _, _, _, _, rfl, hea, T.xs_BadWord, T.ki_BadWord_BadWord, _, rfl, iteT ?_⟩))⟩
        refine ⟨_, rfl, .inr (.inl ⟨a, _, _, _, _, _, rfl, hea, T.xs_BadWord, T.kb_BadWord_ValueError, _, rfl, iteT ?_⟩)⟩
        refine ⟨_, rfl, a, _, D, _, [("at", .int (k : Int))], k, rfl, hea, T.xs_BadWord, T.na_BadWord_at, hD2, rfl, _, rfl, _, rfl, endB rfl⟩
      · exact ⟨_, rfl, a, _, D, _, [("at", .int (k : Int))], k, rfl, hea, T.xs_BadWord, T.na_BadWord_at, hD2, rfl, qe k e _ s2⟩

end Mine

namespace Mine
open PySem L2
def sp_l_word : Sp := fun vs H Q _ => ∃ (p : Addr) (c : Nat) (n : Int), vs = [.ref p] ∧ H p = some (.tup [.str (chr c), .int n]) ∧ c ∈ k9 ∧ 0 ≤ n ∧ n < 100 ∧ ∀ w, Wd w → Q (.str w) H
theorem ok_l_word {P : Program} {w : World} {K : PySem.W.Frag} {mg : Str → Option Value} {base : Heap} {t : Adr} (T : Txt K w mg t) : FnOk P w K mg base CX0 (0 + 1) t.f_l_word t.d_l_word ["_law_sign"] sp_l_word := by
  refine T.F_l_word.ok sc_l_word (fun vs H Q E h => ?_) (fun cdv A outer s H vs Q E hr h => ?_)
  · obtain ⟨_, _, _, rfl, _⟩ := h
    rfl
  · obtain ⟨p, c, n, rfl, hp, hc, n0, n1, q⟩ := h
    refine bodyOk (pss_cons (ps_if (pt_cmpR (op_in_seq.or op_in_str) (pe_ix ix_seq (pv 0) pe_int (fun _ _ => rfl)) pe_str rfl) (pss_one (ps_ret (pe_op (op_add.or (op_add_str.or op_cat)) (pe_ix ix_seq (pv 0) pe_int (fun _ _ => rfl)) (pe_callTy call_str_int rfl T.nb_str bt_str (pa_cons (pe_ix ix_seq (pv 0) pe_int (fun _ _ => rfl)) pa_nil))))) pss_nil) (pss_one (ps_ret (pe_ix ix_seq (pv 0) pe_int (fun _ _ => rfl))))) ?_
    refine ⟨_, rfl, .inr (.inl ⟨_, _, _, _, rfl, rfl, SqT.of hp, rfl, .inr ⟨_, _, rfl, rfl, _, rfl, ?_⟩⟩)⟩
    refine ite2 (fun h => ?_) (fun h => ?_)
    · have w := wd_at hc n0 n1
      refine ⟨_, rfl, .inr (.inl ⟨_, _, _, _, rfl, rfl, SqT.of hp, rfl, _, rfl, .inr (.inl ⟨_, _, _, _, rfl, rfl, SqT.of hp, rfl, _, rfl, log100 n0 n1, .inr (.inl ⟨_, _, rfl, rfl, ?_, q _ w⟩)⟩)⟩)⟩
      have := w.2
      rw [PySem.Str.length_append] at this
      exact Nat.le_trans this (by decide)
    · exact ⟨_, rfl, .inr (.inl ⟨_, _, _, _, rfl, rfl, SqT.of hp, rfl, q _ (wd_chr hc)⟩)⟩

end Mine

namespace Mine
open PySem L2
theorem ok_l_sign_of {P : Program} {w : World} {K : PySem.W.Frag} {mg : Str → Option Value} {base : Heap} {t : Adr} (T : Txt K w mg t) : FnOk P w K mg base CX0 (0 + 1) t.f_l_sign_of t.d_l_sign_of ["_law_word_here"] sp_sign_of := by
  refine T.F_l_sign_of.ok sc_l_sign_of (fun vs H Q E h => ?_) (fun cdv A outer s H vs Q E hr h => ?_)
  · obtain ⟨_, rfl, _⟩ := h
    rfl
  · obtain ⟨z, rfl, hz, qn, qs⟩ := h
    have big : z.length ≤ sizeLine := Nat.le_trans hz (by decide)
    have hlen : z.cps.toList.length = z.length := Array.length_toList
    refine bodyOk (pss_cons (ps_if (pt_cmpR (op_in_seq.or op_in_str) (pv 0) (pe_lst (pa_cs cs_l_sign_of_0)) rfl) (pss_one (ps_ret (pe_tup (pa_cons (pv 0) (pa_cons pe_int pa_nil))))) pss_nil) (pss_cons (ps_if (pt_mid (PW.pt (pw_or (pt_cmpR op_lt (pe_callB (call_len_seq.or call_len_str) rfl T.nb_len bt_len (pa_cons (pv 0) pa_nil)) pe_int (nomark _)) (pw_or (pt_cmpR op_gt (pe_callB (call_len_seq.or call_len_str) rfl T.nb_len bt_len (pa_cons (pv 0) pa_nil)) pe_int (nomark _)) (pw_or1 (pt_cmpR (op_notIn_seq.or op_notIn_str) (pe_ix ix_seq (pv 0) pe_int (fun _ _ => rfl)) pe_str rfl)))))) (pss_one (ps_ret pe_non)) pss_nil) (pss_cons (ps_for PassesOwn.never rfl (pi_str (pe_slice (sl_list.or (sl_tup.or sl_str)) (pv 0) (po_some pe_int) po_none)) (pg_name (i := 1) sc_l_sign_of.nd rfl (Or.inl rfl)) (pss_one (ps_if (pt_cmpR (op_notIn_seq.or op_notIn_str) (pv 1) pe_str rfl) (pss_one (ps_ret pe_non)) pss_nil))) (pss_cons (ps_if (pt_mid (PW.pt (pw_and (pt_cmpR (op_eq.or (op_eqD (hu_of64 hr))) (pe_callB (call_len_seq.or call_len_str) rfl T.nb_len bt_len (pa_cons (pv 0) pa_nil)) pe_int (nomark _)) (pw_and1 (pt_cmpR (op_eq.or (op_eqD (hu_of64 hr))) (pe_ix ix_seq (pv 0) pe_int (fun _ _ => rfl)) pe_str (nomark _)))))) (pss_one (ps_ret pe_non)) pss_nil) (pss_one (ps_ret (pe_tup (pa_cons (pe_ix ix_seq (pv 0) pe_int (fun _ _ => rfl)) (pa_cons (pe_callTy (call_int1.or call_int_text) rfl T.nb_int bt_int (pa_cons (pe_slice (sl_list.or (sl_tup.or sl_str)) (pv 0) (po_some pe_int) po_none) pa_nil)) pa_nil))))))))) ?_
    refine ⟨_, rfl, by show 5 ≤ sizeLine; decide, fun l hl => ?_⟩
    refine .inl ⟨_, _, rfl, .inl (SqL.of upd_same), rfl, rfl, _, rfl, ?_⟩
    have s0 := Same.upd (o := .lst silentV) hl
    refine ite2 (fun h => ?_) (fun h => ?_)
    · have h : inV (.str z) silentV = true := h
      refine ⟨_, rfl, (by show 2 ≤ sizeLine; decide), fun p hp => ?_⟩
      exact qs (z, 0) (if_pos h) p _ (s0.trans (Same.upd hp)) upd_same
    have hs : inV (.str z) silentV = false := Bool.eq_false_iff.mpr h
    change tSeq _ _ _ _ (upd H l (.lst silentV))
    generalize upd H l (.lst silentV) = H0 at s0
    cases hc : z.cps.toList with
    | nil =>
      have hl : z.length = 0 := by rw [hc] at hlen; exact hlen.symm
      have e3 : signW z = none := by unfold signW; rw [if_neg (by rw [hs]; decide), hc]
      refine midB true ?_ (iteT (qn e3 H0 s0))
      refine ⟨_, rfl, .inr ⟨_, rfl, big, _, _, rfl, rfl, _, rfl, ?_⟩⟩
      exact ite2 (fun _ => endB rfl) (fun h => absurd (decide_eq_true (by omega)) h)
    | cons c cs =>
      have hl : cs.length + 1 = z.length := by rw [hc] at hlen; exact hlen
      have e0 : z.cps.toList[0]? = some c := by rw [hc]; rfl
      have gd : ∀ b : Bool, (decide (c ∈ k4) = !b) → (!inS (chr c) "GDsd") = b := fun b e => by rw [inS_k4, e]; cases b <;> rfl
      by_cases hB : 1 ≤ cs.length ∧ cs.length ≤ 2 ∧ c ∈ k4
      · obtain ⟨b1, b2, b4⟩ := hB
        refine midB false ?_ (iteF ?_)
        · refine ⟨_, rfl, .inr ⟨_, rfl, big, _, _, rfl, rfl, _, rfl, ?_⟩⟩
          refine ite2 (fun h => absurd (of_decide_eq_true h) (by omega)) (fun _ => ?_)
          refine ⟨_, rfl, .inr ⟨_, rfl, big, _, _, rfl, rfl, _, rfl, ?_⟩⟩
          refine ite2 (fun h => absurd (of_decide_eq_true h) (by omega)) (fun _ => ?_)
          refine ⟨_, rfl, .inr (.inr ⟨_, _, c, rfl, rfl, big, atI_nat (j := 0) e0, .inr ⟨_, _, rfl, rfl, _, rfl, endB ?_⟩⟩)⟩
          exact gd false (decide_eq_true b4)
        · refine ⟨_, rfl, _, rfl, .inr (.inr ⟨_, rfl, big, ?_⟩)⟩
          rw [sl_tail hc]
          refine ⟨_, rfl, for_str (z := ⟨cs.toArray⟩) (fun i σ H' => ∃ v, σ = [some (.str z), v] ∧ H' = H0 ∧ ∀ (j : Nat) x, j < i → cs[j]? = some x → x ∈ figs) ⟨none, rfl, rfl, fun j x hj => by omega⟩ ?_ ?_⟩
          · rintro i x σ H1 hx ⟨v, rfl, eH, hin⟩
            have eH := eH.symm
            subst eH
            have hx : cs[i]? = some x := by simpa using hx
            refine ⟨_, rfl, .inr ⟨_, _, rfl, rfl, _, rfl, ?_⟩⟩
            refine ite2 (fun h2 => ?_) (fun h2 => ?_)
            · have h2 : (!inS (chr x) "0123456789") = true := h2
              rw [inS_figs] at h2
              refine qn (signW_none hs hc (.inr fun ok => ?_)) H0 s0
              rw [decide_eq_true ((numOk_of ok).2.2.1 x (List.mem_of_getElem? hx))] at h2
              cases h2
            · have h2 : ¬ (!inS (chr x) "0123456789") = true := h2
              rw [inS_figs] at h2
              refine ⟨_, rfl, rfl, fun j y hj hy => ?_⟩
              rcases Nat.lt_or_ge j i with u | u
              · exact hin j y u hy
              · have e : j = i := by omega
                subst e
                rw [hx] at hy
                cases hy
                by_cases hf : x ∈ figs
                · exact hf
                · rw [decide_eq_false hf] at h2
                  exact absurd rfl h2
          · rintro σ H1 ⟨v, rfl, eH, hin⟩
            have eH := eH.symm
            subst eH
            have hall : ∀ x ∈ cs, x ∈ figs := fun x hx => by
              obtain ⟨j, hj⟩ := List.getElem?_of_mem hx
              have := (List.getElem?_eq_some_iff.mp hj).1
              exact hin j x (by simpa using this) hj
            have e1 : z.cps.toList[1]? = cs[0]? := by rw [hc]; rfl
            obtain ⟨d0, hd0⟩ : ∃ d0, cs[0]? = some d0 := ⟨_, List.getElem?_eq_getElem (by omega)⟩
            rw [hd0] at e1
            by_cases hz0 : 1 < cs.length ∧ cs[0]? = some 48
            · refine midB true ?_ (iteT (qn (signW_none hs hc (.inr fun ok => (numOk_of ok).2.2.2 hz0)) H0 s0))
              have e48 : d0 = 48 := Option.some.inj (hd0.symm.trans hz0.2)
              refine ⟨_, rfl, .inr ⟨_, rfl, big, .inl ⟨rfl, _, rfl, ?_⟩⟩⟩
              refine ite2 (fun _ => ?_) (fun h => absurd (by rw [dec_int']; exact decide_eq_true (by omega)) h)
              refine ⟨_, rfl, .inr (.inr ⟨_, _, d0, rfl, rfl, big, atI_nat (j := 1) e1, .inl ⟨rfl, _, rfl, endB ?_⟩⟩)⟩
              rw [zero_chr, e48]
              exact decide_eq_true rfl
            · refine midB false ?_ (iteF ?_)
              · refine ⟨_, rfl, .inr ⟨_, rfl, big, .inl ⟨rfl, _, rfl, ?_⟩⟩⟩
                refine ite2 (fun h => ?_) (fun _ => endB rfl)
                rw [dec_int'] at h
                have h3 := of_decide_eq_true h
                refine ⟨_, rfl, .inr (.inr ⟨_, _, d0, rfl, rfl, big, atI_nat (j := 1) e1, .inl ⟨rfl, _, rfl, endB ?_⟩⟩)⟩
                refine decide_eq_false fun e => ?_
                injection e with e
                rw [zero_chr] at e
                have e := of_decide_eq_true ((chr_beq d0 48).symm.trans (beq_iff_eq.mpr e))
                exact hz0 ⟨by omega, by rw [hd0, e]⟩
              · have ok := numOk_mk b1 b2 hall hz0
                obtain ⟨n, hn⟩ := num_some ok
                refine ⟨_, rfl, .inr (.inr ⟨_, _, c, rfl, rfl, big, atI_nat (j := 0) e0, _, rfl, _, rfl, .inr (.inr ⟨_, rfl, big, ?_⟩)⟩)⟩
                rw [sl_tail hc]
                refine .inr ⟨_, n, rfl, hn, ?_, by show 2 ≤ sizeLine; decide, fun p hp => ?_⟩
                · show cs.toArray.size ≤ 640
                  rw [List.size_toArray]
                  omega
                · refine qs (chr c, n) ?_ p _ (s0.trans (Same.upd hp)) upd_same
                  rw [signW_cons hs hc, if_pos b4, numW_ok ok, hn]
                  rfl
      · have e3 : signW z = none := signW_none hs hc (by
          by_cases h4 : c ∈ k4
          · exact .inr fun ok => hB ⟨(numOk_of ok).1, (numOk_of ok).2.1, h4⟩
          · exact .inl h4)
        refine midB true ?_ (iteT (qn e3 H0 s0))
        refine ⟨_, rfl, .inr ⟨_, rfl, big, _, _, rfl, rfl, _, rfl, ?_⟩⟩
        refine ite2 (fun _ => endB rfl) (fun h1 => ?_)
        refine ⟨_, rfl, .inr ⟨_, rfl, big, _, _, rfl, rfl, _, rfl, ?_⟩⟩
        refine ite2 (fun _ => endB rfl) (fun h2 => ?_)
        refine ⟨_, rfl, .inr (.inr ⟨_, _, c, rfl, rfl, big, atI_nat (j := 0) e0, .inr ⟨_, _, rfl, rfl, _, rfl, endB ?_⟩⟩)⟩
        have n1 : ¬ ((z.length : Nat) : Int) < 2 := fun h => h1 (decide_eq_true h)
        have n2 : ¬ (3 : Int) < ((z.length : Nat) : Int) := fun h => h2 (decide_eq_true h)
        exact gd true (decide_eq_false fun h4 => hB ⟨by omega, by omega, h4⟩)

end Mine

namespace Mine
open PySem L2
def sp_l_sign_by : Sp := fun vs H Q _ => ∃ m : Int, vs = [.int m] ∧ 0 ≤ m ∧ ∀ (p : Addr) (c : Nat) (n : Int) (H' : Hp), c ∈ k9 → 0 ≤ n → n < 100 → Same H H' → H' p = some (.tup [.str (chr c), .int n]) → Q (.ref p) H'
theorem ok_l_sign_by {P : Program} {w : World} {K : PySem.W.Frag} {mg : Str → Option Value} {base : Heap} {t : Adr} (T : Txt K w mg t) : FnOk P w K mg base CX0 (0 + 1) t.f_l_sign_by t.d_l_sign_by ["_law_number"] sp_l_sign_by := by
  refine T.F_l_sign_by.ok sc_l_sign_by (fun vs H Q E h => ?_) (fun cdv A outer s H vs Q E hr h => ?_)
  · obtain ⟨_, rfl, _⟩ := h
    rfl
  · obtain ⟨m, rfl, hm, q⟩ := h
    refine bodyOk (pss_cons (ps_set (i := 1) sc_l_sign_by.nd rfl (Or.inl rfl) (pe_ix ix_seq pe_str (pe_op op_mod (pv 0) pe_int) (fun _ _ => rfl))) (pss_cons (ps_if (pt_cmpR (op_in_seq.or op_in_str) (pv 1) pe_str rfl) (pss_one (ps_ret (pe_tup (pa_cons (pv 1) (pa_cons (pe_op op_mod (pe_op op_fdiv (pv 0) pe_int) pe_int) pa_nil))))) pss_nil) (pss_one (ps_ret (pe_tup (pa_cons (pv 1) (pa_cons pe_int pa_nil))))))) ?_
    obtain ⟨c, hc, hmem⟩ : ∃ c, l24[(m % 24).toNat]? = some c ∧ c ∈ k9 := by
      have h1 : (m % 24).toNat < l24.length := by
        show _ < 24
        omega
      refine ⟨_, List.getElem?_eq_getElem h1, ?_⟩
      have := List.all_eq_true.mp l24_ok _ (List.getElem_mem h1)
      simpa using this
    have hat : atI (Str.ofString "GGGGGsssssssssddrrDR..32").cps.toList (m % 24) = some c := by
      have e0 : m % 24 = (((m % 24).toNat : Nat) : Int) := by omega
      rw [e0, cps24]
      exact atI_nat hc
    refine ⟨_, rfl, _, _, rfl, rfl, (by decide : (0 : Int) < 24), .inr (.inr ⟨_, _, c, rfl, rfl, (by decide +kernel), hat, ?_⟩)⟩
    refine ⟨_, rfl, .inr ⟨_, _, rfl, rfl, _, rfl, ?_⟩⟩
    refine ite2 (fun h => ?_) (fun h => ?_)
    · refine ⟨_, rfl, _, rfl, _, _, rfl, rfl, ⟨by decide, by decide⟩, _, _, rfl, rfl, (by decide : (0 : Int) < 100), (by show 2 ≤ sizeLine; decide), fun p hp => ?_⟩
      exact q p c (m / 24 % 100) _ hmem (by omega) (by omega) (Same.upd hp) upd_same
    · refine ⟨_, rfl, (by show 2 ≤ sizeLine; decide), fun p hp => ?_⟩
      exact q p c 0 _ hmem (by decide) (by decide) (Same.upd hp) upd_same

end Mine

namespace Mine
open PySem L2
theorem bad_ok : (cs_law_0 ++ cs_law_1).all (fun c => decide (32 ∉ c.1.cps.toList) && decide (c.1.length ≤ 4)) = true := by decide +kernel
theorem bad_at (i : Nat) (h : i < 20) : ∃ k : Str, ((cs_law_0.map fun c => V.str c.1) ++ (cs_law_1.map fun c => V.str c.1))[i]? = some (V.str k) ∧ Wd k := by
  have h1 : i < (cs_law_0 ++ cs_law_1).length := h
  have := List.all_eq_true.mp bad_ok _ (List.getElem_mem h1)
  rw [Bool.and_eq_true] at this
  refine ⟨(cs_law_0 ++ cs_law_1)[i].1, ?_, of_decide_eq_true this.1, of_decide_eq_true this.2⟩
  rw [← List.map_append, List.getElem?_map, List.getElem?_eq_getElem h1]
  rfl
def sp_law (K : PySem.W.Frag) : Sp := fun vs H Q _ => ∃ (a : Addr) (ns : List Int), vs = [.ref a] ∧ SqL K H a (ns.map V.int) ∧ ns.length ≤ 63 ∧ ∀ H', Q (.bl true) H'
theorem law_start {K : PySem.W.Frag} {H : Hp} {a : Addr} {ns : List Int} (hl : ns.length ≤ 63) (_ : Only H) (hS : SqL K H a (ns.map V.int)) : sp_law K [.ref a] H (fun v _ => v = .bl true) fun _ _ _ => False :=
  ⟨a, ns, rfl, hS, hl, fun _ => rfl⟩
theorem ok_law {P : Program} {w : World} {K : PySem.W.Frag} {mg : Str → Option Value} {base : Heap} {t : Adr} (T : Txt K w mg t) : FnOk P w K mg base CX0 (0 + 5) t.f_law t.d_law ["_law_script"] (sp_law K) := by
  have G_l_numbers := ok_l_numbers (P := P) (w := w) (base := base) T
  have G_l_many := ok_l_many (P := P) (w := w) (base := base) T
  have G_l_signs := ok_l_signs (P := P) (w := w) (base := base) T
  have G_l_cell_at := ok_l_cell_at (P := P) (w := w) (base := base) T
  have G_l_place := ok_l_place (P := P) (w := w) (base := base) T
  have G_read_line := ok_read_line (P := P) (w := w) (base := base) T
  have G_l_word := ok_l_word (P := P) (w := w) (base := base) T
  have G_l_sign_of := ok_l_sign_of (P := P) (w := w) (base := base) T
  have G_l_sign_by := ok_l_sign_by (P := P) (w := w) (base := base) T
  refine T.F_law.ok sc_law (fun vs H Q E h => ?_) (fun cdv A outer s H vs Q E hr h => ?_)
  · obtain ⟨a, ns, rfl, _⟩ := h
    rfl
  · obtain ⟨a, ns, rfl, hS, hl, q⟩ := h
    obtain ⟨vcs_law_0, hcs_law_0⟩ : ∃ v : List (Str × Pos), v = cs_law_0 := ⟨_, rfl⟩
    have hbody : defBody s_law = Stmt.Assign [Expr.Name "_law_bad" ⟨104, 4, 104, 12⟩] (Expr.List (vcs_law_0.map fun c => Expr.Constant (.str c.1) 0 c.2) ⟨104, 15, 104, 113⟩) ⟨104, 4, 104, 113⟩ :: (defBody s_law).drop 1 := by subst hcs_law_0; rfl
    rw [hbody]
    refine bodyOk (pss_cons (ps_setcs (i := 1) vcs_law_0 sc_law.nd rfl (Or.inl rfl)) (pss_cons (ps_set (i := 1) sc_law.nd rfl (Or.inl rfl) (pe_op (op_add.or (op_add_str.or op_cat)) (pv 1) (pe_lst (pa_cs cs_law_1)))) (pss_cons (ps_set (i := 2) sc_law.nd rfl (Or.inl rfl) (pe_ix ix_seq (pe_lst (pa_cons pe_int (pa_cons pe_int (pa_cons pe_int (pa_cons pe_int pa_nil))))) (pe_op op_mod (pe_call G_l_cell_at (hr.mono (by decide)) rfl T.mg_l_cell_at T.F_l_cell_at.kp T.b_l_cell_at .nil pass0 (pa_cons (pv 0) (pa_cons pe_int pa_nil))) pe_int) (fun _ _ => rfl))) (pss_cons (ps_set (i := 3) sc_law.nd rfl (Or.inl rfl) (pe_lst pa_nil)) (pss_cons (ps_for PassesOwn.never rfl (pi_list (pe_call G_l_numbers (hr.mono (by decide)) rfl T.mg_l_numbers T.F_l_numbers.kp T.b_l_numbers .nil pass0 (pa_cons (pv 0) (pa_cons pe_int (pa_cons (pe_call G_l_many (hr.mono (by decide)) rfl T.mg_l_many T.F_l_many.kp T.b_l_many .nil pass0 (pa_cons (pe_call G_l_cell_at (hr.mono (by decide)) rfl T.mg_l_cell_at T.F_l_cell_at.kp T.b_l_cell_at .nil pass0 (pa_cons (pv 0) (pa_cons pe_int pa_nil))) pa_nil)) pa_nil))))) (pg_name (i := 4) sc_law.nd rfl (Or.inl rfl)) (pss_one (ps_if (pt_cmpR (op_eq.or (op_eqD (hu_of64 hr))) (pe_op op_mod (pe_op op_fdiv (pv 4) pe_int) (pv 2)) pe_int (nomark _)) (pss_one (ps_expr (pe_bm PySem.F.plainAttrs_list PySem.F.slot_list_append PySem.F.type_list_append mt_append (pv 3) (pa_cons (pe_ix ix_seq (pv 1) (pe_op op_mod (pv 4) pe_int) (fun _ _ => rfl)) pa_nil)))) (pss_one (ps_expr (pe_bm PySem.F.plainAttrs_list PySem.F.slot_list_append PySem.F.type_list_append mt_append (pv 3) (pa_cons (pe_call G_l_word (hr.mono (by decide)) rfl T.mg_l_word T.F_l_word.kp T.b_l_word .nil pass0 (pa_cons (pe_call G_l_sign_by (hr.mono (by decide)) rfl T.mg_l_sign_by T.F_l_sign_by.kp T.b_l_sign_by .nil pass0 (pa_cons (pv 4) pa_nil)) pa_nil)) pa_nil))))))) (pss_cons (ps_set (i := 5) sc_law.nd rfl (Or.inl rfl) (pe_bm PySem.F.plainAttrs_str PySem.F.slot_str_join PySem.F.type_str_join mt_join pe_str (pa_cons (pv 3) pa_nil))) (pss_cons (ps_set (i := 6) sc_law.nd rfl (Or.inl rfl) (pe_lst pa_nil)) (pss_cons (ps_set (i := 7) sc_law.nd rfl (Or.inl rfl) (pe_un un_neg pe_int)) (pss_cons (ps_mid (ps_if (pt_cmpR (op_ne.or (op_neD (hu_of64 hr))) (pv 5) pe_str (nomark _)) (pss_one (ps_for PassesOwn.never rfl (pi_enum rfl T.nb_enumerate (pe_bm PySem.F.plainAttrs_str PySem.F.slot_str_split PySem.F.type_str_split mt_split (pv 5) (pa_cons pe_str pa_nil))) (pg_tup rfl (pgs_cons (pg_name (i := 8) sc_law.nd rfl (Or.inl rfl)) (pgs_cons (pg_name (i := 9) sc_law.nd rfl (Or.inl rfl)) pgs_nil))) (pss_cons (ps_mid (ps_if (pt_mid (PW.pt (pw_and (pt_cmpR op_isN (pe_call G_l_sign_of (hr.mono (by decide)) rfl T.mg_l_sign_of T.F_l_sign_of.kp T.b_l_sign_of .nil pass0 (pa_cons (pv 9) pa_nil)) pe_non (nomark _)) (pw_and1 (pt_cmpR op_lt (pv 7) pe_int (nomark _)))))) (pss_one (ps_set (i := 7) sc_law.nd rfl (Or.inl rfl) (pv 8))) pss_nil)) (pss_one (ps_expr (pe_bm PySem.F.plainAttrs_list PySem.F.slot_list_append PySem.F.type_list_append mt_append (pv 6) (pa_cons (pe_call G_l_sign_of (hr.mono (by decide)) rfl T.mg_l_sign_of T.F_l_sign_of.kp T.b_l_sign_of .nil pass0 (pa_cons (pv 9) pa_nil)) pa_nil))))))) pss_nil)) (pss_cons (ps_if (pt_mid (PW.pt (pw_or (pt_cmpR (op_ne.or (op_neD (hu_of64 hr))) (pe_call G_l_place (hr.mono (by decide)) rfl T.mg_l_place T.F_l_place.kp T.b_l_place .nil pass0 (pa_cons (pv 5) pa_nil)) (pv 7) (nomark _)) (pw_or1 (pt_cmpR (op_ne.or (op_neD (hu_of64 hr))) (pe_call G_l_place (hr.mono (by decide)) rfl T.mg_l_place T.F_l_place.kp T.b_l_place .nil pass0 (pa_cons (pv 5) pa_nil)) (pv 7) (nomark _)))))) (pss_one (ps_ret pe_bl)) pss_nil) (pss_one (ps_ret (pe_mid (pe_or (pe_cmpR op_ge (pv 7) pe_int (nomark _)) (pe_one (pe_call G_l_signs (hr.mono (by decide)) rfl T.mg_l_signs T.F_l_signs.kp T.b_l_signs .nil pass0 (pa_cons (pe_call G_read_line (hr.mono (by decide)) rfl T.mg_read_line T.F_read_line.kp T.b_read_line .nil pass2 (pa_cons (pv 5) pa_nil)) (pa_cons (pv 6) pa_nil)))))))))))))))))) ?_
    subst hcs_law_0
    refine ⟨by show 16 ≤ sizeLine; decide, fun b0 hb0 => ?_⟩
    have s0 := Same.upd (o := .lst (cs_law_0.map fun c => V.str c.1)) hb0
    have h0 := upd_same (H := H) (a := b0) (o := .lst (cs_law_0.map fun c => V.str c.1))
    generalize upd H b0 _ = H0 at s0 h0
    refine ⟨_, rfl, by show 4 ≤ sizeLine; decide, fun b1 hb1 => ?_⟩
    have s1 := Same.upd (o := .lst (cs_law_1.map fun c => V.str c.1)) hb1
    have h1 := upd_same (H := H0) (a := b1) (o := .lst (cs_law_1.map fun c => V.str c.1))
    have h01 := s1 _ _ h0
    have s01 := s0.trans s1
    generalize upd H0 b1 _ = H1 at s1 h1 h01 s01
    refine .inr (.inr ⟨b0, b1, _, _, rfl, rfl, h01, h1, by show 20 ≤ sizeLine; decide, fun bb hbb => ?_⟩)
    have s2 := s01.trans (Same.upd (o := .lst ((cs_law_0.map fun c => V.str c.1) ++ (cs_law_1.map fun c => V.str c.1))) hbb)
    have hB := upd_same (H := H1) (a := bb) (o := .lst ((cs_law_0.map fun c => V.str c.1) ++ (cs_law_1.map fun c => V.str c.1)))
    have hS2 := s2.seq hS
    generalize upd H1 bb _ = H2 at s2 hB hS2
    refine ⟨by show 4 ≤ sizeLine; decide, fun l3 hl3 => ?_⟩
    have s3 := Same.upd (o := .lst [V.int 1000, V.int 9, V.int 3, V.int 40]) hl3
    have h3 := upd_same (H := H2) (a := l3) (o := .lst [V.int 1000, V.int 9, V.int 3, V.int 40])
    have hB3 := s3 _ _ hB
    have hS3 := s3.seq hS2
    generalize upd H2 l3 _ = H3 at s3 h3 hB3 hS3
    (repeat array_get_dec)
    refine ⟨a, ns, 0, rfl, hS3, hl, ?_⟩
    (repeat array_get_dec)
    obtain ⟨sh, hsh, sh0⟩ : ∃ m : Int, [V.int 1000, V.int 9, V.int 3, V.int 40][(cellN ns 0 % 4).toNat]? = some (V.int m) ∧ 0 < m := by
      have : (cellN ns 0 % 4).toNat = 0 ∨ (cellN ns 0 % 4).toNat = 1 ∨ (cellN ns 0 % 4).toNat = 2 ∨ (cellN ns 0 % 4).toNat = 3 := by omega
      rcases this with e | e | e | e <;> rw [e] <;> exact ⟨_, rfl, by decide⟩
    refine ixL (SqL.of h3) (n := (cellN ns 0 % 4).toNat) (by omega) hsh ?_
    refine ⟨by decide, fun wl hwl => ?_⟩
    have s4 := Same.upd (o := .lst []) hwl
    have h4 := upd_same (H := H3) (a := wl) (o := .lst [])
    have hS4 := s4.seq hS3
    have e34 : ∀ b o, H3 b = some o → b ≠ wl := fun b o e => ne_of_none e hwl
    generalize upd H3 wl _ = H4 at s4 h4 hS4
    (repeat array_get_dec)
    refine ⟨a, ns, 1, rfl, hS4, hl, ?_⟩
    (repeat array_get_dec)
    intro r hr48
    (repeat array_get_dec)
    refine ⟨a, ns, 2, r, rfl, hS4, hl, hr48, fun l ms H5 s5 hl5 hlen hpos => ?_⟩
    (repeat array_get_dec)
    have h45 := s5 _ _ h4
    refine ⟨⟨_, SqL.of hl5⟩, for_list (K := K) (xs := ms.map V.int) (fun i σ H' => ∃ (v : Option V) (ws : List Str), σ = [some (.ref a), some (.ref bb), some (.int sh), some (.ref wl), v, none, none, none, none, none] ∧ Same H3 H' ∧ H' l = some (.lst (ms.map V.int)) ∧ H' wl = some (.lst (ws.map V.str)) ∧ (∀ w ∈ ws, Wd w) ∧ ws.length = i ∧ i ≤ ms.length)
      ⟨none, [], rfl, s4.trans s5, hl5, h45, (fun _ z => nomatch z), rfl, Nat.zero_le _⟩ ?_ ?_ ?_⟩
    · rintro i σ H' _ ⟨v, ws, rfl, s6, h6, hw6, wd, wlen, hi⟩
      exact SqL.of h6
    · rintro i x σ H' hx ⟨v, ws, rfl, s6, h6, hw6, wd, wlen, hi⟩
      have hil : i < ms.length := by
        have := (List.getElem?_eq_some_iff.mp hx).1
        rw [List.length_map] at this
        exact this
      obtain ⟨z, hz, rfl⟩ : ∃ z, ms[i]? = some z ∧ x = V.int z := by
        rw [List.getElem?_map] at hx
        cases e : ms[i]? with
        | none => rw [e] at hx; cases hx
        | some z => rw [e] at hx; exact ⟨z, rfl, (Option.some.inj hx).symm⟩
      have nlw : l ≠ wl := fun e => by
        subst e
        rw [hl5] at h45
        have := Option.some.inj h45
        injection this with this
        have e2 := congrArg List.length this
        rw [List.length_map] at e2
        have e3 : ms.length = 0 := e2
        omega
      have wsm : (ws.map V.str).length < 1000 := by rw [List.length_map]; omega
      have next : ∀ (w : Str) (H7 : Hp), Wd w → Same H' H7 → ∃ (v : Option V) (ws' : List Str), [some (.ref a), some (.ref bb), some (.int sh), some (.ref wl), some (V.int z), none, none, none, none, none] = [some (.ref a), some (.ref bb), some (.int sh), some (.ref wl), v, none, none, none, none, none] ∧ Same H3 (upd H7 wl (.lst (ws.map V.str ++ [V.str w]))) ∧ upd H7 wl (.lst (ws.map V.str ++ [V.str w])) l = some (.lst (ms.map V.int)) ∧ upd H7 wl (.lst (ws.map V.str ++ [V.str w])) wl = some (.lst (ws'.map V.str)) ∧ (∀ w ∈ ws', Wd w) ∧ ws'.length = i + 1 ∧ i + 1 ≤ ms.length := fun w H7 hw s7 => by
        refine ⟨_, ws ++ [w], rfl, fun b o e => ?_, ?_, ?_, fun y hy => ?_, by simp [wlen], hil⟩
        · rw [upd_ne (e34 b o e)]
          exact s7 _ _ (s6 _ _ e)
        · rw [upd_ne nlw]
          exact s7 _ _ h6
        · rw [upd_same, List.map_append]
          rfl
        · rcases List.mem_append.mp hy with u | u
          · exact wd y u
          · have : y = w := by simpa using u
            rw [this]
            exact hw
      refine ⟨_, rfl, ?_⟩
      (repeat array_get_dec)
      refine ⟨sh0, ?_⟩
      (repeat array_get_dec)
      refine ite2 (fun _ => ?_) (fun _ => ?_)
      · refine ⟨_, rfl, .inl ⟨rfl, _, SqL.of hw6⟩, ?_⟩
        (repeat array_get_dec)
        obtain ⟨k, hk, wk⟩ := bad_at (z % 20).toNat (by omega)
        refine ixL (SqL.of (s6 _ _ hB3)) (n := (z % 20).toNat) (by omega) hk ?_
        refine ⟨wl, _, _, rfl, rfl, hw6, ?_, next k H' wk (Same.refl _)⟩
        rw [List.length_map]
        exact small1000 (by omega)
      · refine ⟨_, rfl, .inl ⟨rfl, _, SqL.of hw6⟩, ?_⟩
        (repeat array_get_dec)
        refine ⟨hpos z (List.mem_of_getElem? hz), fun p c n H7 hc n0 n1 s7 hp => ?_⟩
        refine ⟨p, c, n, rfl, hp, hc, n0, n1, fun w hw => ?_⟩
        refine ⟨wl, _, _, rfl, rfl, s7 _ _ hw6, ?_, next w H7 hw s7⟩
        rw [List.length_map]
        exact small1000 (by omega)
    · rintro σ H' ⟨v, ws, rfl, s6, h6, hw6, wd, wlen, hi⟩
      rw [List.length_map] at wlen
      have w60 : ws.length ≤ 60 := by omega
      refine ⟨rfl, _, rfl, _, wl, ws, rfl, rfl, SqL.of hw6, ?_, ?_⟩
      · have e1 := words_len wd
        have e2 : (Str.ofString " ").length = 1 := by decide +kernel
        rw [e2]
        omega
      show _
      refine ⟨by decide, fun dl hdl => ?_⟩
      have s7 := Same.upd (o := .lst []) hdl
      have h7 := upd_same (H := H') (a := dl) (o := .lst [])
      have n7 : ∀ b o, H' b = some o → b ≠ dl := fun b o e => ne_of_none e hdl
      generalize upd H' dl _ = H7 at s7 h7
      (repeat array_get_dec)
      have tl := text_len wd
      have pl := parts_len ws
      have pw := parts_wd wd
      have wl4 : ∀ w ∈ partsW ws, w.length ≤ 64 := fun w hw => Nat.le_trans (pw w hw).2 (by decide)
      have hsp := fun h => text_split wd h
      have hnil : textW ws = Str.empty → partsW ws = [] := fun h => if_pos h
      obtain ⟨S, eS⟩ : ∃ S, S = partsW ws := ⟨_, rfl⟩
      rw [← eS] at pl wl4 hsp hnil
      clear pw
      refine ⟨fun σ H8 => ∃ (v8 v9 : Option V) (av : Int) (ys : List V), σ = [some (.ref a), some (.ref bb), some (.int sh), some (.ref wl), v, some (.str (textW ws)), some (.ref dl), some (.int av), v8, v9] ∧ Same H' H8 ∧ H8 dl = some (.lst ys) ∧ Ops H8 ys S ∧ ((av = -1 ∧ ∃ ss : List Sn, S.map signW = ss.map some) ∨ ∃ k : Nat, av = k ∧ BadAt S k), ?_, ?_⟩
      · refine ⟨_, rfl, .inl ⟨rfl, _, rfl, ?_⟩⟩
        refine ite2 (fun h => ?_) (fun h => ?_)
        · have h : (!decide (V.str (textW ws) = V.str "")) = true := h
          have hne : textW ws ≠ Str.empty := fun e => by
            have e2 : decide (V.str (textW ws) = V.str "") = true := decide_eq_true (by rw [e]; rfl)
            rw [e2] at h
            cases h
          have sp := hsp hne
          refine ⟨_, rfl, rfl, _, _, rfl, rfl, (by decide +kernel), ?_, ?_, fun l2 hl2 => ?_⟩
          · exact Nat.le_trans (show (textW ws).length ≤ 300 by omega) (by decide)
          · show (Txt.split (textW ws) " ").length ≤ _
            rw [sp]
            exact Nat.le_trans (show S.length ≤ 60 by omega) (by decide)
          · have e0 : (Txt.split (Str.join " " ws) " ").map V.str = S.map V.str := congrArg (List.map V.str) sp
            rw [e0]
            have n12 : dl ≠ l2 := ne_of_none h7 hl2
            refine ⟨l2, rfl, ⟨_, SqL.of upd_same⟩, for_enum (K := K) (xs := S.map V.str) (fun i σ H8 => ∃ (v8 v9 : Option V) (av : Int) (ys : List V), σ = [some (.ref a), some (.ref bb), some (.int sh), some (.ref wl), v, some (.str (textW ws)), some (.ref dl), some (.int av), v8, v9] ∧ Same H' H8 ∧ H8 dl = some (.lst ys) ∧ H8 l2 = some (.lst (S.map V.str)) ∧ Ops H8 ys (S.take i) ∧ ((av = -1 ∧ ∃ ss : List Sn, (S.take i).map signW = ss.map some) ∨ ∃ k : Nat, av = k ∧ BadAt S k) ∧ i ≤ S.length)
              ⟨none, none, -1, [], rfl, s7.trans (Same.upd hl2), ?_, upd_same, .nil, .inl ⟨rfl, [], rfl⟩, Nat.zero_le _⟩ ?_ ?_ ?_⟩
            · rw [upd_ne n12]
              exact h7
            · rintro i σ H8 ⟨v8, v9, av, ys, rfl, s8, h8, hl8, g, d, hi⟩
              exact SqL.of hl8
            · rintro i x tt σ H8 hx ⟨v8, v9, av, ys, rfl, s8, h8, hl8, g, d, hi⟩ hn
              rw [List.getElem?_map] at hx
              obtain ⟨w, hwi, rfl⟩ : ∃ w, S[i]? = some w ∧ x = V.str w := by
                cases e : S[i]? with
                | none => rw [e] at hx; cases hx
                | some sg => rw [e] at hx; exact ⟨sg, rfl, (Option.some.inj hx).symm⟩
              have hi : i < S.length := (List.getElem?_eq_some_iff.mp hwi).1
              have w4 := wl4 w (List.mem_of_getElem? hwi)
              have st := Same.upd (o := .tup [V.int (i : Int), V.str w]) hn
              refine ⟨tt, _, rfl, SqT.of upd_same, rfl, _, _, rfl, _, _, rfl, rfl, ?_⟩
              generalize upd H8 tt _ = H8' at st
              refine ⟨fun σ H9 => ∃ av' : Int, σ = [some (.ref a), some (.ref bb), some (.int sh), some (.ref wl), v, some (.str (textW ws)), some (.ref dl), some (.int av'), some (.int (i : Int)), some (.str w)] ∧ Same H8 H9 ∧ av' = (if signW w = none ∧ av < 0 then (i : Int) else av), ?_, ?_⟩
              · refine ⟨fun b H9 => Same H8 H9 ∧ b = decide (signW w = none ∧ av < 0), ?_, ?_⟩
                · refine ⟨_, rfl, w, rfl, w4, fun e H9 s9 => ?_, fun sg e p H9 s9 hp => ?_⟩
                  · refine ⟨rfl, _, rfl, iteT ?_⟩
                    refine ⟨_, rfl, _, _, rfl, rfl, _, rfl, st.trans s9, ?_⟩
                    simp [e]
                  · refine ⟨rfl, _, rfl, iteF ?_⟩
                    exact ⟨st.trans s9, by simp [e]⟩
                · rintro b H9 ⟨s9, rfl⟩
                  refine ite2 (fun h => ?_) (fun h => ?_)
                  · exact ⟨_, rfl, _, rfl, s9, (if_pos (of_decide_eq_true h)).symm⟩
                  · exact ⟨_, rfl, s9, (if_neg fun z => h (decide_eq_true z)).symm⟩
              · rintro _ H9 ⟨av', rfl, s9, eav⟩
                have h9 := s9 _ _ h8
                have d' : (av' = -1 ∧ ∃ ss : List Sn, (S.take (i + 1)).map signW = ss.map some) ∨ ∃ k : Nat, av' = k ∧ BadAt S k := by
                  cases e : signW w with
                  | none =>
                    rcases d with ⟨ea, ss, es⟩ | ⟨k, ek, bk⟩
                    · rw [if_pos ⟨e, by omega⟩] at eav
                      exact .inr ⟨i, eav, bad_of es hwi e⟩
                    · rw [if_neg (by rintro ⟨_, z⟩; omega)] at eav
                      exact .inr ⟨k, by omega, bk⟩
                  | some sg =>
                    rw [if_neg (by rintro ⟨z, _⟩; rw [e] at z; cases z)] at eav
                    rcases d with ⟨ea, ss, es⟩ | ⟨k, ek, bk⟩
                    · exact .inl ⟨by omega, ss ++ [sg], good_take es hwi e⟩
                    · exact .inr ⟨k, by omega, bk⟩
                have fin : ∀ (y : V) (H10 : Hp), Same H9 H10 → OpAt H10 y w → ∃ (v8 v9 : Option V) (av2 : Int) (ys' : List V), [some (.ref a), some (.ref bb), some (.int sh), some (.ref wl), v, some (.str (textW ws)), some (.ref dl), some (.int av'), some (V.int (i : Int)), some (V.str w)] = [some (.ref a), some (.ref bb), some (.int sh), some (.ref wl), v, some (.str (textW ws)), some (.ref dl), some (.int av2), v8, v9] ∧ Same H' (upd H10 dl (.lst (ys ++ [y]))) ∧ upd H10 dl (.lst (ys ++ [y])) dl = some (.lst ys') ∧ upd H10 dl (.lst (ys ++ [y])) l2 = some (.lst (S.map V.str)) ∧ Ops (upd H10 dl (.lst (ys ++ [y]))) ys' (S.take (i + 1)) ∧ ((av2 = -1 ∧ ∃ ss : List Sn, (S.take (i + 1)).map signW = ss.map some) ∨ ∃ k : Nat, av2 = k ∧ BadAt S k) ∧ i + 1 ≤ S.length := fun y H10 s10 oy => by
                  have s11 := s9.trans s10
                  have hd10 := s11 _ _ h8
                  refine ⟨_, _, av', ys ++ [y], rfl, fun b o e => ?_, upd_same, ?_, ?_, d', hi⟩
                  · rw [upd_ne (n7 b o e)]
                    exact s11 _ _ (s8 _ _ e)
                  · rw [upd_ne (Ne.symm n12)]
                    exact s11 _ _ hl8
                  · rw [List.take_succ, hwi]
                    exact psnoc ((g.same s11).updL hd10) (oy.upd1 hd10)
                have hsz : ys.length ≤ 60 := by
                  have := plen g
                  rw [List.length_take] at this
                  omega
                refine ⟨_, rfl, .inl ⟨rfl, _, SqL.of h9⟩, ?_⟩
                refine ⟨_, rfl, w, rfl, w4, fun e H10 s10 => ?_, fun sg e p H10 s10 hp => ?_⟩
                · refine ⟨dl, _, _, rfl, rfl, s10 _ _ h9, small1000 (by omega), fin .non H10 s10 ?_⟩
                  unfold OpAt
                  rw [e]
                · refine ⟨dl, _, _, rfl, rfl, s10 _ _ h9, small1000 (by omega), fin (.ref p) H10 s10 ?_⟩
                  unfold OpAt
                  rw [e]
                  exact ⟨p, rfl, hp⟩
            · rintro σ H8 ⟨v8, v9, av, ys, rfl, s8, h8, hl8, g, d, hi⟩
              rw [List.length_map, List.take_length] at g d
              exact ⟨v8, v9, av, ys, rfl, s8, h8, g, d⟩
        · have h : ¬ (!decide (V.str (textW ws) = V.str "")) = true := h
          have he : textW ws = Str.empty := by
            by_cases e : V.str (textW ws) = V.str ""
            · injection e
            · rw [decide_eq_false e] at h
              exact absurd rfl h
          have hS0 := hnil he
          subst hS0
          exact ⟨none, none, -1, [], rfl, s7, h7, .nil, .inl ⟨rfl, [], rfl⟩⟩
      rintro _ H8 ⟨v8, v9, av, ys, rfl, s8, h8, g, d⟩
      have ne0 : ∀ x : Int, x = av → ¬ (!decide (V.int x = V.int av)) = true := fun x e => by rw [e, decide_eq_true rfl]; decide
      refine ⟨fun b H9 => b = false ∧ Same H8 H9, ?_, ?_⟩
      · have e1 : ∀ ss : List Sn, (partsW ws).map signW = ss.map some → (-1 : Int) = av := fun ss e => by
          rw [← eS] at e
          rcases d with ⟨ea, _⟩ | ⟨k, _, bk⟩
          · exact ea.symm
          · exact (good_not bk e).elim
        have e2 : ∀ k : Nat, BadAt (partsW ws) k → (k : Int) = av := fun k e => by
          rw [← eS] at e
          rcases d with ⟨_, ss, es⟩ | ⟨k', ek, bk⟩
          · exact (good_not e es).elim
          · rw [ek, bad_one e bk]
        refine ⟨_, rfl, ws, rfl, wd, w60, fun ss e H9 s9 => ?_, fun k e H9 s9 => ?_⟩
        · refine ⟨_, rfl, .inl ⟨rfl, _, rfl, ?_⟩⟩
          refine ite2 (fun h => absurd h (ne0 _ (e1 ss e))) (fun _ => ?_)
          refine ⟨_, rfl, ws, rfl, wd, w60, fun ss e H10 s10 => ?_, fun k e H10 s10 => ?_⟩
          · exact ⟨_, rfl, .inl ⟨rfl, _, rfl, Bool.eq_false_iff.mpr (ne0 _ (e1 ss e)), s9.trans s10⟩⟩
          · exact ⟨_, rfl, .inl ⟨rfl, _, rfl, Bool.eq_false_iff.mpr (ne0 _ (e2 k e)), s9.trans s10⟩⟩
        · refine ⟨_, rfl, .inl ⟨rfl, _, rfl, ?_⟩⟩
          refine ite2 (fun h => absurd h (ne0 _ (e2 k e))) (fun _ => ?_)
          refine ⟨_, rfl, ws, rfl, wd, w60, fun ss e H10 s10 => ?_, fun k e H10 s10 => ?_⟩
          · exact ⟨_, rfl, .inl ⟨rfl, _, rfl, Bool.eq_false_iff.mpr (ne0 _ (e1 ss e)), s9.trans s10⟩⟩
          · exact ⟨_, rfl, .inl ⟨rfl, _, rfl, Bool.eq_false_iff.mpr (ne0 _ (e2 k e)), s9.trans s10⟩⟩
      rintro _ H9 ⟨rfl, s9⟩
      refine iteF ?_
      refine ⟨fun v _ => v = .bl true, ?_, fun _ H'' e => by rw [e]; exact q H''⟩
      refine ⟨_, rfl, _, _, rfl, rfl, _, rfl, ?_⟩
      rcases d with ⟨ea, ss, es⟩ | ⟨k, ek, bk⟩
      · refine ite2 (fun h => absurd (of_decide_eq_true h) (by omega)) (fun _ => ?_)
        refine ⟨_, rfl, ws, rfl, wd, w60, fun ss' e l' xs H10 s10 h10 g10 => ?_, fun k e => (good_not (by rw [eS]; exact e) es).elim⟩
        rw [← eS] at e
        exact ⟨_, rfl, l', dl, xs, ys, ss', rfl, h10, SqL.of (s10 _ _ (s9 _ _ h8)), g10, Ops.sns (g.same (s9.trans s10)) e, fun H'' s'' => rfl⟩
      · refine ite2 (fun h => ?_) (fun h => absurd (decide_eq_true (by omega)) h)
        rfl

end Mine

namespace Mine
open PySem L2
theorem lenU1 {us : List Value} (h : us.length = 1) : ∃ a0, us = [a0] := match us, h with | [a0], _ => ⟨a0, rfl⟩
theorem lenB1 {p : List Value → Prop} (h : ∀ a0, p [a0]) (us : List Value) (e : us.length = 1) : p us := by obtain ⟨_, rfl⟩ := lenU1 e; exact h _
theorem lenU2 {us : List Value} (h : us.length = 2) : ∃ a0 a1, us = [a0, a1] := match us, h with | [a0, a1], _ => ⟨a0, a1, rfl⟩
theorem lenB2 {p : List Value → Prop} (h : ∀ a0 a1, p [a0, a1]) (us : List Value) (e : us.length = 2) : p us := by obtain ⟨_, _, rfl⟩ := lenU2 e; exact h _ _
theorem lenU3 {us : List Value} (h : us.length = 3) : ∃ a0 a1 a2, us = [a0, a1, a2] := match us, h with | [a0, a1, a2], _ => ⟨a0, a1, a2, rfl⟩
theorem lenB3 {p : List Value → Prop} (h : ∀ a0 a1 a2, p [a0, a1, a2]) (us : List Value) (e : us.length = 3) : p us := by obtain ⟨_, _, _, rfl⟩ := lenU3 e; exact h _ _ _
set_option maxHeartbeats 0 in
theorem all_mk {l : PySem.W.OpenLaw} {w : World} {K : PySem.W.Frag} {h : Heap} {mg : Str → Option Value} {fa C_NoteError C_BadWord f_l_cell_at f_l_mixed f_l_numbers f_l_many f_l_whole f_l_signs f_number_of f_sign_of f_BadWord___init__ f_read_line f_l_place f_l_word f_l_sign_of f_l_sign_by f_law a_SOUNDING_KINDS a_SILENT_KINDS a_FIGURES xN_BadWord : Addr} (X : K.In h) (G : h.Ns mainGlobals mg) (hfa : mg "law" = some (.ref fa))
    {od_l_cell_at an_l_cell_at od_l_mixed an_l_mixed od_l_numbers an_l_numbers od_l_many an_l_many od_l_whole an_l_whole od_l_signs an_l_signs od_number_of an_number_of od_sign_of an_sign_of od_BadWord___init__ an_BadWord___init__ od_read_line an_read_line od_l_place an_l_place od_l_word an_l_word od_l_sign_of an_l_sign_of od_l_sign_by an_l_sign_by od_law an_law od_SOUNDING_KINDS od_SILENT_KINDS od_FIGURES : Option Addr} {sl_l_cell_at sl_l_mixed sl_l_numbers sl_l_many sl_l_whole sl_l_signs sl_number_of sl_sign_of sl_BadWord___init__ sl_read_line sl_l_place sl_l_word sl_l_sign_of sl_l_sign_by sl_law sl_SOUNDING_KINDS sl_SILENT_KINDS sl_FIGURES : Array (Option Value)} {oc_l_cell_at kV_l_cell_at dc_l_cell_at pm_l_cell_at cd_l_cell_at ct_l_cell_at oc_l_mixed kV_l_mixed dc_l_mixed pm_l_mixed cd_l_mixed ct_l_mixed oc_l_numbers kV_l_numbers dc_l_numbers pm_l_numbers cd_l_numbers ct_l_numbers oc_l_many kV_l_many dc_l_many pm_l_many cd_l_many ct_l_many oc_l_whole kV_l_whole dc_l_whole pm_l_whole cd_l_whole ct_l_whole oc_l_signs kV_l_signs dc_l_signs pm_l_signs cd_l_signs ct_l_signs oc_number_of kV_number_of dc_number_of pm_number_of cd_number_of ct_number_of oc_sign_of kV_sign_of dc_sign_of pm_sign_of cd_sign_of ct_sign_of oc_BadWord___init__ kV_BadWord___init__ dc_BadWord___init__ pm_BadWord___init__ cd_BadWord___init__ ct_BadWord___init__ oc_read_line kV_read_line dc_read_line pm_read_line cd_read_line ct_read_line oc_l_place kV_l_place dc_l_place pm_l_place cd_l_place ct_l_place oc_l_word kV_l_word dc_l_word pm_l_word cd_l_word ct_l_word oc_l_sign_of kV_l_sign_of dc_l_sign_of pm_l_sign_of cd_l_sign_of ct_l_sign_of oc_l_sign_by kV_l_sign_by dc_l_sign_by pm_l_sign_by cd_l_sign_by ct_l_sign_by oc_law kV_law dc_law pm_law cd_law ct_law : Value}
    {t0_SOUNDING_KINDS t1_SOUNDING_KINDS t2_SOUNDING_KINDS t3_SOUNDING_KINDS t0_SILENT_KINDS t1_SILENT_KINDS t2_SILENT_KINDS t3_SILENT_KINDS t4_SILENT_KINDS t0_FIGURES t1_FIGURES t2_FIGURES t3_FIGURES t4_FIGURES t5_FIGURES t6_FIGURES t7_FIGURES t8_FIGURES t9_FIGURES t_MOST_FIGURES : Tok}
    {n_SOUNDING_KINDS n_SILENT_KINDS n_FIGURES : Nat}
    {xnm_BadWord xqn_BadWord : Str} {xbs_BadWord xbm_BadWord xsub_BadWord : List Value} {xsn_BadWord : List Str} {xab_BadWord : Bool} {xcol_BadWord : Option Bool} {xdd_BadWord : Option Addr} {xk0_BadWord xk1_BadWord xk2_BadWord xk3_BadWord xk5_BadWord : Option Value} {xcd_BadWord : ClassData}
    (aX_NoteError : PySem.W.nsIn K mainGlobals "NoteError" = some (some (.ref C_NoteError)))
    (aX_BadWord : PySem.W.nsIn K mainGlobals "BadWord" = some (some (.ref C_BadWord)))
    (a_l_cell_at : PySem.W.nsIn K mainGlobals "_law_cell_at" = some (some (.ref f_l_cell_at)))
    (l_l_cell_at : K.lookup f_l_cell_at = some ⟨oc_l_cell_at, od_l_cell_at, .func (PySem.W.fnOf "_law_cell_at" "_law_cell_at" (defArgs s_l_cell_at) (defBody s_l_cell_at) (defScope s_l_cell_at) .none kV_l_cell_at dc_l_cell_at pm_l_cell_at an_l_cell_at cd_l_cell_at ct_l_cell_at), sl_l_cell_at⟩)
    (c_l_cell_at : PySem.W.codeIn K cd_l_cell_at "_law_cell_at" = true)
    (k_l_cell_at : PySem.W.keepIn K (.ref f_l_cell_at) = true)
    (a_l_mixed : PySem.W.nsIn K mainGlobals "_law_mixed" = some (some (.ref f_l_mixed)))
    (l_l_mixed : K.lookup f_l_mixed = some ⟨oc_l_mixed, od_l_mixed, .func (PySem.W.fnOf "_law_mixed" "_law_mixed" (defArgs s_l_mixed) (defBody s_l_mixed) (defScope s_l_mixed) .none kV_l_mixed dc_l_mixed pm_l_mixed an_l_mixed cd_l_mixed ct_l_mixed), sl_l_mixed⟩)
    (c_l_mixed : PySem.W.codeIn K cd_l_mixed "_law_mixed" = true)
    (k_l_mixed : PySem.W.keepIn K (.ref f_l_mixed) = true)
    (a_l_numbers : PySem.W.nsIn K mainGlobals "_law_numbers" = some (some (.ref f_l_numbers)))
    (l_l_numbers : K.lookup f_l_numbers = some ⟨oc_l_numbers, od_l_numbers, .func (PySem.W.fnOf "_law_numbers" "_law_numbers" (defArgs s_l_numbers) (defBody s_l_numbers) (defScope s_l_numbers) .none kV_l_numbers dc_l_numbers pm_l_numbers an_l_numbers cd_l_numbers ct_l_numbers), sl_l_numbers⟩)
    (c_l_numbers : PySem.W.codeIn K cd_l_numbers "_law_numbers" = true)
    (k_l_numbers : PySem.W.keepIn K (.ref f_l_numbers) = true)
    (a_l_many : PySem.W.nsIn K mainGlobals "_law_many" = some (some (.ref f_l_many)))
    (l_l_many : K.lookup f_l_many = some ⟨oc_l_many, od_l_many, .func (PySem.W.fnOf "_law_many" "_law_many" (defArgs s_l_many) (defBody s_l_many) (defScope s_l_many) .none kV_l_many dc_l_many pm_l_many an_l_many cd_l_many ct_l_many), sl_l_many⟩)
    (c_l_many : PySem.W.codeIn K cd_l_many "_law_many" = true)
    (k_l_many : PySem.W.keepIn K (.ref f_l_many) = true)
    (a_l_whole : PySem.W.nsIn K mainGlobals "_law_whole" = some (some (.ref f_l_whole)))
    (l_l_whole : K.lookup f_l_whole = some ⟨oc_l_whole, od_l_whole, .func (PySem.W.fnOf "_law_whole" "_law_whole" (defArgs s_l_whole) (defBody s_l_whole) (defScope s_l_whole) .none kV_l_whole dc_l_whole pm_l_whole an_l_whole cd_l_whole ct_l_whole), sl_l_whole⟩)
    (c_l_whole : PySem.W.codeIn K cd_l_whole "_law_whole" = true)
    (k_l_whole : PySem.W.keepIn K (.ref f_l_whole) = true)
    (a_l_signs : PySem.W.nsIn K mainGlobals "_law_signs" = some (some (.ref f_l_signs)))
    (l_l_signs : K.lookup f_l_signs = some ⟨oc_l_signs, od_l_signs, .func (PySem.W.fnOf "_law_signs" "_law_signs" (defArgs s_l_signs) (defBody s_l_signs) (defScope s_l_signs) .none kV_l_signs dc_l_signs pm_l_signs an_l_signs cd_l_signs ct_l_signs), sl_l_signs⟩)
    (c_l_signs : PySem.W.codeIn K cd_l_signs "_law_signs" = true)
    (k_l_signs : PySem.W.keepIn K (.ref f_l_signs) = true)
    (a_number_of : PySem.W.nsIn K mainGlobals "number_of" = some (some (.ref f_number_of)))
    (l_number_of : K.lookup f_number_of = some ⟨oc_number_of, od_number_of, .func (PySem.W.fnOf "number_of" "number_of" (defArgs s_number_of) (defBody s_number_of) (defScope s_number_of) .none kV_number_of dc_number_of pm_number_of an_number_of cd_number_of ct_number_of), sl_number_of⟩)
    (c_number_of : PySem.W.codeIn K cd_number_of "number_of" = true)
    (k_number_of : PySem.W.keepIn K (.ref f_number_of) = true)
    (a_sign_of : PySem.W.nsIn K mainGlobals "sign_of" = some (some (.ref f_sign_of)))
    (l_sign_of : K.lookup f_sign_of = some ⟨oc_sign_of, od_sign_of, .func (PySem.W.fnOf "sign_of" "sign_of" (defArgs s_sign_of) (defBody s_sign_of) (defScope s_sign_of) .none kV_sign_of dc_sign_of pm_sign_of an_sign_of cd_sign_of ct_sign_of), sl_sign_of⟩)
    (c_sign_of : PySem.W.codeIn K cd_sign_of "sign_of" = true)
    (k_sign_of : PySem.W.keepIn K (.ref f_sign_of) = true)
    (a_BadWord___init__ : PySem.W.findIn K (.ref C_BadWord) "__init__" = some (some (.ref f_BadWord___init__)))
    (l_BadWord___init__ : K.lookup f_BadWord___init__ = some ⟨oc_BadWord___init__, od_BadWord___init__, .func (PySem.W.fnOf "__init__" "BadWord.__init__" (defArgs s_BadWord___init__) (defBody s_BadWord___init__) (defScope s_BadWord___init__) .none kV_BadWord___init__ dc_BadWord___init__ pm_BadWord___init__ an_BadWord___init__ cd_BadWord___init__ ct_BadWord___init__), sl_BadWord___init__⟩)
    (c_BadWord___init__ : PySem.W.codeIn K cd_BadWord___init__ "BadWord.__init__" = true)
    (k_BadWord___init__ : PySem.W.keepIn K (.ref f_BadWord___init__) = true)
    (fn_BadWord___init__ : PySem.W.isFn K (.ref f_BadWord___init__) = true)
    (a_read_line : PySem.W.nsIn K mainGlobals "read_line" = some (some (.ref f_read_line)))
    (l_read_line : K.lookup f_read_line = some ⟨oc_read_line, od_read_line, .func (PySem.W.fnOf "read_line" "read_line" (defArgs s_read_line) (defBody s_read_line) (defScope s_read_line) .none kV_read_line dc_read_line pm_read_line an_read_line cd_read_line ct_read_line), sl_read_line⟩)
    (c_read_line : PySem.W.codeIn K cd_read_line "read_line" = true)
    (k_read_line : PySem.W.keepIn K (.ref f_read_line) = true)
    (a_l_place : PySem.W.nsIn K mainGlobals "_law_place" = some (some (.ref f_l_place)))
    (l_l_place : K.lookup f_l_place = some ⟨oc_l_place, od_l_place, .func (PySem.W.fnOf "_law_place" "_law_place" (defArgs s_l_place) (defBody s_l_place) (defScope s_l_place) .none kV_l_place dc_l_place pm_l_place an_l_place cd_l_place ct_l_place), sl_l_place⟩)
    (c_l_place : PySem.W.codeIn K cd_l_place "_law_place" = true)
    (k_l_place : PySem.W.keepIn K (.ref f_l_place) = true)
    (a_l_word : PySem.W.nsIn K mainGlobals "_law_word" = some (some (.ref f_l_word)))
    (l_l_word : K.lookup f_l_word = some ⟨oc_l_word, od_l_word, .func (PySem.W.fnOf "_law_word" "_law_word" (defArgs s_l_word) (defBody s_l_word) (defScope s_l_word) .none kV_l_word dc_l_word pm_l_word an_l_word cd_l_word ct_l_word), sl_l_word⟩)
    (c_l_word : PySem.W.codeIn K cd_l_word "_law_word" = true)
    (k_l_word : PySem.W.keepIn K (.ref f_l_word) = true)
    (a_l_sign_of : PySem.W.nsIn K mainGlobals "_law_sign_of" = some (some (.ref f_l_sign_of)))
    (l_l_sign_of : K.lookup f_l_sign_of = some ⟨oc_l_sign_of, od_l_sign_of, .func (PySem.W.fnOf "_law_sign_of" "_law_sign_of" (defArgs s_l_sign_of) (defBody s_l_sign_of) (defScope s_l_sign_of) .none kV_l_sign_of dc_l_sign_of pm_l_sign_of an_l_sign_of cd_l_sign_of ct_l_sign_of), sl_l_sign_of⟩)
    (c_l_sign_of : PySem.W.codeIn K cd_l_sign_of "_law_sign_of" = true)
    (k_l_sign_of : PySem.W.keepIn K (.ref f_l_sign_of) = true)
    (a_l_sign_by : PySem.W.nsIn K mainGlobals "_law_sign_by" = some (some (.ref f_l_sign_by)))
    (l_l_sign_by : K.lookup f_l_sign_by = some ⟨oc_l_sign_by, od_l_sign_by, .func (PySem.W.fnOf "_law_sign_by" "_law_sign_by" (defArgs s_l_sign_by) (defBody s_l_sign_by) (defScope s_l_sign_by) .none kV_l_sign_by dc_l_sign_by pm_l_sign_by an_l_sign_by cd_l_sign_by ct_l_sign_by), sl_l_sign_by⟩)
    (c_l_sign_by : PySem.W.codeIn K cd_l_sign_by "_law_sign_by" = true)
    (k_l_sign_by : PySem.W.keepIn K (.ref f_l_sign_by) = true)
    (a_law : PySem.W.nsIn K mainGlobals "law" = some (some (.ref f_law)))
    (l_law : K.lookup f_law = some ⟨oc_law, od_law, .func (PySem.W.fnOf "law" "law" (defArgs s_law) (defBody s_law) (defScope s_law) .none kV_law dc_law pm_law an_law cd_law ct_law), sl_law⟩)
    (c_law : PySem.W.codeIn K cd_law "law" = true)
    (k_law : PySem.W.keepIn K (.ref f_law) = true)
    (z_ValueError : PySem.W.nsIn K mainGlobals "ValueError" = some none)
    (z_any : PySem.W.nsIn K mainGlobals "any" = some none)
    (z_bool : PySem.W.nsIn K mainGlobals "bool" = some none)
    (z_enumerate : PySem.W.nsIn K mainGlobals "enumerate" = some none)
    (z_int : PySem.W.nsIn K mainGlobals "int" = some none)
    (z_isinstance : PySem.W.nsIn K mainGlobals "isinstance" = some none)
    (z_len : PySem.W.nsIn K mainGlobals "len" = some none)
    (z_list : PySem.W.nsIn K mainGlobals "list" = some none)
    (z_min : PySem.W.nsIn K mainGlobals "min" = some none)
    (z_range : PySem.W.nsIn K mainGlobals "range" = some none)
    (z_str : PySem.W.nsIn K mainGlobals "str" = some none)
    (z_tuple : PySem.W.nsIn K mainGlobals "tuple" = some none)
    (z_zip : PySem.W.nsIn K mainGlobals "zip" = some none)
    (a_SOUNDING_KINDS_ : PySem.W.nsIn K mainGlobals "SOUNDING_KINDS" = some (some (.ref a_SOUNDING_KINDS)))
    (l_SOUNDING_KINDS_ : K.lookup a_SOUNDING_KINDS = some ⟨.type "tuple", od_SOUNDING_KINDS, .seq #[.str (Str.ofString "G") t0_SOUNDING_KINDS, .str (Str.ofString "D") t1_SOUNDING_KINDS, .str (Str.ofString "s") t2_SOUNDING_KINDS, .str (Str.ofString "d") t3_SOUNDING_KINDS] n_SOUNDING_KINDS, sl_SOUNDING_KINDS⟩)
    (a_SILENT_KINDS_ : PySem.W.nsIn K mainGlobals "SILENT_KINDS" = some (some (.ref a_SILENT_KINDS)))
    (l_SILENT_KINDS_ : K.lookup a_SILENT_KINDS = some ⟨.type "tuple", od_SILENT_KINDS, .seq #[.str (Str.ofString "R") t0_SILENT_KINDS, .str (Str.ofString "r") t1_SILENT_KINDS, .str (Str.ofString ".") t2_SILENT_KINDS, .str (Str.ofString "3") t3_SILENT_KINDS, .str (Str.ofString "2") t4_SILENT_KINDS] n_SILENT_KINDS, sl_SILENT_KINDS⟩)
    (a_FIGURES_ : PySem.W.nsIn K mainGlobals "FIGURES" = some (some (.ref a_FIGURES)))
    (l_FIGURES_ : K.lookup a_FIGURES = some ⟨.type "tuple", od_FIGURES, .seq #[.str (Str.ofString "0") t0_FIGURES, .str (Str.ofString "1") t1_FIGURES, .str (Str.ofString "2") t2_FIGURES, .str (Str.ofString "3") t3_FIGURES, .str (Str.ofString "4") t4_FIGURES, .str (Str.ofString "5") t5_FIGURES, .str (Str.ofString "6") t6_FIGURES, .str (Str.ofString "7") t7_FIGURES, .str (Str.ofString "8") t8_FIGURES, .str (Str.ofString "9") t9_FIGURES] n_FIGURES, sl_FIGURES⟩)
    (a_MOST_FIGURES_ : PySem.W.nsIn K mainGlobals "MOST_FIGURES" = some (some (.int 2 t_MOST_FIGURES)))
    (xo_BadWord : K.lookup C_BadWord = some (excClassObj xnm_BadWord xqn_BadWord C_BadWord xN_BadWord xbs_BadWord xbm_BadWord true xsn_BadWord xsub_BadWord xab_BadWord xcol_BadWord xdd_BadWord xk0_BadWord xk1_BadWord xk2_BadWord xk3_BadWord xk5_BadWord "ValueError.__new__"))
    (xok_BadWord : PySem.W.nsOkIn K xN_BadWord = true)
    (xin_BadWord : PySem.W.nsIn K xN_BadWord "__init__" = some (some (.ref f_BadWord___init__)))
    (xtl_BadWord : PySem.W.tailIn K veMro xbm_BadWord = true)
    (xfn_BadWord : PySem.W.typeIn K (.ref f_BadWord___init__) = some (.type "function"))
    (xcl_BadWord : PySem.W.clsIn K C_BadWord = some xcd_BadWord)
    (xve_BadWord : endsVE xcd_BadWord.mro = true)
    (xhd_BadWord : xcd_BadWord.hasDict = true)
    (xsa_BadWord : PySem.W.findIn K (.ref C_BadWord) "__setattr__" = some (some (.builtin "object.__setattr__")))
    (xg_BadWord : PySem.W.findIn K (.ref C_BadWord) "__getattribute__" = some (some (.builtin "BaseException.__getattribute__")))
    (xn_BadWord : PySem.W.findIn K (.ref C_BadWord) "__getattr__" = some none)
    (xc_BadWord : PySem.W.findIn K (.ref C_BadWord) "__class__" = some (some (.builtin "object.__class__")))
    (xkp_BadWord : PySem.W.keepIn K (.ref C_BadWord) = true)
    (na_BadWord_at : PySem.W.findIn K (.ref C_BadWord) "at" = some none)
    (xsp_NoteError : PySem.W.specialIn K (.ref C_NoteError) "__getattribute__" = some (some (.builtin "type.__getattribute__")))
    (xrd_NoteError : PySem.W.readsIn K C_NoteError (.type "type") = true)
    (xfd_NoteError : PySem.W.findCls K (.ref C_NoteError) (.type "type") "__init__" = some (.val (.builtin "ValueError.__init__")))
    (xm_BadWord_NoteError : PySem.W.exmOne K (.ref C_BadWord) (.ref C_NoteError) = some true)
    (ki_BadWord_BadWord : PySem.W.kitOne K (.ref C_BadWord) (.ref C_BadWord) = some true)
    (kb_BadWord_ValueError : PySem.W.kitOne K (.ref C_BadWord) (.type "ValueError") = some true) :
    ∃ fd : FuncData, (∀ (s : Shared) (v : Value), BindsTo s fd ⟨[v], []⟩ [("_law_script", v)]) ∧ ∀ base : Heap, K.In base → base.Ns mainGlobals mg → FnOk l.prog w K mg base CX0 5 fa fd ["_law_script"] (sp_law K) := by
  have e := hfa.symm.trans (PySem.W.mg_of X G a_law)
  cases e
  have F_l_cell_at := fun_mk (st := s_l_cell_at) l_l_cell_at c_l_cell_at k_l_cell_at
  have b_l_cell_at := F_l_cell_at.binds (ps := ["_law_script", "_law_k"]) fun _ _ _ _ _ _ => lenB2 fun _ _ => rfl
  have F_l_mixed := fun_mk (st := s_l_mixed) l_l_mixed c_l_mixed k_l_mixed
  have b_l_mixed := F_l_mixed.binds (ps := ["_law_seed", "_law_k"]) fun _ _ _ _ _ _ => lenB2 fun _ _ => rfl
  have F_l_numbers := fun_mk (st := s_l_numbers) l_l_numbers c_l_numbers k_l_numbers
  have b_l_numbers := F_l_numbers.binds (ps := ["_law_script", "_law_at", "_law_many_here"]) fun _ _ _ _ _ _ => lenB3 fun _ _ _ => rfl
  have F_l_many := fun_mk (st := s_l_many) l_l_many c_l_many k_l_many
  have b_l_many := F_l_many.binds (ps := ["_law_cell"]) fun _ _ _ _ _ _ => lenB1 fun _ => rfl
  have F_l_whole := fun_mk (st := s_l_whole) l_l_whole c_l_whole k_l_whole
  have b_l_whole := F_l_whole.binds (ps := ["_law_found"]) fun _ _ _ _ _ _ => lenB1 fun _ => rfl
  have F_l_signs := fun_mk (st := s_l_signs) l_l_signs c_l_signs k_l_signs
  have b_l_signs := F_l_signs.binds (ps := ["_law_found", "_law_due"]) fun _ _ _ _ _ _ => lenB2 fun _ _ => rfl
  have F_number_of := fun_mk (st := s_number_of) l_number_of c_number_of k_number_of
  have b_number_of := F_number_of.binds (ps := ["word", "most"]) fun _ _ _ _ _ _ => lenB2 fun _ _ => rfl
  have F_sign_of := fun_mk (st := s_sign_of) l_sign_of c_sign_of k_sign_of
  have b_sign_of := F_sign_of.binds (ps := ["word"]) fun _ _ _ _ _ _ => lenB1 fun _ => rfl
  have F_BadWord___init__ := fun_mk (st := s_BadWord___init__) l_BadWord___init__ c_BadWord___init__ k_BadWord___init__
  have b_BadWord___init__ := F_BadWord___init__.binds (ps := ["self", "at"]) fun _ _ _ _ _ _ => lenB2 fun _ _ => rfl
  have F_read_line := fun_mk (st := s_read_line) l_read_line c_read_line k_read_line
  have b_read_line := F_read_line.binds (ps := ["text"]) fun _ _ _ _ _ _ => lenB1 fun _ => rfl
  have F_l_place := fun_mk (st := s_l_place) l_l_place c_l_place k_l_place
  have b_l_place := F_l_place.binds (ps := ["_law_text"]) fun _ _ _ _ _ _ => lenB1 fun _ => rfl
  have F_l_word := fun_mk (st := s_l_word) l_l_word c_l_word k_l_word
  have b_l_word := F_l_word.binds (ps := ["_law_sign"]) fun _ _ _ _ _ _ => lenB1 fun _ => rfl
  have F_l_sign_of := fun_mk (st := s_l_sign_of) l_l_sign_of c_l_sign_of k_l_sign_of
  have b_l_sign_of := F_l_sign_of.binds (ps := ["_law_word_here"]) fun _ _ _ _ _ _ => lenB1 fun _ => rfl
  have F_l_sign_by := fun_mk (st := s_l_sign_by) l_l_sign_by c_l_sign_by k_l_sign_by
  have b_l_sign_by := F_l_sign_by.binds (ps := ["_law_number"]) fun _ _ _ _ _ _ => lenB1 fun _ => rfl
  have F_law := fun_mk (st := s_law) l_law c_law k_law
  have b_law := F_law.binds (ps := ["_law_script"]) fun _ _ _ _ _ _ => lenB1 fun _ => rfl
  have T : Txt K w mg ⟨_, _, _, _, _, _, _, _, _, _, _, _, _, _, _, _, _, _, _, _, _, _, _, _, _, _, _, _, _, _, a_SOUNDING_KINDS, a_SILENT_KINDS, a_FIGURES, t_MOST_FIGURES, C_NoteError, C_BadWord⟩ := ⟨F_l_cell_at, b_l_cell_at, PySem.W.mg_of X G a_l_cell_at, F_l_mixed, b_l_mixed, PySem.W.mg_of X G a_l_mixed, F_l_numbers, b_l_numbers, PySem.W.mg_of X G a_l_numbers, F_l_many, b_l_many, PySem.W.mg_of X G a_l_many, F_l_whole, b_l_whole, PySem.W.mg_of X G a_l_whole, F_l_signs, b_l_signs, PySem.W.mg_of X G a_l_signs, F_number_of, b_number_of, PySem.W.mg_of X G a_number_of, F_sign_of, b_sign_of, PySem.W.mg_of X G a_sign_of, F_BadWord___init__, b_BadWord___init__, F_read_line, b_read_line, PySem.W.mg_of X G a_read_line, F_l_place, b_l_place, PySem.W.mg_of X G a_l_place, F_l_word, b_l_word, PySem.W.mg_of X G a_l_word, F_l_sign_of, b_l_sign_of, PySem.W.mg_of X G a_l_sign_of, F_l_sign_by, b_l_sign_by, PySem.W.mg_of X G a_l_sign_by, F_law, b_law, PySem.W.mg_of X G a_law, PySem.W.mg_none_of X G z_ValueError, PySem.W.mg_none_of X G z_any, PySem.W.mg_none_of X G z_bool, PySem.W.mg_none_of X G z_enumerate, PySem.W.mg_none_of X G z_int, PySem.W.mg_none_of X G z_isinstance, PySem.W.mg_none_of X G z_len, PySem.W.mg_none_of X G z_list, PySem.W.mg_none_of X G z_min, PySem.W.mg_none_of X G z_range, PySem.W.mg_none_of X G z_str, PySem.W.mg_none_of X G z_tuple, PySem.W.mg_none_of X G z_zip, PySem.W.mg_of X G a_SOUNDING_KINDS_, (fun H => .inr ⟨_, _, _, l_SOUNDING_KINDS_, rfl, rfl, (by show 4 ≤ sizeLine; decide), (.cons ⟨_, rfl⟩ (.cons ⟨_, rfl⟩ (.cons ⟨_, rfl⟩ (.cons ⟨_, rfl⟩ .nil))))⟩), PySem.W.mg_of X G a_SILENT_KINDS_, (fun H => .inr ⟨_, _, _, l_SILENT_KINDS_, rfl, rfl, (by show 5 ≤ sizeLine; decide), (.cons ⟨_, rfl⟩ (.cons ⟨_, rfl⟩ (.cons ⟨_, rfl⟩ (.cons ⟨_, rfl⟩ (.cons ⟨_, rfl⟩ .nil)))))⟩), PySem.W.mg_of X G a_FIGURES_, (fun H => .inr ⟨_, _, _, l_FIGURES_, rfl, rfl, (by show 10 ≤ sizeLine; decide), (.cons ⟨_, rfl⟩ (.cons ⟨_, rfl⟩ (.cons ⟨_, rfl⟩ (.cons ⟨_, rfl⟩ (.cons ⟨_, rfl⟩ (.cons ⟨_, rfl⟩ (.cons ⟨_, rfl⟩ (.cons ⟨_, rfl⟩ (.cons ⟨_, rfl⟩ (.cons ⟨_, rfl⟩ .nil))))))))))⟩), PySem.W.mg_of X G a_MOST_FIGURES_, PySem.W.mg_of X G aX_NoteError, PySem.W.mg_of X G aX_BadWord, ⟨⟨⟨_, _, _, _, _, _, _, _, _, _, _, _, _, _, _, xo_BadWord, xok_BadWord, xin_BadWord, xtl_BadWord⟩, xfn_BadWord⟩, ⟨_, xcl_BadWord, xve_BadWord, xhd_BadWord⟩, xsa_BadWord, xg_BadWord, xn_BadWord, xc_BadWord, xkp_BadWord⟩, na_BadWord_at, ⟨xsp_NoteError, xrd_NoteError, xfd_NoteError⟩, xm_BadWord_NoteError, ki_BadWord_BadWord, kb_BadWord_ValueError⟩
  exact ⟨_, fun s v => .of_eq rfl, fun base _ _ => ok_law T⟩
theorem walk {l : PySem.W.OpenLaw} {q : Program} {loose : List Str} {XP : (Str → Option Value) → Heap → Prop} {YP : World → Heap → Prop} {d : DefRec} {K : Params → PySem.W.Frag} (hn : l.most = some 63) (hdf : d.params.defaults = [])
    (hY : ∀ (w : World) (h : Heap), YP w h → (K w.params).In h)
    (F : ∀ (w : World) (mg : Str → Option Value) (fa : Addr) (h : Heap), (K w.params).In h → h.Ns mainGlobals mg → mg d.name = some (.ref fa) →
      ∃ fd : FuncData, (∀ (s : Shared) (u : Value), BindsTo s fd ⟨[u], []⟩ [("_law_script", u)]) ∧ ∀ base : Heap, (K w.params).In base → base.Ns mainGlobals mg → FnOk l.prog w (K w.params) mg base CX0 5 fa fd ["_law_script"] (sp_law (K w.params))) :
    PySem.W.WalkO q loose XP YP l.row.toRowW d [] (fun f vs => PySem.call f vs) :=
  L2.walk_of (n := 63) (k := 5) (x := "_law_script") (CX := fun _ => CX0) (sp := fun w => sp_law (K w.params)) hn (by decide) hdf ⟨rfl, by decide, by decide⟩ hY F (fun _ H a ns hl hO hS => law_start hl hO hS) fun _ _ _ _ _ z => z
end Mine
open PySem PySem.W PyProof.Rows
set_option maxRecDepth 100000 in
set_option maxHeartbeats 0 in
theorem PySem.Challenge.cw_noteworth_k06_first_bad_word_holds : PySem.Challenge.rw_noteworth_k06_first_bad_word.Holds := by
  w_on; o_law; k_head; (case hw => w_witness2)
  k_fill
  refine Mine.walk (l := PySem.Challenge.rw_noteworth_k06_first_bad_word) rfl rfl (fun w h Y => PySem.W.kIn_of Y) ?F
  case F =>
    intro w mg fa h KX G hmg
    refine' Mine.all_mk KX G hmg ?aX_NoteError ?aX_BadWord ?a_l_cell_at ?l_l_cell_at ?c_l_cell_at ?k_l_cell_at ?a_l_mixed ?l_l_mixed ?c_l_mixed ?k_l_mixed ?a_l_numbers ?l_l_numbers ?c_l_numbers ?k_l_numbers ?a_l_many ?l_l_many ?c_l_many ?k_l_many ?a_l_whole ?l_l_whole ?c_l_whole ?k_l_whole ?a_l_signs ?l_l_signs ?c_l_signs ?k_l_signs ?a_number_of ?l_number_of ?c_number_of ?k_number_of ?a_sign_of ?l_sign_of ?c_sign_of ?k_sign_of ?a_BadWord___init__ ?l_BadWord___init__ ?c_BadWord___init__ ?k_BadWord___init__ ?fn_BadWord___init__ ?a_read_line ?l_read_line ?c_read_line ?k_read_line ?a_l_place ?l_l_place ?c_l_place ?k_l_place ?a_l_word ?l_l_word ?c_l_word ?k_l_word ?a_l_sign_of ?l_l_sign_of ?c_l_sign_of ?k_l_sign_of ?a_l_sign_by ?l_l_sign_by ?c_l_sign_by ?k_l_sign_by ?a_law ?l_law ?c_law ?k_law ?z_ValueError ?z_any ?z_bool ?z_enumerate ?z_int ?z_isinstance ?z_len ?z_list ?z_min ?z_range ?z_str ?z_tuple ?z_zip ?a_SOUNDING_KINDS_ ?l_SOUNDING_KINDS_ ?a_SILENT_KINDS_ ?l_SILENT_KINDS_ ?a_FIGURES_ ?l_FIGURES_ ?a_MOST_FIGURES_ ?xo_BadWord ?xok_BadWord ?xin_BadWord ?xtl_BadWord ?xfn_BadWord ?xcl_BadWord ?xve_BadWord ?xhd_BadWord ?xsa_BadWord ?xg_BadWord ?xn_BadWord ?xc_BadWord ?xkp_BadWord ?na_BadWord_at ?xsp_NoteError ?xrd_NoteError ?xfd_NoteError ?xm_BadWord_NoteError ?ki_BadWord_BadWord ?kb_BadWord_ValueError
    (case aX_NoteError | aX_BadWord | a_l_cell_at | l_l_cell_at | c_l_cell_at | k_l_cell_at | a_l_mixed | l_l_mixed | c_l_mixed | k_l_mixed | a_l_numbers | l_l_numbers | c_l_numbers | k_l_numbers | a_l_many | l_l_many | c_l_many | k_l_many | a_l_whole | l_l_whole | c_l_whole | k_l_whole | a_l_signs | l_l_signs | c_l_signs | k_l_signs | a_number_of | l_number_of | c_number_of | k_number_of | a_sign_of | l_sign_of | c_sign_of | k_sign_of | a_BadWord___init__ | l_BadWord___init__ | c_BadWord___init__ | k_BadWord___init__ | fn_BadWord___init__ | a_read_line | l_read_line | c_read_line | k_read_line | a_l_place | l_l_place | c_l_place | k_l_place | a_l_word | l_l_word | c_l_word | k_l_word | a_l_sign_of | l_l_sign_of | c_l_sign_of | k_l_sign_of | a_l_sign_by | l_l_sign_by | c_l_sign_by | k_l_sign_by | a_law | l_law | c_law | k_law | z_ValueError | z_any | z_bool | z_enumerate | z_int | z_isinstance | z_len | z_list | z_min | z_range | z_str | z_tuple | z_zip | a_SOUNDING_KINDS_ | l_SOUNDING_KINDS_ | a_SILENT_KINDS_ | l_SILENT_KINDS_ | a_FIGURES_ | l_FIGURES_ | a_MOST_FIGURES_ | xo_BadWord => k_is)
    (case xok_BadWord => kernel_rfl)
    (case xin_BadWord => k_is)
    (case xtl_BadWord => kernel_rfl)
    (case xfn_BadWord | xcl_BadWord => k_is)
    (case xve_BadWord | xhd_BadWord => kernel_rfl)
    (case xsa_BadWord | xg_BadWord | xn_BadWord | xc_BadWord | xkp_BadWord | na_BadWord_at | xsp_NoteError | xrd_NoteError | xfd_NoteError => k_is)
    (case xm_BadWord_NoteError => kts_exm)
    (case ki_BadWord_BadWord | kb_BadWord_ValueError => kit_is)
