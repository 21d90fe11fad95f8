import PyProof.Rows.All
import Wide.All
import OpenK.AllK
import Wide.FinOn
import Lean
import PyProof.EqAt
import PyProof.EqKinds
import PyProof.TupleCall
import PySem.Challenge.RW_noteworth_k20_closed_ears
set_option Elab.async false
set_option linter.all false
set_option maxRecDepth 100000
/-! THE HAND LAYER, for ints, bools, texts, own classes, LISTS and tuples (index, slices, in, append, pop ..), calls, loops. Paste it whole ahead of your own text; what your proof does not reach may be deleted. -/
namespace L2
open PySem PySem.Spec PyProof.Rows

/-- a key: an int or a str -/
abbrev Key := Sum Int Str
def keyIs : Key → Value → Bool
  | .inl k, v => Value.isInt k v
  | .inr x, v => Value.isStrOf x v
def keyH (w : World) : Key → Int
  | .inl k => hashInt k
  | .inr x => hashStr w x
theorem keyIs_shape : ∀ {k : Key} {v : Value}, keyIs k v = true → (∃ i t, k = Sum.inl i ∧ v = Value.int i t) ∨ (∃ x t, k = Sum.inr x ∧ v = Value.str x t)
  | .inl i, v, h => by
    obtain ⟨t, e⟩ := Value.isInt_shape (k := i) (v := v) h
    exact .inl ⟨i, t, rfl, e⟩
  | .inr x, v, h => by
    obtain ⟨t, e⟩ := Value.isStrOf_shape (x := x) (v := v) h
    exact .inr ⟨x, t, rfl, e⟩
theorem keyIs_str (x : Str) (t : Tok) : keyIs (.inr x) (.str x t) = true := by simp [keyIs, Value.isStrOf]
theorem key_ll (a b : Int) : decide ((Sum.inl a : Key) = Sum.inl b) = (a == b) := by
  by_cases e : a = b
  · subst e; simp
  · have h : ¬ (Sum.inl a : Key) = Sum.inl b := fun q => e (Sum.inl.inj q)
    rw [decide_eq_false h]
    exact (beq_eq_false_iff_ne.mpr e).symm
theorem key_rr (a b : Str) : decide ((Sum.inr a : Key) = Sum.inr b) = decide (a = b) := by
  by_cases e : a = b
  · subst e; simp
  · have h : ¬ (Sum.inr a : Key) = Sum.inr b := fun q => e (Sum.inr.inj q)
    rw [decide_eq_false h, decide_eq_false e]
theorem key_lr (a : Int) (b : Str) : decide ((Sum.inl a : Key) = Sum.inr b) = false := decide_eq_false (fun q => nomatch q)
theorem key_rl (a : Str) (b : Int) : decide ((Sum.inr a : Key) = Sum.inl b) = false := decide_eq_false (fun q => nomatch q)

def mixKind (prog : Program) (w : World) : PySem.KeyKind prog w Key where
  is := keyIs
  hash := keyH w
  inj := fun v a b ha hb => by
    rcases keyIs_shape ha with ⟨i, t, rfl, rfl⟩ | ⟨x, t, rfl, rfl⟩
    · rcases keyIs_shape hb with ⟨j, u, rfl, e⟩ | ⟨y, u, rfl, e⟩
      · injection e with e1 _; rw [e1]
      · exact nomatch e
    · rcases keyIs_shape hb with ⟨j, u, rfl, e⟩ | ⟨y, u, rfl, e⟩
      · exact nomatch e
      · injection e with e1 _; rw [e1]
  byValue := fun k v h => by
    rcases keyIs_shape h with ⟨i, t, rfl, rfl⟩ | ⟨x, t, rfl, rfl⟩ <;> rfl
  pyHash := fun hv h => by
    rcases keyIs_shape hv with ⟨i, t, rfl, rfl⟩ | ⟨x, t, rfl, rfl⟩
    · exact wpAny_pyHash_int h
    · exact wpAny_pyHash_str h
  eqBool := fun hu hv h => by
    rcases keyIs_shape hu with ⟨i, t, rfl, rfl⟩ | ⟨x, t, rfl, rfl⟩
    · rcases keyIs_shape hv with ⟨j, u, rfl, rfl⟩ | ⟨y, u, rfl, rfl⟩
      · rw [key_ll] at h; exact wpAny_eqBool_int h
      · rw [key_lr] at h; exact SeqAt.EqAt.int_str i t y u _ _ _ _ h
    · rcases keyIs_shape hv with ⟨j, u, rfl, rfl⟩ | ⟨y, u, rfl, rfl⟩
      · rw [key_rl] at h; exact SeqAt.EqAt.str_int x t j u _ _ _ _ h
      · rw [key_rr] at h; exact wpAny_eqBool_str h
  «strs» := fun k x t v h => by
    rcases keyIs_shape h with ⟨i, u, rfl, e⟩ | ⟨y, u, rfl, e⟩
    · exact nomatch e
    · injection e with e1 _
      subst e1
      cases v <;> rfl

theorem mixKind_str (prog : Program) (w : World) (x : Str) (t : Tok) : (mixKind prog w).is (.inr x) (.str x t) = true := keyIs_str x t
end L2

namespace L2
open PySem PySem.Spec PyProof.Rows

/-- a value, without the heap -/
inductive V where
  | non | bl (b : Bool) | int (i : Int) | str (x : Str) | byt (b : Array UInt8) | flt (b : UInt64) | ref (a : Addr) | ty (n : String)
  deriving DecidableEq

def RelV : V → Value → Prop
  | .non, u => u = Value.none
  | .bl b, u => u = Value.bool b
  | .int i, u => ∃ t, u = Value.int i t
  | .str x, u => ∃ t, u = Value.str x t
  | .byt b, u => ∃ t, u = Value.bytes b t
  | .flt b, u => ∃ t, u = Value.float b t
  | .ref a, u => u = Value.ref a
  | .ty n, u => u = Value.type n

abbrev Vals : List V → List Value → Prop := Paired RelV
theorem Vals.length {xs : List V} {us : List Value} (r : Vals xs us) : xs.length = us.length := Paired.length r
theorem Vals.get : ∀ {xs : List V} {us : List Value} {i : Nat} {x : V}, Vals xs us → xs[i]? = some x → ∃ u, us[i]? = some u ∧ RelV x u
  | _, _, _, _, .nil, e => by simp at e
  | _, _, 0, _, .cons r _, e => by simp at e; subst e; exact ⟨_, rfl, r⟩
  | _, _, i + 1, x, .cons _ t, e => by
    obtain ⟨u, h1, h2⟩ := Vals.get (i := i) (x := x) t (by simpa using e)
    exact ⟨u, by simpa using h1, h2⟩
theorem Vals.set {x : V} {u : Value} (r : RelV x u) : ∀ {xs : List V} {us : List Value} (i : Nat), Vals xs us → Vals (xs.set i x) (us.set i u)
  | _, _, _, .nil => .nil
  | _, _, 0, .cons _ t => .cons r t
  | _, _, i + 1, .cons q t => .cons q (Vals.set r i t)
theorem Vals.append : ∀ {xs ys : List V} {us ws : List Value}, Vals xs us → Vals ys ws → Vals (xs ++ ys) (us ++ ws)
  | _, _, _, _, .nil, s => s
  | _, _, _, _, .cons r t, s => .cons r (Vals.append t s)
theorem Vals.take : ∀ {xs : List V} {us : List Value} (n : Nat), Vals xs us → Vals (xs.take n) (us.take n)
  | _, _, 0, _ => .nil
  | _, _, _ + 1, .nil => .nil
  | _, _, n + 1, .cons r t => .cons r (Vals.take n t)
theorem Vals.drop : ∀ {xs : List V} {us : List Value} (n : Nat), Vals xs us → Vals (xs.drop n) (us.drop n)
  | _, _, 0, r => r
  | _, _, _ + 1, .nil => .nil
  | _, _, n + 1, .cons _ t => Vals.drop n t
def RelO : Option V → Option Value → Prop
  | some v, some u => RelV v u
  | none, none => True
  | _, _ => False
def KV {κ : Type} : List (κ × V) → List (κ × Value) → Prop := Paired fun (p : κ × V) (q : κ × Value) => p.1 = q.1 ∧ RelV p.2 q.2

/-- a key of a dict (00_mix): an int or a text -/
def kV : Key → V
  | .inl i => .int i
  | .inr x => .str x

/-- what stands at a tracked address -/
inductive HO where
  /-- a list -/
  | lst (xs : List V)
  /-- a tuple (never changes) -/
  | tup (xs : List V)
  /-- a dict whose keys are ints and texts; one whose keys are tuples of ints and texts (the empty one is both) -/
  | dK (kvs : List (Key × V)) | dT (kvs : List (List Key × V))
  /-- a set of ints: its members, its size -/
  | set (S : Int → Bool) (n : Nat)
  /-- an instance of the class at C, its dict at dx, its attributes -/
  | ins (C dx : Addr) (fs : List (Str × V))
  /-- the dict of the instance at x -/
  | own (x : Addr)
  /-- the dict of an exception -/
  | xd (fs : List (Str × V))
  /-- a bound method, f of x -/
  | met (f x : Addr)
  /-- a range object lo, lo + 1, .. below hi -/
  | rng (lo hi : Int)
  /-- a thing that is known to the object (the script; a dict while a loop walks it): read, never written while it is so -/
  | frz (o : Obj) (u : HO)
  /-- a code object's table -/
  | tbl (ps : Array Value)
  /-- any other thing, by what is true of its one object (a def of one's own: SetO a S n := HO.ext fun h => ..) -/
  | ext (φ : Heap → Prop)

abbrev Hp := Addr → Option HO
def upd (H : Hp) (a : Addr) (o : HO) : Hp := fun b => if b = a then some o else H b
theorem upd_same {H : Hp} {a : Addr} {o : HO} : upd H a o a = some o := by unfold upd; rw [if_pos rfl]
theorem upd_ne {H : Hp} {a b : Addr} {o : HO} (h : b ≠ a) : upd H a o b = H b := by unfold upd; rw [if_neg h]
theorem upd_upd {H : Hp} {a : Addr} {o u : HO} : upd (upd H a o) a u = upd H a u := by
  funext b; unfold upd; split <;> rfl
/-- two objects of different content stand apart -/
theorem ne_of {H : Hp} {a b : Addr} {o u : HO} (h : H a = some o) (h' : H b = some u) (d : o ≠ u) : a ≠ b := by
  intro e; subst e; rw [h] at h'; exact d (Option.some.inj h')
theorem ne_of_none {H : Hp} {a b : Addr} {o : HO} (h : H a = some o) (h' : H b = none) : a ≠ b := by
  intro e; subst e; rw [h] at h'; cases h'

section
variable (P : Program) (w : World)
def ObjOk (H : Hp) (h : Heap) (a : Addr) : HO → Prop
  | .lst xs => xs.length ≤ sizeLine ∧ ∃ (its : List Value) (n : Nat), Vals xs its ∧ h.get? a = some { cls := .type "list", data := .seq its.toArray n }
  | .tup xs => xs.length ≤ sizeLine ∧ ∃ its : List Value, Vals xs its ∧ IsTup h a its.toArray
  | .dK kvs => kvs.length ≤ sizeLine ∧ (a == sysModules) = false ∧ ∃ vs, KV kvs vs ∧ h.DictOf (mixKind P w) a vs
  | .dT kvs => kvs.length ≤ sizeLine ∧ (a == sysModules) = false ∧ ∃ xs : List (List Key × Addr × Value),
      Paired (fun (p : List Key × V) (q : List Key × Addr × Value) => p.1 = q.1 ∧ H q.2.1 = some (.tup (p.1.map kV)) ∧ RelV p.2 q.2.2) kvs xs ∧
      ∃ o es ep, h.get? a = some o ∧ o.ExactDict ∧ o.data = .dict es ep ∧ es.toList = xs.map (entryOfKey (tupleKind (mixKind P w))) ∧ (xs.map (·.1)).Nodup
  | .set S n => h.SetOf (intKind P w) a S n
  | .ins C dx fs => H dx = some (.own a) ∧ fs.length ≤ 1000 ∧ dx ≠ a ∧ h.get? a = some (PySem.W.instObj C dx) ∧
      ∃ mA, h.Ns1 dx mA ∧ (∀ f, RelO (fs.lookup f) (mA f)) ∧ PySem.Within mA (fs.map (·.1))
  | .own _ => ∃ o, h.get? a = some o
  | .xd fs => ∃ mA, h.Ns1 a mA ∧ ∀ f, RelO (fs.lookup f) (mA f)
  | .rng lo hi => ∃ t u v, h.get? a = some { cls := .type "range", data := .fields #[.int lo t, .int hi u, .int 1 v] }
  | .frz o u => h.get? a = some o ∧ ObjOk H h a u
  | .tbl ps => h.get? a = some { cls := .none, data := .fields ps }
  | .met f x => h.get? a = some (PySem.W.methodObj (.ref f) (.ref x))
  | .ext φ => φ h ∧ (∃ o, h.get? a = some o) ∧ ∀ h1 h2 : Heap, φ h1 → (∀ o, h1.get? a = some o → h2.get? a = some o) → φ h2
/-- the abstract heap is held -/
def HOk (H : Hp) (h : Heap) : Prop := ∀ a o, H a = some o → ObjOk P w H h a o
end

section
variable {P : Program} {w : World} {H H' : Hp} {h h' : Heap} {a : Addr} {o : HO}
theorem ObjOk.lt (x : ObjOk P w H h a o) : a < h.objs.size := by
  cases o with
  | lst xs => obtain ⟨_, _, _, _, e⟩ := x; exact Heap.lt_size e
  | tup xs => obtain ⟨_, _, _, p⟩ := x; exact p.lt
  | dK kvs => obtain ⟨_, _, _, _, o, _, _, e, _⟩ := x; exact Heap.lt_size e
  | dT kvs => obtain ⟨_, _, _, _, o, _, _, e, _⟩ := x; exact Heap.lt_size e
  | set S n => obtain ⟨o, _, _, _, e, _⟩ := x; exact Heap.lt_size e
  | ins C dx fs => obtain ⟨_, _, _, e, _⟩ := x; exact Heap.lt_size e
  | own y => obtain ⟨_, e⟩ := x; exact Heap.lt_size e
  | xd fs => obtain ⟨_, ⟨_, _, _, e, _⟩, _⟩ := x; exact Heap.lt_size e
  | rng lo hi => obtain ⟨_, _, _, e⟩ := x; exact Heap.lt_size e
  | frz ob u => obtain ⟨e, _⟩ := x; exact Heap.lt_size e
  | tbl ps => exact Heap.lt_size (show h.get? a = some _ from x)
  | met f y => exact Heap.lt_size (show h.get? a = some _ from x)
  | ext φ => obtain ⟨_, ⟨_, e⟩, _⟩ := x; exact Heap.lt_size e
theorem Paired.mapP {α β : Type} {F G : α → β → Prop} : ∀ {l₁ : List α} {l₂ : List β}, Paired F l₁ l₂ → (∀ a b, F a b → G a b) → Paired G l₁ l₂
  | _, _, .nil, _ => .nil
  | _, _, .cons r t, f => .cons (f _ _ r) (Paired.mapP t f)
/-- what an object's description leans on: its own object, its own dict, the tuples -/
theorem ObjOk.stay (x : ObjOk P w H h a o) (k : ∀ b u, (b = a ∨ H b = some (.own a)) → h.get? b = some u → h'.get? b = some u)
    (ho : ∀ b, H b = some (.own a) → H' b = some (.own a)) (ht : ∀ b xs, H b = some (.tup xs) → H' b = some (.tup xs)) : ObjOk P w H' h' a o := by
  induction o with
  | lst xs => obtain ⟨z, its, n, r, e⟩ := x; exact ⟨z, its, n, r, k _ _ (.inl rfl) e⟩
  | tup xs => obtain ⟨z, its, r, ob, e, c⟩ := x; exact ⟨z, its, r, ob, k _ _ (.inl rfl) e, c⟩
  | dK kvs => obtain ⟨z, y, vs, r, ob, es, ep, e, c⟩ := x; exact ⟨z, y, vs, r, ob, es, ep, k _ _ (.inl rfl) e, c⟩
  | dT kvs =>
    obtain ⟨z, y, xs, r, ob, es, ep, e, c⟩ := x
    exact ⟨z, y, xs, Paired.mapP r fun p q z => ⟨z.1, ht _ _ z.2.1, z.2.2⟩, ob, es, ep, k _ _ (.inl rfl) e, c⟩
  | set S n => obtain ⟨ob, es, ep, t, e, c⟩ := x; exact ⟨ob, es, ep, t, k _ _ (.inl rfl) e, c⟩
  | ins C dx fs =>
    obtain ⟨d, z, ne, e, mA, ⟨od, es, ep, e2, c⟩, r⟩ := x
    exact ⟨ho _ d, z, ne, k _ _ (.inl rfl) e, mA, ⟨od, es, ep, k _ _ (.inr d) e2, c⟩, r⟩
  | own y => obtain ⟨ob, e⟩ := x; exact ⟨ob, k _ _ (.inl rfl) e⟩
  | xd fs => obtain ⟨mA, ⟨od, es, ep, e, c⟩, r⟩ := x; exact ⟨mA, ⟨od, es, ep, k _ _ (.inl rfl) e, c⟩, r⟩
  | rng lo hi => obtain ⟨t, u, v, e⟩ := x; exact ⟨t, u, v, k _ _ (.inl rfl) e⟩
  | frz ob u ih => obtain ⟨e, q⟩ := x; exact ⟨k _ _ (.inl rfl) e, ih q⟩
  | tbl ps =>
    have e : h.get? a = some { cls := .none, data := .fields ps } := x
    show h'.get? a = some { cls := .none, data := .fields ps }
    exact k a _ (.inl rfl) e
  | met f y =>
    have e : h.get? a = some (PySem.W.methodObj (.ref f) (.ref y)) := x
    show h'.get? a = some (PySem.W.methodObj (.ref f) (.ref y))
    exact k a _ (.inl rfl) e
  | ext φ => obtain ⟨p, ⟨o, e⟩, st⟩ := x; exact ⟨st _ _ p fun o q => k _ _ (.inl rfl) q, ⟨o, k _ _ (.inl rfl) e⟩, st⟩
theorem HOk.lt (x : HOk P w H h) (e : H a = some o) : a < h.objs.size := (x a o e).lt
theorem HOk.fresh (x : HOk P w H h) (e : h.objs.size ≤ a) : H a = none := by
  cases q : H a with
  | none => rfl
  | some u => exact absurd (Nat.lt_of_lt_of_le (x.lt q) e) (Nat.lt_irrefl _)
/-- every object of the heap is kept -/
theorem HOk.kept (x : HOk P w H h) (k : ∀ b u, h.get? b = some u → h'.get? b = some u) : HOk P w H h' := fun a o e =>
  (x a o e).stay (fun b u _ q => k b u q) (fun _ q => q) fun _ _ q => q
/-- a new object is laid and tracked -/
theorem HOk.laid (x : HOk P w H h) (k : ∀ b u, h.get? b = some u → h'.get? b = some u) (hp : h.objs.size ≤ a) (new : ObjOk P w (upd H a o) h' a o) : HOk P w (upd H a o) h' := fun b u e => by
  have hn := x.fresh hp
  by_cases hb : b = a
  · subst hb; rw [upd_same] at e; cases e; exact new
  · rw [upd_ne hb] at e
    exact (x b u e).stay (fun c v _ q => k c v q) (fun c q => by rw [upd_ne (ne_of_none q hn)]; exact q) fun c xs q => by rw [upd_ne (ne_of_none q hn)]; exact q
end

/-- what may be read as u: it is u, or a known u -/
def Rd (H : Hp) (a : Addr) (u : HO) : Prop := H a = some u ∨ ∃ o, H a = some (.frz o u)
theorem Rd.ok {P : Program} {w : World} {H : Hp} {h : Heap} {a : Addr} {u : HO} (r : Rd H a u) (x : HOk P w H h) : ObjOk P w H h a u := by
  rcases r with r | ⟨o, r⟩
  · exact x a u r
  · obtain ⟨_, q⟩ := x a _ r
    exact q
/-- what may be written -/
def Mut : Option HO → Prop
  | some (.lst _) => True
  | some (.dK _) => True
  | some (.dT _) => True
  | some (.set _ _) => True
  | some (.ins _ _ _) => True
  | some (.ext _) => True
  | _ => False
section
variable {P : Program} {w : World} {H : Hp} {h h' : Heap} {x e : Addr} {o' : HO}
/-- the object at e is changed: x itself, or the dict of the instance x -/
theorem HOk.write (ok : HOk P w H h) (mu : Mut (H x)) (he : e = x ∨ H e = some (.own x)) (k : ∀ b u, b ≠ e → h.get? b = some u → h'.get? b = some u) (heo : ∃ u, h'.get? e = some u)
    (new : ObjOk P w (upd H x o') h' x o') : HOk P w (upd H x o') h' := fun b u q => by
  have nown : ∀ c y, H c = some (.own y) → c ≠ x := fun c y r z => by subst z; rw [r] at mu; exact mu
  have ntup : ∀ c xs, H c = some (.tup xs) → c ≠ x := fun c xs r z => by subst z; rw [r] at mu; exact mu
  by_cases hb : b = x
  · subst hb; rw [upd_same] at q; cases q; exact new
  · rw [upd_ne hb] at q
    by_cases hbe : b = e
    · have q' : H b = some (.own x) := by
        rcases he with z | z
        · exact absurd (hbe.trans z) hb
        · rw [hbe]; exact z
      rw [q] at q'; cases q'
      obtain ⟨v, hv⟩ := heo
      exact ⟨v, by rw [hbe]; exact hv⟩
    · refine (ok b u q).stay (fun c v hc r => k c v ?_ r) (fun c r => by rw [upd_ne (nown c b r)]; exact r) fun c xs r => by rw [upd_ne (ntup c xs r)]; exact r
      rcases hc with rfl | hc
      · exact hbe
      · rintro rfl
        rcases he with z | z
        · exact nown c b hc z
        · rw [hc] at z; cases z; exact hb rfl
end

/-! ### kept unless tracked; of the frames at fs (the callers') the slots may change (an exception that passes writes there); of the records at ex (iterators) nothing is said -/
structure Un (fs ex : List Addr) (H H' : Hp) (h h' : Heap) : Prop where
  keep : ∀ b o, h.get? b = some o → H b = none → b ∉ fs → b ∉ ex → h'.get? b = some o
  slot : ∀ b o, h.get? b = some o → H b = none → b ∈ fs → b ∉ ex → ∃ sl, h'.get? b = some { o with slots := sl }
  free : ∀ b o, h.get? b = some o → H b = none → b ∉ ex → H' b = none
  there : ∀ b o, h.get? b = some o → b ∉ ex → ∃ o', h'.get? b = some o'
  tups : ∀ b xs, H b = some (.tup xs) → H' b = some (.tup xs)
  frzs : ∀ b o u, H b = some (.frz o u) → H' b = some (.frz o u)
  tbls : ∀ b ps, H b = some (.tbl ps) → ∃ more, H' b = some (.tbl (ps ++ more))
section
variable {fs fs' ex ex' : List Addr} {H H1 H2 : Hp} {h h1 h2 h' : Heap} {a x e : Addr} {o : HO}
theorem Un.any (u : Un fs ex H H1 h h1) {b : Addr} {ob : Obj} (q : h.get? b = some ob) (n : H b = none) (hx : b ∉ ex) : ∃ sl, h1.get? b = some { ob with slots := sl } := by
  by_cases hb : b ∈ fs
  · exact u.slot b ob q n hb hx
  · exact ⟨ob.slots, u.keep b ob q n hb hx⟩
theorem Un.kept (k : ∀ b u, h.get? b = some u → h'.get? b = some u) : Un fs ex H H h h' :=
  ⟨fun b ob q _ _ _ => k b ob q, fun b ob q _ _ _ => ⟨ob.slots, k b ob q⟩, fun _ _ _ n _ => n, fun b ob q _ => ⟨ob, k b ob q⟩, fun _ _ q => q, fun _ _ _ q => q, fun _ ps q => ⟨#[], by rw [q]; simp⟩⟩
theorem Un.refl : Un fs ex H H h h := Un.kept fun _ _ q => q
theorem Un.laid (k : ∀ b u, h.get? b = some u → h'.get? b = some u) (hp : h.objs.size ≤ a) (hn : H a = none) : Un fs ex H (upd H a o) h h' where
  keep := fun b u q _ _ _ => k b u q
  slot := fun b u q _ _ _ => ⟨u.slots, k b u q⟩
  free := fun b u q n _ => by rw [upd_ne (Nat.ne_of_lt (Nat.lt_of_lt_of_le (Heap.lt_size q) hp))]; exact n
  there := fun b u q _ => ⟨u, k b u q⟩
  tups := fun b xs q => by rw [upd_ne (ne_of_none q hn)]; exact q
  frzs := fun b u xs q => by rw [upd_ne (ne_of_none q hn)]; exact q
  tbls := fun b ps q => ⟨#[], by rw [upd_ne (ne_of_none q hn), q]; simp⟩
theorem Un.write (mu : Mut (H x)) (he : e = x ∨ H e = some (.own x)) (k : ∀ b u, b ≠ e → h.get? b = some u → h'.get? b = some u) (heo : ∃ u, h'.get? e = some u) : Un fs ex H (upd H x o) h h' := by
  have hx : ∀ b, H b = none → b ≠ x := fun b n z => by subst z; rw [n] at mu; exact mu
  have hb : ∀ b, H b = none → b ≠ e := fun b n z => by
    subst z
    rcases he with r | r
    · exact hx b n r
    · rw [n] at r; cases r
  have hm : ∀ b u, H b = some u → ¬ Mut (some u) → b ≠ x := fun b u q nm z => by subst z; rw [q] at mu; exact nm mu
  refine ⟨fun b u q n _ _ => k b u (hb b n) q, fun b u q n _ _ => ⟨u.slots, k b u (hb b n) q⟩, fun b u q n _ => by rw [upd_ne (hx b n)]; exact n, fun b u q _ => ?_,
    fun b xs q => by rw [upd_ne (hm b _ q fun z => z)]; exact q, fun b u xs q => by rw [upd_ne (hm b _ q fun z => z)]; exact q, fun b ps q => ⟨#[], by rw [upd_ne (hm b _ q fun z => z), q]; simp⟩⟩
  by_cases hbe : b = e
  · subst hbe; exact heo
  · exact ⟨u, k b u hbe q⟩
end

/-! ### the heap without what is tracked -/
def trk (h : Heap) (H : Hp) : List Addr := (List.range h.objs.size).filter fun a => (H a).isSome
def hidT (h : Heap) (H : Hp) : Heap := PySem.W.hideAll h (trk h H)
theorem hidT_size (h : Heap) (H : Hp) : (hidT h H).objs.size = h.objs.size := PySem.W.hideAll_size _ _
theorem hidT_get {h : Heap} {H : Hp} {b : Addr} {o : Obj} (e : h.get? b = some o) (n : H b = none) : (hidT h H).get? b = some o :=
  PySem.W.hideAll_get _ e fun hm => by
    have q : (H b).isSome = true := (List.mem_filter.mp hm).2
    rw [n] at q; simp at q
theorem of_hidT {h : Heap} {H : Hp} {b : Addr} {o : Obj} (e : (hidT h H).get? b = some o) : h.get? b = some o ∧ H b = none := by
  have e' : h.get? b = some o := PySem.W.of_hideAll (trk h H) e
  refine ⟨e', ?_⟩
  cases q : H b with
  | none => rfl
  | some x =>
    have hm : b ∈ trk h H := List.mem_filter.mpr ⟨List.mem_range.mpr (Heap.lt_size e'), by simp [q]⟩
    have z : (hidT h H).get? b = none := PySem.W.hideAll_none (trk h H) hm
    rw [z] at e; cases e

/-! ### OpenK's ledger, filled with every new object but one -/
def allNews (g h : Heap) (L : Addr) : List (Addr × Obj) := (List.range h.objs.size).filterMap fun a => if a = L ∨ (g.get? a).isSome = true then none else (h.get? a).map fun o => (a, o)
def rest (g h : Heap) (L d : Addr) : List (Addr × Obj) := (allNews g h L).filter fun p => decide (p.1 ≠ d)
end L2

namespace L2
open PySem PySem.Spec PyProof.Rows

/-- the module's facts, over the base: the heap at the law's entry without what is tracked there -/
structure Mod (K : PySem.W.Frag) (mg : Str → Option Value) (base : Heap) : Prop where
  kin : K.In base
  glob : base.Ns mainGlobals mg
  blt : ∃ mb, base.Ns builtinsNs mb ∧ ∀ x : Str, x ≠ "__name__" → mb x = bootBuiltins x
  nolimit : base.NoLimit

/-- the context: a def's body (or a comprehension's block) running. base: fixed through the whole law; s₀, H₀: the entry; outer: the frames whose slots others may change (a def's callers); stack: all frames that run;
   ex: iterators that were made ahead of the entry and are walked here (a comprehension's); fn: the names whose cells were made at the entry (a def: all; a comprehension's block: its own); calm: not within an except suite; pn: pins that every state bears; xe: what is wanted of an exception that leaves the code -/
structure Cx where
  prog : Program
  w : World
  K : PySem.W.Frag
  mg : Str → Option Value
  base : Heap
  A : Around
  N : List Str
  s₀ : Shared
  H₀ : Hp
  env : Env
  outer : List Env
  stack : List Env
  ex : List Addr
  fn : Str → Bool
  calm : Bool
  pn : List (Addr × Obj)
  xe : Value → Shared → Prop
/-- the callers' frames -/
def frs (l : List Env) : List Addr := l.filterMap (·.frame)
abbrev Cx.fs (X : Cx) : List Addr := frs X.outer

def Vis (sc : Scope) (x : Str) : Prop := sc.names.lookup x = some .local ∨ sc.names.lookup x = some .cell ∨ sc.names.lookup x = some .free
def Loc (sc : Scope) (x : Str) : Prop := sc.names.lookup x = some .local ∨ sc.names.lookup x = some .cell
def Look (env : Env) (h : Heap) (m : Str → Option Value) (x : Str) (u : Value) : Prop :=
  (env.kindOf x = some .local ∧ m x = some u) ∨ ((env.kindOf x = some .cell ∨ env.kindOf x = some .free) ∧ ∃ c, env.cells.lookup x = some c ∧ h.IsCell c (some u))

structure Cx.Ok (X : Cx) : Prop where
  mod : Mod X.K X.mg X.base
  kind : X.env.scope.kind = .function
  glob : X.env.globals = mainGlobals
  blt : X.env.builtins = builtinsNs
  above : X.s₀.heap.objs.size ≤ X.env.locals
  inj : ∀ x y c, X.env.cells.lookup x = some c → X.env.cells.lookup y = some c → x = y
  has : ∀ x, (X.env.kindOf x = some .cell ∨ X.env.kindOf x = some .free) → ∃ c, X.env.cells.lookup x = some c
  cab : ∀ x c, X.fn x = true → X.env.cells.lookup x = some c → X.s₀.heap.objs.size ≤ c
  hd : X.calm = true → X.A.handled = none
  frames : X.A.frames = some X.stack
  stk : X.stack = X.outer ∨ (X.stack = X.env :: X.outer ∧ X.env.frame = some X.env.locals)
  exf : ∀ b ∈ X.ex, b ≠ X.env.locals ∧ ∀ x c, X.env.cells.lookup x = some c → c ≠ b
  bs : ∀ b o, X.base.get? b = some o → X.s₀.heap.get? b = some o ∧ X.H₀ b = none
  bsz : X.base.objs.size ≤ X.s₀.heap.objs.size
  noex : ∀ b o, X.base.get? b = some o → b ∉ X.ex
  exfs : ∀ b ∈ X.ex, b ∉ X.fs
  funs : X.s₀.heap.FunFrames X.base X.outer
  frf : ∀ b ∈ X.fs, X.H₀ b = none

structure Inv (X : Cx) (pins : List (Addr × Obj)) (σ : List (Option V)) (H : Hp) (s : Shared) : Prop where
  ok : X.Ok
  os : s.os = X.s₀.os
  bare : AllBare s.gens
  base : Un X.fs X.ex X.H₀ H X.s₀.heap s.heap
  loc : ∃ m, s.heap.Ns X.env.locals m ∧ ∀ (i : Nat) (x : Str) (v : V), X.N[i]? = some x → σ[i]? = some (some v) → Vis X.env.scope x → ∃ u, RelV v u ∧ Look X.env s.heap m x u
  cell : ∀ x c, X.env.cells.lookup x = some c → ∃ v, s.heap.IsCell c v
  free : H X.env.locals = none
  freeC : ∀ x c, X.env.cells.lookup x = some c → H c = none
  pin : ∀ p ∈ X.pn ++ pins, s.heap.get? p.1 = some p.2 ∧ H p.1 = none ∧ p.1 ≠ X.env.locals ∧ p.1 ∉ X.fs ∧ ∀ v, p.2.data ≠ .cell v
  hok : HOk X.prog X.w H s.heap
  len : σ.length = X.N.length

section
variable {X : Cx} {pins : List (Addr × Obj)} {σ : List (Option V)} {H H' : Hp} {s : Shared} {h' : Heap}

theorem Cx.Ok.nofr (ok : X.Ok) {b : Addr} {o : Obj} (e : X.base.get? b = some o) : b ∉ X.fs := fun hb => by
  have := (ok.funs.mem hb).1
  rw [e] at this; cases this
theorem Inv.bs (I : Inv X pins σ H s) : ∀ b o, X.base.get? b = some o → s.heap.get? b = some o ∧ H b = none := fun b o e =>
  ⟨I.base.keep b o (I.ok.bs b o e).1 (I.ok.bs b o e).2 (I.ok.nofr e) (I.ok.noex b o e), I.base.free b o (I.ok.bs b o e).1 (I.ok.bs b o e).2 (I.ok.noex b o e)⟩
theorem Inv.bk (I : Inv X pins σ H s) : ∀ b o, X.base.get? b = some o → s.heap.get? b = some o := fun b o e => (I.bs b o e).1
theorem Inv.mod (I : Inv X pins σ H s) : Mod X.K X.mg X.base := I.ok.mod
theorem Inv.kIn (I : Inv X pins σ H s) : X.K.In s.heap := I.ok.mod.kin.keeps I.bk
theorem Inv.lt (I : Inv X pins σ H s) : X.env.locals < s.heap.objs.size := let ⟨_, hn, _⟩ := I.loc; hn.lt
theorem Inv.sz (I : Inv X pins σ H s) : X.s₀.heap.objs.size ≤ s.heap.objs.size := Nat.le_trans I.ok.above (Nat.le_of_lt I.lt)
theorem Inv.nofs (I : Inv X pins σ H s) {a : Addr} (h : s.heap.objs.size ≤ a) : a ∉ X.fs := fun hb => by
  obtain ⟨_, o, ho, _⟩ := I.ok.funs.mem hb
  exact absurd (Nat.lt_of_lt_of_le (Heap.lt_size ho) (Nat.le_trans I.sz h)) (Nat.lt_irrefl _)
theorem Inv.cne (I : Inv X pins σ H s) : ∀ x c, X.env.cells.lookup x = some c → c ≠ X.env.locals := fun x c e z => by
  obtain ⟨v, o, ho, hd⟩ := I.cell x c e
  obtain ⟨m, ⟨o', es, ep, ho', hd', _⟩, _⟩ := I.loc
  rw [z, ho'] at ho; cases ho; rw [hd'] at hd; cases hd
theorem Inv.funs (I : Inv X pins σ H s) : s.heap.FunFrames X.base X.outer := by
  have all : ∀ (l : List Env), (∀ b ∈ frs l, b ∈ X.fs) → X.s₀.heap.FunFrames X.base l → s.heap.FunFrames X.base l := by
    intro l
    induction l with
    | nil => intro _ _; trivial
    | cons env r ih =>
      intro hs hl
      obtain ⟨hk, ⟨L, o, hf, hn, ho, hd⟩, hr⟩ := hl
      have hL : L ∈ X.fs := hs L (by unfold frs; rw [List.filterMap_cons, hf]; exact List.mem_cons_self)
      obtain ⟨sl, e⟩ := I.base.slot L o ho (I.ok.frf L hL) hL fun z => I.ok.exfs L z hL
      exact ⟨hk, ⟨L, _, hf, hn, e, hd⟩, ih (fun b hb => hs b (by unfold frs; rw [List.filterMap_cons, hf]; exact List.mem_cons_of_mem _ hb)) hr⟩
  exact all X.outer (fun _ hb => hb) I.ok.funs

/-- the frames that run, for a call -/
theorem Inv.stack (I : Inv X pins σ H s) : s.heap.FunFrames X.base X.stack := by
  rcases I.ok.stk with e | ⟨e, hf⟩
  · rw [e]; exact I.funs
  · rw [e]
    obtain ⟨m, hn, _⟩ := I.loc
    refine .cons (by rw [I.ok.kind]; decide) hf hn ?_ I.funs
    exact Heap.get?_none_of_le (Nat.le_trans I.ok.bsz I.ok.above)
theorem Inv.stkSub (I : Inv X pins σ H s) : ∀ b ∈ frs X.stack, b ∈ X.env.locals :: X.fs := fun b hb => by
  rcases I.ok.stk with e | ⟨e, hf⟩
  · rw [e] at hb; exact List.mem_cons_of_mem _ hb
  · rw [e] at hb
    unfold frs at hb
    rw [List.filterMap_cons, hf] at hb
    exact hb
theorem Inv.stkFree (I : Inv X pins σ H s) : ∀ b ∈ frs X.stack, H b = none := fun b hb => by
  rcases List.mem_cons.mp (I.stkSub b hb) with e | hb
  · rw [e]; exact I.free
  · obtain ⟨_, o, ho, _⟩ := I.ok.funs.mem hb
    exact I.base.free b o ho (I.ok.frf b hb) fun z => I.ok.exfs b z hb

/-- THE STEP: the untracked objects but the frame and the records at ch are kept (the callers' frames up to slots), the frame's map is kept, the new abstract heap is held -/
theorem Inv.step {g' : Array GenState} {t' : Nat} {d' : Drawn} {ch : List Addr} (I : Inv X pins σ H s)
    (hch : ∀ b ∈ ch, (b ∈ X.ex ∨ X.s₀.heap.objs.size ≤ b) ∧ b ≠ X.env.locals ∧ (∀ x c, X.env.cells.lookup x = some c → c ≠ b) ∧ ∀ p ∈ X.pn ++ pins, p.1 ≠ b)
    (keep : ∀ b o, b ≠ X.env.locals → b ∉ X.fs → b ∉ ch → s.heap.get? b = some o → H b = none → h'.get? b = some o)
    (slot : ∀ b o, b ≠ X.env.locals → b ∈ X.fs → b ∉ ch → s.heap.get? b = some o → H b = none → ∃ sl, h'.get? b = some { o with slots := sl }) (free : ∀ b o, b ∉ ch → s.heap.get? b = some o → H b = none → H' b = none)
    (there : ∀ b o, b ∉ ch → s.heap.get? b = some o → ∃ o', h'.get? b = some o')
    (tups : ∀ b xs, H b = some (.tup xs) → H' b = some (.tup xs)) (frzs : ∀ b o u, H b = some (.frz o u) → H' b = some (.frz o u)) (tbls : ∀ b ps, H b = some (.tbl ps) → ∃ more, H' b = some (.tbl (ps ++ more)))
    (ns : ∀ m, s.heap.Ns X.env.locals m → h'.Ns X.env.locals m) (hok : HOk X.prog X.w H' h') (hg : AllBare g') :
    Inv X pins σ H' { s with heap := h', gens := g', drawn := d', toks := t' } := by
  have neL : ∀ b o, X.s₀.heap.get? b = some o → b ≠ X.env.locals := fun b o e => Nat.ne_of_lt (Nat.lt_of_lt_of_le (Heap.lt_size e) I.ok.above)
  have neC : ∀ b o, X.s₀.heap.get? b = some o → b ∉ X.ex → b ∉ ch := fun b o e hx hb => by
    rcases (hch b hb).1 with z | z
    · exact hx z
    · exact absurd (Nat.lt_of_lt_of_le (Heap.lt_size e) z) (Nat.lt_irrefl _)
  have cellK : ∀ x c, X.env.cells.lookup x = some c → ∀ v, s.heap.IsCell c v → h'.IsCell c v := fun x c e v ⟨o, ho, hd⟩ => by
    have nch : c ∉ ch := fun z => (hch c z).2.2.1 x c e rfl
    by_cases hc : c ∈ X.fs
    · obtain ⟨sl, q⟩ := slot c o (I.cne x c e) hc nch ho (I.freeC x c e)
      exact ⟨_, q, hd⟩
    · exact ⟨o, keep c o (I.cne x c e) hc nch ho (I.freeC x c e), hd⟩
  refine ⟨I.ok, I.os, hg, ⟨fun b o e n hb hx => ?_, fun b o e n hb hx => ?_, fun b o e n hx => ?_, fun b o e hx => ?_, fun b xs e => tups b xs (I.base.tups b xs e), fun b o xs e => frzs b o xs (I.base.frzs b o xs e), fun b ps e => ?_⟩, ?_, fun x c e => ?_, ?_, fun x c e => ?_, fun p hp => ?_, hok, I.len⟩
  · exact keep b o (neL b o e) hb (neC b o e hx) (I.base.keep b o e n hb hx) (I.base.free b o e n hx)
  · obtain ⟨sl, e1⟩ := I.base.slot b o e n hb hx
    obtain ⟨sl', e2⟩ := slot b _ (neL b o e) hb (neC b o e hx) e1 (I.base.free b o e n hx)
    exact ⟨sl', e2⟩
  · obtain ⟨o', e1⟩ := I.base.there b o e hx
    exact free b o' (neC b o e hx) e1 (I.base.free b o e n hx)
  · obtain ⟨o', e1⟩ := I.base.there b o e hx
    exact there b o' (neC b o e hx) e1
  · obtain ⟨m1, e1⟩ := I.base.tbls b ps e
    obtain ⟨m2, e2⟩ := tbls b _ e1
    exact ⟨m1 ++ m2, by rw [e2, Array.append_assoc]⟩
  · obtain ⟨m, hn, hl⟩ := I.loc
    refine ⟨m, ns m hn, fun i x v e1 e2 e3 => ?_⟩
    obtain ⟨u, r, l⟩ := hl i x v e1 e2 e3
    refine ⟨u, r, ?_⟩
    rcases l with l | ⟨k, c, e, z⟩
    · exact .inl l
    · exact .inr ⟨k, c, e, cellK x c e _ z⟩
  · obtain ⟨v, z⟩ := I.cell x c e
    exact ⟨v, cellK x c e v z⟩
  · obtain ⟨m, ⟨o, _, _, ho, _⟩, _⟩ := I.loc
    exact free _ o (fun z => (hch _ z).2.1 rfl) ho I.free
  · obtain ⟨v, o, ho, hd⟩ := I.cell x c e
    exact free c o (fun z => (hch c z).2.2.1 x c e rfl) ho (I.freeC x c e)
  · obtain ⟨e, n, ne, nf, d⟩ := I.pin p hp
    have nch : p.1 ∉ ch := fun z => (hch p.1 z).2.2.2 p hp rfl
    exact ⟨keep p.1 p.2 ne nf nch e n, free p.1 p.2 nch e n, ne, nf, d⟩
/-- .. where the frame's own object is kept too -/
theorem Inv.un {t' : Nat} (I : Inv X pins σ H s) (u : Un X.fs [] H H' s.heap h') (hok : HOk X.prog X.w H' h') : Inv X pins σ H' { s with heap := h', toks := t' } := by
  obtain ⟨m, ⟨o, es, ep, ho, r⟩, _⟩ := id I.loc
  obtain ⟨sl, hL⟩ := u.any ho I.free (by simp)
  exact I.step (g' := s.gens) (d' := s.drawn) (ch := []) (fun _ z => nomatch z) (fun b o _ hb _ e n => u.keep b o e n hb (by simp)) (fun b o _ hb _ e n => u.slot b o e n hb (by simp)) (fun b o _ e n => u.free b o e n (by simp)) (fun b o _ e => u.there b o e (by simp)) u.tups u.frzs u.tbls (fun m' hm => by
    obtain ⟨o', es', ep', ho', r'⟩ := hm
    rw [ho] at ho'; cases ho'
    exact ⟨_, es', ep', hL, r'⟩) hok I.bare
/-- behind a call (or a comprehension's block): the slots of this frame may have changed too, the records at ch may have turned -/
theorem Inv.call {g' : Array GenState} {t' : Nat} {d' : Drawn} {ch : List Addr} (I : Inv X pins σ H s) (u : Un (frs X.stack) ch H H' s.heap h') (hok : HOk X.prog X.w H' h') (hg : AllBare g')
    (hch : ∀ b ∈ ch, (b ∈ X.ex ∨ X.s₀.heap.objs.size ≤ b) ∧ b ≠ X.env.locals ∧ (∀ x c, X.env.cells.lookup x = some c → c ≠ b) ∧ ∀ p ∈ X.pn ++ pins, p.1 ≠ b) :
    Inv X pins σ H' { s with heap := h', gens := g', drawn := d', toks := t' } := by
  obtain ⟨m, ⟨o, es, ep, ho, r⟩, _⟩ := id I.loc
  obtain ⟨sl, hL⟩ := u.any ho I.free fun z => (hch _ z).2.1 rfl
  exact I.step (ch := ch) hch (fun b o hL hb hc e n => u.keep b o e n (fun z => (List.mem_cons.mp (I.stkSub b z)).elim hL hb) hc) (fun b o _ _ hc e n => u.any e n hc) (fun b o hc e n => u.free b o e n hc) (fun b o hc e => u.there b o e hc) u.tups u.frzs u.tbls (fun m' hm => by
    obtain ⟨o', es', ep', ho', r'⟩ := hm
    rw [ho] at ho'; cases ho'
    exact ⟨_, es', ep', hL, r'⟩) hok hg
/-- an untracked record of ours (an iterator) has turned -/
theorem Inv.turned {t' : Nat} {it : Addr} (I : Inv X pins σ H s) (k : ∀ b o, b ≠ it → s.heap.get? b = some o → h'.get? b = some o) (hn : H it = none) (hL : it ≠ X.env.locals)
    (h1 : it ∈ X.ex ∨ X.s₀.heap.objs.size ≤ it) (h2 : ∀ x c, X.env.cells.lookup x = some c → c ≠ it) (h3 : ∀ p ∈ X.pn ++ pins, p.1 ≠ it) : Inv X pins σ H { s with heap := h', toks := t' } := by
  have nit : ∀ b u, H b = some u → b ≠ it := fun b u e z => by rw [z, hn] at e; cases e
  refine I.step (g' := s.gens) (d' := s.drawn) (ch := [it]) (fun b hb => ?_) (fun b o _ _ hc e _ => k b o (fun z => hc (by simp [z])) e) (fun b o _ _ hc e _ => ⟨o.slots, k b o (fun z => hc (by simp [z])) e⟩) (fun _ _ _ _ n => n)
    (fun b o hc e => ⟨o, k b o (fun z => hc (by simp [z])) e⟩) (fun _ _ e => e) (fun _ _ _ e => e) (fun b ps e => ⟨#[], by rw [e]; simp⟩) (fun m hm => ?_) (fun b u e => ?_) I.bare
  · have e : b = it := by simpa using hb
    subst e
    exact ⟨h1, hL, h2, h3⟩
  · obtain ⟨o, es, ep, ho, r⟩ := hm
    exact ⟨o, es, ep, k _ o (Ne.symm hL) ho, r⟩
  · refine (I.hok b u e).stay (fun c v hc q => k c v ?_ q) (fun _ q => q) fun _ _ q => q
    rcases hc with z | z
    · rw [z]; exact nit b u e
    · exact nit c _ z
theorem Inv.tok (I : Inv X pins σ H s) (t : Nat) : Inv X pins σ H { s with toks := t } := I.un (h' := s.heap) (t' := t) Un.refl I.hok
/-- all objects kept -/
theorem Inv.kept {t' : Nat} (I : Inv X pins σ H s) (k : ∀ b u, s.heap.get? b = some u → h'.get? b = some u) : Inv X pins σ H { s with heap := h', toks := t' } := I.un (Un.kept k) (I.hok.kept k)
/-- a new object laid and tracked -/
theorem Inv.laid {a : Addr} {o : HO} {t' : Nat} (I : Inv X pins σ H s) (k : ∀ b u, s.heap.get? b = some u → h'.get? b = some u) (hp : s.heap.objs.size ≤ a) (new : ObjOk X.prog X.w (upd H a o) h' a o) :
    Inv X pins σ (upd H a o) { s with heap := h', toks := t' } := I.un (Un.laid k hp (I.hok.fresh hp)) (I.hok.laid k hp new)
/-- an object written -/
theorem Inv.write {x e : Addr} {o : HO} {t' : Nat} (I : Inv X pins σ H s) (mu : Mut (H x)) (he : e = x ∨ H e = some (.own x)) (k : ∀ b u, b ≠ e → s.heap.get? b = some u → h'.get? b = some u) (heo : ∃ u, h'.get? e = some u)
    (new : ObjOk X.prog X.w (upd H x o) h' x o) : Inv X pins σ (upd H x o) { s with heap := h', toks := t' } := I.un (Un.write mu he k heo) (I.hok.write mu he k heo new)
theorem Inv.pins_of {pins' : List (Addr × Obj)} (I : Inv X pins σ H s) (h : ∀ p ∈ pins', s.heap.get? p.1 = some p.2 ∧ H p.1 = none ∧ p.1 ≠ X.env.locals ∧ p.1 ∉ X.fs ∧ ∀ v, p.2.data ≠ .cell v) : Inv X pins' σ H s :=
  ⟨I.ok, I.os, I.bare, I.base, I.loc, I.cell, I.free, I.freeC, fun p hp => (List.mem_append.mp hp).elim (fun z => I.pin p (List.mem_append_left _ z)) (h p), I.hok, I.len⟩

theorem nodup_ix {N : List Str} (hN : N.Nodup) {i j : Nat} {x : Str} (a : N[i]? = some x) (b : N[j]? = some x) : i = j := by
  obtain ⟨h1, e1⟩ := List.getElem?_eq_some_iff.mp a
  obtain ⟨h2, e2⟩ := List.getElem?_eq_some_iff.mp b
  exact (List.getElem_inj hN).mp (e1.trans e2.symm)

/-- a name is stored; what changed -/
theorem store_ok2 {M : Model} {A : Around} {E : Value → Shared → Prop} {i : Nat} {x : Str} {v : V} {u : Value} {Q : Unit → Shared → Prop} (I : Inv X pins σ H s) (hN : X.N.Nodup) (hi : X.N[i]? = some x) (hx : Loc X.env.scope x) (r : RelV v u)
    (h : ∀ s', Inv X pins (σ.set i (some v)) H s' → (∃ a, Heap.SameBut a s.heap s'.heap ∧ (a = X.env.locals ∨ X.env.cells.lookup x = some a)) → Q () s') (hf : X.fn x = true ∨ X.env.scope.names.lookup x = some .local := by first | exact .inl rfl | exact .inr rfl | assumption) : wpAny M A (storeName X.env x u) Q E s := by
  obtain ⟨m, hn, hl⟩ := id I.loc
  have hcls : (X.env.scope.kind == .class || (X.env.scope.kind == .module && X.env.locals != X.env.globals)) = false := by rw [I.ok.kind]; rfl
  have hiσ : i < σ.length := by rw [I.len]; exact (List.getElem?_eq_some_iff.mp hi).1
  have cne := I.cne
  have tracked : ∀ {a : Addr} {h' : Heap}, (∃ o, s.heap.get? a = some o ∧ H a = none) → Heap.SameBut a s.heap h' → HOk X.prog X.w H h' := fun {a h'} ha hs b ob e => by
    obtain ⟨_, _, hfree⟩ := ha
    refine (I.hok b ob e).stay (fun c w' hc q => (hs.2 c ?_).trans q) (fun _ q => q) fun _ _ q => q
    rintro rfl
    rcases hc with rfl | hc
    · rw [hfree] at e; cases e
    · rw [hfree] at hc; cases hc
  rcases hx with hk | hk
  · refine wpAny_storeName_local hk hn (fun h' hn' hs => ?_) hcls
    obtain ⟨oL, _, _, hoL, _⟩ := id hn
    refine h _ ⟨I.ok, I.os, I.bare, ⟨fun b o e n hb hx => ?_, fun b o e n hb hx => ?_, I.base.free, fun b o e hx => ?_, I.base.tups, I.base.frzs, I.base.tbls⟩, ⟨_, hn', fun j y v' e1 e2 e3 => ?_⟩, fun y c e => ?_, I.free, I.freeC, fun p hp => ?_, tracked ⟨oL, hoL, I.free⟩ hs, by simpa using I.len⟩ ⟨_, hs, .inl rfl⟩
    · exact (hs.2 b (Nat.ne_of_lt (Nat.lt_of_lt_of_le (Heap.lt_size e) I.ok.above))).trans (I.base.keep b o e n hb hx)
    · obtain ⟨sl, e1⟩ := I.base.slot b o e n hb hx
      exact ⟨sl, (hs.2 b (Nat.ne_of_lt (Nat.lt_of_lt_of_le (Heap.lt_size e) I.ok.above))).trans e1⟩
    · obtain ⟨o', e1⟩ := I.base.there b o e hx
      exact ⟨o', (hs.2 b (Nat.ne_of_lt (Nat.lt_of_lt_of_le (Heap.lt_size e) I.ok.above))).trans e1⟩
    · by_cases hj : j = i
      · subst hj
        rw [hi] at e1; cases e1
        rw [List.getElem?_set_self hiσ] at e2
        cases e2
        exact ⟨u, r, .inl ⟨hk, by simp⟩⟩
      · rw [List.getElem?_set_ne (Ne.symm hj)] at e2
        obtain ⟨u', r', q⟩ := hl j y v' e1 e2 e3
        refine ⟨u', r', ?_⟩
        rcases q with ⟨k, e⟩ | ⟨k, c, e, z⟩
        · refine .inl ⟨k, ?_⟩
          have : y ≠ x := fun e => hj (nodup_ix hN e1 (e ▸ hi))
          simp [this, e]
        · exact .inr ⟨k, c, e, z.sameBut hs (cne y c e)⟩
    · obtain ⟨w', z⟩ := I.cell y c e
      exact ⟨w', z.sameBut hs (cne y c e)⟩
    · obtain ⟨e, n, ne, nf, d⟩ := I.pin p hp
      exact ⟨(hs.2 p.1 ne).trans e, n, ne, nf, d⟩
  · have hfn : X.fn x = true := by
      rcases hf with z | z
      · exact z
      · rw [z] at hk; cases hk
    obtain ⟨c, hc⟩ := I.ok.has x (.inl hk)
    obtain ⟨w', z⟩ := I.cell x c hc
    refine wpAny_storeName_cell I.ok.kind hk hc z (fun h' hc' hs => ?_)
    obtain ⟨oc, hoc, hocd⟩ := id z
    refine h { s with heap := h' } ⟨I.ok, I.os, I.bare, ⟨fun b o e n hb hx => ?_, fun b o e n hb hx => ?_, I.base.free, fun b o e hx => ?_, I.base.tups, I.base.frzs, I.base.tbls⟩, ⟨m, hn.sameBut hs (Ne.symm (cne x c hc)), fun j y v' e1 e2 e3 => ?_⟩, fun y c' e => ?_, I.free, I.freeC, fun p hp => ?_, tracked ⟨oc, hoc, I.freeC x c hc⟩ hs, by simpa using I.len⟩ ⟨c, hs, .inr hc⟩
    · exact (hs.2 b (Nat.ne_of_lt (Nat.lt_of_lt_of_le (Heap.lt_size e) (I.ok.cab x c hfn hc)))).trans (I.base.keep b o e n hb hx)
    · obtain ⟨sl, e1⟩ := I.base.slot b o e n hb hx
      exact ⟨sl, (hs.2 b (Nat.ne_of_lt (Nat.lt_of_lt_of_le (Heap.lt_size e) (I.ok.cab x c hfn hc)))).trans e1⟩
    · obtain ⟨o', e1⟩ := I.base.there b o e hx
      exact ⟨o', (hs.2 b (Nat.ne_of_lt (Nat.lt_of_lt_of_le (Heap.lt_size e) (I.ok.cab x c hfn hc)))).trans e1⟩
    · by_cases hj : j = i
      · subst hj
        rw [hi] at e1; cases e1
        rw [List.getElem?_set_self hiσ] at e2
        cases e2
        exact ⟨u, r, .inr ⟨.inl hk, c, hc, hc'⟩⟩
      · rw [List.getElem?_set_ne (Ne.symm hj)] at e2
        obtain ⟨u', r', q⟩ := hl j y v' e1 e2 e3
        refine ⟨u', r', ?_⟩
        rcases q with q | ⟨k, c', e, z'⟩
        · exact .inl q
        · refine .inr ⟨k, c', e, z'.sameBut hs ?_⟩
          rintro rfl
          exact hj (nodup_ix hN e1 (I.ok.inj _ _ _ e hc ▸ hi))
    · by_cases hcc : c' = c
      · subst hcc; exact ⟨_, hc'⟩
      · obtain ⟨w2, z2⟩ := I.cell y c' e
        exact ⟨w2, z2.sameBut hs hcc⟩
    · obtain ⟨e, n, ne, nf, d⟩ := I.pin p hp
      refine ⟨(hs.2 p.1 ?_).trans e, n, ne, nf, d⟩
      intro q
      rw [q, hoc] at e
      have q' : oc = p.2 := Option.some.inj e
      exact d w' (by rw [← q']; exact hocd)
theorem store_ok {M : Model} {A : Around} {E : Value → Shared → Prop} {i : Nat} {x : Str} {v : V} {u : Value} {Q : Unit → Shared → Prop} (I : Inv X pins σ H s) (hN : X.N.Nodup) (hi : X.N[i]? = some x) (hx : Loc X.env.scope x) (r : RelV v u)
    (h : ∀ s', Inv X pins (σ.set i (some v)) H s' → Q () s') (hf : X.fn x = true ∨ X.env.scope.names.lookup x = some .local := by first | exact .inl rfl | exact .inr rfl | assumption) : wpAny M A (storeName X.env x u) Q E s :=
  store_ok2 I hN hi hx r (fun s' I' _ => h s' I') hf
/-- behind a call or a block, the state as it is -/
theorem Inv.call' {s' : Shared} {ch : List Addr} (I : Inv X pins σ H s) (ho : s'.os = s.os) (u : Un (frs X.stack) ch H H' s.heap s'.heap) (hok : HOk X.prog X.w H' s'.heap) (hg : AllBare s'.gens)
    (hch : ∀ b ∈ ch, (b ∈ X.ex ∨ X.s₀.heap.objs.size ≤ b) ∧ b ≠ X.env.locals ∧ (∀ x c, X.env.cells.lookup x = some c → c ≠ b) ∧ ∀ p ∈ X.pn ++ pins, p.1 ≠ b) : Inv X pins σ H' s' := by
  obtain ⟨h', g', d', t', o'⟩ := s'
  have e : o' = s.os := ho
  subst e
  exact I.call (g' := g') (t' := t') (d' := d') u hok hg hch
end

/-! ### the judgements -/
/-- an exception: its class, its own dict's address (where it has one), the abstract heap behind it -/
abbrev XK := Value → Option Addr → Hp → Prop
abbrev St := List (Option V)
abbrev VK := V → Hp → Prop
/-- an expression's reading; a test's; an argument list's -/
abbrev TE := St → Hp → VK → Prop
abbrev TT := St → Hp → (Bool → Hp → Prop) → Prop
abbrev TA := St → Hp → (List V → Hp → Prop) → Prop
/-- what is wanted behind a statement -/
structure Ends where
  nx : St → Hp → Prop
  rt : VK
  bk : St → Hp → Prop := fun _ _ => False
  ct : St → Hp → Prop := fun _ _ => False
abbrev TS := Ends → St → Hp → Prop

def EP (X : Cx) (pins : List (Addr × Obj)) (σ : St) (Q : VK) (u : Value) (s' : Shared) : Prop := ∃ v H', Inv X pins σ H' s' ∧ RelV v u ∧ Q v H'
def TP (X : Cx) (pins : List (Addr × Obj)) (σ : St) (Q : Bool → Hp → Prop) (b : Bool) (s' : Shared) : Prop := ∃ H', Inv X pins σ H' s' ∧ Q b H'
def AP (X : Cx) (pins : List (Addr × Obj)) (σ : St) (Q : List V → Hp → Prop) (us : List Value) (s' : Shared) : Prop := ∃ vs H', Inv X pins σ H' s' ∧ Vals vs us ∧ Q vs H'
def SP (X : Cx) (pins : List (Addr × Obj)) (D : Ends) (f : Flow) (s' : Shared) : Prop :=
  match f with
  | .next => ∃ σ' H', Inv X pins σ' H' s' ∧ D.nx σ' H'
  | .brk => ∃ σ' H', Inv X pins σ' H' s' ∧ D.bk σ' H'
  | .cont => ∃ σ' H', Inv X pins σ' H' s' ∧ D.ct σ' H'
  | .ret u => ∃ v σ' H', Inv X pins σ' H' s' ∧ RelV v u ∧ D.rt v H'

def PE (X : Cx) (e : Expr) (t : TE) : Prop :=
  ∀ (pins : List (Addr × Obj)) (s : Shared) (σ : St) (H : Hp) (Q : VK), Inv X pins σ H s → t σ H Q → wpAny (model X.prog X.w) X.A (eval e X.env) (EP X pins σ Q) X.xe s
def PT (X : Cx) (e : Expr) (t : TT) : Prop :=
  ∀ (pins : List (Addr × Obj)) (s : Shared) (σ : St) (H : Hp) (Q : Bool → Hp → Prop), Inv X pins σ H s → t σ H Q → wpAny (model X.prog X.w) X.A (isTrue e X.env (eval e X.env)) (TP X pins σ Q) X.xe s
/-- a test whatever its 'whole' is (and, or) -/
def PW (X : Cx) (e : Expr) (t : TT) : Prop :=
  ∀ (whole : Sem Value) (pins : List (Addr × Obj)) (s : Shared) (σ : St) (H : Hp) (Q : Bool → Hp → Prop), Inv X pins σ H s → t σ H Q → wpAny (model X.prog X.w) X.A (isTrue e X.env whole) (TP X pins σ Q) X.xe s
theorem PW.pt {X : Cx} {e : Expr} {t : TT} (h : PW X e t) : PT X e t := h _
/-- an argument list (no star), from the left -/
def PA (X : Cx) (es : List Expr) (t : TA) : Prop :=
  ∀ (pos : Pos) (pins : List (Addr × Obj)) (s : Shared) (σ : St) (H : Hp) (Q : List V → Hp → Prop), Inv X pins σ H s → t σ H Q → wpAny (model X.prog X.w) X.A (spliced (backTo pos (starEach es X.env))) (AP X pins σ Q) X.xe s
def PS (X : Cx) (st : Stmt) (t : TS) : Prop :=
  ∀ (pins : List (Addr × Obj)) (s : Shared) (σ : St) (H : Hp) (D : Ends), Inv X pins σ H s → t D σ H → wpAny (model X.prog X.w) X.A (exec st X.env) (SP X pins D) X.xe s
def PSs (X : Cx) (st : List Stmt) (t : TS) : Prop :=
  ∀ (pins : List (Addr × Obj)) (s : Shared) (σ : St) (H : Hp) (D : Ends), Inv X pins σ H s → t D σ H → wpAny (model X.prog X.w) X.A (execs st X.env) (SP X pins D) X.xe s
/-- weaken the end -/
theorem thn {α : Type} {t : Sem α} {Q Q' : α → Shared → Prop} {M : Model} {A : Around} {E : Value → Shared → Prop} {s : Shared} (h : wpAny M A t Q E s) (hQ : ∀ a s, Q a s → Q' a s) : wpAny M A t Q' E s := wpAny_mono h hQ fun _ _ x => x
end L2

namespace L2
open PySem PySem.Spec PyProof.Rows
section
variable {X : Cx}

/-- two expressions in a row -/
theorem bin {a b : Expr} {ta tb : TE} (ha : PE X a ta) (hb : PE X b tb) {pins : List (Addr × Obj)} {s : Shared} {σ : St} {H : Hp} {R : V → V → Hp → Prop} (I : Inv X pins σ H s) (h : ta σ H fun x H1 => tb σ H1 fun y H2 => R x y H2)
    {α : Type} {Q : α → Shared → Prop} {f : Value → Value → Sem α}
    (hf : ∀ v u s2 x y H2, Inv X pins σ H2 s2 → RelV x v → RelV y u → R x y H2 → wpAny (model X.prog X.w) X.A (f v u) Q X.xe s2) :
    wpAny (model X.prog X.w) X.A (eval a X.env) (fun v s₁ => wpAny (model X.prog X.w) X.A (eval b X.env) (fun u s₂ => wpAny (model X.prog X.w) X.A (f v u) Q X.xe s₂) X.xe s₁) X.xe s := by
  refine thn (ha pins s σ H _ I h) fun v s1 ⟨x, H1, I1, r1, q1⟩ => ?_
  refine thn (hb pins s1 σ H1 _ I1 q1) fun u s2 ⟨y, H2, I2, r2, q2⟩ => ?_
  exact hf v u s2 x y H2 I2 r1 r2 q2

/-! ### names and constants -/
def tVar (i : Nat) : TE := fun σ H Q => ∃ v, σ[i]? = some (some v) ∧ Q v H
def tC (v : V) : TE := fun _ H Q => Q v H
theorem pe_var {i : Nat} {x : Str} {pos : Pos} (hN : X.N[i]? = some x) (hv : Vis X.env.scope x) (hd : (x == ("__debug__" : Str)) = false := by decide) (hcd : (x == ("__classdict__" : Str)) = false := by decide) : PE X (.Name x pos) (tVar i) := by
  intro pins s σ H Q I h
  obtain ⟨v, e, h⟩ := h
  obtain ⟨m, hn, hl⟩ := I.loc
  obtain ⟨u, r, l⟩ := hl i x v hN e hv
  have fin : EP X pins σ Q u s := ⟨v, H, I, r, h⟩
  rcases l with ⟨hk, hm⟩ | ⟨hk, c, hc, hcell⟩
  · exact wpAny_Name (wpAny_loadName_local I.ok.kind hk hn hm fin) hd
  · rcases hk with hk | hk
    · exact wpAny_Name (wpAny_loadName_cell I.ok.kind hk hc hcell fin) hd
    · exact wpAny_Name (wpAny_loadName_free I.ok.kind hk hc hcell fin hcd) hd
theorem pe_int {i j pos} : PE X (.Constant (.int i) j pos) (tC (.int i)) := fun _ _ _ H _ I h => wpAny_Constant_int ⟨.int i, H, I.tok _, ⟨_, rfl⟩, h⟩
theorem pe_bl {b j pos} : PE X (.Constant (.bool b) j pos) (tC (.bl b)) := fun _ _ _ H _ I h => Constant_bool ⟨.bl b, H, I, rfl, h⟩
theorem pe_str {x j pos} : PE X (.Constant (.str x) j pos) (tC (.str x)) := fun _ _ _ H _ I h => Calls.Constant_str ⟨.str x, H, I.tok _, ⟨_, rfl⟩, h⟩

/-- a global name of the def -/
def Gl (X : Cx) (x : Str) : Prop := X.env.kindOf x = some .globalImplicit
theorem ld_glob {E : Value → Shared → Prop} {pins : List (Addr × Obj)} {s : Shared} {σ : St} {H : Hp} {x : Str} {u : Value} {pos : Pos} {Q : Value → Shared → Prop} (I : Inv X pins σ H s) (hg : Gl X x) (hm : X.mg x = some u) (h : Q u s)
    (hd : (x == ("__debug__" : Str)) = false := by decide) : wpAny (model X.prog X.w) X.A (eval (.Name x pos) X.env) Q E s :=
  Calls.Name_function_global I.ok.kind hg (Calls.loadGlobal_global (by rw [I.ok.glob]; exact I.mod.glob.keeps I.bk) hm h) hd
theorem ld_blt {E : Value → Shared → Prop} {pins : List (Addr × Obj)} {s : Shared} {σ : St} {H : Hp} {x : Str} {u : Value} {pos : Pos} {Q : Value → Shared → Prop} (I : Inv X pins σ H s) (hg : Gl X x) (hm : X.mg x = none) (hv : bootBuiltins x = some u) (h : Q u s)
    (hn : x ≠ "__name__" := by decide) (hd : (x == ("__debug__" : Str)) = false := by decide) : wpAny (model X.prog X.w) X.A (eval (.Name x pos) X.env) Q E s := by
  obtain ⟨mb, h1, h2⟩ := I.mod.blt
  exact Calls.Name_function_global I.ok.kind hg (Calls.loadGlobal_builtin (by rw [I.ok.glob]; exact I.mod.glob.keeps I.bk) hm (by rw [I.ok.blt]; exact h1.keeps I.bk) ((h2 x hn).trans hv) h) hd
/-- a module's constant, a class, a function, as a value -/
theorem pe_glob {x : Str} {v : V} {u : Value} {pos : Pos} (hg : Gl X x) (hm : X.mg x = some u) (r : RelV v u) (hd : (x == ("__debug__" : Str)) = false := by decide) : PE X (.Name x pos) (tC v) :=
  fun _ _ _ H _ I h => ld_glob I hg hm ⟨v, H, I, r, h⟩ hd
theorem pe_bltn {x : Str} {v : V} {u : Value} {pos : Pos} (hg : Gl X x) (hm : X.mg x = none) (hv : bootBuiltins x = some u) (r : RelV v u) (hn : x ≠ "__name__" := by decide) (hd : (x == ("__debug__" : Str)) = false := by decide) : PE X (.Name x pos) (tC v) :=
  fun _ _ _ H _ I h => ld_blt I hg hm hv ⟨v, H, I, r, h⟩ hn hd

/-! ### arithmetic -/
/-- two ints -/
def t2I (ta tb : TE) (k : Int → Int → Hp → Prop) : St → Hp → Prop := fun σ H => ta σ H fun x H1 => tb σ H1 fun y H2 => ∃ i j, x = .int i ∧ y = .int j ∧ k i j H2
def tAdd (ta tb : TE) : TE := fun σ H Q => t2I ta tb (fun i j H2 => Q (.int (i + j)) H2) σ H
def tSub (ta tb : TE) : TE := fun σ H Q => t2I ta tb (fun i j H2 => Q (.int (i - j)) H2) σ H
/-- the left factor below 2^64 -/
def tMul (ta tb : TE) : TE := fun σ H Q => t2I ta tb (fun i j H2 => (-(2 ^ 64) < i ∧ i < 2 ^ 64) ∧ Q (.int (i * j)) H2) σ H
variable {a b : Expr} {ta tb : TE} {pos : Pos}
/-! ### comparisons -/
def PC (X : Cx) (op : CmpOp) (a b : Expr) (t : TE) : Prop :=
  ∀ (pins : List (Addr × Obj)) (s : Shared) (σ : St) (H : Hp) (Q : VK), Inv X pins σ H s → t σ H Q →
    wpAny (model X.prog X.w) X.A (eval a X.env) (fun v s₁ => wpAny (model X.prog X.w) X.A (eval b X.env) (fun u s₂ => wpAny (model X.prog X.w) X.A (compareOp op v u) (EP X pins σ Q) X.xe s₂) X.xe s₁) X.xe s
def tCmp (p : Int → Int → Bool) (ta tb : TE) : TE := fun σ H Q => t2I ta tb (fun i j H2 => Q (.bl (p i j)) H2) σ H
abbrev tLt : TE → TE → TE := tCmp fun i j => decide (i < j)
abbrev tLe : TE → TE → TE := tCmp fun i j => decide (i ≤ j)
abbrev tGt : TE → TE → TE := tCmp fun i j => decide (j < i)
abbrev tGe : TE → TE → TE := tCmp fun i j => decide (j ≤ i)
abbrev tEqI : TE → TE → TE := tCmp fun i j => decide (i = j)
abbrev tNeI : TE → TE → TE := tCmp fun i j => !decide (i = j)
/-- is None -/
def tIsN (ta : TE) : TE := fun σ H Q => ta σ H fun x H1 => Q (.bl (decide (x = .non))) H1
def tNotN (ta : TE) : TE := fun σ H Q => ta σ H fun x H1 => Q (.bl (!decide (x = .non))) H1
/-- a comparison as a value, as a test -/
def tB (t : TE) : TT := fun σ H Q => t σ H fun x H1 => ∃ c, x = .bl c ∧ Q c H1
theorem pt_cmp {op : CmpOp} {t : TE} (h : PC X op a b t) (h1 : behindInMarks op b = false := by first | exact nobehind _ (by decide) (by decide) | rfl) : PT X (.Compare a [op] [b] pos) (tB t) := by
  intro pins s σ H Q I hw
  refine wpAny_isTrue_Compare1 (thn (h pins s σ H _ I hw) fun v s1 h1 => thn h1 fun u s2 h2 => thn h2 fun c s3 ⟨x, H1, I1, r1, q1⟩ => ?_) h1
  obtain ⟨d, rfl, q⟩ := q1
  cases r1
  exact wpAny_truthy_bool ⟨H1, I1, q⟩
/-- an expression whose value is a bool, as a test -/
theorem pt_val {e : Expr} {t : TE} (h : PE X e t) (he : ∀ whole, isTrue e X.env whole = (do let v ← whole; standAt e.pos; holding [v] (truthy v)) := by intro _; rfl) : PT X e (tB t) := by
  intro pins s σ H Q I hw
  refine isTrue_plain (thn (h pins s σ H _ I hw) fun v s1 ⟨x, H1, I1, r1, q1⟩ => ?_) (he _)
  obtain ⟨d, rfl, q⟩ := q1
  cases r1
  exact wpAny_truthy_bool ⟨H1, I1, q⟩

/-! ### and, or, not -/
variable {tA tB' : TT} {rest : List Expr}
def tAnd (t u : TT) : TT := fun σ H Q => t σ H fun c H1 => if c = true then u σ H1 Q else Q false H1
def tOr (t u : TT) : TT := fun σ H Q => t σ H fun c H1 => if c = true then Q true H1 else u σ H1 Q
def tNot (t : TT) : TT := fun σ H Q => t σ H fun c H1 => Q (!c) H1
theorem pw_and1 (ha : PT X a tA) : PW X (.BoolOp .And [a] pos) tA := by
  intro wh pins s σ H Q I h
  refine isTrue_and (thn (ha pins s σ H Q I h) fun c s1 e => ?_)
  cases c with
  | true => exact isTrue_and_nil e
  | false => exact e
theorem pw_or1 (ha : PT X a tA) : PW X (.BoolOp .Or [a] pos) tA := by
  intro wh pins s σ H Q I h
  refine isTrue_or (thn (ha pins s σ H Q I h) fun c s1 e => ?_)
  cases c with
  | false => exact isTrue_or_nil e
  | true => exact e
theorem pw_and (ha : PT X a tA) (hb : PW X (.BoolOp .And (b :: rest) pos) tB') : PW X (.BoolOp .And (a :: b :: rest) pos) (tAnd tA tB') := by
  intro wh pins s σ H Q I h
  refine isTrue_and (thn (ha pins s σ H _ I h) fun c s1 ⟨H1, I1, q1⟩ => ?_)
  cases c with
  | true => exact hb wh pins s1 σ H1 Q I1 q1
  | false => exact ⟨H1, I1, q1⟩
theorem pw_or (ha : PT X a tA) (hb : PW X (.BoolOp .Or (b :: rest) pos) tB') : PW X (.BoolOp .Or (a :: b :: rest) pos) (tOr tA tB') := by
  intro wh pins s σ H Q I h
  refine isTrue_or (thn (ha pins s σ H _ I h) fun c s1 ⟨H1, I1, q1⟩ => ?_)
  cases c with
  | true => exact ⟨H1, I1, q1⟩
  | false => exact hb wh pins s1 σ H1 Q I1 q1
theorem pt_not (ha : PT X a tA) : PT X (.UnaryOp .Not a pos) (tNot tA) := by
  intro pins s σ H Q I h
  exact isTrue_not (ha pins s σ H (fun c H1 => Q (!c) H1) I h)
/-- .. as values (bools) -/
def tAndV (ta tb : TE) : TE := fun σ H Q => ta σ H fun x H1 => ∃ c, x = .bl c ∧ if c = true then tb σ H1 Q else Q (.bl false) H1
def tOrV (ta tb : TE) : TE := fun σ H Q => ta σ H fun x H1 => ∃ c, x = .bl c ∧ if c = true then Q (.bl true) H1 else tb σ H1 Q
def tNotV (ta : TE) : TE := fun σ H Q => ta σ H fun x H1 => ∃ c, x = .bl c ∧ Q (.bl (!c)) H1
theorem pe_one {op} {t : TE} (h : PE X a t) : PE X (.BoolOp op [a] pos) t := fun pins s σ H Q I hw => BoolOp_one (h pins s σ H Q I hw)
theorem pe_and (ha : PE X a ta) (hb : PE X (.BoolOp .And (b :: rest) pos) tb) : PE X (.BoolOp .And (a :: b :: rest) pos) (tAndV ta tb) := by
  intro pins s σ H Q I h
  refine BoolOp_and (thn (ha pins s σ H _ I h) fun v s1 ⟨x, H1, I1, r1, q1⟩ => ?_)
  obtain ⟨c, rfl, q1⟩ := q1
  cases r1
  refine wpAny_truthy_bool ?_
  cases c with
  | true => exact hb pins s1 σ H1 Q I1 q1
  | false => exact ⟨.bl false, H1, I1, rfl, q1⟩
theorem pe_or (ha : PE X a ta) (hb : PE X (.BoolOp .Or (b :: rest) pos) tb) : PE X (.BoolOp .Or (a :: b :: rest) pos) (tOrV ta tb) := by
  intro pins s σ H Q I h
  refine BoolOp_or (thn (ha pins s σ H _ I h) fun v s1 ⟨x, H1, I1, r1, q1⟩ => ?_)
  obtain ⟨c, rfl, q1⟩ := q1
  cases r1
  refine wpAny_truthy_bool ?_
  cases c with
  | false => exact hb pins s1 σ H1 Q I1 q1
  | true => exact ⟨.bl true, H1, I1, rfl, q1⟩
theorem pe_not (ha : PE X a ta) : PE X (.UnaryOp .Not a pos) (tNotV ta) := by
  intro pins s σ H Q I h
  refine UnaryOp_ (thn (ha pins s σ H _ I h) fun v s1 ⟨x, H1, I1, r1, q1⟩ => ?_)
  obtain ⟨c, rfl, q1⟩ := q1
  cases r1
  exact not_of (wpAny_truthy_bool ⟨.bl (!c), H1, I1, rfl, q1⟩)
/-- a if t else b -/
def tIf (t : TT) (ta tb : TE) : TE := fun σ H Q => t σ H fun c H1 => if c = true then ta σ H1 Q else tb σ H1 Q
theorem pe_ifExp {c : Expr} (hc : PT X c tA) (ha : PE X a ta) (hb : PE X b tb) : PE X (.IfExp c a b pos) (tIf tA ta tb) := by
  intro pins s σ H Q I h
  refine wpAny_IfExp (thn (hc pins s σ H _ I h) fun d s1 ⟨H1, I1, q1⟩ => ?_)
  cases d with
  | true => exact ha pins s1 σ H1 Q I1 q1
  | false => exact hb pins s1 σ H1 Q I1 q1
end
end L2

namespace L2
open PySem PySem.Spec PyProof.Rows

/-! ### a list, a tuple that is read: tracked, frozen, or an object of the module -/
def SqL (K : PySem.W.Frag) (H : Hp) (a : Addr) (xs : List V) : Prop :=
  Rd H a (.lst xs) ∨
    ∃ (o : Obj) (its : Array Value) (n : Nat), K.lookup a = some o ∧ o.cls = .type "list" ∧ o.dict = none ∧ o.data = .seq its n ∧ its.size ≤ sizeLine ∧ Vals xs its.toList
def SqT (K : PySem.W.Frag) (H : Hp) (a : Addr) (xs : List V) : Prop :=
  Rd H a (.tup xs) ∨
    ∃ (o : Obj) (its : Array Value) (n : Nat), K.lookup a = some o ∧ o.cls = .type "tuple" ∧ o.data = .seq its n ∧ its.size ≤ sizeLine ∧ Vals xs its.toList
def absV : Value → Option V
  | .none => some .non
  | .bool b => some (.bl b)
  | .int i _ => some (.int i)
  | .str x _ => some (.str x)
  | .bytes b _ => some (.byt b)
  | .float b _ => some (.flt b)
  | .ref a => some (.ref a)
  | .type n => some (.ty n)
  | _ => none
theorem RelV.abs {x : V} {u : Value} (r : RelV x u) : absV u = some x := by
  cases x with
  | non => cases r; rfl
  | bl _ => cases r; rfl
  | int _ => obtain ⟨t, rfl⟩ := r; rfl
  | str _ => obtain ⟨t, rfl⟩ := r; rfl
  | byt _ => obtain ⟨t, rfl⟩ := r; rfl
  | flt _ => obtain ⟨t, rfl⟩ := r; rfl
  | ref _ => cases r; rfl
  | ty _ => cases r; rfl
theorem RelV.inj {x y : V} {u : Value} (r : RelV x u) (q : RelV y u) : x = y := Option.some.inj (r.abs.symm.trans q.abs)
theorem Vals.inj : ∀ {xs ys : List V} {us : List Value}, Vals xs us → Vals ys us → xs = ys
  | _, _, _, .nil, .nil => rfl
  | _, _, _, .cons r t, .cons r' t' => by rw [r.inj r', Vals.inj t t']
section
variable {X : Cx} {pins : List (Addr × Obj)} {σ : St} {H : Hp} {s : Shared} {a : Addr} {xs ys : List V}
theorem SqL.of {K : PySem.W.Frag} (h : H a = some (.lst xs)) : SqL K H a xs := .inl (.inl h)
theorem SqT.of {K : PySem.W.Frag} (h : H a = some (.tup xs)) : SqT K H a xs := .inl (.inl h)
theorem Inv.list (I : Inv X pins σ H s) (h : SqL X.K H a xs) : ∃ its : List Value, Vals xs its ∧ PlainL s.heap a its.toArray ∧ xs.length ≤ sizeLine := by
  rcases h with h | ⟨o, its, n, hk, hc, hd, hs, hz, r⟩
  · obtain ⟨z, its, n, r, e⟩ := h.ok I.hok
    exact ⟨its, r, ⟨_, n, e, rfl, rfl, rfl⟩, z⟩
  · refine ⟨its.toList, r, ⟨o, n, I.kIn a o hk, hc, hd, by simpa using hs⟩, ?_⟩
    have e := r.length
    simp only [Array.length_toList] at e
    omega
theorem Inv.tuple (I : Inv X pins σ H s) (h : SqT X.K H a xs) : ∃ its : List Value, Vals xs its ∧ IsTup s.heap a its.toArray ∧ xs.length ≤ sizeLine := by
  rcases h with h | ⟨o, its, n, hk, hc, hs, hz, r⟩
  · obtain ⟨z, its, r, p⟩ := h.ok I.hok
    exact ⟨its, r, p, z⟩
  · refine ⟨its.toList, r, ⟨o, I.kIn a o hk, hc, n, by simpa using hs⟩, ?_⟩
    have e := r.length
    simp only [Array.length_toList] at e
    omega
theorem Inv.list_inj (I : Inv X pins σ H s) (h : SqL X.K H a xs) (h' : SqL X.K H a ys) : xs = ys := by
  obtain ⟨its, r, ⟨o, n, e, _, _, d⟩, _⟩ := I.list h
  obtain ⟨its', r', ⟨o', n', e', _, _, d'⟩, _⟩ := I.list h'
  rw [e] at e'; cases e'
  rw [d] at d'
  injection d' with d1 _
  have : its = its' := by simpa using congrArg Array.toList d1
  subst this
  exact r.inj r'
end

/-! ### another wish about exceptions -/
abbrev Cx.wish (X : Cx) (E : Value → Shared → Prop) : Cx := { X with xe := E }
/-- no exception leaves -/
abbrev Cx.nox (X : Cx) : Cx := X.wish fun _ _ => False
theorem Cx.Ok.wish {X : Cx} (ok : X.Ok) (E : Value → Shared → Prop) : (X.wish E).Ok :=
  ⟨ok.mod, ok.kind, ok.glob, ok.blt, ok.above, ok.inj, ok.has, ok.cab, ok.hd, ok.frames, ok.stk, ok.exf, ok.bs, ok.bsz, ok.noex, ok.exfs, ok.funs, ok.frf⟩
theorem Cx.Ok.unwish {X : Cx} {E : Value → Shared → Prop} (ok : (X.wish E).Ok) : X.Ok :=
  ⟨ok.mod, ok.kind, ok.glob, ok.blt, ok.above, ok.inj, ok.has, ok.cab, ok.hd, ok.frames, ok.stk, ok.exf, ok.bs, ok.bsz, ok.noex, ok.exfs, ok.funs, ok.frf⟩
section
variable {X : Cx} {pins : List (Addr × Obj)} {σ : St} {H : Hp} {s : Shared} {E : Value → Shared → Prop}
theorem Inv.wish (I : Inv X pins σ H s) (E : Value → Shared → Prop) : Inv (X.wish E) pins σ H s := ⟨I.ok.wish E, I.os, I.bare, I.base, I.loc, I.cell, I.free, I.freeC, I.pin, I.hok, I.len⟩
theorem Inv.unwish (I : Inv (X.wish E) pins σ H s) : Inv X pins σ H s := ⟨I.ok.unwish, I.os, I.bare, I.base, I.loc, I.cell, I.free, I.freeC, I.pin, I.hok, I.len⟩
theorem SP.unwish {D : Ends} {f : Flow} {s' : Shared} (h : SP (X.wish E) pins D f s') : SP X pins D f s' := by
  cases f with
  | next => obtain ⟨σ', H', I, q⟩ := h; exact ⟨σ', H', I.unwish, q⟩
  | brk => obtain ⟨σ', H', I, q⟩ := h; exact ⟨σ', H', I.unwish, q⟩
  | cont => obtain ⟨σ', H', I, q⟩ := h; exact ⟨σ', H', I.unwish, q⟩
  | ret u => obtain ⟨v, σ', H', I, r, q⟩ := h; exact ⟨v, σ', H', I.unwish, r, q⟩
theorem PSs.nox {st : List Stmt} {t : TS} (h : PSs X.nox st t) : PSs X st t := fun pins s σ H D I hw =>
  wpAny_mono (h pins s σ H D (I.wish _) hw) (fun _ _ q => q.unwish) fun _ _ z => False.elim z
end

/-! ### blocks and small statements -/
section
variable {X : Cx} {st : Stmt} {rest : List Stmt} {t u : TS} {e : Expr} {te : TE} {pos : Pos}
def tNext : TS := fun D σ H => D.nx σ H
def tSeq (t u : TS) : TS := fun D σ H => t { D with nx := u D } σ H
theorem pss_nil : PSs X [] tNext := fun _ _ σ H _ I h => wpAny_execs_nil ⟨σ, H, I, h⟩
theorem pss_cons (h1 : PS X st t) (h2 : PSs X rest u) : PSs X (st :: rest) (tSeq t u) := by
  intro pins s σ H D I h
  refine wpAny_execs_cons (thn (h1 pins s σ H { D with nx := u D } I h) fun f s1 q => ?_)
  cases f with
  | next =>
    obtain ⟨σ', H', I', q⟩ := q
    exact h2 pins s1 σ' H' D I' q
  | ret v => exact q
  | brk => exact q
  | cont => exact q
theorem pss_one (h1 : PS X st t) : PSs X [st] t := by
  intro pins s σ H D I h
  refine wpAny_execs_cons (thn (h1 pins s σ H D I h) fun f s1 q => ?_)
  cases f with
  | next => exact wpAny_execs_nil q
  | ret v => exact q
  | brk => exact q
  | cont => exact q
def tBreak : TS := fun D σ H => D.bk σ H
def tCont : TS := fun D σ H => D.ct σ H
/-- in a def's body nothing is shown -/
theorem Inv.quiet {pins : List (Addr × Obj)} {σ : St} {H : Hp} {s : Shared} (I : Inv X pins σ H s) : interactive X.env = false := by simp [interactive, I.ok.kind]
/-- an expression whose value is dropped -/
def tDrop (te : TE) : TS := fun D σ H => te σ H fun _ H1 => D.nx σ H1
theorem ps_expr (he : PE X e te) (hs : swapsWith e none pos.line X.env = pure false := by rfl) : PS X (.Expr e pos) (tDrop te) := by
  intro pins s σ H D I h
  exact wpAny_Expr_any (thn (he pins s σ H _ I h) fun v s1 ⟨x, H1, I1, r1, q1⟩ => ⟨σ, H1, I1, q1⟩) I.quiet hs
def tRet (te : TE) : TS := fun D σ H => te σ H D.rt
theorem ps_ret (he : PE X e te) : PS X (.Return (some e) pos) (tRet te) := by
  intro pins s σ H D I h
  exact wpAny_Return_some (thn (he pins s σ H _ I h) fun v s1 ⟨x, H1, I1, r1, q1⟩ => ⟨x, σ, H1, I1, r1, q1⟩)
def tRetN : TS := fun D _ H => D.rt .non H
theorem ps_retN : PS X (.Return none pos) tRetN := fun _ _ σ H _ I h => wpAny_Return_none ⟨.non, σ, H, I, rfl, h⟩
def tIfS (c : TT) (t u : TS) : TS := fun D σ H => c σ H fun b H1 => if b = true then t D σ H1 else u D σ H1
theorem ps_if {c : Expr} {a b : List Stmt} {tc : TT} (hc : PT X c tc) (ha : PSs X a t) (hb : PSs X b u) : PS X (.If c a b pos) (tIfS tc t u) := by
  intro pins s σ H D I h
  refine wpAny_If (thn (hc pins s σ H _ I h) fun d s1 ⟨H1, I1, q1⟩ => ?_)
  cases d with
  | true => exact ha pins s1 σ H1 D I1 q1
  | false => exact hb pins s1 σ H1 D I1 q1
/-- code that the proof never comes to -/
def tNever : TS := fun _ _ _ => False
end

/-! ### targets -/
abbrev TG := V → St → Hp → (St → Hp → Prop) → Prop
abbrev TGs := List V → St → Hp → (St → Hp → Prop) → Prop
def PG (X : Cx) (target : Expr) (t : TG) : Prop :=
  ∀ (pins : List (Addr × Obj)) (s : Shared) (σ : St) (H : Hp) (v : V) (u : Value) (Q : St → Hp → Prop), Inv X pins σ H s → RelV v u → t v σ H Q →
    wpAny (model X.prog X.w) X.A (assign target X.env u) (fun _ s' => ∃ σ' H', Inv X pins σ' H' s' ∧ Q σ' H') X.xe s
/-- several targets, one after another -/
def PGs (X : Cx) (ts : List Expr) (t : TGs) : Prop :=
  ∀ (pins : List (Addr × Obj)) (s : Shared) (σ : St) (H : Hp) (vs : List V) (us : List Value) (Q : St → Hp → Prop), Inv X pins σ H s → Vals vs us → t vs σ H Q →
    wpAny (model X.prog X.w) X.A (assignInOrder ((assignEach ts X.env).map (·.2)) us) (fun _ s' => ∃ σ' H', Inv X pins σ' H' s' ∧ Q σ' H') X.xe s
/-- o[i] = v, by values -/
abbrev TSet := V → V → V → Hp → (Hp → Prop) → Prop
def PSet (X : Cx) (t : TSet) : Prop :=
  ∀ (pins : List (Addr × Obj)) (s : Shared) (σ : St) (H : Hp) (o i v : V) (ov iv u : Value) (Q : Hp → Prop), Inv X pins σ H s → RelV o ov → RelV i iv → RelV v u → t o i v H Q →
    wpAny (model X.prog X.w) X.A (setItem ov iv u) (fun _ s' => ∃ H', Inv X pins σ H' s' ∧ Q H') X.xe s
/-- a op= b, by values -/
abbrev TIp := V → V → Hp → VK → Prop
def PIp (X : Cx) (op : Operator) (t : TIp) : Prop :=
  ∀ (pins : List (Addr × Obj)) (s : Shared) (σ : St) (H : Hp) (x y : V) (v u : Value) (Q : VK), Inv X pins σ H s → RelV x v → RelV y u → t x y H Q →
    wpAny (model X.prog X.w) X.A (inplaceOp op v u) (EP X pins σ Q) X.xe s
section
variable {X : Cx} {pos : Pos}
def gName (i : Nat) : TG := fun v σ H Q => Q (σ.set i (some v)) H
theorem pg_name {i : Nat} {x : Str} (hN : X.N.Nodup) (hi : X.N[i]? = some x) (hx : Loc X.env.scope x) (hf : X.fn x = true ∨ X.env.scope.names.lookup x = some .local := by first | exact .inl rfl | exact .inr rfl | assumption) : PG X (.Name x pos) (gName i) := by
  intro pins s σ H v u Q I r h
  exact wpAny_assign_Name (store_ok I hN hi hx r (fun s' I' => ⟨_, H, I', h⟩) hf)
def gNil : TGs := fun vs σ H Q => vs = [] ∧ Q σ H
def gCons (t : TG) (u : TGs) : TGs := fun vs σ H Q => ∃ v r, vs = v :: r ∧ t v σ H fun σ' H' => u r σ' H' Q
/-- (a, b, ..) = a tuple of that length -/
def gTup (K : PySem.W.Frag) (n : Nat) (t : TGs) : TG := fun v σ H Q => ∃ a xs, v = .ref a ∧ SqT K H a xs ∧ xs.length = n ∧ t xs σ H Q
/-- o[i] = .. -/
def gSub (to ti : TE) (t : TSet) : TG := fun v σ H Q => to σ H fun o H1 => ti σ H1 fun i H2 => t o i v H2 fun H3 => Q σ H3
theorem pg_sub {o i : Expr} {to ti : TE} {t : TSet} (ho : PE X o to) (hi : PE X i ti) (hs : PSet X t)
    (ha : ∀ v, assign (.Subscript o i pos) X.env v = (do
      let ov ← holding [v] (eval o X.env)
      let iv ← holding [v, ov] (eval i X.env)
      standAt pos
      holding [v, ov, iv] (setItem ov iv v)
      release [v, ov, iv] []) := by intro _; rfl) : PG X (.Subscript o i pos) (gSub to ti t) := by
  intro pins s σ H v u Q I r h
  rw [ha]
  refine wpAny_bind (wpAny_holding (thn (ho pins s σ H _ I h) fun ov s1 ⟨x, H1, I1, r1, q1⟩ => ?_))
  refine wpAny_bind (wpAny_holding (thn (hi pins s1 σ H1 _ I1 q1) fun iv s2 ⟨y, H2, I2, r2, q2⟩ => ?_))
  refine wpAny_bind (wpAny_standAt (wpAny_bind (wpAny_holding (thn (hs pins s2 σ H2 x y v ov iv u _ I2 r1 r2 r q2) fun _ s3 ⟨H3, I3, q3⟩ => ?_))))
  exact wpAny_release ⟨σ, H3, I3, q3⟩
/-- target = value -/
def tAsg (te : TE) (g : TG) : TS := fun D σ H => te σ H fun x H1 => g x σ H1 D.nx
theorem ps_asg {tg e : Expr} {te : TE} {g : TG} (he : PE X e te) (hg : PG X tg g) (hs : swapsWithSole [tg] e pos.line X.env = pure false := by rfl) (hw : swappedStores [tg] e X.env = pure none := by rfl)
    (h1 : (assignEach [tg] X.env).map (·.2) = [assign tg X.env] := by rfl) : PS X (.Assign [tg] e pos) (tAsg te g) := by
  intro pins s σ H D I h
  refine wpAny_Assign_stores (thn (he pins s σ H _ I h) fun v s1 ⟨x, H1, I1, r1, q1⟩ => ?_) hs hw
  rw [h1]
  exact thn (hg pins s1 σ H1 x v _ I1 r1 q1) fun _ s2 q => q
/-- name = value -/
theorem ps_set {i : Nat} {x : Str} {e : Expr} {te : TE} {pos' : Pos} (hN : X.N.Nodup) (hi : X.N[i]? = some x) (hx : Loc X.env.scope x) (he : PE X e te) (hs : swapsWith e (some (.Name x pos')) pos.line X.env = pure false := by rfl) (hf : X.fn x = true ∨ X.env.scope.names.lookup x = some .local := by first | exact .inl rfl | exact .inr rfl | assumption) :
    PS X (.Assign [.Name x pos'] e pos) (tAsg te (gName i)) := by
  intro pins s σ H D I h
  refine wpAny_Assign_Name (thn (he pins s σ H _ I h) fun v s1 ⟨y, H1, I1, r1, q1⟩ => ?_) hs
  exact store_ok I1 hN hi hx r1 (fun s2 I2 => ⟨_, H1, I2, q1⟩) hf
/-- a, b = x, y with plain local names: stored from the right; the pair itself is not tracked (the opening rows as in PyProof/Rows/TupAssign.lean:23) -/
def tPar (i j : Nat) (ta : TA) : TS := fun D σ H => ta σ H fun vs H1 => ∃ v w, vs = [v, w] ∧ D.nx ((σ.set i (some v)).set j (some w)) H1
/-- name op= e -/
def tAug (i : Nat) (te : TE) (ti : TIp) : TS := fun D σ H => ∃ x, σ[i]? = some (some x) ∧ te σ H fun y H1 => ti x y H1 fun z H2 => D.nx (σ.set i (some z)) H2
/-- o[i] op= e -/
def tAugS (to ti te : TE) (tget : V → V → Hp → VK → Prop) (tip : TIp) (tset : TSet) : TS := fun D σ H => to σ H fun o H1 => ti σ H1 fun i H2 => tget o i H2 fun x H3 => te σ H3 fun y H4 => tip x y H4 fun z H5 => tset o i z H5 fun H6 => D.nx σ H6
/-- o[i], by values -/
def PGet (X : Cx) (t : V → V → Hp → VK → Prop) : Prop :=
  ∀ (pins : List (Addr × Obj)) (s : Shared) (σ : St) (H : Hp) (o i : V) (ov iv : Value) (Q : VK), Inv X pins σ H s → RelV o ov → RelV i iv → t o i H Q →
    wpAny (model X.prog X.w) X.A (getItem ov iv) (EP X pins σ Q) X.xe s
/-- ints -/
def ipI (f : Int → Int → Int) : TIp := fun x y H Q => ∃ i j, x = .int i ∧ y = .int j ∧ Q (.int (f i j)) H
end

/-! ### while -/
section
variable {X : Cx} {pos : Pos}
/-- the invariant W with its measure -/
def tWhile (c : TT) (tb : TS) : TS := fun D σ H => ∃ W : Nat → St → Hp → Prop, (∃ m, W m σ H) ∧ ∀ m σ H, W m σ H →
  c σ H fun b H1 => if b = true then ∃ N : St → Hp → Prop, (∀ σ' H', N σ' H' → ∃ m', m' < m ∧ W m' σ' H') ∧ tb { D with nx := N, ct := N, bk := D.nx } σ H1 else D.nx σ H1
theorem ps_while {c : Expr} {body : List Stmt} {tc : TT} {tb : TS} (hp : PassesOwn (model X.prog X.w) X.A X.env X.xe) (hc : PT X c tc) (hb : PSs X body tb) : PS X (.While c body [] pos) (tWhile tc tb) := by
  intro pins s σ H D I h
  obtain ⟨W, ⟨m0, w0⟩, turn⟩ := h
  refine wpAny_While (codeAny_whileLoop (fun n s' => ∃ σ' H', Inv X pins σ' H' s' ∧ W n σ' H') ?_ m0 ⟨σ, H, I, w0⟩)
  rintro n s1 ⟨σ1, H1, I1, w1⟩
  refine wpAny_passesOwn hp (thn (hc pins s1 σ1 H1 _ I1 (turn n σ1 H1 w1)) fun b s2 ⟨H2, I2, q2⟩ => ?_)
  cases b with
  | true =>
    obtain ⟨N, hN, q2⟩ := q2
    rw [if_pos rfl]
    refine wpAny_passesOwn hp (thn (hb pins s2 σ1 H2 _ I2 q2) fun f s3 q3 => ?_)
    cases f with
    | next =>
      obtain ⟨σ3, H3, I3, n3⟩ := q3
      obtain ⟨m', hm, w3⟩ := hN σ3 H3 n3
      exact ⟨m', hm, σ3, H3, I3, w3⟩
    | cont =>
      obtain ⟨σ3, H3, I3, n3⟩ := q3
      obtain ⟨m', hm, w3⟩ := hN σ3 H3 n3
      exact ⟨m', hm, σ3, H3, I3, w3⟩
    | brk => exact q3
    | ret v => exact q3
  | false =>
    rw [if_neg Bool.false_ne_true]
    exact wpAny_execs_nil ⟨σ1, H2, I2, q2⟩
end

/-! ### what a loop or a comprehension walks -/
/-- at turn i: it yields x (the heap may grow), or it stops -/
structure It where
  go : Nat → Hp → Prop
  yld : Nat → Hp → V → Hp → Prop
  stop : Nat → Hp → Prop
/-- the iterator's own objects may turn: they are not the frame's, not pinned, younger than the entry (or a comprehension's own) -/
def FpOk (X : Cx) (pins : List (Addr × Obj)) (H : Hp) (b : Addr) : Prop :=
  H b = none ∧ b ≠ X.env.locals ∧ b ∉ X.fs ∧ (b ∈ X.ex ∨ X.s₀.heap.objs.size ≤ b) ∧ (∀ x c, X.env.cells.lookup x = some c → c ≠ b) ∧ ∀ p ∈ X.pn ++ pins, p.1 ≠ b
theorem Inv.fpOk {X : Cx} {pins : List (Addr × Obj)} {σ : St} {H H' : Hp} {s : Shared} {b : Addr} (I : Inv X pins σ H s) (hb : s.heap.objs.size ≤ b) (hn : H' b = none) : FpOk X pins H' b := by
  refine ⟨hn, Nat.ne_of_gt (Nat.lt_of_lt_of_le I.lt hb), I.nofs hb, .inr (Nat.le_trans I.sz hb), fun x c e z => ?_, fun p hp z => ?_⟩
  · obtain ⟨v, q⟩ := I.cell x c e
    exact absurd (Nat.lt_of_lt_of_le q.lt (by rw [z]; exact hb)) (Nat.lt_irrefl _)
  · exact absurd (Nat.lt_of_lt_of_le (Heap.lt_size (I.pin p hp).1) (by rw [z]; exact hb)) (Nat.lt_irrefl _)
structure Turn (P : Program) (w : World) (K : PySem.W.Frag) (tg : Expr) (J : It) (fp : List Addr) (it : Addr) (tn : Nat → Heap → Prop) : Prop where
  mem : it ∈ fp
  obj : ∀ i h, tn i h → ∀ b ∈ fp, ∃ o, h.get? b = some o ∧ ∀ v, o.data ≠ .cell v
  keep : ∀ i h h', tn i h → (∀ b ∈ fp, ∀ o, h.get? b = some o → h'.get? b = some o) → tn i h'
  item : ∀ (X : Cx), X.prog = P → X.w = w → X.K = K → X.calm = true → ∀ (i : Nat) (pins : List (Addr × Obj)) (s : Shared) (σ : St) (H : Hp) (E : Value → Shared → Prop), Inv X pins σ H s → (∀ b ∈ fp, FpOk X pins H b) → tn i s.heap → J.go i H →
    wpAny (model P w) X.A (pyNext (.ref it)) (fun r s1 => ∃ u, r = some u ∧
      wpAny (model P w) X.A (letOwnedTupleGo tg (.ref it) u) (fun _ s2 => ∃ x H', Inv X pins σ H' s2 ∧ RelV x u ∧ J.yld i H x H' ∧ tn (i + 1) s2.heap ∧ ∀ b ∈ fp, H' b = none) E s1) E s
  done : ∀ (X : Cx), X.prog = P → X.w = w → X.K = K → X.calm = true → ∀ (i : Nat) (pins : List (Addr × Obj)) (s : Shared) (σ : St) (H : Hp) (E : Value → Shared → Prop), Inv X pins σ H s → (∀ b ∈ fp, FpOk X pins H b) → tn i s.heap → J.stop i H →
    wpAny (model P w) X.A (pyNext (.ref it)) (fun r s1 => r = none ∧ Inv X pins σ H s1) E s
  self : ∀ (A : Around) (i : Nat) (s : Shared) (Q : Value → Shared → Prop) (E : Value → Shared → Prop), tn i s.heap → Q (.ref it) s → wpAny (model P w) A (pyIter (.ref it)) Q E s
abbrev TI := St → Hp → (It → Hp → Prop) → Prop
/-- an iterator has come -/
def PIE (X : Cx) (pins : List (Addr × Obj)) (σ : St) (tg : Expr) (R : It → Hp → Prop) (itv : Value) (s2 : Shared) : Prop :=
  ∃ (it : Addr) (fp : List Addr) (tn : Nat → Heap → Prop) (J : It) (H' : Hp), itv = .ref it ∧ Inv X pins σ H' s2 ∧ Turn X.prog X.w X.K tg J fp it tn ∧ tn 0 s2.heap ∧ (∀ b ∈ fp, FpOk X pins H' b) ∧ R J H'
def PI (X : Cx) (tg iter : Expr) (wi : TI) : Prop :=
  ∀ (pins : List (Addr × Obj)) (s : Shared) (σ : St) (H : Hp) (R : It → Hp → Prop), Inv X pins σ H s → wi σ H R →
    wpAny (model X.prog X.w) X.A (eval iter X.env) (fun v s1 => wpAny (model X.prog X.w) X.A (pyIter v) (PIE X pins σ tg R) X.xe s1) X.xe s

/-- the step ahead of the store is nothing for an iterator that keeps no tuple -/
theorem go_of {M : Model} {A : Around} {E : Value → Shared → Prop} {s : Shared} {tg : Expr} {it : Addr} {u : Value} {o : Obj} {n : String} {vs : Array Value} {Q : Unit → Shared → Prop} (ho : s.heap.get? it = some o) (hc : o.cls = .type n) (hd : o.data = .fields vs)
    (hn : ["enumerate", "zip", "dict_itemiterator", "dict_reverseitemiterator", "odict_iterator", "itertools.zip_longest", "itertools.pairwise"].contains n = false) (hQ : Q () s) : wpAny M A (letOwnedTupleGo tg (.ref it) u) Q E s := by
  unfold letOwnedTupleGo
  cases tg <;> first
    | exact wpAny_pure hQ
    | (cases u <;> first
        | exact wpAny_pure hQ
        | (refine wpAny_bind (wpAny_load ho ?_)
           rw [hc, hd]
           show wpAny M A (if (["enumerate", "zip", "dict_itemiterator", "dict_reverseitemiterator", "odict_iterator", "itertools.zip_longest", "itertools.pairwise"].contains n && vs[0]? == some (rawInt _)) = true then _ else _) Q E s
           rw [if_neg (by intro h; rw [hn, Bool.false_and] at h; cases h)]
           exact wpAny_pure hQ))

/-- the list at a, as it stands at each turn (a loop may append to it) -/
def Itl (K : PySem.W.Frag) (a : Addr) : It :=
  ⟨fun i H => ∃ xs x, SqL K H a xs ∧ xs[i]? = some x, fun i H x H' => H' = H ∧ ∀ xs, SqL K H a xs → xs[i]? = some x, fun i H => ∃ xs, SqL K H a xs ∧ xs.length ≤ i⟩
def Itt (K : PySem.W.Frag) (a : Addr) : It :=
  ⟨fun i H => ∃ xs x, SqT K H a xs ∧ xs[i]? = some x, fun i H x H' => H' = H ∧ ∀ xs, SqT K H a xs → xs[i]? = some x, fun i H => ∃ xs, SqT K H a xs ∧ xs.length ≤ i⟩
/-- lo, lo + 1, .. (n of them) -/
def Itr (lo : Int) (n : Nat) : It := ⟨fun i _ => i < n, fun i H x H' => H' = H ∧ x = .int (lo + i), fun i _ => n ≤ i⟩
theorem turn_list {P : Program} {w : World} {K : PySem.W.Frag} {tg : Expr} (a it : Addr) : Turn P w K tg (Itl K a) [it] it (fun i h => h.IsListIter it a i) where
  mem := by simp
  obj := fun i h st b hb => by
    have e : b = it := by simpa using hb
    subst e
    obtain ⟨o, e, c, d⟩ := st
    exact ⟨o, e, fun v z => by rw [d] at z; cases z⟩
  keep := fun i h h' st k => st.at fun o e => k it (by simp) o e
  item := by
    intro X hP hw hK hc i pins s σ H E I hf st hg
    subst hP hw hK
    obtain ⟨xs, x, hq, hx⟩ := hg
    obtain ⟨its, rv, p, hz⟩ := I.list hq
    obtain ⟨u, hu, ru⟩ := rv.get hx
    obtain ⟨f0, f1, f2, f3, f4, f5⟩ := hf it (by simp)
    refine wpAny_pyNext_list_item st p.isList (x := u) (by simpa using hu) fun h' st' sb => ?_
    have I1 : Inv X pins σ H { s with heap := h' } := I.turned (t' := s.toks) (fun b o hb e => (sb.2 b hb).trans e) f0 f1 f3 f4 f5
    obtain ⟨o, e, c, d⟩ := id st'
    exact ⟨u, rfl, go_of (s := { s with heap := h' }) e c d (by decide) ⟨x, H, I1, ru, ⟨rfl, fun ys hy => by rw [I.list_inj hy hq]; exact hx⟩, st', fun b hb => (hf b hb).1⟩⟩
  done := by
    intro X hP hw hK hc i pins s σ H E I hf st hg
    subst hP hw hK
    obtain ⟨xs, hq, hx⟩ := hg
    obtain ⟨its, rv, p, hz⟩ := I.list hq
    obtain ⟨f0, f1, f2, f3, f4, f5⟩ := hf it (by simp)
    have hl := rv.length
    exact wpAny_pyNext_list_end (I.ok.hd hc) st p.isList (by simp; omega) fun h' eb => ⟨rfl, I.turned (t' := s.toks) (fun b o hb e => eb b o hb e) f0 f1 f3 f4 f5⟩
  self := fun _ _ _ _ _ st h => wpAny_pyIter_listiter st h
theorem turn_range {P : Program} {w : World} {K : PySem.W.Frag} {tg : Expr} (it : Addr) (lo : Int) (n : Nat) : Turn P w K tg (Itr lo n) [it] it (fun i h => IsRangeIter h it (lo + (i : Nat) * 1) ((n : Int) - (i : Nat)) 1) where
  mem := by simp
  obj := fun i h st b hb => by
    have e : b = it := by simpa using hb
    subst e
    exact ⟨_, st, fun v z => by
      have z' : Data.fields _ = Data.cell v := z
      cases z'⟩
  keep := fun i h h' st k => k it (by simp) _ st
  item := by
    intro X hP hw hK hc i pins s σ H E I hf st hg
    subst hP hw hK
    obtain ⟨f0, f1, f2, f3, f4, f5⟩ := hf it (by simp)
    have W := Walks.range (prog := X.prog) (w := X.w) (I.ok.hd hc) it lo 1 n
    refine W.item i s _ _ hg st fun v h' tk hv st' kk => ?_
    obtain ⟨t, rfl⟩ := hv
    have I1 : Inv X pins σ H { s with heap := h', toks := tk } := I.turned (fun b o hb e => kk b o (by simpa using hb) e) f0 f1 f3 f4 f5
    refine ⟨_, rfl, go_of (s := { s with heap := h', toks := tk }) (n := "range_iterator") st' rfl rfl (by decide) ⟨.int (lo + i), H, I1, ⟨t, ?_⟩, ⟨rfl, rfl⟩, st', fun b hb => (hf b hb).1⟩⟩
    rw [Int.mul_one]
  done := by
    intro X hP hw hK hc i pins s σ H E I hf st hg
    subst hP hw hK
    obtain ⟨f0, f1, f2, f3, f4, f5⟩ := hf it (by simp)
    exact wpAny_pyNext_range_end (I.ok.hd hc) st (by have : n ≤ i := hg; omega) fun h' eb => ⟨rfl, I.turned (t' := s.toks) (fun b o hb e => eb b o hb e) f0 f1 f3 f4 f5⟩
  self := fun _ _ _ _ _ st h => wpAny_pyIter_rangeiter st h
end L2

namespace L2
open PySem PySem.Spec PyProof.Rows
section
variable {X : Cx} {tg : Expr}
def iList (K : PySem.W.Frag) (tl : TE) : TI := fun σ H R => tl σ H fun x H1 => ∃ a, x = .ref a ∧ (∃ xs, SqL K H1 a xs) ∧ R (Itl K a) H1
def iTup (K : PySem.W.Frag) (tl : TE) : TI := fun σ H R => tl σ H fun x H1 => ∃ a, x = .ref a ∧ (∃ xs, SqT K H1 a xs) ∧ R (Itt K a) H1
theorem pi_list {l : Expr} {tl : TE} (hl : PE X l tl) : PI X tg l (iList X.K tl) := by
  intro pins s σ H R I h
  refine thn (hl pins s σ H _ I h) fun v s1 ⟨x, H1, I1, r1, q1⟩ => ?_
  obtain ⟨a, e, ⟨xs, hq⟩, q⟩ := q1
  subst e
  cases r1
  obtain ⟨its, rv, p, hz⟩ := I1.list hq
  refine wpAny_pyIter_list p.isList ?_
  refine ⟨s1.heap.objs.size, [s1.heap.objs.size], _, _, H1, rfl, I1.kept (t' := s1.toks) fun b o e => Heap.get?_push_of_some _ e, turn_list a _, ⟨_, Heap.get?_push_size _ rfl, rfl, rfl⟩, fun b hb => ?_, q⟩
  have e : b = s1.heap.objs.size := by simpa using hb
  subst e
  exact I1.fpOk (Nat.le_refl _) (I1.hok.fresh (Nat.le_refl _))
/-- a range object just made, walked -/
theorem range_it {pins : List (Addr × Obj)} {σ : St} {H : Hp} {s : Shared} {R : It → Hp → Prop} {E : Value → Shared → Prop} {lo hi : Int} {t u v : Tok} {tk : Nat} (I : Inv X pins σ H s) (h1 : -(2 ^ 62) ≤ lo) (h2 : lo < 2 ^ 62) (h3 : -(2 ^ 62) ≤ hi) (h4 : hi < 2 ^ 62)
    (q : R (Itr lo (hi - lo).toNat) H) : wpAny (model X.prog X.w) X.A (pyIter (.ref s.heap.objs.size)) (PIE X pins σ tg R) E { s with heap := s.heap.push { cls := .type "range", data := .fields #[.int lo t, .int hi u, .int 1 v] }, toks := tk } := by
  refine wpAny_pyIter_range (IsRange.new ..) (small_one h1 h2 h3 h4) ?_
  have I1 : Inv X pins σ H { s with heap := s.heap.push { cls := .type "range", data := .fields #[.int lo t, .int hi u, .int 1 v] }, toks := tk } := I.kept fun b o e => Heap.get?_push_of_some _ e
  refine ⟨(s.heap.push { cls := .type "range", data := .fields #[.int lo t, .int hi u, .int 1 v] }).objs.size, [(s.heap.push { cls := .type "range", data := .fields #[.int lo t, .int hi u, .int 1 v] }).objs.size], _, _, H, rfl,
    I1.kept (t' := tk) fun b o e => Heap.get?_push_of_some _ e, turn_range _ lo (hi - lo).toNat, ?_, fun b hb => ?_, q⟩
  · have e1 : lo + ((0 : Nat) : Int) * 1 = lo := by simp
    have e2 : (((hi - lo).toNat : Nat) : Int) - ((0 : Nat) : Int) = Builtin.Range.rangeSize lo hi 1 := by rw [rangeSize_one]; split <;> omega
    show IsRangeIter _ _ (lo + ((0 : Nat) : Int) * 1) ((((hi - lo).toNat : Nat) : Int) - ((0 : Nat) : Int)) 1
    rw [e1, e2]
    exact Heap.get?_push_size _ rfl
  · have e : b = (s.heap.push { cls := .type "range", data := .fields #[.int lo t, .int hi u, .int 1 v] }).objs.size := by simpa using hb
    subst e
    exact I1.fpOk (Nat.le_refl _) (I1.hok.fresh (Nat.le_refl _))
def iRng1 (ta : TA) : TI := fun σ H R => ta σ H fun vs H1 => ∃ j : Int, vs = [.int j] ∧ -(2 ^ 62) ≤ j ∧ j < 2 ^ 62 ∧ R (Itr 0 j.toNat) H1
def iRng2 (ta : TA) : TI := fun σ H R => ta σ H fun vs H1 => ∃ i j : Int, vs = [.int i, .int j] ∧ (-(2 ^ 62) ≤ i ∧ i < 2 ^ 62 ∧ -(2 ^ 62) ≤ j ∧ j < 2 ^ 62) ∧ R (Itr i (j - i).toNat) H1
theorem pi_range1 {a : Expr} {ta : TA} {p pos : Pos} (hg : Gl X "range") (hm : X.mg "range" = none) (ha : PA X [a] ta) (hs : starEach [a] X.env = [(false, eval a X.env)] := by rfl) : PI X tg (.Call (.Name "range" p) [a] [] pos) (iRng1 ta) := by
  intro pins s σ H R I h
  refine Call_ (ld_blt I hg hm boot_range (PyProof.Rows.callWith_type1 (thn (ha pos pins s σ H _ I h) fun us s1 ⟨vs, H1, I1, r1, q1⟩ => ?_) hs rfl))
  obtain ⟨j, e, q1, q2, q⟩ := q1
  subst e
  cases r1 with
  | cons r rr =>
    cases rr
    obtain ⟨t, rfl⟩ := r
    exact call_range_1 (range_it I1 (by omega) (by omega) q1 q2 (by simpa using q))
/-! ### for -/
/-- W: the invariant by the turn and a measure; N: what the body is to reach -/
def tFor (wi : TI) (g : TG) (tb : TS) : TS := fun D σ H => wi σ H fun J H1 => ∃ W : Nat → Nat → St → Hp → Prop, (∃ m, W 0 m σ H1) ∧ ∀ i m σ H, W i m σ H →
  (J.stop i H ∧ D.nx σ H) ∨ (J.go i H ∧ ∃ N : St → Hp → Prop, (∀ σ' H', N σ' H' → ∃ m', m' < m ∧ W (i + 1) m' σ' H') ∧ ∀ x H', J.yld i H x H' → g x σ H' fun σ2 H2 => tb { D with nx := N, ct := N, bk := D.nx } σ2 H2)
/-- the records at fp as they stand -/
def pinsAt (fp : List Addr) (h : Heap) : List (Addr × Obj) := fp.filterMap fun b => (h.get? b).map fun o => (b, o)
theorem mem_pinsAt {fp : List Addr} {h : Heap} {b : Addr} {o : Obj} (hb : b ∈ fp) (e : h.get? b = some o) : (b, o) ∈ pinsAt fp h := List.mem_filterMap.mpr ⟨b, hb, by rw [e]; rfl⟩
theorem of_pinsAt {fp : List Addr} {h : Heap} {p : Addr × Obj} (hp : p ∈ pinsAt fp h) : p.1 ∈ fp ∧ h.get? p.1 = some p.2 := by
  obtain ⟨b, hb, e⟩ := List.mem_filterMap.mp hp
  cases q : h.get? b with
  | none => rw [q] at e; cases e
  | some o =>
    rw [q] at e
    have e' : (b, o) = p := Option.some.inj e
    subst e'
    exact ⟨hb, q⟩
theorem Inv.pinned {pins : List (Addr × Obj)} {σ : St} {H : Hp} {s : Shared} {fp : List Addr} (I : Inv X pins σ H s) (hf : ∀ b ∈ fp, FpOk X pins H b) (ho : ∀ b ∈ fp, ∃ o, s.heap.get? b = some o ∧ ∀ v, o.data ≠ .cell v) : Inv X (pins ++ pinsAt fp s.heap) σ H s :=
  I.pins_of fun p hp => (List.mem_append.mp hp).elim (fun z => I.pin p (List.mem_append_right _ z)) fun z => by
    obtain ⟨hb, e⟩ := of_pinsAt z
    obtain ⟨f0, f1, f2, _⟩ := hf p.1 hb
    obtain ⟨o, e', d⟩ := ho p.1 hb
    rw [e] at e'; cases e'
    exact ⟨e, f0, f1, f2, d⟩
theorem Inv.unpinned {pins pl : List (Addr × Obj)} {σ : St} {H : Hp} {s : Shared} (I : Inv X (pins ++ pl) σ H s) : Inv X pins σ H s := I.pins_of fun p hp => I.pin p (List.mem_append_right _ (List.mem_append_left _ hp))
theorem ps_for {iter : Expr} {body : List Stmt} {wi : TI} {g : TG} {tb : TS} {pos : Pos} (hp : PassesOwn (model X.prog X.w) X.A X.env X.xe) (hc : X.calm = true) (hi : PI X tg iter wi) (hg : PG X tg g) (hb : PSs X body tb)
    (hs : ∀ x, foldedSetIterable iter X.env x = pure x := by intro _; rfl) : PS X (.For tg iter body [] pos) (tFor wi g tb) := by
  intro pins s σ H D I h
  refine wpAny_For (thn (hi pins s σ H _ I h) fun v s1 h1 => thn h1 fun itv s2 h2 => ?_) hs
  obtain ⟨it, fp, tn, J, H2, e, I2, T, st2, f2, W, ⟨m0, w0⟩, turn⟩ := h2
  subst e
  -- what stays true of the iterator's objects through the loop
  have stat : ∀ {H' : Hp}, (∀ b ∈ fp, H' b = none) → ∀ b ∈ fp, FpOk X pins H' b := fun hn b hb => ⟨hn b hb, (f2 b hb).2⟩
  refine codeAny_forLoop_any (fun n s' => ∃ i σ' H', Inv X pins σ' H' s' ∧ tn i s'.heap ∧ (∀ b ∈ fp, H' b = none) ∧ W i n σ' H') ?_ m0 ⟨0, σ, H2, I2, st2, fun b hb => (f2 b hb).1, w0⟩
  rintro n s3 ⟨i, σ3, H3, I3, st3, fr3, w3⟩
  rcases turn i n σ3 H3 w3 with ⟨stop, qn⟩ | ⟨go, N, hN, step⟩
  · refine wpAny_passesOwn hp (thn (T.done X rfl rfl rfl hc i pins s3 σ3 H3 X.xe I3 (stat fr3) st3 stop) fun r s4 ⟨hr, I4⟩ => ?_)
    subst hr
    exact wpAny_execs_nil ⟨σ3, H3, I4, qn⟩
  · refine wpAny_passesOwn hp (thn (T.item X rfl rfl rfl hc i pins s3 σ3 H3 X.xe I3 (stat fr3) st3 go) fun r s4 ⟨u, hr, h4⟩ => ?_)
    subst hr
    refine wpAny_passesOwn hp (thn h4 fun _ s5 ⟨x, H5, I5, r5, y5, st5, fr5⟩ => ?_)
    have I5' := I5.pinned (stat fr5) (T.obj _ _ st5)
    refine wpAny_passesOwn hp (thn (hg _ s5 σ3 H5 x u _ I5' r5 (step x H5 y5)) fun _ s6 ⟨σ6, H6, I6, q6⟩ => ?_)
    refine wpAny_passesOwn hp (thn (hb _ s6 σ6 H6 _ I6 q6) fun f s7 q7 => ?_)
    have again : ∀ {σ7 : St} {H7 : Hp}, Inv X (pins ++ pinsAt fp s5.heap) σ7 H7 s7 → N σ7 H7 → ∃ m, m < n ∧ ∃ i σ' H', Inv X pins σ' H' s7 ∧ tn i s7.heap ∧ (∀ b ∈ fp, H' b = none) ∧ W i m σ' H' := fun {σ7 H7} I7 n7 => by
      obtain ⟨m', hm, w7⟩ := hN σ7 H7 n7
      refine ⟨m', hm, i + 1, σ7, H7, I7.unpinned, T.keep _ _ _ st5 fun b hb o e => (I7.pin (b, o) (List.mem_append_right _ (List.mem_append_right _ (mem_pinsAt hb e)))).1, fun b hb => ?_, w7⟩
      obtain ⟨o, e, d⟩ := T.obj _ _ st5 b hb
      exact (I7.pin (b, o) (List.mem_append_right _ (List.mem_append_right _ (mem_pinsAt hb e)))).2.1
    cases f with
    | next => obtain ⟨σ7, H7, I7, n7⟩ := q7; exact again I7 n7
    | cont => obtain ⟨σ7, H7, I7, n7⟩ := q7; exact again I7 n7
    | brk => obtain ⟨σ7, H7, I7, q7⟩ := q7; exact ⟨σ7, H7, I7.unpinned, q7⟩
    | ret v => obtain ⟨x7, σ7, H7, I7, r7, q7⟩ := q7; exact ⟨x7, σ7, H7, I7.unpinned, r7, q7⟩
end

/-! ### the forms one uses -/
/-- over a list that the body leaves as it is -/
theorem for_list {K : PySem.W.Frag} {a : Addr} {xs : List V} {g : TG} {tb : TS} {D : Ends} {σ : St} {H : Hp} (Pv : Nat → St → Hp → Prop) (h0 : Pv 0 σ H) (hl : ∀ i σ H, i ≤ xs.length → Pv i σ H → SqL K H a xs)
    (hs : ∀ i x σ H, xs[i]? = some x → Pv i σ H → g x σ H fun σ2 H2 => tb { D with nx := Pv (i + 1), ct := Pv (i + 1), bk := D.nx } σ2 H2) (hd : ∀ σ H, Pv xs.length σ H → D.nx σ H) :
    ∃ W : Nat → Nat → St → Hp → Prop, (∃ m, W 0 m σ H) ∧ ∀ i m σ H, W i m σ H →
      ((Itl K a).stop i H ∧ D.nx σ H) ∨ ((Itl K a).go i H ∧ ∃ N : St → Hp → Prop, (∀ σ' H', N σ' H' → ∃ m', m' < m ∧ W (i + 1) m' σ' H') ∧ ∀ x H', (Itl K a).yld i H x H' → g x σ H' fun σ2 H2 => tb { D with nx := N, ct := N, bk := D.nx } σ2 H2) := by
  refine ⟨fun i m σ H => m = xs.length - i ∧ i ≤ xs.length ∧ Pv i σ H, ⟨xs.length, by simp, Nat.zero_le _, h0⟩, ?_⟩
  rintro i m σ H ⟨rfl, hi, p⟩
  have q := hl i σ H hi p
  by_cases hlt : i < xs.length
  · refine .inr ⟨⟨xs, xs[i], q, by simp [hlt]⟩, Pv (i + 1), fun σ' H' p' => ⟨xs.length - (i + 1), by omega, rfl, hlt, p'⟩, fun x H' y => ?_⟩
    obtain ⟨e, y⟩ := y
    subst e
    exact hs i x σ _ (y xs q) p
  · have e : i = xs.length := by omega
    subst e
    exact .inl ⟨⟨xs, q, Nat.le_refl _⟩, hd σ H p⟩
theorem for_range {lo : Int} {n : Nat} {g : TG} {tb : TS} {D : Ends} {σ : St} {H : Hp} (Pv : Nat → St → Hp → Prop) (h0 : Pv 0 σ H)
    (hs : ∀ i σ H, i < n → Pv i σ H → g (.int (lo + i)) σ H fun σ2 H2 => tb { D with nx := Pv (i + 1), ct := Pv (i + 1), bk := D.nx } σ2 H2) (hd : ∀ σ H, Pv n σ H → D.nx σ H) :
    ∃ W : Nat → Nat → St → Hp → Prop, (∃ m, W 0 m σ H) ∧ ∀ i m σ H, W i m σ H →
      ((Itr lo n).stop i H ∧ D.nx σ H) ∨ ((Itr lo n).go i H ∧ ∃ N : St → Hp → Prop, (∀ σ' H', N σ' H' → ∃ m', m' < m ∧ W (i + 1) m' σ' H') ∧ ∀ x H', (Itr lo n).yld i H x H' → g x σ H' fun σ2 H2 => tb { D with nx := N, ct := N, bk := D.nx } σ2 H2) := by
  refine ⟨fun i m σ H => m = n - i ∧ i ≤ n ∧ Pv i σ H, ⟨n, by simp, Nat.zero_le _, h0⟩, ?_⟩
  rintro i m σ H ⟨rfl, hi, p⟩
  by_cases hlt : i < n
  · refine .inr ⟨hlt, Pv (i + 1), fun σ' H' p' => ⟨n - (i + 1), by omega, rfl, hlt, p'⟩, fun x H' y => ?_⟩
    obtain ⟨e, y⟩ := y
    subst e y
    exact hs i σ _ hlt p
  · have e : i = n := by omega
    subst e
    exact .inl ⟨Nat.le_refl _, hd σ H p⟩
end L2

namespace L2
open PySem PySem.Spec PyProof.Rows

abbrev R2 := V → V → Hp → VK → Prop
/-- a two-place operation on values: f is binaryOp op, inplaceOp op or compareOp op -/
def OpR (X : Cx) (f : Value → Value → Sem Value) (r : R2) : Prop :=
  ∀ (pins : List (Addr × Obj)) (s : Shared) (σ : St) (H : Hp) (x y : V) (v u : Value) (Q : VK), Inv X pins σ H s → RelV x v → RelV y u → r x y H Q →
    wpAny (model X.prog X.w) X.A (f v u) (EP X pins σ Q) X.xe s
/-- a one-place operation -/
def UnR (X : Cx) (f : Value → Sem Value) (r : V → Hp → VK → Prop) : Prop :=
  ∀ (pins : List (Addr × Obj)) (s : Shared) (σ : St) (H : Hp) (x : V) (v : Value) (Q : VK), Inv X pins σ H s → RelV x v → r x H Q →
    wpAny (model X.prog X.w) X.A (f v) (EP X pins σ Q) X.xe s
/-- a call of a value that is known (a builtin, a type) with values -/
def CallR (X : Cx) (f : Value) (r : List V → Hp → VK → Prop) : Prop :=
  ∀ (pins : List (Addr × Obj)) (s : Shared) (σ : St) (H : Hp) (xs : List V) (us : List Value) (Q : VK), Inv X pins σ H s → Vals xs us → r xs H Q →
    wpAny (model X.prog X.w) X.A (call f us) (EP X pins σ Q) X.xe s
/-- a value's truth -/
def TruR (X : Cx) (r : V → Hp → (Bool → Hp → Prop) → Prop) : Prop :=
  ∀ (pins : List (Addr × Obj)) (s : Shared) (σ : St) (H : Hp) (x : V) (v : Value) (Q : Bool → Hp → Prop), Inv X pins σ H s → RelV x v → r x H Q →
    wpAny (model X.prog X.w) X.A (truthy v) (TP X pins σ Q) X.xe s

def tOp (r : R2) (ta tb : TE) : TE := fun σ H Q => ta σ H fun x H1 => tb σ H1 fun y H2 => r x y H2 Q
def tUn (r : V → Hp → VK → Prop) (ta : TE) : TE := fun σ H Q => ta σ H fun x H1 => r x H1 Q
/-- ints in, under C, and a value out -/
def rI (C : Int → Int → Prop) (g : Int → Int → V) : R2 := fun x y H Q => ∃ i j, x = .int i ∧ y = .int j ∧ C i j ∧ Q (g i j) H
def rI0 (g : Int → Int → V) : R2 := fun x y H Q => ∃ i j, x = .int i ∧ y = .int j ∧ Q (g i j) H
def rU (g : Int → V) : V → Hp → VK → Prop := fun x H Q => ∃ i, x = .int i ∧ Q (g i) H

section
variable {X : Cx} {a b c : Expr} {ta tb tc : TE} {pos : Pos}

theorem binT (ha : PE X a ta) (hb : PE X b tb) {pins : List (Addr × Obj)} {s : Shared} {σ : St} {H : Hp} {R : V → V → Hp → Prop} (I : Inv X pins σ H s)
    (h : ta σ H fun x H1 => tb σ H1 fun y H2 => R x y H2) {Q : Value → Shared → Prop} {f : Value → Value → Sem Value}
    (hf : ∀ v u s2 x y H2, Inv X pins σ H2 s2 → RelV x v → RelV y u → R x y H2 → wpAny (model X.prog X.w) X.A (f v u) Q X.xe s2) :
    wpAny (model X.prog X.w) X.A (eval a X.env) (fun v s₁ => wpAny (model X.prog X.w) X.A (eval b X.env) (fun u s₂ => wpAny (model X.prog X.w) X.A (f v u) Q X.xe s₂) X.xe s₁) X.xe s := by
  refine thn (ha pins s σ H _ I h) fun v s1 ⟨x, H1, I1, r1, q1⟩ => ?_
  refine thn (hb pins s1 σ H1 _ I1 q1) fun u s2 ⟨y, H2, I2, r2, q2⟩ => ?_
  exact hf v u s2 x y H2 I2 r1 r2 q2

theorem pe_op {op : Operator} {r : R2} (ho : OpR X (binaryOp op) r) (ha : PE X a ta) (hb : PE X b tb) : PE X (.BinOp a op b pos) (tOp r ta tb) := by
  intro pins s σ H Q I h
  exact wpAny_BinOp (binT ha hb I h fun v u s2 x y H2 I2 rx ry q => ho pins s2 σ H2 x y v u Q I2 rx ry q)
theorem pe_un {op : UnaryOp} {r : V → Hp → VK → Prop} (ho : UnR X (unaryOp op) r) (ha : PE X a ta) : PE X (.UnaryOp op a pos) (tUn r ta) := by
  intro pins s σ H Q I h
  exact UnaryOp_ (thn (ha pins s σ H _ I h) fun v s1 ⟨x, H1, I1, r1, q1⟩ => ho pins s1 σ H1 x v Q I1 r1 q1)
/-! ### ints -/
theorem opI {f : Value → Value → Sem Value} {C : Int → Int → Prop} {g : Int → Int → Int}
    (rule : ∀ (i j : Int) (t u : Tok) (s : Shared) (Q : Value → Shared → Prop) (E : Value → Shared → Prop), C i j → Q (.int (g i j) s.toks) { s with toks := s.toks + 1 } → wpAny (model X.prog X.w) X.A (f (.int i t) (.int j u)) Q E s) :
    OpR X f (rI C fun i j => .int (g i j)) := by
  intro pins s σ H x y v u Q I rx ry h
  obtain ⟨i, j, rfl, rfl, hc, q⟩ := h
  obtain ⟨t, rfl⟩ := rx
  obtain ⟨t', rfl⟩ := ry
  exact rule i j t t' s _ _ hc ⟨.int (g i j), H, I.tok _, ⟨_, rfl⟩, q⟩
theorem opI0 {f : Value → Value → Sem Value} {g : Int → Int → Int}
    (rule : ∀ (i j : Int) (t u : Tok) (s : Shared) (Q : Value → Shared → Prop) (E : Value → Shared → Prop), Q (.int (g i j) s.toks) { s with toks := s.toks + 1 } → wpAny (model X.prog X.w) X.A (f (.int i t) (.int j u)) Q E s) :
    OpR X f (rI0 fun i j => .int (g i j)) := by
  intro pins s σ H x y v u Q I rx ry h
  obtain ⟨i, j, rfl, rfl, q⟩ := h
  obtain ⟨t, rfl⟩ := rx
  obtain ⟨t', rfl⟩ := ry
  exact rule i j t t' s _ _ ⟨.int (g i j), H, I.tok _, ⟨_, rfl⟩, q⟩
theorem opB0 {f : Value → Value → Sem Value} {g : Int → Int → Bool}
    (rule : ∀ (i j : Int) (t u : Tok) (s : Shared) (Q : Value → Shared → Prop) (E : Value → Shared → Prop), Q (.bool (g i j)) s → wpAny (model X.prog X.w) X.A (f (.int i t) (.int j u)) Q E s) :
    OpR X f (rI0 fun i j => .bl (g i j)) := by
  intro pins s σ H x y v u Q I rx ry h
  obtain ⟨i, j, rfl, rfl, q⟩ := h
  obtain ⟨t, rfl⟩ := rx
  obtain ⟨t', rfl⟩ := ry
  exact rule i j t t' s _ _ ⟨.bl (g i j), H, I, rfl, q⟩

def CDiv (i j : Int) : Prop := 0 < j ∧ j < 1073741824
def CDivN (i j : Int) : Prop := j ≠ 0 ∧ j.natAbs < 1073741824
def CPow (i j : Int) : Prop := 0 ≤ j ∧ j ≤ 1000000 ∧ i.natAbs < 2 ^ 64
def CMul (i j : Int) : Prop := (-(2 ^ 64) < i ∧ i < 2 ^ 64) ∨ (-(2 ^ 64) < j ∧ j < 2 ^ 64)
theorem CMul.ok {i j : Int} (h : CMul i j) : IntMulOk i j := by
  rcases h with ⟨h1, h2⟩ | ⟨h1, h2⟩
  · exact .of_left (intBits_le_64 h1 h2)
  · exact .of_right (intBits_le_64 h1 h2)
theorem op_add : OpR X (binaryOp .Add) (rI0 fun i j => .int (i + j)) := opI0 fun _ _ _ _ _ _ _ q => add_int q
theorem op_sub : OpR X (binaryOp .Sub) (rI0 fun i j => .int (i - j)) := opI0 fun _ _ _ _ _ _ _ q => sub_int q
theorem op_mul : OpR X (binaryOp .Mult) (rI CMul fun i j => .int (i * j)) := opI fun _ _ _ _ _ _ _ hc q => mul_int q hc.ok
/-- // by a positive divisor -/
theorem op_fdiv : OpR X (binaryOp .FloorDiv) (rI CDiv fun i j => .int (i / j)) := opI fun i j _ _ _ _ _ hc q => by
  have h1 : (0 : Int) < j := hc.1
  have h2 : j < 1073741824 := hc.2
  exact floordiv_int (by omega) (by rw [Int.fdiv_eq_ediv_of_nonneg i (by omega)]; exact q) (.inl (PyProof.noPylong_small (by omega)))
/-- % by a positive divisor of any size -/
theorem op_mod : OpR X (binaryOp .Mod) (rI (fun _ j => 0 < j) fun i j => .int (i % j)) := opI fun i j _ _ _ _ _ hc q => by
  have h1 : (0 : Int) < j := hc
  exact mod_int' (by omega) (by rw [Int.fmod_eq_emod_of_nonneg i (by omega)]; exact q)
theorem op_pow : OpR X (binaryOp .Pow) (rI CPow fun i j => .int (i ^ j.toNat)) := opI fun _ _ _ _ _ _ _ hc q => pow_int_small hc.1 hc.2.1 hc.2.2 q
theorem unI {f : Value → Sem Value} {g : Int → Int}
    (rule : ∀ (i : Int) (t : Tok) (s : Shared) (Q : Value → Shared → Prop) (E : Value → Shared → Prop), Q (.int (g i) s.toks) { s with toks := s.toks + 1 } → wpAny (model X.prog X.w) X.A (f (.int i t)) Q E s) :
    UnR X f (rU fun i => .int (g i)) := by
  intro pins s σ H x v Q I rx h
  obtain ⟨i, rfl, q⟩ := h
  obtain ⟨t, rfl⟩ := rx
  exact rule i t s _ _ ⟨.int (g i), H, I.tok _, ⟨_, rfl⟩, q⟩
theorem un_neg : UnR X (unaryOp .USub) (rU fun i => .int (-i)) := unI fun _ _ _ _ _ q => neg_int q
/-! ### bools among ints: n += (a < b) -/
end

/-! ### comparisons -/
/-- the scalars that == tells apart as data does -/
def scal : V → V → Bool
  | .non, .non => true | .non, .int _ => true | .int _, .non => true | .non, .bl _ => true | .bl _, .non => true | .non, .str _ => true | .str _, .non => true
  | .int _, .int _ => true | .bl _, .bl _ => true | .str _, .str _ => true | .byt _, .byt _ => true
  | .int _, .str _ => true | .str _, .int _ => true | .bl _, .str _ => true | .str _, .bl _ => true
  | _, _ => false
def rEq : R2 := fun x y H Q => scal x y = true ∧ Q (.bl (decide (x = y))) H
def rNe : R2 := fun x y H Q => scal x y = true ∧ Q (.bl (!decide (x = y))) H

theorem dec_int {i j : Int} : decide (V.int i = V.int j) = (i == j) := by
  rw [Bool.eq_iff_iff]
  simp
theorem dec_bl {i j : Bool} : decide (V.bl i = V.bl j) = (i == j) := by
  rw [Bool.eq_iff_iff]
  simp
theorem dec_str {i j : Str} : decide (V.str i = V.str j) = (i == j) := by
  rw [Bool.eq_iff_iff]
  simp
theorem dec_byt {i j : Array UInt8} : decide (V.byt i = V.byt j) = (i.toList == j.toList) := by
  rw [Bool.eq_iff_iff]
  cases i
  cases j
  simp

section
variable {X : Cx} {a b c : Expr} {ta tb tc : TE} {pos : Pos}
theorem fin_bl {pins : List (Addr × Obj)} {σ : St} {H : Hp} {s : Shared} {Q : VK} {k k' : Bool} (I : Inv X pins σ H s) (q : Q (.bl k) H) (e : k = k') : EP X pins σ Q (.bool k') s := by
  subst e
  exact ⟨.bl k, H, I, rfl, q⟩
theorem op_eq : OpR X (compareOp .Eq) rEq := by
  intro pins s σ H x y v u Q I rx ry h
  obtain ⟨hs, q⟩ := h
  cases x with
  | non =>
    cases rx
    cases y with
    | non => cases ry; exact PySem.EqNone.eq_none_none (fin_bl I q (by simp))
    | bl j => cases ry; exact PySem.EqNone.eq_none_bool (fin_bl I q (by simp))
    | int j => obtain ⟨t', rfl⟩ := ry; exact PySem.EqNone.eq_none_int (fin_bl I q (by simp))
    | str j => obtain ⟨t', rfl⟩ := ry; exact PySem.EqNone.eq_none_str (fin_bl I q (by simp))
    | _ => exact absurd (show false = true from hs) Bool.false_ne_true
  | bl i =>
    cases rx
    cases y with
    | non => cases ry; exact PySem.EqNone.eq_bool_none (fin_bl I q (by simp))
    | bl j => cases ry; exact eq_bool (fin_bl I q dec_bl)
    | str j => obtain ⟨t', rfl⟩ := ry; exact PySem.EqMixed.eq_bool_str (fin_bl I q (by simp))
    | _ => exact absurd (show false = true from hs) Bool.false_ne_true
  | int i =>
    obtain ⟨t, rfl⟩ := rx
    cases y with
    | non => cases ry; exact PySem.EqNone.eq_int_none (fin_bl I q (by simp))
    | int j => obtain ⟨t', rfl⟩ := ry; exact eq_int (fin_bl I q dec_int)
    | str j => obtain ⟨t', rfl⟩ := ry; exact PySem.EqMixed.eq_int_str (fin_bl I q (by simp))
    | _ => exact absurd (show false = true from hs) Bool.false_ne_true
  | str i =>
    obtain ⟨t, rfl⟩ := rx
    cases y with
    | non => cases ry; exact PySem.EqNone.eq_str_none (fin_bl I q (by simp))
    | bl j => cases ry; exact PySem.EqMixed.eq_str_bool (fin_bl I q (by simp))
    | int j => obtain ⟨t', rfl⟩ := ry; exact PySem.EqMixed.eq_str_int (fin_bl I q (by simp))
    | str j => obtain ⟨t', rfl⟩ := ry; exact eq_str (fin_bl I q dec_str)
    | _ => exact absurd (show false = true from hs) Bool.false_ne_true
  | byt i =>
    obtain ⟨t, rfl⟩ := rx
    cases y with
    | byt j => obtain ⟨t', rfl⟩ := ry; exact PySem.W.eq_bytes (fin_bl I q dec_byt)
    | _ => exact absurd (show false = true from hs) Bool.false_ne_true
  | _ => cases y <;> exact absurd (show false = true from hs) Bool.false_ne_true
theorem op_ne : OpR X (compareOp .NotEq) rNe := by
  intro pins s σ H x y v u Q I rx ry h
  obtain ⟨hs, q⟩ := h
  cases x with
  | non =>
    cases rx
    cases y with
    | non => cases ry; exact PySem.EqNone.ne_none_none (fin_bl I q (by simp))
    | bl j => cases ry; exact PySem.EqNone.ne_none_bool (fin_bl I q (by simp))
    | int j => obtain ⟨t', rfl⟩ := ry; exact PySem.EqNone.ne_none_int (fin_bl I q (by simp))
    | str j => obtain ⟨t', rfl⟩ := ry; exact PySem.EqNone.ne_none_str (fin_bl I q (by simp))
    | _ => exact absurd (show false = true from hs) Bool.false_ne_true
  | bl i =>
    cases rx
    cases y with
    | non => cases ry; exact PySem.EqNone.ne_bool_none (fin_bl I q (by simp))
    | bl j => cases ry; exact ne_bool (fin_bl I q (congrArg not dec_bl))
    | str j => obtain ⟨t', rfl⟩ := ry; exact PySem.EqMixed.ne_bool_str (fin_bl I q (by simp))
    | _ => exact absurd (show false = true from hs) Bool.false_ne_true
  | int i =>
    obtain ⟨t, rfl⟩ := rx
    cases y with
    | non => cases ry; exact PySem.EqNone.ne_int_none (fin_bl I q (by simp))
    | int j => obtain ⟨t', rfl⟩ := ry; exact ne_int (fin_bl I q (congrArg not dec_int))
    | str j => obtain ⟨t', rfl⟩ := ry; exact PySem.EqMixed.ne_int_str (fin_bl I q (by simp))
    | _ => exact absurd (show false = true from hs) Bool.false_ne_true
  | str i =>
    obtain ⟨t, rfl⟩ := rx
    cases y with
    | non => cases ry; exact PySem.EqNone.ne_str_none (fin_bl I q (by simp))
    | bl j => cases ry; exact PySem.EqMixed.ne_str_bool (fin_bl I q (by simp))
    | int j => obtain ⟨t', rfl⟩ := ry; exact PySem.EqMixed.ne_str_int (fin_bl I q (by simp))
    | str j => obtain ⟨t', rfl⟩ := ry; exact ne_str (fin_bl I q (congrArg not dec_str))
    | _ => exact absurd (show false = true from hs) Bool.false_ne_true
  | byt i =>
    obtain ⟨t, rfl⟩ := rx
    cases y with
    | byt j => obtain ⟨t', rfl⟩ := ry; exact PySem.W.ne_bytes (fin_bl I q (congrArg not dec_byt))
    | _ => exact absurd (show false = true from hs) Bool.false_ne_true
  | _ => cases y <;> exact absurd (show false = true from hs) Bool.false_ne_true

theorem op_lt : OpR X (compareOp .Lt) (rI0 fun i j => .bl (decide (i < j))) := opB0 fun _ _ _ _ _ _ _ q => lt_int q
theorem op_gt : OpR X (compareOp .Gt) (rI0 fun i j => .bl (decide (j < i))) := opB0 fun _ _ _ _ _ _ _ q => gt_int q
/-- the one string within the other -/
theorem op_in_str : OpR X (compareOp .In) (fun x y H Q => ∃ i j, x = .str i ∧ y = .str j ∧ Q (.bl (!(Builtin.Str.occurrences j i 0 j.length 1).isEmpty)) H) := by
  intro pins s σ H x y v u Q I rx ry h
  obtain ⟨i, j, rfl, rfl, q⟩ := h
  obtain ⟨t, rfl⟩ := rx
  obtain ⟨t', rfl⟩ := ry
  exact in_str (fin_bl I q rfl)

/-- is, is not of two objects that are tracked lists or instances -/
def isObj : HO → Bool
  | .lst _ => true
  | .ins _ _ _ => true
  | _ => false
/-- two rules for one operation: by cases -/
theorem OpR.or {f : Value → Value → Sem Value} {r r' : R2} (h : OpR X f r) (h' : OpR X f r') : OpR X f (fun x y H Q => r x y H Q ∨ r' x y H Q) := by
  intro pins s σ H x y v u Q I rx ry q
  rcases q with q | q
  · exact h pins s σ H x y v u Q I rx ry q
  · exact h' pins s σ H x y v u Q I rx ry q

theorem nomark (b : Expr) {op : CmpOp} (h : op ≠ .In := by decide) (h2 : op ≠ .NotIn := by decide) : behindInMarks op b = false := by
  have e1 : (op == CmpOp.In) = false := by cases op <;> first | rfl | exact absurd rfl h
  have e2 : (op == CmpOp.NotIn) = false := by cases op <;> first | rfl | exact absurd rfl h2
  cases b <;> simp [behindInMarks, e1, e2]
/-- a comparison as a value; hm: nomark b, or (for in, not in) by with_unfolding_all rfl -/
theorem pe_cmpR {op : CmpOp} {r : R2} (ho : OpR X (compareOp op) r) (ha : PE X a ta) (hb : PE X b tb) (hm : behindInMarks op b = false) : PE X (.Compare a [op] [b] pos) (tOp r ta tb) := by
  intro pins s σ H Q I h
  exact wpAny_Compare1 (binT ha hb I h fun v u s2 x y H2 I2 rx ry q => ho pins s2 σ H2 x y v u Q I2 rx ry q) hm
/-- a reading of a value as a test -/
def tTest (t : TE) : TT := fun σ H Q => t σ H fun x H' => ∃ k, x = .bl k ∧ Q k H'
theorem pt_cmpR {op : CmpOp} {r : R2} (ho : OpR X (compareOp op) r) (ha : PE X a ta) (hb : PE X b tb) (hm : behindInMarks op b = false) : PT X (.Compare a [op] [b] pos) (tTest (tOp r ta tb)) := by
  intro pins s σ H Q I h
  refine wpAny_isTrue_Compare1 (thn (ha pins s σ H _ I h) fun v s1 ⟨x, H1, I1, r1, q1⟩ => thn (hb pins s1 σ H1 _ I1 q1) fun u s2 ⟨y, H2, I2, r2, q2⟩ =>
    thn (ho pins s2 σ H2 x y v u _ I2 r1 r2 q2) fun c s3 ⟨z, H3, I3, r3, k, e, q3⟩ => ?_) hm
  subst e
  cases r3
  exact wpAny_truthy_bool ⟨H3, I3, q3⟩
/-- a op1 b op2 c -/
def tChain (r r' : R2) (ta tb tc : TE) : TE := fun σ H Q => ta σ H fun x H1 => tb σ H1 fun y H2 => r x y H2 fun z H3 => ∃ k, z = .bl k ∧
  (if k = true then tc σ H3 fun w' H4 => r' y w' H4 Q else Q (.bl false) H3)
/-! ### truth -/
/-- a value's truth by the abstract heap -/
def TruV (K : PySem.W.Frag) (x : V) (H : Hp) (k : Bool) : Prop :=
  match x with
  | .non => k = false
  | .bl b => k = b
  | .int i => k = (i != 0)
  | .str y => y.length ≤ sizeLine ∧ k = ((y.length : Int) != 0)
  | .byt y => y.size ≤ sizeLine ∧ k = ((y.size : Int) != 0)
  | .ref p => (∃ xs, SqL K H p xs ∧ k = !xs.isEmpty) ∨ (∃ xs, SqT K H p xs ∧ k = !xs.isEmpty) ∨ ∃ kvs, H p = some (.dK kvs) ∧ k = !kvs.isEmpty
  | _ => False
theorem line63 : (sizeLine : Nat) < 2 ^ 63 := by rw [sizeLine_eq]; decide
/-! ### strs and bytes -/
theorem op_add_str : OpR X (binaryOp .Add) (fun x y H Q => ∃ i j, x = .str i ∧ y = .str j ∧ i.length + j.length ≤ sizeLine ∧ Q (.str (i ++ j)) H) := by
  intro pins s σ H x y v u Q I rx ry h
  obtain ⟨i, j, rfl, rfl, hz, q⟩ := h
  obtain ⟨t, rfl⟩ := rx
  obtain ⟨t', rfl⟩ := ry
  exact add_str (fun t' tk => ⟨.str (i ++ j), H, I.tok _, ⟨_, rfl⟩, q⟩) hz
def PlainIxT (b : Expr) : Prop := ∀ o i, subscripted b false o i = operate [o, i] (getItem o i)
/-! ### scalar builtins, by CallR -/
theorem vals1 {x : V} {us : List Value} (r : Vals [x] us) : ∃ u, us = [u] ∧ RelV x u := by
  cases r with
  | cons r1 r2 => cases r2; exact ⟨_, rfl, r1⟩
theorem vals2 {x y : V} {us : List Value} (r : Vals [x, y] us) : ∃ u w', us = [u, w'] ∧ RelV x u ∧ RelV y w' := by
  cases r with
  | cons r1 r2 =>
    cases r2 with
    | cons r3 r4 => cases r4; exact ⟨_, _, rfl, r1, r3⟩
theorem call_max2 (hc : X.calm = true) : CallR X (.builtin "max") (fun xs H Q => ∃ i j, xs = [.int i, .int j] ∧ Q (.int (if j > i then j else i)) H) := by
  intro pins s σ H xs us Q I r h
  obtain ⟨i, j, rfl, q⟩ := h
  obtain ⟨u, w', rfl, ⟨t, rfl⟩, ⟨t', rfl⟩⟩ := vals2 r
  refine max_two_ints (I.ok.hd hc) fun h' tk k => ⟨_, H, I.kept k, ?_, q⟩
  by_cases hj : j > i
  · rw [if_pos hj, if_pos hj]; exact ⟨_, rfl⟩
  · rw [if_neg hj, if_neg hj]; exact ⟨_, rfl⟩
theorem call_min2 (hc : X.calm = true) : CallR X (.builtin "min") (fun xs H Q => ∃ i j, xs = [.int i, .int j] ∧ Q (.int (if j < i then j else i)) H) := by
  intro pins s σ H xs us Q I r h
  obtain ⟨i, j, rfl, q⟩ := h
  obtain ⟨u, w', rfl, ⟨t, rfl⟩, ⟨t', rfl⟩⟩ := vals2 r
  refine min_two_ints (I.ok.hd hc) fun h' tk k => ⟨_, H, I.kept k, ?_, q⟩
  by_cases hj : j < i
  · rw [if_pos hj, if_pos hj]; exact ⟨_, rfl⟩
  · rw [if_neg hj, if_neg hj]; exact ⟨_, rfl⟩
theorem call_int1 : CallR X (.type "int") (fun xs H Q => (∃ i, xs = [.int i] ∧ Q (.int i) H) ∨ ∃ k, xs = [.bl k] ∧ Q (.int (if k then 1 else 0)) H) := by
  intro pins s σ H xs us Q I r h
  rcases h with ⟨i, rfl, q⟩ | ⟨k, rfl, q⟩
  · obtain ⟨u, rfl, t, rfl⟩ := vals1 r
    exact call_int_int ⟨.int i, H, I, ⟨_, rfl⟩, q⟩
  · obtain ⟨u, rfl, r1⟩ := vals1 r
    cases r1
    exact call_int_bool ⟨.int (if k then 1 else 0), H, I.tok _, ⟨_, rfl⟩, q⟩
/-- len of a str, a bytes, a list, a tuple -/
def LenV (K : PySem.W.Frag) (x : V) (H : Hp) (n : Nat) : Prop :=
  match x with
  | .str y => y.length ≤ sizeLine ∧ n = y.length
  | .byt y => y.size ≤ sizeLine ∧ n = y.size
  | .ref p => (∃ xs, SqL K H p xs ∧ n = xs.length) ∨ ∃ xs, SqT K H p xs ∧ n = xs.length
  | _ => False
end
end L2

namespace L2
open PySem PySem.Spec PyProof.Rows

/-! ### an instance, its attributes a map -/
structure ObjM (h : Heap) (x dx C : Addr) (mA : Str → Option Value) : Prop where
  obj : h.get? x = some (PySem.W.instObj C dx)
  ns : h.Ns1 dx mA
  ne : dx ≠ x

theorem lookIn_ns {h : Heap} {dx : Addr} {mA : Str → Option Value} (n : h.Ns1 dx mA) : ∃ od, h.get? dx = some od ∧ ∀ name, PySem.W.lookIn name od = some (mA name) := by
  obtain ⟨o, es, ep, ho, hd, hk, _, hm⟩ := n
  refine ⟨o, ho, fun name => ?_⟩
  have e := hm name
  unfold nsFind findBy at e
  rw [← Array.find?_toList] at e
  unfold PySem.W.lookIn
  rw [hd]
  dsimp only
  split
  · rename_i y q
    rw [q] at e
    exact congrArg some e
  · rename_i q
    rw [q] at e
    have a : es.toList.any (·.refKey) = false := by
      rw [List.any_eq_false]
      intro y hy
      obtain ⟨z, t, hkey⟩ := hk y (Array.mem_toList_iff.mp hy)
      simp [DictEntry.refKey, hkey]
    have a' : ¬ es.toList.any (·.refKey) = true := by rw [a]; exact Bool.false_ne_true
    rw [if_neg a']
    exact congrArg some e

theorem ObjM.look {h : Heap} {x dx C : Addr} {mA : Str → Option Value} (I : ObjM h x dx C mA) : ∃ od, PySem.W.InstAt h x (PySem.W.instObj C dx) C (some od) ∧ ∀ name, PySem.W.lookIn name od = some (mA name) :=
  let ⟨od, ho, hl⟩ := lookIn_ns I.ns
  ⟨od, ⟨I.obj, rfl, rfl, ho⟩, hl⟩

section
variable {prog : Program} {w : World} {A : Around} {E : Value → Shared → Prop} {s : Shared} {K : PySem.W.Frag} {x dx C f : Addr} {mA : Str → Option Value} {name : Str} {v : Value}

theorem get_map {expr : Bool} {Q : Value → Shared → Prop} (X : K.In s.heap) (I : ObjM s.heap x dx C mA) (hg : PySem.W.plainGet K C name = true) (hh : PySem.W.hasDictIn K C = true)
    (ha : PySem.W.findIn K (.ref C) name = some none) (hv : mA name = some v) (hv' : PySem.W.handedIn v = true) (h : Q v { s with toks := s.toks + 1 }) :
    wpAny (model prog w) A (getAttr (.ref x) name expr) Q E s := by
  obtain ⟨od, J, hl⟩ := I.look
  exact PySem.W.get_value X J (PySem.W.plainGet_of hg).1 (PySem.W.findObj_own hh ha rfl (by rw [hl, hv])) hv' h

theorem get_meth {pl : Sem Bool} {Q : Value × List Value → Shared → Prop} (X : K.In s.heap) (I : ObjM s.heap x dx C mA) (hg : PySem.W.plainGet K C name = true)
    (hf : PySem.W.findIn K (.ref C) name = some (some (.ref f))) (ht : PySem.W.isFn K (.ref f) = true) (hv : mA name = none) (h : Q (.ref f, [.ref x]) s) :
    wpAny (model prog w) A (getMethod (.ref x) name pl) Q E s := by
  obtain ⟨od, J, hl⟩ := I.look
  exact PySem.W.method_fn X J (PySem.W.plainGet_of hg).1 (PySem.W.plainGet_of hg).2 hf (beq_iff_eq.mp ht) (by show (PySem.W.lookIn name od).map (·.isSome) = some false; rw [hl, hv]; rfl) h

theorem set_map {ns : List Str} {Q : Unit → Shared → Prop} (X : K.In s.heap) (I : ObjM s.heap x dx C mA)
    (hs : PySem.W.findIn K (.ref C) "__setattr__" = some (some (.builtin "object.__setattr__"))) (hp : PySem.W.plainOver K C = true) (ht : PySem.W.takerIn K C name = some none) (hh : PySem.W.hasDictIn K C = true)
    (hw : PySem.Within mA ns) (hsz : ns.length ≤ sizeLine)
    (h : ∀ h', ObjM h' x dx C (fun y => if y = name then some v else mA y) → Heap.SameBut dx s.heap h' → Q () { s with heap := h', toks := s.toks + 2 }) :
    wpAny (model prog w) A (setAttr (.ref x) name v) Q E s := by
  obtain ⟨od, J, hl⟩ := I.look
  refine PySem.W.set_plain X J hs (PySem.W.osa_open (s := { s with toks := s.toks + 1 }) (r := none) X J hp ht fun b => ?_)
  obtain ⟨cd, hc, hd'⟩ := PySem.W.any_some hh
  have hx : s.heap.get? x = some ⟨.ref C, some dx, .plain, #[]⟩ := I.obj
  refine wpAny_bind (wpAny_pure (wpAny_bind (wpAny_bind (wpAny_loadPart hx (wpAny_bind (PySem.W.Looks.here (s := { s with toks := s.toks + 1 }) (PySem.W.looks_clsIn X hc) ?_))))))
  rw [hd']
  refine wpAny_pure (a := some dx) (wpAny_bind (wpAny_pure (wpAny_bind ?_)))
  refine wpAny_nsSet1 (s := { s with toks := s.toks + 1 }) I.ns fun h' hn2 hs2 => ?_
  obtain ⟨oD, esD, epD, hoD, hdD, hcD⟩ := hn2.count (PySem.Within.cons name v hw)
  refine wpAny_bind (wpAny_lookBehind hoD (by rw [hdD]; exact pastItsLine_dict (Nat.le_trans hcD (by rw [List.length_cons]; omega))) ?_)
  exact wpAny_pure (h _ ⟨(hs2.2 _ (Ne.symm I.ne)).trans I.obj, hn2, I.ne⟩ hs2)

/-- C(..): the dict at the heap's end, the instance behind it; then its __init__ -/
theorem make_map {R : Result → Shared → Prop} {vs : List Value} {kw : List (Str × Value)} (X : K.In s.heap) (hm : PySem.W.makesIn K C = true)
    (hi : PySem.W.findIn K (.ref C) "__init__" = some (some (.ref f))) (hf : PySem.W.typeIn K (.ref f) = some (.type "function"))
    (h : codeAny (model prog w) (A.under (.builtin "type.__call__" ⟨.ref C :: vs, kw⟩)) (.call (.ref f) ⟨.ref (s.heap.objs.size + 1) :: vs, kw⟩) (PySem.W.InitBack (s.heap.objs.size + 1) R)
      { s with heap := (s.heap.push PySem.W.emptyDict).push (PySem.W.instObj C s.heap.objs.size) }) :
    codeAny (model prog w) A (.call (.ref C) ⟨vs, kw⟩) R s := by
  obtain ⟨hh, g, d, t, os⟩ := s
  exact PySem.W.make_core (PySem.W.makes_of X hm) (PySem.W.looks_findIn X hi) (fun self => PySem.W.bind_fn X self hf) (.inl rfl) h
end

/-! ### the attributes as a list of pairs -/
def putF (f : Str) (v : V) : List (Str × V) → List (Str × V)
  | [] => [(f, v)]
  | (g, x) :: r => if g = f then (g, v) :: r else (g, x) :: putF f v r
theorem lookup_putF (f g : Str) (v : V) : ∀ fs : List (Str × V), (putF f v fs).lookup g = if g = f then some v else fs.lookup g
  | [] => by
    show List.lookup g [(f, v)] = _
    by_cases h : g = f
    · have hb : (g == f) = true := beq_iff_eq.mpr h
      simp only [List.lookup, hb, if_pos h]
    · have hb : (g == f) = false := beq_eq_false_iff_ne.mpr h
      simp only [List.lookup, hb, if_neg h]
  | (k, x) :: r => by
    have ih := lookup_putF f g v r
    rw [show putF f v ((k, x) :: r) = (if k = f then (k, v) :: r else (k, x) :: putF f v r) from rfl]
    by_cases hk : k = f
    · rw [if_pos hk]
      by_cases h : g = k
      · have hb : (g == k) = true := beq_iff_eq.mpr h
        simp only [List.lookup, hb, if_pos (h.trans hk)]
      · have hb : (g == k) = false := beq_eq_false_iff_ne.mpr h
        simp only [List.lookup, hb, if_neg (fun e : g = f => h (e.trans hk.symm))]
    · rw [if_neg hk]
      by_cases h : g = k
      · have hb : (g == k) = true := beq_iff_eq.mpr h
        simp only [List.lookup, hb, if_neg (fun e : g = f => hk (h.symm.trans e))]
      · have hb : (g == k) = false := beq_eq_false_iff_ne.mpr h
        simp only [List.lookup, hb]
        exact ih
theorem keys_putF (f : Str) (v : V) : ∀ fs : List (Str × V), f ∈ (putF f v fs).map (·.1) ∧ ∀ g, g ∈ fs.map (·.1) → g ∈ (putF f v fs).map (·.1)
  | [] => ⟨by simp [putF], fun g h => by simp at h⟩
  | (k, x) :: r => by
    obtain ⟨i1, i2⟩ := keys_putF f v r
    rw [show putF f v ((k, x) :: r) = (if k = f then (k, v) :: r else (k, x) :: putF f v r) from rfl]
    by_cases hk : k = f
    · rw [if_pos hk]
      subst hk
      exact ⟨by simp, fun g h => by simpa using h⟩
    · rw [if_neg hk]
      refine ⟨?_, fun g h => ?_⟩
      · rw [List.map_cons]
        exact List.mem_cons_of_mem _ i1
      · rw [List.map_cons] at h ⊢
        rcases List.mem_cons.mp h with e | e
        · exact List.mem_cons.mpr (.inl e)
        · exact List.mem_cons_of_mem _ (i2 g e)
theorem length_putF (f : Str) (v : V) : ∀ fs : List (Str × V), (putF f v fs).length ≤ fs.length + 1
  | [] => by simp [putF]
  | (k, x) :: r => by
    have ih := length_putF f v r
    rw [show putF f v ((k, x) :: r) = (if k = f then (k, v) :: r else (k, x) :: putF f v r) from rfl]
    by_cases hk : k = f
    · rw [if_pos hk, List.length_cons, List.length_cons]; omega
    · rw [if_neg hk, List.length_cons, List.length_cons]; omega

theorem RelO.some_of {v : V} {o : Option Value} (r : RelO (some v) o) : ∃ u, o = some u ∧ RelV v u := by
  cases o with
  | none => exact (show False from r).elim
  | some u => exact ⟨u, rfl, r⟩
theorem RelO.none_of {o : Option Value} (r : RelO none o) : o = none := by
  cases o with
  | none => rfl
  | some u => exact (show False from r).elim
theorem handed_of {v : V} {u : Value} (r : RelV v u) : PySem.W.handedIn u = true := by
  cases v with
  | non => cases (show u = Value.none from r); rfl
  | bl b => cases (show u = Value.bool b from r); rfl
  | int i => obtain ⟨t, e⟩ := (show ∃ t, u = Value.int i t from r); cases e; rfl
  | str x => obtain ⟨t, e⟩ := (show ∃ t, u = Value.str x t from r); cases e; rfl
  | byt b => obtain ⟨t, e⟩ := (show ∃ t, u = Value.bytes b t from r); cases e; rfl
  | flt b => obtain ⟨t, e⟩ := (show ∃ t, u = Value.float b t from r); cases e; rfl
  | ref a => cases (show u = Value.ref a from r); rfl
  | ty n => cases (show u = Value.type n from r); rfl

section
variable {P : Program} {w : World} {H H' : Hp} {h h' : Heap} {a C dx : Addr} {fs fs' : List (Str × V)}
theorem ins_get (hok : HOk P w H h) (e : H a = some (.ins C dx fs)) : ∃ mA, ObjM h a dx C mA ∧ (∀ f, RelO (fs.lookup f) (mA f)) ∧ PySem.Within mA (fs.map (·.1)) ∧ fs.length ≤ 1000 ∧ H dx = some (.own a) := by
  obtain ⟨d, z, ne, ob, mA, n, r, q⟩ := (show ObjOk P w H h a (.ins C dx fs) from hok a _ e)
  exact ⟨mA, ⟨ob, n, ne⟩, r, q, z, d⟩
end

/-! ### what of the text a class must have -/
structure Cls (K : PySem.W.Frag) (C : Addr) : Prop where
  pg : PySem.W.plainGet K C Str.empty = true
  hd : PySem.W.hasDictIn K C = true
  po : PySem.W.plainOver K C = true
  sa : PySem.W.findIn K (.ref C) "__setattr__" = some (some (.builtin "object.__setattr__"))
theorem Cls.get {K : PySem.W.Frag} {C : Addr} (c : Cls K C) (f : Str) : PySem.W.plainGet K C f = true := c.pg
/-- no class of it has the name -/
def NoAttr (K : PySem.W.Frag) (C : Addr) (f : Str) : Prop := PySem.W.findIn K (.ref C) f = some none
theorem NoAttr.taker {K : PySem.W.Frag} {C : Addr} {f : Str} (n : NoAttr K C f) : PySem.W.takerIn K C f = some none := by
  unfold PySem.W.takerIn
  rw [show PySem.W.findIn K (.ref C) f = some none from n]
  rfl
/-- a constant of the class -/
structure Con (K : PySem.W.Frag) (C : Addr) (f : Str) (v : V) (u : Value) : Prop where
  at_ : PySem.W.findIn K (.ref C) f = some (some u)
  rel : RelV v u
  get : PySem.W.specialIn K u "__get__" = some none
  cp : PySem.W.copiedNames.contains f = false
/-- a method: a plain def of the class or of one above it -/
structure Meth (K : PySem.W.Frag) (C : Addr) (m : Str) (f : Addr) : Prop where
  at_ : PySem.W.findIn K (.ref C) m = some (some (.ref f))
  fn : PySem.W.isFn K (.ref f) = true
  kp : PySem.W.keepIn K (.ref f) = true

section
variable {X : Cx} {pins : List (Addr × Obj)} {σ : St} {H : Hp} {s : Shared} {a C dx : Addr} {fs : List (Str × V)} {f : Str} {v : V} {A : Around} {E : Value → Shared → Prop}

theorem getattr_ok {b : Bool} {Q : Value → Shared → Prop} (I : Inv X pins σ H s) (e : H a = some (.ins C dx fs)) (c : Cls X.K C) (n : NoAttr X.K C f) (l : fs.lookup f = some v)
    (h : ∀ u s', Inv X pins σ H s' → RelV v u → Q u s') : wpAny (model X.prog X.w) A (getAttr (.ref a) f b) Q E s := by
  obtain ⟨mA, O, r, _, _, _⟩ := ins_get I.hok e
  obtain ⟨u, hu, ru⟩ := RelO.some_of (v := v) (o := mA f) (by rw [← l]; exact r f)
  exact get_map I.kIn O (c.get f) c.hd n hu (handed_of ru) (h u _ (I.tok _) ru)

theorem getmeth_ok {m : Str} {g : Addr} {pl : Sem Bool} {Q : Value × List Value → Shared → Prop} (I : Inv X pins σ H s) (e : H a = some (.ins C dx fs)) (c : Cls X.K C) (k : Meth X.K C m g) (l : fs.lookup m = none)
    (h : Q (.ref g, [.ref a]) s) : wpAny (model X.prog X.w) A (getMethod (.ref a) m pl) Q E s := by
  obtain ⟨mA, O, r, _, _, _⟩ := ins_get I.hok e
  have hn : mA m = none := RelO.none_of (by rw [← l]; exact r m)
  exact get_meth I.kIn O (c.get m) k.at_ k.fn hn h

theorem setattr_ok {y : V} {u : Value} {Q : Unit → Shared → Prop} (I : Inv X pins σ H s) (e : H a = some (.ins C dx fs)) (c : Cls X.K C) (n : NoAttr X.K C f) (hl : fs.length < 1000) (ry : RelV y u)
    (h : ∀ s', Inv X pins σ (upd H a (.ins C dx (putF f y fs))) s' → Q () s') : wpAny (model X.prog X.w) A (setAttr (.ref a) f u) Q E s := by
  obtain ⟨mA, O, r, wi, _, ho⟩ := ins_get I.hok e
  have hz : (fs.map (·.1)).length ≤ sizeLine := by rw [List.length_map, sizeLine_eq]; omega
  refine set_map I.kIn O c.sa c.po n.taker c.hd wi hz fun h' O' sb => h _ ?_
  have hd : ∃ o, h'.get? dx = some o := let ⟨o, _, _, e', _⟩ := O'.ns; ⟨o, e'⟩
  refine I.write (x := a) (e := dx) (by rw [e]; exact True.intro) (.inr ho) (fun b q hb z => (sb.2 b hb).trans z) hd ?_
  refine ⟨by rw [upd_ne O.ne]; exact ho, ?_, O.ne, O'.obj, _, O'.ns, fun g => ?_, fun g hg => ?_⟩
  · have := length_putF f y fs; omega
  · show RelO ((putF f y fs).lookup g) (if g = f then some u else mA g)
    rw [lookup_putF]
    by_cases q : g = f
    · rw [if_pos q, if_pos q]; exact ry
    · rw [if_neg q, if_neg q]; exact r g
  · by_cases q : g = f
    · rw [q]; exact (keys_putF f y fs).1
    · refine (keys_putF f y fs).2 g (wi g fun z => hg ?_)
      show (if g = f then some u else mA g) = none
      rw [if_neg q]; exact z

/-- a new instance, tracked, without attributes -/
theorem Inv.made (I : Inv X pins σ H s) : Inv X pins σ (upd (upd H s.heap.objs.size (.own (s.heap.objs.size + 1))) (s.heap.objs.size + 1) (.ins C s.heap.objs.size []))
    { s with heap := (s.heap.push PySem.W.emptyDict).push (PySem.W.instObj C s.heap.objs.size) } := by
  have e1 : (s.heap.push PySem.W.emptyDict).get? s.heap.objs.size = some PySem.W.emptyDict := Heap.get?_push_size s.heap rfl
  have e2 : ((s.heap.push PySem.W.emptyDict).push (PySem.W.instObj C s.heap.objs.size)).get? (s.heap.objs.size + 1) = some (PySem.W.instObj C s.heap.objs.size) := by
    have := Heap.get?_push_size (s.heap.push PySem.W.emptyDict) (o := PySem.W.instObj C s.heap.objs.size) rfl
    rwa [Heap.size_push] at this
  have e3 : (s.heap.push PySem.W.emptyDict).Ns s.heap.objs.size (fun _ => none) := ⟨PySem.W.emptyDict, #[], _, e1, rfl, (fun e he => absurd he (by simp)), fun _ => rfl⟩
  have I1 := I.laid (a := s.heap.objs.size) (o := .own (s.heap.objs.size + 1)) (h' := s.heap.push PySem.W.emptyDict) (t' := s.toks) (fun b u q => Heap.get?_push_of_some _ q) (Nat.le_refl _) ⟨_, e1⟩
  refine I1.laid (a := s.heap.objs.size + 1) (o := .ins C s.heap.objs.size []) (t' := s.toks) (fun b u q => Heap.get?_push_of_some _ q) (Nat.le_of_eq (Heap.size_push _ _)) ?_
  have ne : s.heap.objs.size ≠ s.heap.objs.size + 1 := Nat.ne_of_lt (Nat.lt_succ_self _)
  refine ⟨by rw [upd_ne ne, upd_same], Nat.zero_le _, ne, e2, fun _ => none, (Heap.Ns1.of_empty e3).at fun o q => Heap.get?_push_of_some _ q, fun _ => True.intro, fun y hy => absurd rfl hy⟩

/-- e.f where nothing but the object is asked: through attributeBase (super) and the last hold -/
theorem attr_of {prog : Program} {w : World} {env : Env} {e : Expr} {f : Str} {pos : Pos} {s : Shared} {Q : Value → Shared → Prop} (hb : attributeBase e f env (eval e env) = eval e env)
    (h : wpAny (model prog w) A (eval e env) (fun o s₁ => wpAny (model prog w) A (getAttr o f true) Q E s₁) E s) : wpAny (model prog w) A (eval (.Attribute e f pos) env) Q E s :=
  Attribute_any_ h (by rw [arm_eval_Attribute, hb])
end

/-! ### readings and rules -/
/-- e.f, an attribute of the instance -/
def tFld (K : PySem.W.Frag) (ta : TE) (f : Str) : TE := fun σ H Q => ta σ H fun x H1 => ∃ a C dx fs v, x = .ref a ∧ H1 a = some (.ins C dx fs) ∧ Cls K C ∧ NoAttr K C f ∧ fs.lookup f = some v ∧ Q v H1
/-- e.f, a constant of the class -/
def tCon (K : PySem.W.Frag) (ta : TE) (f : Str) : TE := fun σ H Q => ta σ H fun x H1 => ∃ a C dx fs v u, x = .ref a ∧ H1 a = some (.ins C dx fs) ∧ Cls K C ∧ Con K C f v u ∧ fs.lookup f = none ∧ Q v H1
/-- e.f = value -/
def sFld (K : PySem.W.Frag) (ta tv : TE) (f : Str) : TS := fun D σ H => tv σ H fun y H1 => ta σ H1 fun x H2 => ∃ a C dx fs, x = .ref a ∧ H2 a = some (.ins C dx fs) ∧ Cls K C ∧ NoAttr K C f ∧ fs.length < 1000 ∧
  D.nx σ (upd H2 a (.ins C dx (putF f y fs)))
/-- an augmented operator on two values -/
def InOp (X : Cx) (op : Operator) (rd : V → V → Hp → VK → Prop) : Prop :=
  ∀ (pins : List (Addr × Obj)) (s : Shared) (σ : St) (H : Hp) (x y : V) (u v : Value) (Q : VK), Inv X pins σ H s → RelV x u → RelV y v → rd x y H Q → wpAny (model X.prog X.w) X.A (inplaceOp op u v) (EP X pins σ Q) X.xe s
/-- e.f op= value -/
def sFldAug (K : PySem.W.Frag) (ta tv : TE) (rd : V → V → Hp → VK → Prop) (f : Str) : TS := fun D σ H => ta σ H fun x H1 => ∃ a C dx fs v, x = .ref a ∧ H1 a = some (.ins C dx fs) ∧ Cls K C ∧ NoAttr K C f ∧ fs.lookup f = some v ∧
  tv σ H1 fun y H2 => rd v y H2 fun z H3 => ∃ dx' fs', H3 a = some (.ins C dx' fs') ∧ fs'.length < 1000 ∧ D.nx σ (upd H3 a (.ins C dx' (putF f z fs')))

section
variable {X : Cx} {o e value : Expr} {f : Str} {pos pos' tpos : Pos} {ta tv : TE}
theorem pe_fld (he : PE X e ta) (hb : attributeBase e f X.env (eval e X.env) = eval e X.env) : PE X (.Attribute e f pos) (tFld X.K ta f) := by
  intro pins s σ H Q I h
  refine attr_of hb (thn (he pins s σ H _ I h) fun u s1 ⟨x, H1, I1, rx, a, C, dx, fs, v, ex, ea, c, n, l, q⟩ => ?_)
  subst ex
  obtain rfl : u = Value.ref a := rx
  exact getattr_ok I1 ea c n l fun u' s2 I2 ru => ⟨v, H1, I2, ru, q⟩
theorem ps_fld (ha : PE X o ta) (hv : PE X value tv) (hs : swapsWith value (some (.Attribute o f pos')) pos.line X.env = pure false) : PS X (.Assign [.Attribute o f pos'] value pos) (sFld X.K ta tv f) := by
  intro pins s σ H D I h
  refine plainObj_wpAny_Assign_Attribute (thn (hv pins s σ H _ I h) fun u s1 ⟨y, H1, I1, ry, q⟩ => thn (ha pins s1 σ H1 _ I1 q) fun ov s2 ⟨x, H2, I2, rx, a, C, dx, fs, ex, ea, c, n, l, q2⟩ => ?_) hs
  subst ex
  obtain rfl : ov = Value.ref a := rx
  exact setattr_ok I2 ea c n l ry fun s3 I3 => ⟨σ, _, I3, q2⟩
theorem ps_fldaug {op : Operator} {rd : V → V → Hp → VK → Prop} (ha : PE X o ta) (hv : PE X value tv) (hop : InOp X op rd) : PS X (.AugAssign (.Attribute o f tpos) op value pos) (sFldAug X.K ta tv rd f) := by
  intro pins s σ H D I h
  refine wpAny_AugAssign_AttributeAny (thn (ha pins s σ H _ I h) fun ov s1 ⟨x, H1, I1, rx, a, C, dx, fs, v, ex, ea, c, n, l, q⟩ => ?_)
  subst ex
  obtain rfl : ov = Value.ref a := rx
  refine getattr_ok I1 ea c n l fun u s2 I2 ru => thn (hv pins s2 σ H1 _ I2 q) fun w3 s3 ⟨y, H2, I3, ry, q3⟩ => thn (hop pins s3 σ H2 v y u w3 _ I3 ru ry q3) fun w4 s4 ⟨z, H3, I4, rz, dx', fs', ea', l', q4⟩ => ?_
  exact setattr_ok I4 ea' c n l' rz fun s5 I5 => ⟨σ, _, I5, q4⟩
def rAdd : V → V → Hp → VK → Prop := fun x y H Q => ∃ i j, x = .int i ∧ y = .int j ∧ Q (.int (i + j)) H
def rSub : V → V → Hp → VK → Prop := fun x y H Q => ∃ i j, x = .int i ∧ y = .int j ∧ Q (.int (i - j)) H
theorem in_add : InOp X .Add rAdd := by
  rintro pins s σ H x y u v Q I rx ry ⟨i, j, rfl, rfl, q⟩
  obtain ⟨t, rfl⟩ := (show ∃ t, u = Value.int i t from rx)
  obtain ⟨t', rfl⟩ := (show ∃ t', v = Value.int j t' from ry)
  exact PyProof.Rows.iadd_int ⟨.int (i + j), H, I.tok _, ⟨_, rfl⟩, q⟩
/-- what is between an instance and its method: the tree of a method call -/
theorem methcall_of {pl : Sem Bool} {m : Str} {apos : Pos} {args : List Expr} {pins : List (Addr × Obj)} {s : Shared} {σ : St} {H : Hp} {Q : Value → Shared → Prop} {te : TE} (he : PE X e te) (I : Inv X pins σ H s)
    (h : te σ H fun x H1 => ∃ a C dx fs g, x = .ref a ∧ H1 a = some (.ins C dx fs) ∧ Cls X.K C ∧ Meth X.K C m g ∧ fs.lookup m = none ∧
      ∀ s1, Inv X pins σ H1 s1 → wpAny (model X.prog X.w) X.A (callWith pos (.ref g) [.ref a] (backTo pos (starEach args X.env)) (backToKw pos (keywordEach [] X.env))) Q X.xe s1)
    (ht : eval (.Call (.Attribute e m apos) args [] pos) X.env = (do
      let ov ← eval e X.env
      standAt apos.atName
      let (f, first) ← holding [ov] (getMethod ov m pl)
      callWith pos f first (backTo pos (starEach args X.env)) (backToKw pos (keywordEach [] X.env)))) :
    wpAny (model X.prog X.w) X.A (eval (.Call (.Attribute e m apos) args [] pos) X.env) Q X.xe s := by
  refine PySem.W.methodCall_KW (pl := pl) (thn (he pins s σ H _ I h) fun u s1 ⟨x, H1, I1, rx, a, C, dx, fs, g, ex, ea, c, k, l, q⟩ => ?_) ht
  subst ex
  obtain rfl : u = Value.ref a := rx
  exact getmeth_ok I1 ea c k l (q s1 I1)
end

/-! ### isinstance -/
section
variable {X : Cx} {pins : List (Addr × Obj)} {σ : St} {H : Hp} {s : Shared} {A : Around} {E : Value → Shared → Prop} {Q : Value → Shared → Prop} {c : Value} {b : Bool}
/-- the type of a value, as the fragment's deciders take it; for an instance its class -/
inductive TyOf (K : PySem.W.Frag) (H : Hp) : V → Value → Prop where
  | non : TyOf K H .non (.type "NoneType")
  | bl (x : Bool) : TyOf K H (.bl x) (.type "bool")
  | int (i : Int) : TyOf K H (.int i) (.type "int")
  | str (x : Str) : TyOf K H (.str x) (.type "str")
  | flt (x : UInt64) : TyOf K H (.flt x) (.type "float")
  | lst {a : Addr} {xs : List V} (e : H a = some (.lst xs)) : TyOf K H (.ref a) (.type "list")
  | frz {a : Addr} {o : Obj} {xs : List V} (e : H a = some (.frz o (.lst xs))) : TyOf K H (.ref a) (.type "list")
  | tup {a : Addr} {xs : List V} (e : H a = some (.tup xs)) : TyOf K H (.ref a) (.type "tuple")
  | dK {a : Addr} {kvs : List (Key × V)} (e : H a = some (.dK kvs)) : TyOf K H (.ref a) (.type "dict")
  | dT {a : Addr} {kvs : List (List Key × V)} (e : H a = some (.dT kvs)) : TyOf K H (.ref a) (.type "dict")
  | ins {a C dx : Addr} {fs : List (Str × V)} (e : H a = some (.ins C dx fs)) (cl : Cls K C) (ha : PySem.W.findIn K (.ref C) "__class__" = some (some (.builtin "object.__class__")))
      (hn : PySem.W.specialIn K (.builtin "object.__class__") "__get__" = some (some (.builtin "getset_descriptor.__get__"))) (htk : PySem.W.takesIn K (.builtin "object.__class__") = some true)
      (hm : PySem.W.mroIn K C (.type "object") = some true) : TyOf K H (.ref a) (.ref C)
/-- isinstance(x, c) for one class c, a built-in or an own one: kitOne's answer -/
theorem isinst_ok {x : V} {u t : Value} (I : Inv X pins σ H s) (rx : RelV x u) (ty : TyOf X.K H x t) (e : PySem.W.kitOne X.K t c = some b) (h : ∀ tk, Q (.bool b) { s with toks := tk }) :
    wpAny (model X.prog X.w) A (call (.builtin "isinstance") [u, c]) Q E s := by
  cases ty with
  | non => cases (show u = Value.none from rx); exact PySem.W.kia_one PySem.W.kitx_none I.kIn True.intro e (fun z => nomatch z) h
  | bl y => cases (show u = Value.bool y from rx); exact PySem.W.kia_one PySem.W.kitx_bool I.kIn True.intro e (fun z => nomatch z) h
  | int i => obtain ⟨t, q⟩ := (show ∃ t, u = Value.int i t from rx); cases q; exact PySem.W.kia_one PySem.W.kitx_int I.kIn True.intro e (fun z => nomatch z) h
  | str y => obtain ⟨t, q⟩ := (show ∃ t, u = Value.str y t from rx); cases q; exact PySem.W.kia_one PySem.W.kitx_str I.kIn True.intro e (fun z => nomatch z) h
  | flt y => obtain ⟨t, q⟩ := (show ∃ t, u = Value.float y t from rx); cases q; exact PySem.W.kia_one PySem.W.kitx_float I.kIn True.intro e (fun z => nomatch z) h
  | @lst a xs ea =>
    cases (show u = Value.ref a from rx)
    obtain ⟨_, _, n, _, h1⟩ := (show ObjOk X.prog X.w H s.heap a (.lst xs) from I.hok a _ ea)
    exact PySem.W.kia_one PySem.W.kitx_list I.kIn ⟨_, h1, rfl⟩ e (fun z => nomatch z) h
  | @frz a ob xs ea =>
    cases (show u = Value.ref a from rx)
    obtain ⟨_, _, _, n, _, h1⟩ := (show ObjOk X.prog X.w H s.heap a (.frz ob (.lst xs)) from I.hok a _ ea)
    exact PySem.W.kia_one PySem.W.kitx_list I.kIn ⟨_, h1, rfl⟩ e (fun z => nomatch z) h
  | @tup a xs ea =>
    cases (show u = Value.ref a from rx)
    obtain ⟨_, _, _, p⟩ := (show ObjOk X.prog X.w H s.heap a (.tup xs) from I.hok a _ ea)
    obtain ⟨o, h1, h2, _⟩ := p
    exact PySem.W.kia_one PySem.W.kitx_tuple I.kIn ⟨o, h1, h2⟩ e (fun z => nomatch z) h
  | @dK a kvs ea =>
    cases (show u = Value.ref a from rx)
    obtain ⟨_, _, vs, _, p⟩ := (show ObjOk X.prog X.w H s.heap a (.dK kvs) from I.hok a _ ea)
    obtain ⟨o, es, ep, h1, h2, _⟩ := p
    exact PySem.W.kia_one PySem.W.kitx_dict I.kIn ⟨o, h1, h2.1⟩ e (fun z => nomatch z) h
  | @dT a kvs ea =>
    cases (show u = Value.ref a from rx)
    obtain ⟨_, _, xs, _, o, es, ep, h1, h2, _⟩ := (show ObjOk X.prog X.w H s.heap a (.dT kvs) from I.hok a _ ea)
    exact PySem.W.kia_one PySem.W.kitx_dict I.kIn ⟨o, h1, h2.1⟩ e (fun z => nomatch z) h
  | @ins a C dx fs ea cl ha hn htk hm =>
    cases (show u = Value.ref a from rx)
    obtain ⟨mA, O, _⟩ := ins_get I.hok ea
    obtain ⟨od, J, _⟩ := O.look
    exact PySem.W.kia_one (PySem.W.kitx_own (cl.get _) cl.hd ha hn htk hm) I.kIn J e (fun z => nomatch z) h
end
end L2

namespace L2
open PySem PySem.Spec PyProof.Rows

/-! ### room -/
structure Room (k : Nat) (A : Around) : Prop where
  hd : A.handled = none
  dp : A.depth + 3 * k + 5 < recursionLimit
  un : A.units + 16 * k + 200 < cLine
theorem Room.mono {j k : Nat} {A : Around} (r : Room k A) (h : j ≤ k) : Room j A := ⟨r.hd, by have := r.dp; omega, by have := r.un; omega⟩
theorem Room.deeper {k : Nat} {A : Around} (r : Room (k + 1) A) (env : Env) : Room k (A.deeper env) :=
  ⟨r.hd, by have := r.dp; show A.depth + 1 + 3 * k + 5 < _; omega, by have := r.un; show A.units + 3 + 16 * k + 200 < _; omega⟩
theorem make_depth {A : Around} {C : Addr} {us : List Value} {kw : List (Str × Value)} : (A.under (.builtin "type.__call__" ⟨.ref C :: us, kw⟩)).depth = A.depth + 1 := by
  first | rfl | simp [Around.under, Code.weight, Code.isCreation, Code.isGuard, Code.isCaller, Code.frames, Code.isFrame, guardIds]
theorem make_units {A : Around} {C : Addr} {us : List Value} {kw : List (Str × Value)} : (A.under (.builtin "type.__call__" ⟨.ref C :: us, kw⟩)).units = A.units + 1 := by
  first | rfl | simp [Around.under, Code.cUnits, Code.frames, Code.isFrame]
theorem Room.make {k : Nat} {A : Around} (r : Room (k + 1) A) (C : Addr) (us : List Value) (kw : List (Str × Value)) : Room k (A.under (.builtin "type.__call__" ⟨.ref C :: us, kw⟩)) :=
  ⟨r.hd, by have := r.dp; rw [make_depth]; omega, by have := r.un; rw [make_units]; omega⟩
theorem Room.depth {k : Nat} {A : Around} (r : Room k A) : A.depth < recursionLimit := by have := r.dp; omega
theorem Room.units {k : Nat} {A : Around} (r : Room k A) : A.units + 64 < cLine := by have := r.un; omega
/-! ### argument lists and displays -/
def tNil : TA := fun _ H Q => Q [] H
def tCons (ta : TE) (tr : TA) : TA := fun σ H Q => ta σ H fun x H1 => tr σ H1 fun xs H2 => Q (x :: xs) H2
section
variable {X : Cx} {e : Expr} {es : List Expr} {te : TE} {t : TA} {pos : Pos}
theorem pa_nil : PA X [] tNil := fun _ _ _ _ H Q I h => Calls.spliced_nil ⟨[], H, I, .nil, h⟩
theorem pa_cons (ha : PE X e te) (hr : PA X es t) (hs : starEach (e :: es) X.env = (false, eval e X.env) :: starEach es X.env := by rfl) : PA X (e :: es) (tCons te t) := by
  intro pos pins s σ H Q I h
  rw [hs]
  show wpAny _ _ (spliced ((false, eval e X.env) :: backTo pos (starEach es X.env))) _ _ s
  refine Calls.spliced_cons (thn (ha pins s σ H _ I h) fun u s1 ⟨x, H1, I1, r1, q1⟩ => ?_)
  exact thn (hr pos pins s1 σ H1 _ I1 q1) fun us s2 ⟨xs, H2, I2, r2, q2⟩ => ⟨x :: xs, H2, I2, .cons r1 r2, q2⟩

/-- a tuple, a list of written items -/
def tTup (t : TA) : TE := fun σ H Q => t σ H fun xs H1 => xs.length ≤ sizeLine ∧ ∀ p, H1 p = none → Q (.ref p) (upd H1 p (.tup xs))
def tLst (t : TA) : TE := fun σ H Q => t σ H fun xs H1 => xs.length ≤ sizeLine ∧ ∀ p, H1 p = none → Q (.ref p) (upd H1 p (.lst xs))
theorem pe_tup {x1} (h : PA X es t) : PE X (.Tuple es x1 pos) (tTup t) := by
  intro pins s σ H Q I hq
  refine wpAny_Tuple_spliced (thn (h pos pins s σ H _ I hq) fun us s1 ⟨xs, H1, I1, r, z, q⟩ => ⟨by rw [← r.length]; exact z, ?_⟩)
  have hf : H1 s1.heap.objs.size = none := I1.hok.fresh (Nat.le_refl _)
  refine ⟨.ref s1.heap.objs.size, upd H1 s1.heap.objs.size (.tup xs), I1.laid (t' := s1.toks) (fun b u e => Heap.get?_push_of_some _ e) (Nat.le_refl _) ?_, rfl, q _ hf⟩
  exact ⟨z, us, r, ⟨_, Heap.get?_push_size _ rfl, rfl, _, rfl⟩⟩
theorem pe_lst (h : PA X es t) : PE X (.List es pos) (tLst t) := by
  intro pins s σ H Q I hq
  refine wpAny_List_spliced (thn (h pos pins s σ H _ I hq) fun us s1 ⟨xs, H1, I1, r, z, q⟩ => ⟨by rw [← r.length]; exact z, ?_⟩)
  have hf : H1 s1.heap.objs.size = none := I1.hok.fresh (Nat.le_refl _)
  refine ⟨.ref s1.heap.objs.size, upd H1 s1.heap.objs.size (.lst xs), I1.laid (t' := s1.toks) (fun b u e => Heap.get?_push_of_some _ e) (Nat.le_refl _) ?_, rfl, q _ hf⟩
  exact ⟨z, us, 0, r, Heap.get?_push_size _ rfl⟩
end

/-! ### what a def promises -/
/-- a def's promise: the bound arguments in the parameters' order, the heap, the wanted end, the wanted exception -/
abbrev Sp := List V → Hp → VK → XK → Prop
/-- how an exception lies behind a call (file 08 gives it): the callers' frames, abstract heap and state ahead of the call, the wish, the exception, the state -/
abbrev CXT := List Env → Hp → Shared → XK → Value → Shared → Prop

/-- the state at a call -/
structure Env0 (P : Program) (w : World) (K : PySem.W.Frag) (mg : Str → Option Value) (base : Heap) (A : Around) (outer : List Env) (s : Shared) (H : Hp) : Prop where
  frames : A.frames = some outer
  mod : Mod K mg base
  bs : ∀ b o, base.get? b = some o → s.heap.get? b = some o ∧ H b = none
  bsz : base.objs.size ≤ s.heap.objs.size
  funs : s.heap.FunFrames base outer
  frf : ∀ b ∈ frs outer, H b = none
  hok : HOk P w H s.heap
  bare : AllBare s.gens
/-- a call's end -/
def CE (outer : List Env) (P : Program) (w : World) (H : Hp) (s : Shared) (Q : VK) (u : Value) (s' : Shared) : Prop :=
  ∃ v H', s'.os = s.os ∧ AllBare s'.gens ∧ Un (frs outer) [] H H' s.heap s'.heap ∧ HOk P w H' s'.heap ∧ RelV v u ∧ Q v H'
def CR (CX : CXT) (outer : List Env) (P : Program) (w : World) (H : Hp) (s : Shared) (Q : VK) (E : XK) (r : Result) (s' : Shared) : Prop :=
  match r with
  | .ok (.ret u) => CE outer P w H s Q u s'
  | .ok _ => False
  | .error e => CX outer H s E e s'
structure FnOk (P : Program) (w : World) (K : PySem.W.Frag) (mg : Str → Option Value) (base : Heap) (CX : CXT) (k : Nat) (f : Addr) (fd : FuncData) (ps : List Str) (sp : Sp) : Prop where
  len : ∀ vs H Q E, sp vs H Q E → vs.length = ps.length
  run : ∀ (A : Around) (outer : List Env) (s : Shared) (H : Hp) (args : Args) (us : List Value) (vs : List V) (Q : VK) (E : XK), Room k A → Env0 P w K mg base A outer s H → BindsTo s fd args (ps.zip us) → Vals vs us → sp vs H Q E →
    codeAny (model P w) A (.call (.ref f) args) (CR CX outer P w H s Q E) s
theorem Env0.make {P : Program} {w : World} {K : PySem.W.Frag} {mg : Str → Option Value} {base : Heap} {A : Around} {outer : List Env} {s : Shared} {H : Hp} (e : Env0 P w K mg base A outer s H) (C : Addr) (us : List Value) (kw : List (Str × Value)) :
    Env0 P w K mg base (A.under (.builtin "type.__call__" ⟨.ref C :: us, kw⟩)) outer s H := ⟨by first | exact e.frames | (simpa [Around.under, Code.envs, Code.isFrame, pushEnvs] using e.frames), e.mod, e.bs, e.bsz, e.funs, e.frf, e.hok, e.bare⟩
section
variable {X : Cx} {pins : List (Addr × Obj)} {σ : St} {H : Hp} {s s' : Shared}
/-- from a body: what a callee wants -/
theorem Inv.env0 (I : Inv X pins σ H s) : Env0 X.prog X.w X.K X.mg X.base X.A X.stack s H :=
  ⟨I.ok.frames, I.ok.mod, I.bs, Nat.le_trans I.ok.bsz I.sz, I.stack, I.stkFree, I.hok, I.bare⟩
/-- behind a call -/
theorem Inv.after {Q : VK} {u : Value} (I : Inv X pins σ H s) (h : CE X.stack X.prog X.w H s Q u s') : EP X pins σ Q u s' := by
  obtain ⟨v, H', os, bare, un, hok, r, q⟩ := h
  obtain ⟨hh, g, d, t, os'⟩ := s'
  obtain rfl : os' = s.os := os
  exact ⟨v, H', I.call (h' := hh) (g' := g) (d' := d) (t' := t) (ch := []) un hok bare (fun b z => absurd z (by simp)), r, q⟩
end

/-! ### calls -/
/-- f(..): the written arguments, then the defaults dvs; E: what is wanted of an exception -/
def tCall (sp : Sp) (dvs : List V) (E : XK) (t : TA) : TE := fun σ H Q => t σ H fun vs H1 => sp (vs ++ dvs) H1 Q E
/-- o.m(..) of an instance of the class at C -/
def tMeth (C : Addr) (m : Str) (sp : Sp) (dvs : List V) (E : XK) (ta : TE) (t : TA) : TE := fun σ H Q => ta σ H fun x H1 => ∃ a dx fs, x = .ref a ∧ H1 a = some (.ins C dx fs) ∧ fs.lookup m = none ∧
  t σ H1 fun vs H2 => sp (x :: (vs ++ dvs)) H2 Q E
/-- C(..): a new instance and its dict, then __init__ -/
def tMake (C : Addr) (sp : Sp) (dvs : List V) (E : XK) (t : TA) : TE := fun σ H Q => t σ H fun vs H1 => ∀ x dx, H1 x = none → H1 dx = none → dx ≠ x →
  sp (.ref x :: (vs ++ dvs)) (upd (upd H1 dx (.own x)) x (.ins C dx [])) (fun v H2 => v = .non ∧ Q (.ref x) H2) E

/-- how the parameters are bound: us the positional arguments, kw the keywords' values by name, ds the defaults that fill up -/
def Binds (K : PySem.W.Frag) (fd : FuncData) (ps : List Str) (ds : List Value) : Prop :=
  ∀ (s : Shared) (us : List Value), K.In s.heap → (us ++ ds).length = ps.length → BindsTo s fd ⟨us, []⟩ (ps.zip (us ++ ds))
/-- every parameter is given -/
theorem Binds.all {K : PySem.W.Frag} {fd : FuncData} {ps : List Str} (h : ∀ us : List Value, us.length = ps.length → bindArgs fd ⟨us, []⟩ = pure (ps.zip us)) : Binds K fd ps [] := fun s us _ hl => by
  rw [List.append_nil] at hl ⊢
  exact .of_eq (h us hl)

/-- an exception of a callee reaches what this body wants of exceptions -/
def Passes (CX : CXT) (X : Cx) (E : XK) : Prop := ∀ (pins : List (Addr × Obj)) (σ : St) (H : Hp) (s : Shared) (e : Value) (s' : Shared), Inv X pins σ H s → CX X.stack H s E e s' → X.xe e s'

section
variable {X : Cx} {CX : CXT} {k : Nat} {f C : Addr} {fd : FuncData} {ps : List Str} {sp : Sp} {dvs : List V} {ds : List Value} {E : XK} {x m : Str} {p pos apos : Pos} {e o : Expr} {es : List Expr} {ta : TE} {t : TA}

/-- the callee runs -/
theorem run_fn {pins : List (Addr × Obj)} {σ : St} {H : Hp} {s : Shared} {Q : VK} {us : List Value} {vs : List V} (F : FnOk X.prog X.w X.K X.mg X.base CX k f fd ps sp) (hr : Room k X.A) (hb : Binds X.K fd ps ds) (hd : Vals dvs ds) (hx : Passes CX X E)
    (I : Inv X pins σ H s) (r : Vals vs us) (h : sp (vs ++ dvs) H Q E) : wpAny (model X.prog X.w) X.A (call (.ref f) us) (EP X pins σ Q) X.xe s := by
  have r2 : Vals (vs ++ dvs) (us ++ ds) := r.append hd
  have hl : (us ++ ds).length = ps.length := by rw [← r2.length]; exact F.len _ _ _ _ h
  refine wpAny_call (codeAny_mono (F.run X.A X.stack s H ⟨us, []⟩ (us ++ ds) (vs ++ dvs) Q E hr I.env0 (hb s us I.kIn hl) r2 h) fun r s' hq => ?_)
  cases r with
  | error e => exact hx pins σ H s e s' I hq
  | ok fl =>
    cases fl with
    | ret u => exact I.after hq
    | next => exact False.elim hq
    | brk => exact False.elim hq
    | cont => exact False.elim hq

theorem pe_call (F : FnOk X.prog X.w X.K X.mg X.base CX k f fd ps sp) (hr : Room k X.A) (hg : Gl X x) (hm : X.mg x = some (.ref f)) (hk : PySem.W.keepIn X.K (.ref f) = true) (hb : Binds X.K fd ps ds) (hd : Vals dvs ds) (hx : Passes CX X E)
    (ha : PA X (e :: es) t) (hdb : (x == ("__debug__" : Str)) = false := by decide) (he : starEach (e :: es) X.env = (false, eval e X.env) :: starEach es X.env := by rfl) (hpl : (backTo pos (starEach es X.env)).any (·.1) = false := by rfl) :
    PE X (.Call (.Name x p) (e :: es) [] pos) (tCall sp dvs E t) := by
  intro pins s σ H Q I h
  refine wpAny_Call_Name_kw (ld_glob I hg hm ?_ hdb)
  refine PySem.W.callWith_K (h₀ := X.base) I.ok.mod.kin hk (thn (ha pos pins s σ H _ I h) fun us s1 ⟨vs, H1, I1, r, q⟩ => ⟨I1.kIn, ?_⟩) he hpl
  exact run_fn F hr hb hd hx I1 r q
/-- o.m(e, ..) -/
theorem pe_meth {pl : Sem Bool} (he : PE X o ta) (c : Cls X.K C) (hm : Meth X.K C m f) (F : FnOk X.prog X.w X.K X.mg X.base CX k f fd ps sp) (hr : Room k X.A) (hb : Binds X.K fd ps ds) (hd : Vals dvs ds) (hx : Passes CX X E) (ha : PA X (e :: es) t)
    (hst : starEach (e :: es) X.env = (false, eval e X.env) :: starEach es X.env := by rfl) (hpl : (backTo pos (starEach es X.env)).any (·.1) = false := by rfl)
    (ht : eval (.Call (.Attribute o m apos) (e :: es) [] pos) X.env = (do
      let ov ← eval o X.env
      standAt apos.atName
      let (f, first) ← holding [ov] (getMethod ov m pl)
      callWith pos f first (backTo pos (starEach (e :: es) X.env)) (backToKw pos (keywordEach [] X.env))) := by rfl) :
    PE X (.Call (.Attribute o m apos) (e :: es) [] pos) (tMeth C m sp dvs E ta t) := by
  intro pins s σ H Q I h
  refine PySem.W.methodCall_KW (pl := pl) (thn (he pins s σ H _ I h) fun u s1 ⟨x, H1, I1, rx, a, dx, fs, ex, ea, l, q⟩ => ?_) ht
  subst ex
  obtain rfl : u = Value.ref a := rx
  refine getmeth_ok I1 ea c hm l ?_
  refine PySem.W.callWith_K (first := [.ref a]) (h₀ := X.base) I.ok.mod.kin hm.kp (thn (ha pos pins s1 σ H1 _ I1 q) fun us s2 ⟨vs, H2, I2, r, q2⟩ => ⟨I2.kIn, ?_⟩) hst hpl
  exact run_fn (us := .ref a :: us) (vs := .ref a :: vs) F hr hb hd hx I2 (.cons rfl r) q2
/-- o.m() -/
theorem pe_meth0 {pl : Sem Bool} (he : PE X o ta) (c : Cls X.K C) (hm : Meth X.K C m f) (F : FnOk X.prog X.w X.K X.mg X.base CX k f fd ps sp) (hr : Room k X.A) (hb : Binds X.K fd ps ds) (hd : Vals dvs ds) (hx : Passes CX X E)
    (ht : eval (.Call (.Attribute o m apos) [] [] pos) X.env = (do
      let ov ← eval o X.env
      standAt apos.atName
      let (f, first) ← holding [ov] (getMethod ov m pl)
      callWith pos f first (backTo pos (starEach [] X.env)) (backToKw pos (keywordEach [] X.env))) := by rfl) :
    PE X (.Call (.Attribute o m apos) [] [] pos) (tMeth C m sp dvs E ta tNil) := by
  intro pins s σ H Q I h
  refine PySem.W.methodCall_KW (pl := pl) (thn (he pins s σ H _ I h) fun u s1 ⟨x, H1, I1, rx, a, dx, fs, ex, ea, l, q⟩ => ?_) ht
  subst ex
  obtain rfl : u = Value.ref a := rx
  refine getmeth_ok I1 ea c hm l ?_
  exact PySem.W.callWith_K0 (first := [.ref a]) I1.kIn hm.kp (run_fn (us := [.ref a]) (vs := [.ref a]) F hr hb hd hx I1 (.cons rfl .nil) q)

/-- what a class must have to be made -/
structure Mk (K : PySem.W.Frag) (C f : Addr) : Prop where
  makes : PySem.W.makesIn K C = true
  init : PySem.W.findIn K (.ref C) "__init__" = some (some (.ref f))
  fn : PySem.W.isFn K (.ref f) = true
  kp : PySem.W.keepIn K (.ref C) = true

theorem run_make {pins : List (Addr × Obj)} {σ : St} {H : Hp} {s : Shared} {Q : VK} {us : List Value} {vs : List V} (M : Mk X.K C f) (F : FnOk X.prog X.w X.K X.mg X.base CX k f fd ps sp) (hr : Room (k + 1) X.A) (hb : Binds X.K fd ps ds) (hd : Vals dvs ds)
    (hx : Passes CX X E) (I : Inv X pins σ H s) (r : Vals vs us)
    (h : ∀ x dx, H x = none → H dx = none → dx ≠ x → sp (.ref x :: (vs ++ dvs)) (upd (upd H dx (.own x)) x (.ins C dx [])) (fun v H2 => v = .non ∧ Q (.ref x) H2) E) :
    wpAny (model X.prog X.w) X.A (call (.ref C) us) (EP X pins σ Q) X.xe s := by
  have hq := h (s.heap.objs.size + 1) s.heap.objs.size (I.hok.fresh (Nat.le_succ _)) (I.hok.fresh (Nat.le_refl _)) (Nat.ne_of_lt (Nat.lt_succ_self _))
  have I2 := Inv.made (C := C) I
  have r2 : Vals (V.ref (s.heap.objs.size + 1) :: (vs ++ dvs)) (Value.ref (s.heap.objs.size + 1) :: (us ++ ds)) := .cons rfl (r.append hd)
  have hl : (Value.ref (s.heap.objs.size + 1) :: us ++ ds).length = ps.length := by
    have e := r2.length
    rw [F.len _ _ _ _ hq] at e
    exact e.symm
  refine wpAny_call (make_map (f := f) I.kIn M.makes M.init (beq_iff_eq.mp M.fn) (codeAny_mono (F.run _ X.stack _ _ ⟨Value.ref (s.heap.objs.size + 1) :: us, []⟩ (Value.ref (s.heap.objs.size + 1) :: (us ++ ds)) _ _ E (hr.make C us [])
    (I2.env0.make C us []) (hb _ (Value.ref (s.heap.objs.size + 1) :: us) I2.kIn hl) r2 hq) fun r s' hq' => ?_))
  cases r with
  | error e => exact hx pins σ _ _ e s' I2 hq'
  | ok fl =>
    cases fl with
    | ret u =>
      obtain ⟨v, H', I3, rv, ev, q3⟩ := I2.after hq'
      subst ev
      exact ⟨rv, ⟨V.ref (s.heap.objs.size + 1), H', I3, rfl, q3⟩⟩
    | next => exact False.elim hq'
    | brk => exact False.elim hq'
    | cont => exact False.elim hq'
theorem pe_make (M : Mk X.K C f) (F : FnOk X.prog X.w X.K X.mg X.base CX k f fd ps sp) (hr : Room (k + 1) X.A) (hg : Gl X x) (hm : X.mg x = some (.ref C)) (hb : Binds X.K fd ps ds) (hd : Vals dvs ds) (hx : Passes CX X E)
    (ha : PA X (e :: es) t) (hdb : (x == ("__debug__" : Str)) = false := by decide) (he : starEach (e :: es) X.env = (false, eval e X.env) :: starEach es X.env := by rfl) (hpl : (backTo pos (starEach es X.env)).any (·.1) = false := by rfl) :
    PE X (.Call (.Name x p) (e :: es) [] pos) (tMake C sp dvs E t) := by
  intro pins s σ H Q I h
  refine wpAny_Call_Name_kw (ld_glob I hg hm ?_ hdb)
  refine PySem.W.callWith_K (h₀ := X.base) I.ok.mod.kin M.kp (thn (ha pos pins s σ H _ I h) fun us s1 ⟨vs, H1, I1, r, q⟩ => ⟨I1.kIn, ?_⟩) he hpl
  exact run_make M F hr hb hd hx I1 r q
end

/-! ### keywords -/
/-- the values of the keywords, from the left -/
def PK (X : Cx) (kws : List Keyword) (t : TA) : Prop :=
  ∀ (pos : Pos) (pins : List (Addr × Obj)) (s : Shared) (σ : St) (H : Hp) (Q : List V → Hp → Prop), Inv X pins σ H s → t σ H Q → wpAny (model X.prog X.w) X.A (evalAll ((backToKw pos (keywordEach kws X.env)).map (·.2))) (AP X pins σ Q) X.xe s
section
variable {X : Cx} {CX : CXT} {k : Nat} {f C : Addr} {fd : FuncData} {ps ks : List Str} {sp : Sp} {E : XK} {x m : Str} {p pos apos kpos : Pos} {e o : Expr} {es : List Expr} {kws : List Keyword} {te ta : TE} {t tk : TA} {nm : Option Str}
/-- how a call with keywords binds: g puts the positional values us and the keywords' values ws (names ks) in the parameters' order, defaults among them -/
structure KBinds (K : PySem.W.Frag) (fd : FuncData) (ps ks : List Str) (g : List Value → List Value → List Value) (gV : List V → List V → List V) : Prop where
  to : ∀ (s : Shared) (us ws : List Value), K.In s.heap → (g us ws).length = ps.length → BindsTo s fd ⟨us, ks.zip ws⟩ (ps.zip (g us ws))
  rel : ∀ {vs : List V} {us : List Value} {zs : List V} {ws : List Value}, Vals vs us → Vals zs ws → Vals (gV vs zs) (g us ws)
def tCallK (sp : Sp) (gV : List V → List V → List V) (E : XK) (t tk : TA) : TE := fun σ H Q => t σ H fun vs H1 => tk σ H1 fun zs H2 => sp (gV vs zs) H2 Q E
variable {g : List Value → List Value → List Value} {gV : List V → List V → List V}
end

/-! ### a def's body keeps its promise -/
/-- names: the parameters first -/
structure FnScope (N P : List Str) (sc : Scope) : Prop where
  kind : sc.kind = .function
  co : sc.isCoroutine = false
  gen : sc.isGenerator = false
  nd : N.Nodup
  pre : N.take P.length = P
  par : ∀ x ∈ P, sc.names.lookup x = some .local ∨ sc.names.lookup x = some .cell
  nofree : ∀ y ∈ sc.names, y.2 ≠ .free

theorem bindL_out {kindOf : Str → Option NameKind} {x : Str} : ∀ {binds : List (Str × Value)} {m : Str → Option Value}, (∀ v, (x, v) ∉ binds) → bindL kindOf binds m x = m x
  | [], _, _ => rfl
  | (n, v) :: r, m, h => by
    unfold bindL
    rw [bindL_out fun w hw => h w (List.mem_cons_of_mem _ hw)]
    split
    · have : x ≠ n := by rintro rfl; exact h v List.mem_cons_self
      simp [this]
    · rfl
theorem bindC_out {kindOf : Str → Option NameKind} {x : Str} : ∀ {binds : List (Str × Value)} {m : Str → Option Value}, (∀ v, (x, v) ∉ binds) → bindC kindOf binds m x = m x
  | [], _, _ => rfl
  | (n, v) :: r, m, h => by
    unfold bindC
    rw [bindC_out fun w hw => h w (List.mem_cons_of_mem _ hw)]
    split
    · rfl
    · have : x ≠ n := by rintro rfl; exact h v List.mem_cons_self
      simp [this]
theorem bindL_get {kindOf : Str → Option NameKind} {x : Str} {v : Value} : ∀ {P : List Str} {vs : List Value} {i : Nat} {m : Str → Option Value}, P.Nodup → P[i]? = some x → vs[i]? = some v → kindOf x = some .local →
    bindL kindOf (P.zip vs) m x = some v
  | [], _, _, _, _, h, _, _ => by simp at h
  | _ :: _, [], _, _, _, _, h, _ => by simp at h
  | p :: P, w :: vs, 0, m, nd, h1, h2, hk => by
    simp at h1 h2; subst h1; subst h2
    show bindL kindOf ((p, w) :: P.zip vs) m p = _
    unfold bindL
    rw [bindL_out fun v hv => (List.nodup_cons.mp nd).1 (List.of_mem_zip hv).1, if_pos hk]
    simp
  | p :: P, w :: vs, i + 1, m, nd, h1, h2, hk => by
    show bindL kindOf ((p, w) :: P.zip vs) m x = _
    unfold bindL
    exact bindL_get (i := i) (List.nodup_cons.mp nd).2 (by simpa using h1) (by simpa using h2) hk
theorem bindC_get {kindOf : Str → Option NameKind} {x : Str} {v : Value} : ∀ {P : List Str} {vs : List Value} {i : Nat} {m : Str → Option Value}, P.Nodup → P[i]? = some x → vs[i]? = some v → kindOf x ≠ some .local →
    bindC kindOf (P.zip vs) m x = some v
  | [], _, _, _, _, h, _, _ => by simp at h
  | _ :: _, [], _, _, _, _, h, _ => by simp at h
  | p :: P, w :: vs, 0, m, nd, h1, h2, hk => by
    simp at h1 h2; subst h1; subst h2
    show bindC kindOf ((p, w) :: P.zip vs) m p = _
    unfold bindC
    rw [bindC_out fun v hv => (List.nodup_cons.mp nd).1 (List.of_mem_zip hv).1, if_neg hk]
    simp
  | p :: P, w :: vs, i + 1, m, nd, h1, h2, hk => by
    show bindC kindOf ((p, w) :: P.zip vs) m x = _
    unfold bindC
    exact bindC_get (i := i) (List.nodup_cons.mp nd).2 (by simpa using h1) (by simpa using h2) hk

/-- the names' values at the entry -/
def start (N : List Str) (vs : List V) : St := vs.map some ++ List.replicate (N.length - vs.length) none

/-- the context of a def's body, at its entry; an exception leaves the frame, then lies as CX says -/
def cxOf (CX : CXT) (P : Program) (w : World) (K : PySem.W.Frag) (mg : Str → Option Value) (base : Heap) (N : List Str) (qual : Str) (scope : Scope) (f : Addr) (cd : Value) (A : Around) (outer : List Env) (s : Shared) (H : Hp) (E : XK) : Cx where
  prog := P
  w := w
  K := K
  mg := mg
  base := base
  A := A.deeper (envOfC qual scope s.heap.objs.size f cd)
  N := N
  s₀ := s
  H₀ := H
  env := envOfC qual scope s.heap.objs.size f cd
  outer := outer
  stack := envOfC qual scope s.heap.objs.size f cd :: outer
  ex := []
  calm := true
  fn := fun _ => true
  pn := []
  xe := fun e s' => wpAny (model P w) (A.deeper (envOfC qual scope s.heap.objs.size f cd)) (leaving (envOfC qual scope s.heap.objs.size f cd) e) (fun _ s'' => CX outer H s E e s'') (fun e' s'' => CX outer H s E e' s'') s'

theorem cell_has {sc : Scope} {n : Nat} {x : Str} (h : sc.names.lookup x = some .cell) : ∃ c, (cellsFrom n sc.names []).lookup x = some c := by
  have q := PySem.W.cellsFrom_some sc.names n [] (.inl h)
  exact Option.isSome_iff_exists.mp q

theorem inv_start {CX : CXT} {P : Program} {w : World} {K : PySem.W.Frag} {mg : Str → Option Value} {base : Heap} {N ps : List Str} {qual : Str} {scope : Scope} {f : Addr} {cd : Value} {A : Around} {outer : List Env} {s s1 : Shared} {H : Hp} {E : XK} {us : List Value} {vs : List V}
    (S : FnScope N ps scope) (hd : A.handled = none) (e0 : Env0 P w K mg base A outer s H) (hl : vs.length = ps.length) (r : Vals vs us)
    (x : InCallC s s.heap.objs.size (bindL (envOfC qual scope s.heap.objs.size f cd).kindOf (ps.zip us) fun _ => none) (cellsFrom (s.heap.objs.size + 1) scope.names []) (bindC (envOfC qual scope s.heap.objs.size f cd).kindOf (ps.zip us) fun _ => none) s1) :
    Inv (cxOf CX P w K mg base N qual scope f cd A outer s H E) [] (start N vs) H s1 := by
  have hpl : ps.length ≤ N.length := by have := congrArg List.length S.pre; rw [List.length_take] at this; omega
  obtain ⟨h1, tk, rfl, hk⟩ := x.done
  have noA : ∀ b : Addr, b ∉ (cxOf CX P w K mg base N qual scope f cd A outer s H E).ex := fun b z => absurd (show b ∈ ([] : List Addr) from z) (by simp)
  refine ⟨⟨e0.mod, S.kind, rfl, rfl, Nat.le_refl _, fun y z c h1 h2 => ?_, fun y hy => ?_, fun y c _ h => ?_, fun _ => hd, Around.frames_deeper e0.frames, .inr ⟨rfl, rfl⟩, fun b z => absurd z (noA b), e0.bs, e0.bsz, fun b _ _ => noA b, fun b z => absurd z (noA b), e0.funs, e0.frf⟩,
    rfl, e0.bare, Un.kept hk, ⟨_, x.toInCall.ns, fun i y v h1 h2 h3 => ?_⟩, fun y c h => ⟨_, x.cell y c h⟩, e0.hok.fresh (Nat.le_refl _), fun y c h => ?_, fun p hp => absurd (show p ∈ ([] : List (Addr × Obj)) from hp) (by simp), e0.hok.kept hk, ?_⟩
  · exact name_of_addr x.apart (PySem.mem_of_lookup h1) (PySem.mem_of_lookup h2)
  · have hy : scope.names.lookup y = some .cell ∨ scope.names.lookup y = some .free := hy
    rcases hy with hy | hy
    · exact cell_has hy
    · exact absurd rfl (S.nofree _ (PySem.mem_of_lookup hy))
  · exact Nat.le_of_lt (x.above y c (PySem.mem_of_lookup h))
  · have hi : i < vs.length := by
      unfold start at h2
      by_cases hi : i < vs.length
      · exact hi
      · rw [List.getElem?_append_right (by simpa using hi)] at h2
        rw [List.getElem?_replicate] at h2
        split at h2 <;> cases h2
    have ha : vs[i]? = some v := by
      unfold start at h2
      rw [List.getElem?_append_left (by simpa using hi), List.getElem?_map] at h2
      cases e : vs[i]? with
      | none => rw [e] at h2; cases h2
      | some a => rw [e] at h2; cases h2; rfl
    obtain ⟨u, hu, rv⟩ := r.get ha
    have hp : ps[i]? = some y := by
      rw [← S.pre, List.getElem?_take_of_lt (by omega)]; exact h1
    have ndP : ps.Nodup := by rw [← S.pre]; exact S.nd.sublist (List.take_sublist _ _)
    refine ⟨u, rv, ?_⟩
    rcases S.par y (List.mem_of_getElem? hp) with k | k
    · exact .inl ⟨k, bindL_get ndP hp hu k⟩
    · obtain ⟨c, e⟩ := cell_has (n := s.heap.objs.size + 1) k
      refine .inr ⟨.inl k, c, e, ?_⟩
      have q := x.cell y c e
      rw [bindC_get ndP hp hu (by show scope.names.lookup y ≠ _; rw [k]; decide)] at q
      exact q
  · exact e0.hok.fresh (Nat.le_of_lt (x.above y c (PySem.mem_of_lookup h)))
  · unfold start
    show _ = N.length
    rw [List.length_append, List.length_map, List.length_replicate]
    omega

/-- THE RULE: a def (or a method) of the text, by its body. The body's reading t is chosen for each entry; it is run at the parameters' values -/
theorem fn_of {CX : CXT} {P : Program} {w : World} {K : PySem.W.Frag} {mg : Str → Option Value} {base : Heap} {k : Nat} {f : Addr} {name qual : Str} {params : Arguments} {body : List Stmt} {scope : Scope} {dV kV doc pm cdv ct oc : Value} {an od : Option Addr}
    {osl : Array (Option Value)} {N ps : List Str} {sp : Sp} (lk : K.lookup f = some ⟨oc, od, .func (PySem.W.fnOf name qual params body scope dV kV doc pm an cdv ct), osl⟩) (hcd : PySem.W.codeIn K cdv qual = true) (S : FnScope N ps scope)
    (len : ∀ vs H Q E, sp vs H Q E → vs.length = ps.length)
    (hbody : ∀ (A : Around) (outer : List Env) (s : Shared) (H : Hp) (vs : List V) (Q : VK) (E : XK), Room k (A.deeper (envOfC qual scope s.heap.objs.size f cdv)) → sp vs H Q E →
      ∃ t, PSs (cxOf CX P w K mg base N qual scope f cdv A outer s H E) body t ∧ t { nx := fun _ H' => Q .non H', rt := Q } (start N vs) H) :
    FnOk P w K mg base CX (k + 1) f (PySem.W.fnOf name qual params body scope dV kV doc pm an cdv ct) ps sp := by
  refine ⟨len, fun A outer s H args us vs Q E hr e0 hb r hsp => ?_⟩
  have hl := len _ _ _ _ hsp
  have KX : K.In s.heap := e0.mod.kin.keeps fun b o e => (e0.bs b o e).1
  have lim : s.heap.NoLimit := e0.mod.nolimit.keeps fun b o e => (e0.bs b o e).1
  have hkind : ∀ y ∈ ps.zip us, scope.names.lookup y.1 = some .local ∨ (scope.names.lookup y.1 = some .cell ∧ ((cellsFrom (s.heap.objs.size + 1) scope.names []).lookup y.1).isSome = true) := fun ⟨n, v⟩ hy => by
    rcases S.par n (List.of_mem_zip hy).1 with q | q
    · exact .inl q
    · exact .inr ⟨q, PySem.W.cellsFrom_some _ _ _ (.inl q)⟩
  refine codeAny_call_function hr.depth (KX _ _ lk) rfl S.co S.gen rfl (PySem.W.codeRec_of KX hcd) (hb _ _ _ _ ?_)
  refine wpAny_newFunctionEnv_cells S.kind hkind fun env he s1 x => ?_
  subst he
  refine ⟨lim.keeps x.toInCall.keep, codeAny_func ?_⟩
  obtain ⟨t, ht, hq⟩ := hbody A outer s H vs Q E (hr.deeper _) hsp
  have I : Inv (cxOf CX P w K mg base N qual scope f cdv A outer s H E) [] (start N vs) H s1 := inv_start S hr.hd e0 hl r x
  refine wpAny_mono (ht [] s1 (start N vs) H _ I hq) (fun fl s' hs => ?_) fun e s' hs => hs
  have fin : ∀ {σ' : St} {H' : Hp} {v : V} {u : Value}, Inv (cxOf CX P w K mg base N qual scope f cdv A outer s H E) [] σ' H' s' → RelV v u → Q v H' → CE outer P w H s Q u s' :=
    fun {σ' H' v u} J rv q => ⟨v, H', J.os, J.bare, J.base, J.hok, rv, q⟩
  cases fl with
  | ret u =>
    obtain ⟨v, σ', H', J, rv, q⟩ := hs
    exact fin J rv q
  | next =>
    obtain ⟨σ', H', J, q⟩ := hs
    exact fin (v := V.non) (u := Value.none) J rfl q
  | brk =>
    obtain ⟨_, _, _, q⟩ := hs
    exact False.elim q
  | cont =>
    obtain ⟨_, _, _, q⟩ := hs
    exact False.elim q
end L2

namespace L2
open PySem PySem.Spec PyProof.Rows
section
variable {X : Cx} {x : Str} {p pos : Pos} {e : Expr} {es : List Expr} {t : TA} {id T : String} {r : List V → Hp → VK → Prop}

def tCB (r : List V → Hp → VK → Prop) (t : TA) : TE := fun σ H Q => t σ H fun vs H1 => r vs H1 Q
/-- f(e, ..), f a built-in function -/
theorem pe_callB (hc : CallR X (.builtin id) r) (hg : Gl X x) (hm : X.mg x = none) (hv : bootBuiltins x = some (.builtin id)) (ha : PA X (e :: es) t) (hn : x ≠ "__name__" := by decide) (hdb : (x == ("__debug__" : Str)) = false := by decide)
    (he : starEach (e :: es) X.env = (false, eval e X.env) :: starEach es X.env := by rfl) (hpl : (backTo pos (starEach es X.env)).any (·.1) = false := by rfl) : PE X (.Call (.Name x p) (e :: es) [] pos) (tCB r t) := by
  intro pins s σ H Q I h
  refine wpAny_Call_Name_kw (ld_blt I hg hm hv ?_ hn hdb)
  exact PyProof.Rows.callWith_builtin1 (thn (ha pos pins s σ H _ I h) fun us s1 ⟨vs, H1, I1, r1, q1⟩ => hc pins s1 σ H1 vs us Q I1 r1 q1) he hpl
/-- T(e, ..), T a built-in type -/
theorem pe_callTy (hc : CallR X (.type T) r) (hg : Gl X x) (hm : X.mg x = none) (hv : bootBuiltins x = some (.type T)) (ha : PA X (e :: es) t) (hn : x ≠ "__name__" := by decide) (hdb : (x == ("__debug__" : Str)) = false := by decide)
    (he : starEach (e :: es) X.env = (false, eval e X.env) :: starEach es X.env := by rfl) (hpl : (backTo pos (starEach es X.env)).any (·.1) = false := by rfl) : PE X (.Call (.Name x p) (e :: es) [] pos) (tCB r t) := by
  intro pins s σ H Q I h
  refine wpAny_Call_Name_kw (ld_blt I hg hm hv ?_ hn hdb)
  exact PyProof.Rows.callWith_type1 (thn (ha pos pins s σ H _ I h) fun us s1 ⟨vs, H1, I1, r1, q1⟩ => hc pins s1 σ H1 vs us Q I1 r1 q1) he hpl
end
end L2

namespace HT
open PySem PyProof.Rows

/-- t < u of tuples of ints -/
def lexLt : List Int → List Int → Bool
  | [], [] => false
  | [], _ :: _ => true
  | _ :: _, [] => false
  | x :: xs, y :: ys => if x = y then lexLt xs ys else decide (x < y)
section
open PySem.SeqAt
open PySem.AutoSeq1 (wpAny_loadPart')
open PySem.MeetsSeq PySem.MeetsSeq2 PySem.MeetsSeq3

end

section
variable {prog : Program} {w : World} {A : Around} {E : Value → Shared → Prop} {s : Shared}

/-! ### t[a:b], not the whole -/
/-- a slice's bound as a place among n (d where it is left out) -/
def sIx (n d : Nat) : Option Int → Nat
  | none => d
  | some v => if v < 0 then (v + (n : Int)).toNat else min v.toNat n
theorem sIx_none (n d : Nat) : sIx n d none = d := rfl
theorem sIx_nat (n d k : Nat) : sIx n d (some (k : Int)) = min k n := by
  show (if (k : Int) < 0 then ((k : Int) + (n : Int)).toNat else min (k : Int).toNat n) = min k n
  rw [if_neg (by omega), Int.toNat_natCast]
theorem sIx_le (n d : Nat) (hd : d ≤ n) (o : Option Int) : sIx n d o ≤ n := by
  cases o with
  | none => exact hd
  | some v =>
    show (if v < 0 then (v + (n : Int)).toNat else min v.toNat n) ≤ n
    by_cases hv : v < 0
    · rw [if_pos hv]; omega
    · rw [if_neg hv]; exact Nat.min_le_right _ _
theorem clip_eq (v : Int) (n d : Nat) : (if v < 0 then max (v + (n : Int)) 0 else min v (n : Int)) = ((sIx n d (some v) : Nat) : Int) := by
  show (if v < 0 then max (v + (n : Int)) 0 else min v (n : Int)) = (((if v < 0 then (v + (n : Int)).toNat else min v.toNat n) : Nat) : Int)
  by_cases hv : v < 0
  · simp only [if_pos hv]; omega
  · simp only [if_neg hv]; omega
theorem adjust_gen (lo hi : Option Int) (n : Nat) : Builtin.Slice.sliceAdjust lo hi 1 (n : Int) = (((sIx n 0 lo : Nat) : Int), ((sIx n n hi : Nat) : Int)) := by
  have h1 : ¬ ((1 : Int) < 0) := by omega
  unfold Builtin.Slice.sliceAdjust
  simp only [h1, if_false]
  refine Prod.ext ?_ ?_
  · cases lo with
    | none => rfl
    | some v => exact clip_eq v n 0
  · cases hi with
    | none => rfl
    | some v => exact clip_eq v n n
theorem places_gen (i j : Nat) : Builtin.Slice.slicePlaces (i : Int) (j : Int) 1 = j - i := by
  unfold Builtin.Slice.slicePlaces
  have h1 : (1 : Int) > 0 := by omega
  simp only [h1, if_true, Int.ediv_one]
  split <;> omega
theorem slicePart_ {v : Value} {o : Option Int} {Q : Option Int → Shared → Prop} (p : IsPart v o) (h : Q o s) : wpAny (model prog w) A (Builtin.Slice.slicePartIndex v) Q E s := by
  cases p with
  | none => exact slicePart_none h
  | int i t => exact slicePart_int h
theorem sliceApplied_gen {sl : Addr} {vl vu : Value} {lo hi : Option Int} {n : Nat} {Q : Int × Int × Nat → Shared → Prop} (hs : s.heap.IsSliceOf sl vl vu .none) (pl : IsPart vl lo) (pu : IsPart vu hi)
    (h : Q (((sIx n 0 lo : Nat) : Int), 1, sIx n n hi - sIx n 0 lo) s) : wpAny (model prog w) A (Builtin.Slice.sliceApplied (.ref sl) (pure (n : Int))) Q E s := by
  obtain ⟨os, hos, hcs, hds⟩ := id hs
  unfold Builtin.Slice.sliceApplied Builtin.Slice.sliceFields
  refine wpAny_bind (wpAny_bind (wpAny_field hos hds (x := vl) rfl (wpAny_bind (wpAny_field hos hds (x := vu) rfl (wpAny_bind (wpAny_field hos hds (x := .none) rfl (wpAny_pure ?_)))))))
  refine wpAny_bind (slicePart_none ?_)
  show wpAny _ _ (if ((1 : Int) == 0) = true then _ else _) _ _ s
  rw [if_neg (by decide)]
  refine wpAny_bind (slicePart_ pl (wpAny_bind (slicePart_ pu (wpAny_bind (wpAny_pure ?_)))))
  show wpAny _ _ (match Builtin.Slice.sliceAdjust lo hi 1 (n : Int) with | (lo, hi) => pure (lo, (1 : Int), Builtin.Slice.slicePlaces lo hi 1)) _ _ s
  rw [adjust_gen lo hi n]
  show wpAny _ _ (pure (((sIx n 0 lo : Nat) : Int), (1 : Int), Builtin.Slice.slicePlaces ((sIx n 0 lo : Nat) : Int) ((sIx n n hi : Nat) : Int) 1)) _ _ s
  rw [places_gen]
  exact wpAny_pure h
theorem pick_gen (xs : Array Value) (i k : Nat) : ((List.range k).filterMap fun (m : Nat) => xs[((i : Int) + (m : Int) * 1).toNat]?).toArray = ((xs.toList.drop i).take k).toArray := by
  have e : (fun (m : Nat) => xs[((i : Int) + (m : Int) * 1).toNat]?) = fun m => xs[i + m]? := by
    funext m
    have : ((i : Int) + (m : Int) * 1).toNat = i + m := by omega
    rw [this]
  rw [e]
  have := pick_run xs i k
  rw [List.filterMap_map] at this
  have e2 : ((fun x => xs[x]?) ∘ fun x => i + x) = fun m => xs[i + m]? := rfl
  rw [e2] at this
  rw [this]

theorem getItem_tuple_cut {t sl : Addr} {items : Array Value} {vl vu : Value} {lo hi : Option Int} {Q : Value → Shared → Prop} (ht : IsTup s.heap t items) (hs : s.heap.IsSliceOf sl vl vu .none) (pl : IsPart vl lo) (pu : IsPart vu hi)
    (hw : ¬ (sIx items.size 0 lo = 0 ∧ sIx items.size items.size hi = items.size))
    (h : Q (.ref s.heap.objs.size) { s with heap := s.heap.push { cls := .type "tuple", data := .seq ((items.toList.drop (sIx items.size 0 lo)).take (sIx items.size items.size hi - sIx items.size 0 lo)).toArray } })
    (hsz : items.size ≤ sizeLine) : wpAny (model prog w) A (getItem (.ref t) (.ref sl)) Q E s := by
  have htake : sizeOk (.seq ((items.toList.drop (sIx items.size 0 lo)).take (sIx items.size items.size hi - sIx items.size 0 lo)).toArray) := by
    show ((items.toList.drop (sIx items.size 0 lo)).take (sIx items.size items.size hi - sIx items.size 0 lo)).toArray.size ≤ sizeLine
    rw [List.size_toArray, List.length_take, List.length_drop, Array.length_toList]
    omega
  have hj : sIx items.size items.size hi ≤ items.size := sIx_le _ _ (Nat.le_refl _) hi
  obtain ⟨os, hos, hcs, hds⟩ := id hs
  have hTs : s.TypeIs (.ref sl) "slice" := ⟨os, hos, hcs⟩
  unfold getItem
  try with_reducible refine wpAny_holding ?_
  first | refine wpAny_bind (wpAny_pure ?_) | skip
  refine wpAny_bind (wpAny_sequenceKey ht.typeIs (by decide) ?_)
  refine wpAny_bind (wpAny_callSpecial?_slot (name := Str.ofString "__getitem__") ht.typeIs PyProof.Rows.slot_tuple_getitem
    (wpAny_call_entry PyProof.Rows.slot_tuple_getitem ht.typeIs entry_tuple_getitem ?_ (args_tuple_getitem _ _)))
  show wpAny _ _ (Builtin.Tuple.tupleItemsOf (.ref t) >>= _) _ _ s
  refine wpAny_bind (tupleItemsOf_ ht ?_)
  refine wpAny_bind (wpAny_typeOf hTs ?_)
  rw [if_pos (by decide)]
  refine wpAny_bind (sliceApplied_gen hs pl pu ?_)
  have hno : ¬ ((((sIx items.size 0 lo : Nat) : Int) == 0 && (1 : Int) == 1 && (sIx items.size items.size hi - sIx items.size 0 lo) == items.size) = true) := by
    intro q
    rw [Bool.and_eq_true, Bool.and_eq_true] at q
    have q1 : ((sIx items.size 0 lo : Nat) : Int) = 0 := eq_of_beq q.1.1
    have q2 : sIx items.size items.size hi - sIx items.size 0 lo = items.size := eq_of_beq q.2
    exact hw ⟨by omega, by omega⟩
  show wpAny _ _ (if (((sIx items.size 0 lo : Nat) : Int) == 0 && (1 : Int) == 1 && (sIx items.size items.size hi - sIx items.size 0 lo) == items.size) = true then _ else _) _ _ s
  rw [if_neg hno, pick_gen]
  first
    | exact wpAny_bind (m := Builtin.Tuple.tupleExact _) (wpAny_newObj_type (wpAny_pure ⟨_, rfl, wpAny_pure h⟩) htake)
    | exact wpAny_bind (m := Builtin.Tuple.tupleExact _) (wpAny_newObj_type (wpAny_bind (wpAny_pure (wpAny_pure ⟨_, rfl, wpAny_pure h⟩))) htake)
    | exact wpAny_bind (wpAny_bind (m := Builtin.Tuple.tupleExact _) (wpAny_newObj_type (wpAny_pure (wpAny_pure ⟨_, rfl, wpAny_pure h⟩)) htake))
    | exact wpAny_bind (wpAny_bind (m := Builtin.Tuple.tupleExact _) (wpAny_newObj_type (wpAny_pure ⟨_, rfl, wpAny_pure h⟩) htake))
end
end HT

namespace L2
open PySem PySem.Spec PyProof.Rows

/-! ### the parts of a slice -/
abbrev TO := St → Hp → (Option Int → Hp → Prop) → Prop
/-- a slice's part (left out, or an int) -/
def PO (X : Cx) (e : Option Expr) (t : TO) : Prop :=
  ∀ (pins : List (Addr × Obj)) (s : Shared) (σ : St) (H : Hp) (Q : Option Int → Hp → Prop), Inv X pins σ H s → t σ H Q →
    wpAny (model X.prog X.w) X.A (evalPart e X.env) (fun u s' => ∃ o H', Inv X pins σ H' s' ∧ IsPart u o ∧ Q o H') X.xe s
def tNoPart : TO := fun _ H Q => Q none H
def tPart (t : TE) : TO := fun σ H Q => t σ H fun x H1 => ∃ i, x = .int i ∧ Q (some i) H1

section
variable {X : Cx} {e : Expr} {te : TE} {lo hi : Option Expr} {tl th : TO} {pos p2 : Pos}

theorem po_none : PO X none tNoPart := by
  intro pins s σ H Q I h
  rw [evalPart_none]
  exact wpAny_pure ⟨none, H, I, .none, h⟩
theorem po_some (h : PE X e te) : PO X (some e) (tPart te) := by
  intro pins s σ H Q I hw
  rw [evalPart_some]
  refine thn (h pins s σ H _ I hw) fun u s1 ⟨x, H1, I1, r1, q1⟩ => ?_
  obtain ⟨i, rfl, q⟩ := q1
  obtain ⟨t, rfl⟩ := r1
  exact ⟨some i, H1, I1, .int i t, q⟩

/-- what a slice of a value is, by values: the slice object stands at sl -/
def SlR (X : Cx) (r : V → Option Int → Option Int → Hp → VK → Prop) : Prop :=
  ∀ (pins : List (Addr × Obj)) (s : Shared) (σ : St) (H : Hp) (x : V) (v vl vu : Value) (lo hi : Option Int) (sl : Addr) (Q : VK), Inv X pins σ H s → RelV x v → s.heap.IsSliceOf sl vl vu .none → IsPart vl lo → IsPart vu hi → r x lo hi H Q →
    ∃ T id, typeLookup (.type T) "__getitem__" = pure (some (.builtin id)) ∧ s.TypeIs v T ∧ wpAny (model X.prog X.w) X.A (getItem v (.ref sl)) (EP X pins σ Q) X.xe s
theorem SlR.or {r r' : V → Option Int → Option Int → Hp → VK → Prop} (h : SlR X r) (h' : SlR X r') : SlR X (fun x lo hi H Q => r x lo hi H Q ∨ r' x lo hi H Q) := by
  intro pins s σ H x v vl vu lo hi sl Q I rx hs pl pu q
  rcases q with q | q
  · exact h pins s σ H x v vl vu lo hi sl Q I rx hs pl pu q
  · exact h' pins s σ H x v vl vu lo hi sl Q I rx hs pl pu q
def tSl (r : V → Option Int → Option Int → Hp → VK → Prop) (te : TE) (tl th : TO) : TE := fun σ H Q => te σ H fun x H1 => tl σ H1 fun l H2 => th σ H2 fun u H3 => r x l u H3 Q
/-- a[lo:hi], any a -/
theorem pe_slice {r : V → Option Int → Option Int → Hp → VK → Prop} (hr : SlR X r) (he : PE X e te) (hl : PO X lo tl) (hu : PO X hi th) : PE X (.Subscript e (.Slice lo hi none p2) pos) (tSl r te tl th) := by
  intro pins s σ H Q I h
  refine Subscript_ (thn (he pins s σ H _ I h) fun v s1 ⟨x, H1, I1, r1, q1⟩ => ?_)
  refine wpAny_Slice (thn (hl pins s1 σ H1 _ I1 q1) fun vl s2 ⟨l, H2, I2, pl, q2⟩ => thn (hu pins s2 σ H2 _ I2 q2) fun vu s3 ⟨u, H3, I3, pu, q3⟩ => ?_)
  rw [evalPart_none]
  refine wpAny_pure ?_
  have I4 : Inv X pins σ H3 { s3 with heap := s3.heap.push { cls := .type "slice", data := .fields #[vl, vu, .none] } } := I3.kept (t' := s3.toks) fun b ob q => Heap.get?_push_of_some _ q
  obtain ⟨T, id, hT, ht, hg⟩ := hr pins { s3 with heap := s3.heap.push { cls := .type "slice", data := .fields #[vl, vu, .none] } } σ H3 x v vl vu l u s3.heap.objs.size Q I4 r1 (Heap.IsSliceOf.new ..) pl pu q3
  show wpAny (model X.prog X.w) X.A (subscriptTail e (.Slice lo hi none p2) v (.ref s3.heap.objs.size)) (EP X pins σ Q) X.xe { s3 with heap := s3.heap.push { cls := .type "slice", data := .fields #[vl, vu, .none] } }
  exact tail_any (ops := [.ref s3.heap.objs.size, v]) ht hT hg (by with_unfolding_all rfl)

/-- the items of xs[lo:hi] -/
def cutV (xs : List V) (lo hi : Option Int) : List V := (xs.drop (HT.sIx xs.length 0 lo)).take (HT.sIx xs.length xs.length hi - HT.sIx xs.length 0 lo)
theorem cutV_length (xs : List V) (lo hi : Option Int) : (cutV xs lo hi).length ≤ xs.length := by
  unfold cutV
  rw [List.length_take, List.length_drop]
  omega
/-- t[lo:hi], not the whole of it (the whole would be t itself) -/
def rSlT (K : PySem.W.Frag) : V → Option Int → Option Int → Hp → VK → Prop := fun x lo hi H Q => ∃ a xs, x = .ref a ∧ SqT K H a xs ∧
  ¬ (HT.sIx xs.length 0 lo = 0 ∧ HT.sIx xs.length xs.length hi = xs.length) ∧ ∀ p, H p = none → Q (.ref p) (upd H p (.tup (cutV xs lo hi)))
theorem sl_tup : SlR X (rSlT X.K) := by
  intro pins s σ H x v vl vu lo hi sl Q I rx hs pl pu h
  obtain ⟨a, xs, rfl, hx, hw, q⟩ := h
  cases rx
  obtain ⟨its, r, ht, hz⟩ := I.tuple hx
  have hlen : its.toArray.size = xs.length := by rw [List.size_toArray]; exact r.length.symm
  refine ⟨"tuple", _, PyProof.Rows.slot_tuple_getitem.lookup, ht.typeIs, ?_⟩
  refine HT.getItem_tuple_cut ht hs pl pu (by rw [hlen]; exact hw) ?_ (by rw [hlen]; exact hz)
  rw [hlen]
  refine ⟨.ref s.heap.objs.size, _, I.laid (t' := s.toks) (o := .tup (cutV xs lo hi)) (fun b ob q => Heap.get?_push_of_some _ q) (Nat.le_refl _) ?_, rfl, q _ (I.hok.fresh (Nat.le_refl _))⟩
  exact ⟨Nat.le_trans (cutV_length xs lo hi) hz, _, (r.drop (HT.sIx xs.length 0 lo)).take (HT.sIx xs.length xs.length hi - HT.sIx xs.length 0 lo), IsTup.new _ _⟩

/-! ### t < u, t + u -/
def rLtT (K : PySem.W.Frag) : R2 := fun x y H Q => ∃ a b ns ms, x = .ref a ∧ y = .ref b ∧ SqT K H a (ns.map V.int) ∧ SqT K H b (ms.map V.int) ∧ Q (.bl (HT.lexLt ns ms)) H
/-- t + u, t not empty: u empty gives t itself -/
def rCatT (K : PySem.W.Frag) : R2 := fun x y H Q => ∃ a b xs ys, x = .ref a ∧ y = .ref b ∧ SqT K H a xs ∧ SqT K H b ys ∧ xs ≠ [] ∧ xs.length + ys.length ≤ sizeLine ∧
  (ys = [] → Q (.ref a) H) ∧ (ys ≠ [] → ∀ p, H p = none → Q (.ref p) (upd H p (.tup (xs ++ ys))))
end
end L2

namespace L2
open PySem PySem.Spec PyProof.Rows

/-! ### places -/
/-- the place that an index of any sign means -/
def ixN (n : Nat) (i : Int) : Option Nat := if 0 ≤ i then (if i < n then some i.toNat else none) else if -(n : Int) ≤ i then some (i + n).toNat else none
def atI {α : Type} (xs : List α) (i : Int) : Option α := (ixN xs.length i).bind fun j => xs[j]?
theorem ixN_seq {n : Nat} {i : Int} {j : Nat} (h : ixN n i = some j) : seqIndex? i n = some j ∧ j < n ∧ -(n : Int) ≤ i ∧ i < n := by
  unfold ixN at h
  by_cases h0 : 0 ≤ i
  · rw [if_pos h0] at h
    by_cases h1 : i < n
    · rw [if_pos h1] at h
      have e : i.toNat = j := Option.some.inj h
      exact ⟨by rw [seqIndex_of h0 h1, e], by omega, by omega, h1⟩
    · rw [if_neg h1] at h; cases h
  · rw [if_neg h0] at h
    by_cases h1 : -(n : Int) ≤ i
    · rw [if_pos h1] at h
      have e : (i + n).toNat = j := Option.some.inj h
      exact ⟨by rw [seqIndex_neg (by omega) h1, e], by omega, h1, by omega⟩
    · rw [if_neg h1] at h; cases h
theorem atI_get {α : Type} {xs : List α} {i : Int} {v : α} (h : atI xs i = some v) : ∃ j, seqIndex? i xs.length = some j ∧ xs[j]? = some v ∧ j < xs.length ∧ -(xs.length : Int) ≤ i ∧ i < xs.length := by
  unfold atI at h
  cases e : ixN xs.length i with
  | none => rw [e] at h; cases h
  | some j =>
    rw [e] at h
    obtain ⟨h1, h2, h3, h4⟩ := ixN_seq e
    exact ⟨j, h1, h, h2, h3, h4⟩
theorem atI_nat {α : Type} {xs : List α} {j : Nat} {v : α} (h : xs[j]? = some v) : atI xs (j : Int) = some v := by
  have hj : j < xs.length := (List.getElem?_eq_some_iff.mp h).1
  have e : ixN xs.length (j : Int) = some j := by
    unfold ixN
    rw [if_pos (by omega), if_pos (by omega)]; simp
  unfold atI; rw [e]; exact h
/-! ### what may be subscripted -/
/-- what stands as an index of a plain subscript -/
def PlainIx (b : Expr) : Prop := ∀ o i, subscripted b false o i = operate [o, i] (getItem o i)
/-- a subscript by values -/
def IxR (X : Cx) (r : R2) : Prop :=
  ∀ (value slice : Expr) (pins : List (Addr × Obj)) (s : Shared) (σ : St) (H : Hp) (x y : V) (v u : Value) (Q : VK), Inv X pins σ H s → RelV x v → RelV y u → r x y H Q →
    subscripted slice false v u = operate [v, u] (getItem v u) → wpAny (model X.prog X.w) X.A (subscriptTail value slice v u) (EP X pins σ Q) X.xe s
/-- a call of a builtin's method by values: the receiver, the arguments -/
def MtR (X : Cx) (id : String) (r : V → List V → Hp → VK → Prop) : Prop :=
  ∀ (pins : List (Addr × Obj)) (s : Shared) (σ : St) (H : Hp) (x : V) (xs : List V) (v : Value) (us : List Value) (Q : VK), Inv X pins σ H s → RelV x v → Vals xs us → r x xs H Q →
    wpAny (model X.prog X.w) X.A (call (.builtin id) (v :: us)) (EP X pins σ Q) X.xe s
section
variable {X : Cx} {a b : Expr} {ta tb : TE} {pos : Pos}
theorem IxR.or {r r' : R2} (h : IxR X r) (h' : IxR X r') : IxR X (fun x y H Q => r x y H Q ∨ r' x y H Q) := by
  intro value slice pins s σ H x y v u Q I rx ry q hs
  rcases q with q | q
  · exact h value slice pins s σ H x y v u Q I rx ry q hs
  · exact h' value slice pins s σ H x y v u Q I rx ry q hs
/-- a[b] -/
theorem pe_ix {r : R2} (hr : IxR X r) (ha : PE X a ta) (hb : PE X b tb) (hs : PlainIx b) : PE X (.Subscript a b pos) (tOp r ta tb) := by
  intro pins s σ H Q I h
  exact Subscript_ (binT ha hb I h fun v u s2 x y H2 I2 rx ry q => hr a b pins s2 σ H2 x y v u Q I2 rx ry q (hs _ _))

def rIxL (K : PySem.W.Frag) : R2 := fun x y H Q => ∃ p xs i v, x = .ref p ∧ y = .int i ∧ SqL K H p xs ∧ atI xs i = some v ∧ Q v H
def rIxT (K : PySem.W.Frag) : R2 := fun x y H Q => ∃ p xs i v, x = .ref p ∧ y = .int i ∧ SqT K H p xs ∧ atI xs i = some v ∧ Q v H
def rIxS : R2 := fun x y H Q => ∃ z i c, x = .str z ∧ y = .int i ∧ z.length ≤ sizeLine ∧ atI z.cps.toList i = some c ∧ Q (.str ⟨#[c]⟩) H
theorem ix_list : IxR X (rIxL X.K) := by
  intro value slice pins s σ H x y v u Q I rx ry h hs
  obtain ⟨p, xs, i, z, rfl, rfl, hq, he, q⟩ := h
  cases rx
  obtain ⟨t, rfl⟩ := ry
  obtain ⟨its, r, pl, hz⟩ := I.list hq
  obtain ⟨j, h1, h2, h3, h4, h5⟩ := atI_get he
  obtain ⟨w, ew, rw'⟩ := r.get h2
  have hl := r.length
  have hn := line63
  have fin : EP X pins σ Q w s := ⟨z, H, I, rw', q⟩
  by_cases h0 : 0 ≤ i
  · have hj : i.toNat = j := by
      rw [seqIndex_of h0 h5] at h1
      exact Option.some.inj h1
    exact item_listR pl.isList h0 (by omega) (by rw [hj]; simpa using ew) fin hs
  · have hj : (i + (its.toArray.size : Int)).toNat = j := by
      rw [seqIndex_neg (by omega) h4] at h1
      rw [List.size_toArray, ← hl]
      exact Option.some.inj h1
    exact subscriptTail_builtinR (x := w) pl.isList.typeIs slot_list_getitem.lookup
      (wpAny_getItem_list_neg (Q := fun r s' => r = w ∧ EP X pins σ Q r s') pl.isList (by omega) (by rw [List.size_toArray] <;> omega) (by omega) (by rw [hj]; simpa using ew) ⟨rfl, fin⟩) hs
theorem ix_tup : IxR X (rIxT X.K) := by
  intro value slice pins s σ H x y v u Q I rx ry h hs
  obtain ⟨p, xs, i, z, rfl, rfl, hq, he, q⟩ := h
  cases rx
  obtain ⟨t, rfl⟩ := ry
  obtain ⟨its, r, pl, hz⟩ := I.tuple hq
  obtain ⟨j, h1, h2, h3, h4, h5⟩ := atI_get he
  obtain ⟨w, ew, rw'⟩ := r.get h2
  have hl := r.length
  have hn := line63
  have fin : EP X pins σ Q w s := ⟨z, H, I, rw', q⟩
  exact subscriptTail_builtinR (x := w) pl.typeIs slot_tuple_getitem.lookup
    (getItem_tuple (j := j) (Q := fun r s' => r = w ∧ EP X pins σ Q r s') pl (by omega) (by omega) (by rw [List.size_toArray, ← hl]; exact h1) (by simpa using ew) ⟨rfl, fin⟩) hs
theorem ix_str : IxR X rIxS := by
  intro value slice pins s σ H x y v u Q I rx ry h hs
  obtain ⟨z, i, c, rfl, rfl, hz, he, q⟩ := h
  obtain ⟨t, rfl⟩ := rx
  obtain ⟨t', rfl⟩ := ry
  obtain ⟨j, h1, h2, h3, h4, h5⟩ := atI_get he
  have hl : z.cps.toList.length = z.length := by simp [Str.length]
  rw [hl] at h1 h4 h5
  have hn := line63
  exact tail_any (typeIs_str s z t) slot_str_getitem.lookup (getItem_str (c := c) (by
    have e1 : decide (i < -(2 ^ 63 : Int)) = false := decide_eq_false (by omega)
    have e2 : decide (i ≥ 2 ^ 63) = false := decide_eq_false (by omega)
    rw [e1, e2, Bool.or_false]) (by rw [h1]; simpa using h2) ⟨.str ⟨#[c]⟩, H, I.tok _, ⟨_, rfl⟩, q⟩) hs
/-- list, tuple or str -/
def rIx (K : PySem.W.Frag) : R2 := fun x y H Q => rIxL K x y H Q ∨ rIxT K x y H Q ∨ rIxS x y H Q
theorem ix_seq : IxR X (rIx X.K) := ix_list.or (ix_tup.or ix_str)

/-! ### xs[i] = v, any sign -/
/-- the list's object behind a store -/
theorem mapSeq_set (its : List Value) (n j : Nat) (u : Value) : Obj.mapSeq (·.setIfInBounds j u) { cls := .type "list", data := .seq its.toArray n } = { cls := .type "list", data := .seq (its.set j u).toArray n } := by
  simp [Obj.mapSeq]
theorem Inv.lst {pins : List (Addr × Obj)} {σ : St} {H : Hp} {s : Shared} {p : Addr} {xs : List V} (I : Inv X pins σ H s) (h : H p = some (.lst xs)) :
    ∃ (its : List Value) (n : Nat), Vals xs its ∧ s.heap.get? p = some { cls := .type "list", data := .seq its.toArray n } ∧ xs.length ≤ sizeLine := by
  obtain ⟨z, its, n, r, e⟩ := I.hok p _ h
  exact ⟨its, n, r, e, z⟩
/-- the list at p is written by an update of its object -/
theorem Inv.lstUpd {pins : List (Addr × Obj)} {σ : St} {H : Hp} {s : Shared} {p : Addr} {xs ys : List V} {its its' : List Value} {n n' : Nat} {f : Obj → Obj} (I : Inv X pins σ H s) (h : H p = some (.lst xs))
    (ho : s.heap.get? p = some { cls := .type "list", data := .seq its.toArray n }) (hf : f { cls := .type "list", data := .seq its.toArray n } = { cls := .type "list", data := .seq its'.toArray n' }) (r : Vals ys its') (hz : ys.length ≤ sizeLine) (t : Nat) :
    Inv X pins σ (upd H p (.lst ys)) { s with heap := s.heap.update p f, toks := t } := by
  have e : (s.heap.update p f).get? p = some { cls := .type "list", data := .seq its'.toArray n' } := by
    rw [Heap.get?_update_self f ho (by rw [hf] <;> rfl), hf]
  refine I.write (x := p) (e := p) (by rw [h]; trivial) (.inl rfl) (fun b u hb q => (Heap.get?_update_other _ _ (Ne.symm hb)).trans q) ⟨_, e⟩ ?_
  exact ⟨hz, its', n', r, e⟩
def rSetL : V → V → V → Hp → (Hp → Prop) → Prop := fun o i v H Q => ∃ p xs k j, o = .ref p ∧ i = .int k ∧ H p = some (.lst xs) ∧ ixN xs.length k = some j ∧ Q (upd H p (.lst (xs.set j v)))
theorem set_list : PSet X rSetL := by
  intro pins s σ H o i v ov iv u Q I ro ri rv h
  obtain ⟨p, xs, k, j, rfl, rfl, hp, hj, q⟩ := h
  cases ro
  obtain ⟨t, rfl⟩ := ri
  obtain ⟨its, n, r, ho, hz⟩ := I.lst hp
  obtain ⟨h1, h2, h3, h4⟩ := ixN_seq hj
  have hl := r.length
  have hn := line63
  have I' : Inv X pins σ (upd H p (.lst (xs.set j v))) { s with heap := s.heap.update p (Obj.mapSeq (·.setIfInBounds j u)) } :=
    I.lstUpd hp ho (mapSeq_set its n j u) (r.set rv j) (by rw [List.length_set]; exact hz) s.toks
  by_cases h0 : 0 ≤ k
  · have hk : k.toNat = j := by
      rw [seqIndex_of h0 h4] at h1
      exact Option.some.inj h1
    exact PySem.W.ki_setAt ho h0 (by omega) (by rw [List.size_toArray, ← hl]; exact h4) (by rw [hk]; exact ⟨_, I', q⟩)
  · have hk : (k + (its.toArray.size : Int)).toNat = j := by
      rw [seqIndex_neg (by omega) h3] at h1
      rw [List.size_toArray, ← hl]
      exact Option.some.inj h1
    exact PySem.W.ki_setBack ho (by omega) (by rw [List.size_toArray, ← hl]; exact h3) (by omega) (by rw [hk]; exact ⟨_, I', q⟩)

/-! ### slices -/
theorem slice_bounds (lo hi : Option Int) (n : Nat) : (sliceBounds lo hi none n).1 = ((HT.sIx n 0 lo : Nat) : Int) ∧ (sliceBounds lo hi none n).2.1 = ((HT.sIx n n hi : Nat) : Int) ∧ (sliceBounds lo hi none n).2.2 = 1 := by
  refine ⟨?_, ?_, rfl⟩
  · cases lo with
    | none => simp [sliceBounds, HT.sIx]
    | some i =>
      simp only [sliceBounds, HT.sIx, Option.getD_none, show (1 : Int) > 0 by decide, if_true]
      by_cases h : i < 0
      · simp only [h, if_true] <;> omega
      · simp only [h, if_false] <;> omega
  · cases hi with
    | none => simp [sliceBounds, HT.sIx]
    | some i =>
      simp only [sliceBounds, HT.sIx, Option.getD_none, show (1 : Int) > 0 by decide, if_true]
      by_cases h : i < 0
      · simp only [h, if_true] <;> omega
      · simp only [h, if_false] <;> omega
theorem slicePick_cut (its : List Value) (lo hi : Option Int) : slicePick its.toArray lo hi none = ((its.drop (HT.sIx its.length 0 lo)).take (HT.sIx its.length its.length hi - HT.sIx its.length 0 lo)).toArray := by
  obtain ⟨h1, h2, h3⟩ := slice_bounds lo hi its.toArray.size
  unfold slicePick
  rw [h1, h2, h3]
  simp only [sliceRange_one, pick_run, List.size_toArray] <;> rfl
/-- xs[lo:hi] of a list: a new list -/
def rSlL (K : PySem.W.Frag) : V → Option Int → Option Int → Hp → VK → Prop := fun x lo hi H Q => ∃ a xs, x = .ref a ∧ SqL K H a xs ∧ ∀ p, H p = none → Q (.ref p) (upd H p (.lst (cutV xs lo hi)))
theorem sl_list : SlR X (rSlL X.K) := by
  intro pins s σ H x v vl vu lo hi sl Q I rx hs pl pu h
  obtain ⟨a, xs, rfl, hx, q⟩ := h
  cases rx
  obtain ⟨its, r, ht, hz⟩ := I.list hx
  have hlen := r.length
  refine ⟨"list", _, slot_list_getitem.lookup, ht.isList.typeIs, ?_⟩
  refine wpAny_getItem_list_slice ht.isList hs pl pu .none (by simp) ?_ (by rw [List.size_toArray] <;> omega)
  rw [slicePick_cut, ← hlen]
  refine ⟨.ref s.heap.objs.size, _, I.laid (t' := s.toks) (o := .lst (cutV xs lo hi)) (fun b ob q => Heap.get?_push_of_some _ q) (Nat.le_refl _) ?_, rfl, q _ (I.hok.fresh (Nat.le_refl _))⟩
  exact ⟨Nat.le_trans (cutV_length xs lo hi) hz, _, 0, (r.drop (HT.sIx xs.length 0 lo)).take (HT.sIx xs.length xs.length hi - HT.sIx xs.length 0 lo), Heap.get?_push_size _ rfl⟩

/-! ### in, not in: flat items -/
def flatV : V → Bool
  | .non => true
  | .bl _ => true
  | .int _ => true
  | .str _ => true
  | _ => false
/-- == of flat values -/
def eqV : V → V → Bool
  | .non, .non => true
  | .bl a, .bl b => a == b
  | .bl a, .int b => (if a then 1 else 0) == b
  | .int a, .bl b => a == (if b then 1 else 0)
  | .int a, .int b => a == b
  | .str a, .str b => a == b
  | _, _ => false
theorem eqAt_V {A : Around} {s : Shared} {y x : V} {u v : Value} (ry : RelV y u) (rx : RelV x v) (fy : flatV y = true) (fx : flatV x = true) : SeqAt.EqAt A s u v (eqV y x) := by
  cases y with
  | non =>
    cases ry
    cases x with
    | non => cases rx; exact SeqAt.EqAt.same _
    | bl b => cases rx; exact SeqAt.EqAt.none_bool b
    | int b => obtain ⟨t, rfl⟩ := rx; exact SeqAt.EqAt.none_int b t
    | str b => obtain ⟨t, rfl⟩ := rx; exact SeqAt.EqAt.none_str b t
    | _ => exact absurd (show false = true from fx) Bool.false_ne_true
  | bl a =>
    cases ry
    cases x with
    | non => cases rx; exact SeqAt.EqAt.bool_none a
    | bl b => cases rx; exact SeqAt.EqAt.bool_bool a b
    | int b => obtain ⟨t, rfl⟩ := rx; exact SeqAt.EqAt.bool_int a b t
    | str b => obtain ⟨t, rfl⟩ := rx; exact SeqAt.EqAt.bool_str a b t
    | _ => exact absurd (show false = true from fx) Bool.false_ne_true
  | int a =>
    obtain ⟨t', rfl⟩ := ry
    cases x with
    | non => cases rx; exact SeqAt.EqAt.int_none a t'
    | bl b => cases rx; exact SeqAt.EqAt.int_bool a t' b
    | int b => obtain ⟨t, rfl⟩ := rx; exact SeqAt.EqAt.int_int a t' b t
    | str b => obtain ⟨t, rfl⟩ := rx; exact SeqAt.EqAt.int_str a t' b t
    | _ => exact absurd (show false = true from fx) Bool.false_ne_true
  | str a =>
    obtain ⟨t', rfl⟩ := ry
    cases x with
    | non => cases rx; exact SeqAt.EqAt.str_none a t'
    | bl b => cases rx; exact SeqAt.EqAt.str_bool a t' b
    | int b => obtain ⟨t, rfl⟩ := rx; exact SeqAt.EqAt.str_int a t' b t
    | str b => obtain ⟨t, rfl⟩ := rx; exact SeqAt.EqAt.str_str a t' b t
    | _ => exact absurd (show false = true from fx) Bool.false_ne_true
  | _ => exact absurd (show false = true from fy) Bool.false_ne_true
/-- the items' answers, read off the values (a value's own answer does not lean on its token) -/
def eqU (x : V) (u : Value) : Bool := match u with
  | .none => eqV .non x
  | .bool b => eqV (.bl b) x
  | .int i _ => eqV (.int i) x
  | .str z _ => eqV (.str z) x
  | _ => false
theorem eqU_of {x y : V} {u : Value} (r : RelV y u) (f : flatV y = true) : eqU x u = eqV y x := by
  cases y with
  | non => cases r; rfl
  | bl b => cases r; rfl
  | int i => obtain ⟨t, rfl⟩ := r; rfl
  | str z => obtain ⟨t, rfl⟩ := r; rfl
  | _ => exact absurd (show false = true from f) Bool.false_ne_true
theorem any_eqU {x : V} : ∀ {xs : List V} {us : List Value}, Vals xs us → xs.all flatV = true → us.any (eqU x) = xs.any fun y => eqV y x
  | _, _, .nil, _ => rfl
  | y :: xs, u :: us, .cons r t, f => by
    rw [List.all_cons, Bool.and_eq_true] at f
    rw [List.any_cons, List.any_cons, eqU_of r f.1, any_eqU t f.2]
theorem mem_eqAt {A : Around} {s : Shared} {x : V} {v : Value} (rx : RelV x v) (fx : flatV x = true) : ∀ {xs : List V} {us : List Value}, Vals xs us → xs.all flatV = true → ∀ u ∈ us, SeqAt.EqAt A s u v (eqU x u)
  | _, _, .nil, _ => fun u hu => by cases hu
  | y :: xs, u :: us, .cons r t, f => fun u' hu => by
    rw [List.all_cons, Bool.and_eq_true] at f
    rcases List.mem_cons.mp hu with rfl | hu
    · rw [eqU_of r f.1]; exact eqAt_V r rx f.1 fx
    · exact mem_eqAt rx fx t f.2 u' hu
def inV (x : V) (xs : List V) : Bool := xs.any fun y => eqV y x
/-- x in a list or tuple of flat items -/
def rIn (K : PySem.W.Frag) (neg : Bool) : R2 := fun x y H Q => ∃ p xs, y = .ref p ∧ (SqL K H p xs ∨ SqT K H p xs) ∧ flatV x = true ∧ xs.all flatV = true ∧ Q (.bl (if neg then !inV x xs else inV x xs)) H
theorem op_in_seq : OpR X (compareOp .In) (rIn X.K false) := by
  intro pins s σ H x y v u Q I rx ry h
  obtain ⟨p, xs, rfl, hq, fx, fs, q⟩ := h
  cases ry
  rcases hq with hq | hq
  · obtain ⟨its, r, pl, hz⟩ := I.list hq
    refine SeqAt.in_listAt (eqU x) pl.isList (fun w hw => mem_eqAt rx fx r fs w (by simpa using hw)) ⟨.bl _, H, I, rfl, ?_⟩
    rw [show its.toArray.any (eqU x) = its.any (eqU x) by simp, any_eqU r fs]
    exact q
  · obtain ⟨its, r, pl, hz⟩ := I.tuple hq
    refine SeqAt.in_tupleAt (eqU x) pl (fun w hw => mem_eqAt rx fx r fs w (by simpa using hw)) ⟨.bl _, H, I, rfl, ?_⟩
    rw [show its.toArray.any (eqU x) = its.any (eqU x) by simp, any_eqU r fs]
    exact q
theorem op_notIn_seq : OpR X (compareOp .NotIn) (rIn X.K true) := by
  intro pins s σ H x y v u Q I rx ry h
  obtain ⟨p, xs, rfl, hq, fx, fs, q⟩ := h
  cases ry
  rcases hq with hq | hq
  · obtain ⟨its, r, pl, hz⟩ := I.list hq
    refine SeqAt.notIn_listAt (eqU x) pl.isList (fun w hw => mem_eqAt rx fx r fs w (by simpa using hw)) ⟨.bl _, H, I, rfl, ?_⟩
    rw [show its.toArray.any (eqU x) = its.any (eqU x) by simp, any_eqU r fs]
    exact q
  · obtain ⟨its, r, pl, hz⟩ := I.tuple hq
    refine SeqAt.notIn_tupleAt (eqU x) pl (fun w hw => mem_eqAt rx fx r fs w (by simpa using hw)) ⟨.bl _, H, I, rfl, ?_⟩
    rw [show its.toArray.any (eqU x) = its.any (eqU x) by simp, any_eqU r fs]
    exact q
theorem op_notIn_str : OpR X (compareOp .NotIn) (fun x y H Q => ∃ i j, x = .str i ∧ y = .str j ∧ Q (.bl (!(!(Builtin.Str.occurrences j i 0 j.length 1).isEmpty))) H) := by
  intro pins s σ H x y v u Q I rx ry h
  obtain ⟨i, j, rfl, rfl, q⟩ := h
  obtain ⟨t, rfl⟩ := rx
  obtain ⟨t', rfl⟩ := ry
  exact notIn_str ⟨.bl _, H, I, rfl, q⟩

/-! ### len, list(x), tuple(x) of any list or tuple that is read -/
theorem call_len_seq : CallR X (.builtin "len") (fun xs H Q => ∃ p ys, xs = [.ref p] ∧ (SqL X.K H p ys ∨ SqT X.K H p ys) ∧ Q (.int ys.length) H) := by
  intro pins s σ H xs us Q I r h
  obtain ⟨p, ys, rfl, hq, q⟩ := h
  obtain ⟨u, rfl, rx⟩ := vals1 r
  cases rx
  have hn := line63
  rcases hq with hq | hq
  · obtain ⟨its, r', pl, hz⟩ := I.list hq
    have hlen := r'.length
    exact Calls.call_len_list pl.isList (by simp only [List.size_toArray] <;> omega) ⟨.int ys.length, H, I.tok _, ⟨s.toks + 1, by rw [List.size_toArray, hlen]⟩, q⟩
  · obtain ⟨its, r', pl, hz⟩ := I.tuple hq
    have hlen := r'.length
    exact len_tuple pl (by simp only [List.size_toArray] <;> omega) ⟨.int ys.length, H, I.tok _, ⟨s.toks + 1, by rw [List.size_toArray, hlen]⟩, q⟩
theorem call_len_str : CallR X (.builtin "len") (fun xs H Q => ∃ z, xs = [.str z] ∧ z.length ≤ sizeLine ∧ Q (.int z.length) H) := by
  intro pins s σ H xs us Q I r h
  obtain ⟨z, rfl, hz, q⟩ := h
  obtain ⟨u, rfl, t, rfl⟩ := vals1 r
  have hn := line63
  exact len_str (by omega) ⟨.int z.length, H, I.tok _, ⟨_, rfl⟩, q⟩
theorem CallR.or {f : Value} {r r' : List V → Hp → VK → Prop} (h : CallR X f r) (h' : CallR X f r') : CallR X f (fun xs H Q => r xs H Q ∨ r' xs H Q) := by
  intro pins s σ H xs us Q I rs q
  rcases q with q | q
  · exact h pins s σ H xs us Q I rs q
  · exact h' pins s σ H xs us Q I rs q
/-! ### the call of a builtin's method: o.m(..) -/
/-- the value is of that builtin type -/
def tyV (K : PySem.W.Frag) (T : String) (x : V) (H : Hp) : Prop := match x with
  | .str _ => T = "str"
  | .int _ => T = "int"
  | .ref p => (T = "list" ∧ ∃ xs, SqL K H p xs) ∨ (T = "tuple" ∧ ∃ o, K.lookup p = some o ∧ o.cls = .type "tuple" ∧ o.dict = none) ∨
      (T = "dict" ∧ ((∃ kvs, H p = some (.dK kvs)) ∨ ∃ kvs, H p = some (.dT kvs))) ∨ (T = "set" ∧ ∃ S n, H p = some (.set S n))
  | _ => False
theorem tyV_is {pins : List (Addr × Obj)} {σ : St} {H : Hp} {s : Shared} {T : String} {x : V} {v : Value} (I : Inv X pins σ H s) (r : RelV x v) (ty : tyV X.K T x H) :
    s.TypeIs v T ∧ ∀ a, v = .ref a → ∃ ob, s.heap.get? a = some ob ∧ ob.dict = none := by
  cases x with
  | str z =>
    obtain ⟨t, rfl⟩ := r
    cases (show T = "str" from ty)
    exact ⟨typeIs_str s z t, fun _ e => nomatch e⟩
  | int i =>
    obtain ⟨t, rfl⟩ := r
    cases (show T = "int" from ty)
    exact ⟨typeIs_int s i t, fun _ e => nomatch e⟩
  | ref p =>
    cases r
    rcases ty with ⟨rfl, xs, hq⟩ | ⟨rfl, o, hk, hc, hd⟩ | ⟨rfl, hk⟩ | ⟨rfl, S, n, hk⟩
    · obtain ⟨its, _, pl, _⟩ := I.list hq
      refine ⟨pl.isList.typeIs, fun a e => ?_⟩
      cases e
      obtain ⟨o, n, e, c, hd, _⟩ := pl
      exact ⟨o, e, hd⟩
    · refine ⟨⟨o, I.kIn p o hk, hc⟩, fun a e => ?_⟩
      cases e
      exact ⟨o, I.kIn _ o hk, hd⟩
    · have z : ∃ o, s.heap.get? p = some o ∧ o.ExactDict := by
        rcases hk with ⟨kvs, hk⟩ | ⟨kvs, hk⟩
        · obtain ⟨_, _, _, _, o, _, _, e, ex, _⟩ := I.hok p _ hk
          exact ⟨o, e, ex⟩
        · obtain ⟨_, _, _, _, o, _, _, e, ex, _⟩ := I.hok p _ hk
          exact ⟨o, e, ex⟩
      obtain ⟨o, e, ex⟩ := z
      refine ⟨⟨o, e, ex.1⟩, fun a e2 => ?_⟩
      cases e2
      exact ⟨o, e, ex.2.1⟩
    · obtain ⟨o, _, _, _, e, ex, _⟩ := I.hok p _ hk
      refine ⟨⟨o, e, ex.1⟩, fun a e2 => ?_⟩
      cases e2
      exact ⟨o, e, ex.2.1⟩
  | _ => exact False.elim ty
def tBM0 (K : PySem.W.Frag) (T : String) (r : V → List V → Hp → VK → Prop) (to : TE) : TE := fun σ H Q => to σ H fun x H1 => tyV K T x H1 ∧ r x [] H1 Q
def tBM (K : PySem.W.Frag) (T : String) (r : V → List V → Hp → VK → Prop) (to : TE) (t : TA) : TE := fun σ H Q => to σ H fun x H1 => tyV K T x H1 ∧ t σ H1 fun xs H2 => r x xs H2 Q
variable {o e : Expr} {es : List Expr} {to : TE} {t : TA} {name : Str} {apos cpos : Pos} {T id : String} {r : V → List V → Hp → VK → Prop}
theorem pe_bm (pa : PlainAttrs T) (slot : Slot T name id) (hty : typeOf (.builtin id) = pure (.type "method_descriptor")) (hm : MtR X id r) (ho : PE X o to) (ha : PA X (e :: es) t)
    (hbase : attributeBase o name X.env (eval o X.env) = eval o X.env := by rfl)
    (hfew : ((backTo cpos (starEach (e :: es) X.env)).all (fun x => !x.1) && (backToKw cpos (keywordEach [] X.env)).all (fun x => x.1.isSome)
      && decide ((e :: es).length + ([] : List Keyword).length + (if ([] : List Keyword).isEmpty then 0 else 1) < 30)) = true := by rfl)
    (hline : (apos.endLine == cpos.line) = true := by rfl) (hs : starEach (e :: es) X.env = (false, eval e X.env) :: starEach es X.env := by rfl) (hplain : (backTo cpos (starEach es X.env)).any (·.1) = false := by rfl) :
    PE X (.Call (.Attribute o name apos) (e :: es) [] cpos) (tBM X.K T r to t) := by
  intro pins s σ H Q I h
  refine wpAny_Call_method_late hbase hfew hline rfl (thn (ho pins s σ H _ I h) fun v s1 ⟨x, H1, I1, r1, ty, q1⟩ => ?_)
  obtain ⟨h1, h2⟩ := tyV_is I1 r1 ty
  refine ⟨T, id, pa, slot, hty, h1, h2, ?_⟩
  have hA := ha cpos pins s1 σ H1 _ I1 q1
  rw [hs] at hA ⊢
  refine Calls.callWith_builtin (by show (false || (backTo cpos (starEach es X.env)).any (·.1)) = false; rw [hplain] <;> rfl) (Calls.evalArgs_plain ?_)
  exact thn hA fun us s2 ⟨vs, H2, I2, r2, q2⟩ => hm pins s2 σ H2 x vs v us Q I2 r1 r2 q2
/- xs.append(e), list.index on a module's tuple .. are MtR facts of 06m -/
end
end L2

namespace L2
open PySem PySem.Spec PyProof.Rows

def MtM (X : Cx) (id : String) (r : V → List V → Hp → VK → Prop) : Prop :=
  ∀ (pins : List (Addr × Obj)) (s : Shared) (σ : St) (H : Hp) (x : V) (xs : List V) (v : Value) (us : List Value) (Q : VK), Inv X pins σ H s → RelV x v → Vals xs us → r x xs H Q →
    wpAny (model X.prog X.w) X.A (call (.builtin id) (v :: us)) (EP X pins σ Q) X.xe s

/-! ### lists of values -/
theorem Vals.one : ∀ {x : V} {us : List Value}, Vals [x] us → ∃ u, us = [u] ∧ RelV x u
  | _, _, .cons r .nil => ⟨_, rfl, r⟩
theorem Vals.two : ∀ {x y : V} {us : List Value}, Vals [x, y] us → ∃ u v, us = [u, v] ∧ RelV x u ∧ RelV y v
  | _, _, _, .cons r (.cons q .nil) => ⟨_, _, rfl, r, q⟩
theorem Vals.rep {xs : List V} {us : List Value} (h : Vals xs us) : ∀ k : Nat, Vals (List.replicate k xs).flatten (List.replicate k us).flatten
  | 0 => .nil
  | k + 1 => by
    rw [List.replicate_succ, List.replicate_succ, List.flatten_cons, List.flatten_cons]
    exact Vals.append h (Vals.rep h k)
theorem foldl_rep (its : List Value) : ∀ (k : Nat) (acc : List Value),
    List.foldl (fun x1 x2 => x1 ++ x2) acc.toArray (List.replicate k its.toArray) = (acc ++ (List.replicate k its).flatten).toArray
  | 0, acc => by simp
  | k + 1, acc => by
    have e : acc.toArray ++ its.toArray = (acc ++ its).toArray := by simp
    have e2 : (acc ++ its) ++ (List.replicate k its).flatten = acc ++ (List.replicate (k + 1) its).flatten := by
      rw [List.replicate_succ, List.flatten_cons, List.append_assoc]
    rw [← e2, ← foldl_rep its k (acc ++ its), ← e, List.replicate_succ, List.foldl_cons]

section
variable {X : Cx} {pins : List (Addr × Obj)} {σ : St} {H : Hp} {s : Shared} {l b : Addr} {xs ys zs : List V}

/-! ### the two steps: a tracked list is rewritten, a new list is laid -/
theorem Inv.lset {its its' : List Value} {n : Nat} {f : Array Value → Array Value} {t' : Nat} (I : Inv X pins σ H s) (hH : H l = some (.lst xs))
    (e : s.heap.get? l = some { cls := .type "list", data := .seq its.toArray n }) (hf : f its.toArray = its'.toArray) (hv : Vals ys its') (hz : ys.length ≤ sizeLine) :
    Inv X pins σ (upd H l (.lst ys)) { s with heap := s.heap.update l (Obj.mapSeq f), toks := t' } := by
  have q := PySem.IsL.update e f
  rw [hf] at q
  refine I.write (x := l) (e := l) (by rw [hH]; exact trivial) (.inl rfl) (fun b' u hb hu => (Heap.get?_update_other s.heap (Obj.mapSeq f) (Ne.symm hb)).trans hu) ⟨_, q⟩ ?_
  exact ⟨hz, its', _, hv, q⟩
theorem Inv.lnew {its : List Value} {t' : Nat} (I : Inv X pins σ H s) (hv : Vals ys its) (hz : ys.length ≤ sizeLine) :
    Inv X pins σ (upd H s.heap.objs.size (.lst ys)) { s with heap := s.heap.push { cls := .type "list", data := .seq its.toArray }, toks := t' } :=
  I.laid (fun _ _ q => Heap.get?_push_of_some _ q) (Nat.le_refl _) ⟨hz, its, 0, hv, Heap.get?_push_size _ rfl⟩
theorem Inv.fresh (I : Inv X pins σ H s) : H s.heap.objs.size = none := I.hok.fresh (Nat.le_refl _)
theorem Inv.lstM (I : Inv X pins σ H s) (hH : H l = some (.lst xs)) : xs.length ≤ sizeLine ∧ ∃ (its : List Value) (n : Nat), Vals xs its ∧ xs.length = its.length ∧ s.heap.get? l = some { cls := .type "list", data := .seq its.toArray n } := by
  obtain ⟨z, its, n, r, e⟩ := I.hok l _ hH
  exact ⟨z, its, n, r, r.length, e⟩

theorem notLongL {n : Nat} (h : n ≤ sizeLine) : Builtin.List.listTooLong n = false := by
  unfold Builtin.List.listTooLong
  exact decide_eq_false (by omega)
end

section
variable {X : Cx}

/-! ### methods -/
def rAppend : V → List V → Hp → VK → Prop := fun x vs H Q => ∃ l xs y, x = .ref l ∧ vs = [y] ∧ H l = some (.lst xs) ∧ xs.length < sizeLine ∧ Q .non (upd H l (.lst (xs ++ [y])))
theorem mt_append : MtM X "list.append" rAppend := by
  intro pins s σ H x vs v us Q I rx rv h
  obtain ⟨l, xs, y, rfl, rfl, hH, hz, q⟩ := h
  cases rx
  obtain ⟨u, rfl, ru⟩ := rv.one
  obtain ⟨z, its, n, r, hl, e⟩ := I.lstM hH
  refine call_meets F.slot_list_append ⟨_, e, rfl⟩ F.entry_list_append (F.args_list_append_2 _ _) (PySem.list_append l its.toArray n u (by rw [List.size_toArray]; omega)) ⟨e, ?_⟩
  refine ⟨.non, _, I.lset (its' := its ++ [u]) hH e (by simp) (r.append (.cons ru .nil)) ?_, rfl, q⟩
  rw [List.length_append, List.length_singleton]
  omega

def rExtend : V → List V → Hp → VK → Prop := fun x vs H Q => ∃ l b xs zs, x = .ref l ∧ vs = [.ref b] ∧ H l = some (.lst xs) ∧ H b = some (.lst zs) ∧ xs.length + zs.length ≤ sizeLine ∧ Q .non (upd H l (.lst (xs ++ zs)))
theorem mt_extend : MtM X "list.extend" rExtend := by
  intro pins s σ H x vs v us Q I rx rv h
  obtain ⟨l, b, xs, zs, rfl, rfl, hH, hB, hz, q⟩ := h
  cases rx
  obtain ⟨u, rfl, ru⟩ := rv.one
  cases ru
  obtain ⟨z, its, n, r, hl, e⟩ := I.lstM hH
  obtain ⟨z2, its2, n2, r2, hl2, e2⟩ := I.lstM hB
  have hsz : its.toArray.size + its2.toArray.size ≤ sizeLine := by rw [List.size_toArray, List.size_toArray]; omega
  have hlong : ¬ (!its.toArray.isEmpty && Builtin.List.listTooLong (its.toArray.size + its2.toArray.size)) = true := by
    rw [notLongL hsz, Bool.and_false]
    exact Bool.false_ne_true
  refine call_meets F.slot_list_extend ⟨_, e, rfl⟩ F.entry_list_extend (F.args_list_extend_2 _ _)
    (AutoSeq1.list_extend_list_list_0 l its.toArray n b its2.toArray n2 hlong (by rw [List.size_toArray]; omega) (by omega)) ⟨e, e2, ?_⟩
  refine ⟨.non, _, I.lset (its' := its ++ its2) hH e (by simp) (r.append r2) ?_, rfl, q⟩
  rw [List.length_append]
  omega

def rPop : V → List V → Hp → VK → Prop := fun x vs H Q => ∃ l xs y, x = .ref l ∧ vs = [] ∧ H l = some (.lst xs) ∧ xs[xs.length - 1]? = some y ∧ Q y (upd H l (.lst xs.dropLast))
def rPopAt : V → List V → Hp → VK → Prop := fun x vs H Q => ∃ l xs i k y, x = .ref l ∧ vs = [.int i] ∧ H l = some (.lst xs) ∧ -(2 ^ 63) ≤ i ∧ i < 2 ^ 63 ∧ seqIndex? i xs.length = some k ∧ xs[k]? = some y ∧ Q y (upd H l (.lst (xs.eraseIdx k)))
def rReverse : V → List V → Hp → VK → Prop := fun x vs H Q => ∃ l xs, x = .ref l ∧ vs = [] ∧ H l = some (.lst xs) ∧ Q .non (upd H l (.lst xs.reverse))
def rClear : V → List V → Hp → VK → Prop := fun x vs H Q => ∃ l xs, x = .ref l ∧ vs = [] ∧ H l = some (.lst xs) ∧ Q .non (upd H l (.lst []))
/-! ### list + list, list += list, list * int -/
def rCat : R2 := fun x y H Q => ∃ l b xs zs, x = .ref l ∧ y = .ref b ∧ H l = some (.lst xs) ∧ H b = some (.lst zs) ∧ xs.length + zs.length ≤ sizeLine ∧ ∀ p, H p = none → Q (.ref p) (upd H p (.lst (xs ++ zs)))
theorem op_cat : OpR X (binaryOp .Add) rCat := by
  intro pins s σ H x y v u Q I rx ry h
  obtain ⟨l, b, xs, zs, rfl, rfl, hH, hB, hz, q⟩ := h
  cases rx
  cases ry
  obtain ⟨z, its, n, r, hl, e⟩ := I.lstM hH
  obtain ⟨z2, its2, n2, r2, hl2, e2⟩ := I.lstM hB
  refine PySem.P.add_list e e2 ?_ (by rw [List.size_toArray, List.size_toArray]; omega)
  have ea : its.toArray ++ its2.toArray = (its ++ its2).toArray := by simp
  rw [ea]
  exact ⟨.ref _, _, I.lnew (t' := s.toks) (r.append r2) (by rw [List.length_append]; omega), rfl, q _ I.fresh⟩
/-- a list times an int (a negative one is nothing) -/
def rRep : R2 := fun x y H Q => ∃ l k xs, x = .ref l ∧ y = .int k ∧ H l = some (.lst xs) ∧ -(2 ^ 63) ≤ k ∧ k < 2 ^ 63 ∧ xs.length * k.toNat ≤ sizeLine ∧
  ∀ p, H p = none → Q (.ref p) (upd H p (.lst (List.replicate k.toNat xs).flatten))
theorem len_rep {α : Type} (xs : List α) (k : Nat) : (List.replicate k xs).flatten.length = k * xs.length := by
  induction k with
  | zero => simp
  | succ k ih => rw [List.replicate_succ, List.flatten_cons, List.length_append, ih, Nat.succ_mul, Nat.add_comm]
theorem op_rep : OpR X (binaryOp .Mult) rRep := by
  intro pins s σ H x y v u Q I rx ry h
  obtain ⟨l, k, xs, rfl, rfl, hH, h1, h2, hz, q⟩ := h
  cases rx
  obtain ⟨t, rfl⟩ := ry
  obtain ⟨z, its, n, r, hl, e⟩ := I.lstM hH
  have hlen : its.toArray.size * k.toNat ≤ sizeLine := by rw [List.size_toArray, ← hl]; exact hz
  have hcap : ¬ its.toArray.size * k.toNat > (2 ^ 63 - 1) / 8 := by
    have : (sizeLine : Nat) ≤ (2 ^ 63 - 1) / 8 := by decide
    omega
  have hfit : ¬ (!Builtin.List.listFitsIndex k) = true := by
    rw [fitsIndex_both h1 h2]
    exact Bool.false_ne_true
  have hlong : ¬ Builtin.List.listTooLong (its.toArray.size * k.toNat) = true := by
    rw [notLongL hlen]
    exact Bool.false_ne_true
  have hnew : List.foldl (fun x1 x2 => x1 ++ x2) #[] (List.replicate (if its.toArray.isEmpty = true then 0 else k.toNat) its.toArray) = (List.replicate k.toNat its).flatten.toArray := by
    have f0 : ∀ m : Nat, List.foldl (fun x1 x2 => x1 ++ x2) #[] (List.replicate m its.toArray) = (List.replicate m its).flatten.toArray := fun m => by
      have := foldl_rep its m []
      rw [List.nil_append] at this
      exact this
    rw [f0]
    cases its with
    | nil => simp
    | cons a r' => rw [if_neg (by simp)]
  refine wpAny_binaryOp_repeat_ref (T := "list") (U := "int") (by decide) ⟨_, e, rfl⟩ (fun s' => typeIs_int s' k t) noFill_list_mul F.fills_int_mul F.slot_int_rmul repeat_list F.slot_int_index.lookup
    (call_meets F.slot_int_rmul (typeIs_int s k t) F.entry_int_rmul (F.args_int_rmul_2 _ _) (int___rmul___int_list k t l its.toArray n)
      ⟨e, rfl, ⟨_, e, rfl⟩, call_meets F.slot_list_mul ⟨_, e, rfl⟩ F.entry_list_mul (F.args_list_mul_2 _ _) (AutoListH.list___mul___list_int_3 l its.toArray n k t hfit hcap hlong) ⟨e, ?_⟩⟩)
  rw [hnew]
  exact ⟨.ref _, _, I.lnew (t' := s.toks) (r.rep k.toNat) (by rw [len_rep, Nat.mul_comm]; exact hz), rfl, q _ I.fresh⟩

/-! ### del xs[i] -/
end

/-! ### xs[a:b] = ys -/
section
variable {prog : Program} {w : World} {A : Around} {E : Value → Shared → Prop} {s : Shared}
set_option maxRecDepth 100000 in
end

section
variable {X : Cx}
end
end L2

namespace Att
open PySem PySem.W PySem.Calls PyProof.Rows

/-! ### the script -/
theorem ints_of_wellAll {P : Params} {h : Heap} : ∀ (ns : List Int) (vs : List Value), WellAll P h vs (ns.map WData.int) → IntsAre vs ns := by
  intro ns
  induction ns with
  | nil =>
    intro vs w
    rw [List.map_nil] at w
    cases w
    exact .nil
  | cons n ns ih =>
    intro vs w
    rw [List.map_cons] at w
    cases w with
    | cons a b =>
      cases a
      exact .cons _ _ (ih _ b)

theorem script_of {l : OpenLaw} {n : Nat} (hn : l.most = some n) {P : Params} {h : Heap} {args : List WData} {vals : List Value}
    (hpre : l.row.toRowW.claim.pre args = true) (hwl : WellAll P h vals args) :
    ∃ a vs ns, vals = [Value.ref a] ∧ args = [WData.list (ns.map WData.int)] ∧ h.get? a = some { cls := .type "list", data := .seq vs.toArray } ∧ IntsAre vs ns ∧ ns.length ≤ n := by
  have hsh : WShape.hasAll [] args [.list .int] = true := (pre_splitW hpre).1
  have hc : l.pre.holds [] { args := args } = true := (pre_splitW hpre).2
  obtain ⟨d, r, rfl, h1, h2⟩ := hasAllW_cons hsh
  obtain rfl := hasAllW_nil h2
  obtain ⟨xs, rfl, h3⟩ := hasW_list h1
  obtain ⟨ns, rfl⟩ := items_int h3
  have hlen : ns.length ≤ n := by
    unfold OpenLaw.pre at hc
    have h4 : (WTm.not (.lt (.lit (.int (n : Int))) (.len (.arg 0)))).holds [] { args := [.list (ns.map .int)] } = true := by
      have h4 := (holds_andW hc).1
      rw [hn] at h4
      exact h4
    have h5 := condW_of h4 (w_not (w_lt w_lit (w_len_list (w_arg rfl))))
    rw [List.length_map] at h5
    refine Nat.le_of_not_lt fun q => ?_
    have q' : (n : Int) < ((ns.length : Nat) : Int) := by omega
    first
      | (rw [decide_eq_true q'] at h5; exact absurd h5 (by decide))
      | (simp at h5; omega)
  cases hwl with
  | cons w1 w2 =>
    cases w2
    cases w1 with
    | list ho hall => exact ⟨_, _, ns, rfl, rfl, ho, ints_of_wellAll ns _ hall, hlen⟩

theorem post_true (l : OpenLaw) (args : List WData) : l.row.toRowW.claim.post args (.bool true) args = true :=
  postW_of (r := l.row.toRowW) (X := (true == true))
    (show WShape.has [] (.bool true) .bool = true by first | rfl | decide | simp [WShape.has, WShape.arms, WShape.armsAll])
    (show (WTm.eq .res (.lit (.bool true))).value [] { args := args, res := some (.bool true), after := args } = some (.bool (true == true)) from w_eq_bool (w_res rfl) w_lit) rfl

/-! ### the attachment: holds_open's last premise (the goal 'hc' behind k_head) from a wpAny of the law's body -/
/-- the same from a codeAny of the CALL (for a layer whose function contracts speak of calls) -/
theorem attach_call {l : OpenLaw} {n : Nat} {q : Program} {loose : List Str} {XP : (Str → Option Value) → Heap → Prop} {YP : World → Heap → Prop} {d : DefRec}
    (hn : l.most = some n) (hdf : d.params.defaults = [])
    (call : ∀ (w : World) (s₀ s₁ : Shared) (mg mb : Str → Option Value) (fa : Addr) (o : Obj) (pm cd doc : Value) (a : Addr) (vs : List Value) (ns : List Int),
      Ground q loose [] XP w s₀ mg mb s₁.heap → YP w s₁.heap →
      s₁.heap.get? fa = some o → o.data = .func (docDef d.name d.params d.body d.scope pm cd doc) → s₁.heap.CodeRec cd d.name → mg d.name = some (.ref fa) →
      s₁.heap.get? a = some { cls := .type "list", data := .seq vs.toArray } → IntsAre vs ns → ns.length ≤ n → s₁.gens = #[] →
      codeAny (model l.prog w) callerA (.call (.ref fa) ⟨[.ref a], []⟩) (fun r s' => r = .ok (.ret (.bool true)) ∧ OldK s₁.heap s'.heap ∧ s'.os = s₁.os ∧ AllBare s'.gens) s₁) :
    WalkO q loose XP YP l.row.toRowW d [] (fun f vs => PySem.call f vs) := by
  intro w s₀ s₁ mg mb G Y fa o pm cd doc dV kV ho hd hcd hD hmg hg args vals as hpre hlay hrd hwl hlo
  obtain rfl : dV = .none := Dflts.none hD hdf
  obtain rfl : kV = .none := Dflts.noKw hD
  obtain ⟨a, vs, ns, rfl, rfl, hobj, hints, hlen⟩ := script_of hn hpre hwl
  refine enter_call (codeAny_mono (call w s₀ s₁ mg mb fa o pm cd doc a vs ns G Y ho (fd_plain hd) hcd hmg hobj hints hlen hg) fun r s' hq => ?_)
  obtain ⟨rfl, h2, h3, h4⟩ := hq
  exact ⟨.inl ⟨.bool true, .bool true, [], rfl, fun _ => rfl, .bool true, post_true l _, fun _ => ⟨List.Pairwise.nil, fun _ hm => (nomatch hm)⟩⟩, h2, h3, h4⟩

/-! ### rules over ANY heap (no ledger) from facts about the written part K: the library's own take a ledger (News) for what they write -/
section
variable {prog : Program} {w : World} {A : Around} {E : Value → Shared → Prop} {s : Shared} {K : Frag}

/-! the whole heap as the ledger: makes every rule that writes through a ledger a rule over any heap -/
def noObjs (h : Heap) : Heap := { h with objs := #[] }
def ledger (h : Heap) (L d : Addr) : List (Addr × Obj) := (List.range h.objs.size).filterMap fun a => if a = L ∨ a = d then none else (h.get? a).map fun o => (a, o)
end
end Att

namespace L2
open PySem PySem.Spec PyProof.Rows

theorem vals_ints : ∀ {vs : List Value} {ns : List Int}, IntsAre vs ns → Vals (ns.map V.int) vs
  | _, _, .nil => .nil
  | _, _, .cons n t h => .cons ⟨t, rfl⟩ (vals_ints h)

/-- nothing is tracked but the script, known to the object (or it is an object of the module) -/
def Only (H : Hp) : Prop := ∀ b, H b = none ∨ ∃ o xs, H b = some (.frz o (.lst xs))

/-- THE HEAD: the law's promise, at the heap behind the top. F, the promise of the law's def, may use that base is part of the heap (so K.In base, base.Ns mainGlobals mg stand in Mod) -/
theorem law_call {P : Program} {w : World} {K : PySem.W.Frag} {mg mb : Str → Option Value} {CX : CXT} {k : Nat} {fa a : Addr} {fd : FuncData} {x : Str} {sp : Sp} {s₁ : Shared} {vs : List Value} {ns : List Int}
    (KX : K.In s₁.heap) (hns : s₁.heap.Ns mainGlobals mg) (hb : s₁.heap.Ns builtinsNs mb) (hbb : ∀ x : Str, x ≠ "__name__" → mb x = bootBuiltins x) (hlim : s₁.heap.NoLimit) (hg : s₁.gens = #[])
    (ha : s₁.heap.get? a = some { cls := .type "list", data := .seq vs.toArray }) (hi : IntsAre vs ns) (hl : ns.length ≤ sizeLine) (hr : Room k callerA)
    (F : ∀ base : Heap, K.In base → base.Ns mainGlobals mg → FnOk P w K mg base CX k fa fd [x] sp) (hbind : ∀ (s : Shared) (u : Value), BindsTo s fd ⟨[u], []⟩ [(x, u)])
    (hsp : ∀ H : Hp, Only H → SqL K H a (ns.map V.int) → sp [.ref a] H (fun v _ => v = .bl true) fun _ _ _ => False)
    (hCX : ∀ H e s', CX [] H s₁ (fun _ _ _ => False) e s' → False) :
    codeAny (model P w) callerA (.call (.ref fa) ⟨[.ref a], []⟩) (fun r s' => r = .ok (.ret (.bool true)) ∧ OldK s₁.heap s'.heap ∧ s'.os = s₁.os ∧ AllBare s'.gens) s₁ := by
  have rv := vals_ints hi
  have lenV := hi.length
  -- from an abstract heap in which nothing but the script may be tracked
  have core : ∀ H : Hp, Only H → SqL K H a (ns.map V.int) → HOk P w H s₁.heap → (∀ b, H b ≠ none → b = a) → (H a ≠ none → K.lookup a = none) →
      codeAny (model P w) callerA (.call (.ref fa) ⟨[.ref a], []⟩) (fun r s' => r = .ok (.ret (.bool true)) ∧ OldK s₁.heap s'.heap ∧ s'.os = s₁.os ∧ AllBare s'.gens) s₁ := by
    intro H hO hS hok hA hK
    have base_of : ∀ {b : Addr} {o : Obj}, s₁.heap.get? b = some o → H b = none → (hidT s₁.heap H).get? b = some o := fun e n => hidT_get e n
    have noA : ∀ {b : Addr} {o : Obj} {es : Array DictEntry} {ep : Nat}, s₁.heap.get? b = some o → o.data = .dict es ep → H b = none := fun {b o es ep} e d => by
      cases q : H b with
      | none => rfl
      | some u =>
        have e' : b = a := hA b (by rw [q]; simp)
        subst e'
        rw [ha] at e; cases e
        have d' : Data.seq vs.toArray _ = Data.dict es ep := d
        cases d'
    have nsK : ∀ {b : Addr} {m : Str → Option Value}, s₁.heap.Ns b m → (hidT s₁.heap H).Ns b m := fun {b m} ⟨o, es, ep, e, d, r⟩ => ⟨o, es, ep, base_of e (noA e d), d, r⟩
    have hKb : K.In (hidT s₁.heap H) := fun b o e => base_of (KX b o e) (by
      cases q : H b with
      | none => rfl
      | some u =>
        have e' : b = a := hA b (by rw [q]; simp)
        subst e'
        rw [hK (by rw [q]; simp)] at e; cases e)
    have hM : Mod K mg (hidT s₁.heap H) := ⟨hKb, nsK hns, ⟨mb, nsK hb, hbb⟩, let ⟨mc, h1, h2⟩ := hlim; ⟨mc, nsK h1, h2⟩⟩
    have e0 : Env0 P w K mg (hidT s₁.heap H) callerA [] s₁ H := ⟨rfl, hM, fun b o e => of_hidT e, Nat.le_of_eq (hidT_size _ _), trivial, fun b hb => absurd (show b ∈ ([] : List Addr) from hb) (by simp), hok, .of_eq hg⟩
    refine codeAny_mono ((F _ hKb (nsK hns)).run callerA [] s₁ H ⟨[.ref a], []⟩ [.ref a] [.ref a] _ _ hr e0 (hbind s₁ (.ref a)) (.cons rfl .nil) (hsp H hO hS)) fun r s' h => ?_
    cases r with
    | error e => exact (hCX H e s' h).elim
    | ok fl =>
      cases fl with
      | next => exact False.elim h
      | brk => exact False.elim h
      | cont => exact False.elim h
      | ret u =>
        obtain ⟨v, H', os, bare, un, hok', r', q⟩ := h
        have q' : v = .bl true := q
        subst q'
        obtain rfl : u = Value.bool true := r'
        refine ⟨rfl, OldK.of_keep fun b o e => ?_, os, bare⟩
        cases q : H b with
        | none => exact un.keep b o e q (by intro z; exact absurd (show b ∈ ([] : List Addr) from z) (by simp)) (by simp)
        | some u =>
          rcases hO b with z | ⟨ob, xs, z⟩
          · rw [q] at z; cases z
          · have z2 := un.frzs b ob _ z
            obtain ⟨e1, _⟩ := hok b _ z
            obtain ⟨e2, _⟩ := hok' b _ z2
            rw [e] at e1; cases e1
            exact e2
  cases hk : K.lookup a with
  | some o =>
    -- the script is one of the module's own objects
    have e := KX a o hk
    rw [ha] at e
    cases e
    refine core (fun _ => none) (fun _ => .inl rfl) (.inr ⟨_, vs.toArray, _, hk, rfl, rfl, rfl, by rw [List.size_toArray, lenV]; exact hl, by simpa using rv⟩) (fun b u z => by have z' : (none : Option HO) = some u := z; cases z') (fun b z => absurd rfl z) fun z => absurd rfl z
  | none =>
    refine core (fun b => if b = a then some (.frz { cls := .type "list", data := .seq vs.toArray } (.lst (ns.map V.int))) else none) (fun b => ?_) (.inl (.inr ⟨{ cls := .type "list", data := .seq vs.toArray }, if_pos rfl⟩)) (fun b u z => ?_) (fun b z => ?_) fun _ => hk
    · by_cases hb : b = a
      · exact .inr ⟨_, _, if_pos hb⟩
      · exact .inl (if_neg hb)
    · by_cases hb : b = a
      · have z' := (if_pos hb).symm.trans z
        cases z'
        subst hb
        exact ⟨ha, by rw [List.length_map]; exact hl, vs, _, rv, ha⟩
      · have z' := (if_neg hb).symm.trans z
        cases z'
    · by_cases hb : b = a
      · exact hb
      · exact absurd (if_neg hb) z
end L2

namespace L2
open PySem PySem.Spec PyProof.Rows

abbrev KOf {K : PySem.W.Frag} {h : Heap} (_ : K.In h) : PySem.W.Frag := K

/-- the goal that k_head leaves (case hc), from the law's promise. F gives the function object fd (K's own) once, then the promise over every base -/
theorem walk_of {l : PySem.W.OpenLaw} {n k : Nat} {q : Program} {loose : List Str} {XP : (Str → Option Value) → Heap → Prop} {YP : World → Heap → Prop} {d : DefRec} {K : Params → PySem.W.Frag} {CX : World → CXT} {sp : World → Sp} {x : Str}
    (hn : l.most = some n) (hn2 : n ≤ sizeLine) (hdf : d.params.defaults = []) (hr : Room k callerA)
    (hY : ∀ (w : World) (h : Heap), YP w h → (K w.params).In h)
    (F : ∀ (w : World) (mg : Str → Option Value) (fa : Addr) (h : Heap), (K w.params).In h → h.Ns mainGlobals mg → mg d.name = some (.ref fa) →
      ∃ fd : FuncData, (∀ (s : Shared) (u : Value), BindsTo s fd ⟨[u], []⟩ [(x, u)]) ∧
        ∀ base : Heap, (K w.params).In base → base.Ns mainGlobals mg → FnOk l.prog w (K w.params) mg base (CX w) k fa fd [x] (sp w))
    (hsp : ∀ (w : World) (H : Hp) (a : Addr) (ns : List Int), ns.length ≤ n → Only H → SqL (K w.params) H a (ns.map V.int) → sp w [.ref a] H (fun v _ => v = .bl true) fun _ _ _ => False)
    (hCX : ∀ (w : World) (H : Hp) (s : Shared) (e : Value) (s' : Shared), CX w [] H s (fun _ _ _ => False) e s' → False) :
    PySem.W.WalkO q loose XP YP l.row.toRowW d [] (fun f vs => PySem.call f vs) := by
  refine Att.attach_call hn hdf fun w s₀ s₁ mg mb fa o pm cd doc a vs ns G Y ho hd hcd hmg hobj hints hlen hg => ?_
  have KX := hY w _ Y
  obtain ⟨fd, hb, hF⟩ := F w mg fa _ KX G.T.g hmg
  exact law_call KX G.T.g G.T.b G.T.builtins G.T.nolimit hg hobj hints (Nat.le_trans hlen hn2) hr hF hb (fun H hO hS => hsp w H a ns hlen hO hS) fun H e s' => hCX w H s₁ e s'
end L2

/- THE LAST THEOREM (shape; LID, My.* are yours):
   My.Adr: a structure of the addresses that your layer names (classes, functions); My.Txt K t: a structure (Prop) of the equations over K;
   My.txt_mk : {K} {implicit addresses ..} (e1 : nsIn K mainGlobals "law" = some (some (.ref f))) (e2 : K.lookup f = some ⟨oc, od, .func (fnOf "law" "law" params body scope dV kV doc pm an cdv ct), sl⟩) (e3 : codeIn K cdv "law" = true) .. : ∃ t, My.Txt K t

set_option maxRecDepth 100000 in
set_option maxHeartbeats 0 in
theorem PySem.Challenge.cw_LID_holds : PySem.Challenge.rw_LID.Holds := by
  w_on; o_law; k_head; (case hw => w_witness2)
  k_fill
  refine L2.walk_of (l := PySem.Challenge.rw_LID) (n := 63) (k := 40) (x := "script") (CX := fun w => ..) (sp := fun _ => My.sp_law) rfl (by decide) rfl ⟨rfl, by decide, by decide⟩ (fun w h Y => PySem.W.kIn_of Y) ?F ?S ?C
  case F =>
    intro w mg fa h KX G hmg
    have T : ∃ t, My.Txt (L2.KOf KX) t := by
      dsimp only [L2.KOf]                          -- K must stand as «<heap const> w.params» for k_is
      refine' My.txt_mk ?e1 ?e2 ?e3 ..
      (case e1 => PySem.W.k_is)                    -- in the order: a name -> its address -> its object -> its parts
      (case e2 => PySem.W.k_is)
      ..
    obtain ⟨t, T⟩ := T
    have e0 := hmg.symm.trans (PySem.W.mg_of KX G T.law)
    cases e0                                       -- fa is the law's own address
    exact ⟨_, fun s u => .of_eq rfl, fun base kb nb => My.law_fn T kb nb⟩     -- if «.of_eq rfl» comes too early: refine' ⟨_, ?b, fun base kb nb => My.law_fn T kb nb⟩; exact fun s u => .of_eq rfl
  case S => exact fun w H a ns hl hO hS => ..
  case C => exact ..
(the tactic k_is has no namespace: write k_is) -/

/-! SHORT WORDS over the layer: a def of the text, its body, what a loop and a test want. -/
namespace L2
open PySem PySem.Spec PyProof.Rows

/-! ### the text by places -/
/-- the j-th statement of a class's body -/
def inClass (s : Stmt) (j : Nat) : Stmt := match s with
  | .ClassDef _ _ _ body _ _ _ _ _ _ _ => body.getD j (.Pass ⟨0, 0, 0, 0⟩)
  | _ => .Pass ⟨0, 0, 0, 0⟩
def defArgs (s : Stmt) : Arguments := match s with
  | .FunctionDef _ a _ _ _ _ _ _ _ _ => a
  | _ => { posonlyargs := [], args := [], vararg := none, kwonlyargs := [], kw_defaults := [], kwarg := none, defaults := [] }
def defBody (s : Stmt) : List Stmt := match s with
  | .FunctionDef _ _ b _ _ _ _ _ _ _ => b
  | _ => []
def defScope (s : Stmt) : Scope := match s with
  | .FunctionDef _ _ _ _ _ _ sc _ _ _ => sc
  | _ => { kind := .function, names := [], isGenerator := false, isCoroutine := false }

/-! ### no exception leaves a def -/
abbrev CX0 : CXT := fun _ _ _ _ _ _ => False
abbrev E0 : XK := fun _ _ _ => False
theorem pass0 {X : Cx} : Passes CX0 X E0 := fun _ _ _ _ _ _ _ h => h.elim

/-! ### a def (or method) of the text as it stands behind the top -/
structure Fun (K : PySem.W.Frag) (x qual : Str) (st : Stmt) (f : Addr) (fd : FuncData) : Prop where
  ex : ∃ (oc : Value) (od : Option Addr) (kV doc pm : Value) (an : Option Addr) (cdv ct : Value) (osl : Array (Option Value)),
    fd = PySem.W.fnOf x qual (defArgs st) (defBody st) (defScope st) .none kV doc pm an cdv ct ∧ K.lookup f = some ⟨oc, od, .func fd, osl⟩ ∧ PySem.W.codeIn K cdv qual = true
  kp : PySem.W.keepIn K (.ref f) = true
section
variable {P : Program} {w : World} {K : PySem.W.Frag} {mg : Str → Option Value} {base : Heap}
/-- THE RULE for a def: its body as a term of rules, and the reading of that term -/
theorem Fun.ok {x qual : Str} {st : Stmt} {f : Addr} {fd : FuncData} {N ps : List Str} {k : Nat} {sp : Sp} (F : Fun K x qual st f fd) (S : FnScope N ps (defScope st)) (len : ∀ vs H Q E, sp vs H Q E → vs.length = ps.length)
    (hbody : ∀ (cdv : Value) (A : Around) (outer : List Env) (s : Shared) (H : Hp) (vs : List V) (Q : VK) (E : XK), Room k (A.deeper (envOfC qual (defScope st) s.heap.objs.size f cdv)) → sp vs H Q E →
      ∃ t, PSs (cxOf CX0 P w K mg base N qual (defScope st) f cdv A outer s H E).nox (defBody st) t ∧ t { nx := fun _ H' => Q .non H', rt := Q } (start N vs) H) : FnOk P w K mg base CX0 (k + 1) f fd ps sp := by
  obtain ⟨oc, od, kV, doc, pm, an, cdv, ct, osl, rfl, lk, hcd⟩ := F.ex
  refine fn_of lk hcd S len fun A outer s H vs Q E hr hsp => ?_
  obtain ⟨t, h, q⟩ := hbody cdv A outer s H vs Q E hr hsp
  exact ⟨t, h.nox, q⟩
/-- how its arguments bind (no defaults): h is «fun _ _ _ _ _ _ us hl => match us, hl with | [_, _], _ => rfl», one _ a parameter -/
theorem Fun.binds {x qual : Str} {st : Stmt} {f : Addr} {fd : FuncData} {ps : List Str} (F : Fun K x qual st f fd)
    (h : ∀ (kV doc pm : Value) (an : Option Addr) (cdv ct : Value) (us : List Value), us.length = ps.length → bindArgs (PySem.W.fnOf x qual (defArgs st) (defBody st) (defScope st) .none kV doc pm an cdv ct) ⟨us, []⟩ = pure (ps.zip us)) : Binds K fd ps [] := by
  obtain ⟨oc, od, kV, doc, pm, an, cdv, ct, osl, rfl, lk, hcd⟩ := F.ex
  exact .all (h kV doc pm an cdv ct)
theorem fun_mk {x qual : Str} {st : Stmt} {f : Addr} {oc : Value} {od an : Option Addr} {osl : Array (Option Value)} {kV doc pm cdv ct : Value} (l : K.lookup f = some ⟨oc, od, .func (PySem.W.fnOf x qual (defArgs st) (defBody st) (defScope st) .none kV doc pm an cdv ct), osl⟩)
    (c : PySem.W.codeIn K cdv qual = true) (k : PySem.W.keepIn K (.ref f) = true) : Fun K x qual st f (PySem.W.fnOf x qual (defArgs st) (defBody st) (defScope st) .none kV doc pm an cdv ct) := ⟨⟨oc, od, kV, doc, pm, an, cdv, ct, osl, rfl, l, c⟩, k⟩
end
theorem small1000 {n : Nat} (h : n ≤ 1000) : n < sizeLine := Nat.lt_of_le_of_lt h (by decide)

/-! ### expressions in short: the name that stands in the i-th slot -/
section
variable {X : Cx}
theorem pv (i : Nat) {x : Str} {pos : Pos} (hN : X.N[i]? = some x := by rfl) (hv : Vis X.env.scope x := by first | exact Or.inl rfl | exact Or.inr (Or.inl rfl) | exact Or.inr (Or.inr rfl)) (hd : (x == ("__debug__" : Str)) = false := by decide)
    (hcd : (x == ("__classdict__" : Str)) = false := by decide) : PE X (.Name x pos) (tVar i) := pe_var hN hv hd hcd
end

/-! ### tests -/
theorem iteF {A B : Prop} (h : B) : if false = true then A else B := by
  rw [if_neg Bool.false_ne_true]
  exact h
theorem iteT {A B : Prop} (h : A) : if true = true then A else B := by
  rw [if_pos rfl]
  exact h
theorem ite2 {c A B : Prop} [Decidable c] (h1 : c → A) (h2 : ¬ c → B) : if c then A else B := by
  by_cases h : c
  · rw [if_pos h]
    exact h1 h
  · rw [if_neg h]
    exact h2 h
/-! ### heaps -/
/-- all that was tracked is as it was -/
def Same (H H' : Hp) : Prop := ∀ b o, H b = some o → H' b = some o
theorem Same.refl (H : Hp) : Same H H := fun _ _ h => h
theorem Same.trans {H H1 H2 : Hp} (a : Same H H1) (b : Same H1 H2) : Same H H2 := fun c o h => b c o (a c o h)
theorem Same.free {H H' : Hp} (e : Same H H') {l : Addr} (h : H' l = Option.none) : H l = Option.none := by
  cases q : H l with
  | none => rfl
  | some o =>
    rw [e l o q] at h
    cases h
theorem Same.seq {K : PySem.W.Frag} {H H' : Hp} {a : Addr} {xs : List V} (e : Same H H') (h : SqL K H a xs) : SqL K H' a xs := by
  rcases h with (h | ⟨o, h⟩) | h
  · exact .inl (.inl (e _ _ h))
  · exact .inl (.inr ⟨o, e _ _ h⟩)
  · exact .inr h

end L2

set_option maxHeartbeats 4000000
namespace L2
open PySem PySem.Spec PyProof.Rows

/-! ### a list comprehension with one clause -/
/-- the cells that a block takes with it -/
def closOf (env : Env) : List (Str × NameKind) → List (Str × Addr) → List (Str × Addr)
  | [], acc => acc
  | p :: l, acc => closOf env l (if p.2 == .free then (p.1, (env.cells.lookup p.1).getD 0) :: acc else acc)
theorem clos_eq {env : Env} {scope : Scope} (h : ∀ p ∈ scope.names, p.2 = .free → ∃ c, env.cells.lookup p.1 = some c) : closureFor scope env = pure (closOf env scope.names []) := by
  have go : ∀ (l : List (Str × NameKind)) (acc : List (Str × Addr)), (∀ p ∈ l, p.2 = .free → ∃ c, env.cells.lookup p.1 = some c) →
      (forIn l acc fun (p : Str × NameKind) cs => if (p.2 == NameKind.free) = true then (cellOf env p.1 >>= fun a => pure (ForInStep.yield ((p.1, a) :: cs))) else pure (ForInStep.yield cs)) = (pure (closOf env l acc) : Sem (List (Str × Addr))) := by
    intro l
    induction l with
    | nil => intro acc _; rfl
    | cons p l ih =>
      intro acc hl
      rw [List.forIn_cons]
      have hr := fun q hq => hl q (List.mem_cons_of_mem _ hq)
      by_cases hk : p.2 = .free
      · obtain ⟨c, hc⟩ := hl p List.mem_cons_self hk
        have e1 : (p.2 == NameKind.free) = true := by rw [hk]; rfl
        rw [if_pos e1]
        have e2 : cellOf env p.1 = pure c := by unfold cellOf; rw [hc]
        rw [e2, pure_bind, pure_bind]
        show forIn l ((p.1, c) :: acc) _ = _
        rw [ih _ hr]
        show _ = pure (closOf env l (if p.2 == .free then (p.1, (env.cells.lookup p.1).getD 0) :: acc else acc))
        rw [if_pos e1, hc]
        rfl
      · have e1 : ¬ (p.2 == NameKind.free) = true := by intro z; exact hk (by simpa using z)
        rw [if_neg e1, pure_bind]
        show forIn l acc _ = _
        rw [ih _ hr]
        show _ = pure (closOf env l (if p.2 == .free then (p.1, (env.cells.lookup p.1).getD 0) :: acc else acc))
        rw [if_neg e1]
  have e := go scope.names [] h
  unfold closureFor
  show (forIn scope.names ([] : List (Str × Addr)) _ >>= fun r => pure r) = _
  rw [bind_pure]
  exact e
theorem clos_look {env : Env} {x : Str} : ∀ (l : List (Str × NameKind)) (acc : List (Str × Addr)) {c : Addr}, (closOf env l acc).lookup x = some c → acc.lookup x = some c ∨ ((x, NameKind.free) ∈ l ∧ c = (env.cells.lookup x).getD 0)
  | [], acc, c, h => .inl h
  | p :: l, acc, c, h => by
    rcases clos_look l _ h with z | ⟨z, e⟩
    · by_cases hk : (p.2 == NameKind.free) = true
      · rw [if_pos hk, List.lookup_cons] at z
        by_cases hx : (x == p.1) = true
        · rw [hx] at z
          have e : x = p.1 := by simpa using hx
          have e2 : p.2 = .free := by simpa using hk
          refine .inr ⟨?_, ?_⟩
          · rw [e, ← e2]; exact List.mem_cons_self
          · rw [e]; exact (Option.some.inj z).symm
        · have hx' : (x == p.1) = false := by simpa using hx
          rw [hx'] at z
          exact .inl z
      · rw [if_neg hk] at z
        exact .inl z
    · exact .inr ⟨List.mem_cons_of_mem _ z, e⟩
theorem clos_has {env : Env} {x : Str} : ∀ (l : List (Str × NameKind)) (acc : List (Str × Addr)), ((acc.lookup x).isSome = true ∨ (x, NameKind.free) ∈ l) → ((closOf env l acc).lookup x).isSome = true
  | [], acc, h => by
    rcases h with h | h
    · exact h
    · cases h
  | p :: l, acc, h => by
    refine clos_has l _ ?_
    rcases h with h | h
    · left
      by_cases hk : (p.2 == NameKind.free) = true
      · rw [if_pos hk, List.lookup_cons]
        cases (x == p.1) with
        | true => rfl
        | false => exact h
      · rw [if_neg hk]; exact h
    · rcases List.mem_cons.mp h with e | h
      · left
        have e1 : p.1 = x := by rw [← e]
        have e2 : (p.2 == NameKind.free) = true := by rw [← e]; rfl
        rw [if_pos e2, List.lookup_cons, e1]
        simp
      · exact .inr h
theorem relab_look {env : Env} {x : Str} {k : NameKind} : ∀ (l : List (Str × NameKind)),
    (l.map fun (n, k) => if (k == NameKind.free && env.scope.kind == .function && env.kindOf n == some .cell) then (n, NameKind.cell) else (n, k)).lookup x = some k →
      l.lookup x = some k ∨ (k = .cell ∧ l.lookup x = some .free)
  | [], h => by cases h
  | (n, q) :: l, h => by
    rw [List.map_cons] at h
    cases hx : (x == n) with
    | true =>
      rw [List.lookup_cons, hx]
      by_cases hc : (q == NameKind.free && env.scope.kind == .function && env.kindOf n == some .cell) = true
      · simp only [hc, if_true, List.lookup_cons, hx] at h
        have e : q = .free := by
          have := (Bool.and_eq_true_iff.mp (Bool.and_eq_true_iff.mp hc).1).1
          simpa using this
        right
        exact ⟨(Option.some.inj h).symm, by rw [e]⟩
      · have hc' : (q == NameKind.free && env.scope.kind == .function && env.kindOf n == some .cell) = false := by simpa using hc
        simp only [hc', Bool.false_eq_true, if_false, List.lookup_cons, hx] at h
        exact .inl h
    | false =>
      rw [List.lookup_cons, hx]
      refine relab_look (env := env) l ?_
      by_cases hc : (q == NameKind.free && env.scope.kind == .function && env.kindOf n == some .cell) = true
      · simp only [hc, if_true, List.lookup_cons, hx] at h
        exact h
      · have hc' : (q == NameKind.free && env.scope.kind == .function && env.kindOf n == some .cell) = false := by simpa using hc
        simp only [hc', Bool.false_eq_true, if_false, List.lookup_cons, hx] at h
        exact h

/-- what a block runs upon: its dict, the state and heap at its entry, the iterator's records, what is wanted of an exception -/
structure Bk where
  C : Addr
  s₂ : Shared
  H₂ : Hp
  fp : List Addr
  xe : Value → Shared → Prop
/-- the context of a comprehension's block: its own names cn ahead of the def's -/
def compCx (X : Cx) (cn : List Str) (scope : Scope) (b : Bk) : Cx where
  prog := X.prog
  w := X.w
  K := X.K
  mg := X.mg
  base := X.base
  A := X.A
  N := cn ++ X.N
  s₀ := b.s₂
  H₀ := b.H₂
  env := compEnvC scope (closOf X.env scope.names []) b.C X.env
  outer := X.stack
  stack := X.stack
  ex := b.fp
  fn := fun _ => false
  calm := X.calm
  pn := []
  xe := b.xe
/-- the scope of a block beside its def's -/
def compOk (sc : Scope) (N : List Str) (scope : Scope) : Bool :=
  (scope.kind == .function) &&
  (scope.names.all fun p => (p.2 != .cell) && ((p.2 != .free) || (sc.names.lookup p.1 == some .cell) || (sc.names.lookup p.1 == some .free)) && ((p.2 != .local) || (scope.names.lookup p.1 == some .local))) &&
  (N.all fun x => scope.names.lookup x != some .local)
structure CompFit (sc : Scope) (N : List Str) (scope : Scope) : Prop where
  kind : scope.kind = .function
  nocell : ∀ p ∈ scope.names, p.2 ≠ .cell
  free : ∀ p ∈ scope.names, p.2 = .free → sc.names.lookup p.1 = some .cell ∨ sc.names.lookup p.1 = some .free
  loc : ∀ p ∈ scope.names, p.2 = .local → scope.names.lookup p.1 = some .local
  apart : ∀ x ∈ N, scope.names.lookup x ≠ some .local
theorem CompFit.of {sc : Scope} {N : List Str} {scope : Scope} (h : compOk sc N scope = true) : CompFit sc N scope := by
  unfold compOk at h
  rw [Bool.and_eq_true, Bool.and_eq_true] at h
  obtain ⟨⟨h1, h2⟩, h3⟩ := h
  rw [List.all_eq_true] at h2 h3
  refine ⟨by simpa using h1, fun p hp => ?_, fun p hp e => ?_, fun p hp e => ?_, fun x hx => ?_⟩
  · have := h2 p hp
    rw [Bool.and_eq_true, Bool.and_eq_true] at this
    simpa using this.1.1
  · have := h2 p hp
    rw [Bool.and_eq_true, Bool.and_eq_true] at this
    have q := this.1.2
    rw [e] at q
    rw [Bool.or_eq_true, Bool.or_eq_true] at q
    rcases q with (q | q) | q
    · exact absurd q (by decide)
    · exact .inl (by simpa using q)
    · exact .inr (by simpa using q)
  · have := h2 p hp
    rw [Bool.and_eq_true, Bool.and_eq_true] at this
    have q := this.2
    rw [e] at q
    rw [Bool.or_eq_true] at q
    rcases q with q | q
    · exact absurd q (by decide)
    · simpa using q
  · have := h3 x hx
    simpa using this

section
variable {X : Cx} {pins : List (Addr × Obj)} {σ : St} {H : Hp}
theorem mem_of_look {l : List (Str × NameKind)} {x : Str} {k : NameKind} (h : l.lookup x = some k) : (x, k) ∈ l := PySem.mem_of_lookup h
/-- the block's context is sound, and its invariant holds at its entry -/
theorem Inv.block {s₂ : Shared} {h₁ : Heap} {tk : Nat} {cn : List Str} {scope : Scope} {fp : List Addr} {xe : Value → Shared → Prop} {C D : Addr} {m : Str → Option Value}
    (I : Inv X pins σ H s₂) (F : CompFit X.env.scope X.N scope) (hc : X.calm = true) (hf : ∀ b ∈ fp, FpOk X pins H b) (hfl : ∀ b ∈ fp, b < s₂.heap.objs.size)
    (hC : s₂.heap.objs.size ≤ C) (hD : s₂.heap.objs.size ≤ D) (hDC : D ≠ C) (hn : h₁.Ns C m) (old : ∀ b o, s₂.heap.get? b = some o → h₁.get? b = some o)
    (hacc : h₁.get? D = some { cls := .type "list", data := .seq ([] : List Value).toArray 0 }) :
    Inv (compCx X cn scope ⟨C, s₂, H, fp, xe⟩) [] (List.replicate cn.length none ++ σ) (upd H D (.lst [])) { s₂ with heap := h₁, toks := tk } := by
  have cellHas : ∀ x, ((compCx X cn scope ⟨C, s₂, H, fp, xe⟩).env.kindOf x = some .cell ∨ (compCx X cn scope ⟨C, s₂, H, fp, xe⟩).env.kindOf x = some .free) → (x, NameKind.free) ∈ scope.names := by
    intro x hx
    have hx' : (relabel scope X.env).names.lookup x = some .cell ∨ (relabel scope X.env).names.lookup x = some .free := hx
    rcases hx' with z | z
    · rcases relab_look scope.names z with z | ⟨_, z⟩
      · exact absurd rfl (F.nocell _ (mem_of_look z))
      · exact mem_of_look z
    · rcases relab_look scope.names z with z | ⟨e, _⟩
      · exact mem_of_look z
      · cases e
  have kindOut : ∀ x, (x, NameKind.free) ∈ scope.names → X.env.kindOf x = some .cell ∨ X.env.kindOf x = some .free := fun x hx => F.free _ hx rfl
  have lookOut : ∀ x c, (closOf X.env scope.names []).lookup x = some c → X.env.cells.lookup x = some c := by
    intro x c e
    rcases clos_look _ _ e with z | ⟨z, e2⟩
    · cases z
    · obtain ⟨c', hc'⟩ := I.ok.has x (kindOut x z)
      rw [hc'] at e2 ⊢
      rw [e2]
      rfl
  have fsEq : (compCx X cn scope ⟨C, s₂, H, fp, xe⟩).fs = frs X.stack := rfl
  have fpfs : ∀ b ∈ fp, b ∉ frs X.stack := by
    intro b hb z
    obtain ⟨_, f1, f2, _⟩ := hf b hb
    rcases List.mem_cons.mp (I.stkSub b z) with e | e
    · exact f1 e
    · exact f2 e
  have cellLt : ∀ x c, X.env.cells.lookup x = some c → c < s₂.heap.objs.size := by
    intro x c e
    obtain ⟨v, o, ho, _⟩ := I.cell x c e
    exact Heap.lt_size ho
  have ok : (compCx X cn scope ⟨C, s₂, H, fp, xe⟩).Ok := by
    refine ⟨I.ok.mod, ?_, I.ok.glob, I.ok.blt, hC, fun x y c h1 h2 => I.ok.inj x y c (lookOut x c h1) (lookOut y c h2), fun x hx => ?_, fun x c z => ?_, fun _ => I.ok.hd hc, I.ok.frames, .inl rfl, fun b hb => ⟨?_, fun x c e => ?_⟩,
      fun b o e => I.bs b o e, Nat.le_trans I.ok.bsz I.sz, fun b o e hb => ?_, fun b hb => ?_, I.stack, I.stkFree⟩
    · show (relabel scope X.env).kind = .function
      exact F.kind
    · have := clos_has (env := X.env) (x := x) scope.names [] (.inr (cellHas x hx))
      exact Option.isSome_iff_exists.mp this
    · cases z
    · exact Nat.ne_of_lt (Nat.lt_of_lt_of_le (hfl b hb) hC)
    · exact (hf b hb).2.2.2.2.1 x c (lookOut x c e)
    · have : X.base.objs.size ≤ X.s₀.heap.objs.size := I.ok.bsz
      rcases (hf b hb).2.2.2.1 with z | z
      · exact I.ok.noex b o e z
      · exact absurd (Nat.lt_of_lt_of_le (Heap.lt_size e) (Nat.le_trans I.ok.bsz z)) (Nat.lt_irrefl _)
    · exact fpfs b hb
  have hDn : H D = none := I.hok.fresh hD
  have hok1 : HOk X.prog X.w (upd H D (.lst [])) h₁ := I.hok.laid old hD ⟨Nat.zero_le _, [], 0, .nil, hacc⟩
  refine ⟨ok, rfl, I.bare, Un.laid old hD hDn, ⟨m, hn, fun i x v e1 e2 e3 => ?_⟩, fun x c e => ?_, ?_, fun x c e => ?_, fun p hp => absurd (show p ∈ ([] : List (Addr × Obj)) from hp) (by simp), hok1, ?_⟩
  · have hi : ¬ i < cn.length := by
      intro hi
      rw [List.getElem?_append_left (by simpa using hi), List.getElem?_replicate] at e2
      split at e2 <;> cases e2
    rw [List.getElem?_append_right (by simpa using hi), List.length_replicate] at e2
    have e1' : (cn ++ X.N)[i]? = some x := e1
    rw [List.getElem?_append_right (by omega)] at e1'
    obtain ⟨m0, hm0, hl⟩ := I.loc
    have hxN : x ∈ X.N := List.mem_of_getElem? e1'
    have hfr : (x, NameKind.free) ∈ scope.names := by
      have e3' : (relabel scope X.env).names.lookup x = some .local ∨ (relabel scope X.env).names.lookup x = some .cell ∨ (relabel scope X.env).names.lookup x = some .free := e3
      rcases e3' with z | z | z
      · rcases relab_look scope.names z with z | ⟨e, _⟩
        · exact absurd z (F.apart x hxN)
        · cases e
      · exact cellHas x (.inl z)
      · exact cellHas x (.inr z)
    have hk := kindOut x hfr
    have vis : Vis X.env.scope x := by
      rcases hk with z | z
      · exact .inr (.inl z)
      · exact .inr (.inr z)
    obtain ⟨u, r, lk⟩ := hl (i - cn.length) x v e1' e2 vis
    refine ⟨u, r, ?_⟩
    rcases lk with ⟨z, _⟩ | ⟨_, c, ec, z⟩
    · rcases hk with q | q
      · rw [z] at q; cases q
      · rw [z] at q; cases q
    · have hcl : (closOf X.env scope.names []).lookup x = some c := by
        obtain ⟨c', e'⟩ := Option.isSome_iff_exists.mp (clos_has (env := X.env) (x := x) scope.names [] (.inr hfr))
        rw [e']
        have := lookOut x c' e'
        rw [ec] at this
        exact this.symm
      refine .inr ⟨?_, c, hcl, ?_⟩
      · have e3' : (relabel scope X.env).names.lookup x = some .local ∨ (relabel scope X.env).names.lookup x = some .cell ∨ (relabel scope X.env).names.lookup x = some .free := e3
        rcases e3' with y | y | y
        · rcases relab_look scope.names y with y | ⟨e, _⟩
          · exact absurd y (F.apart x hxN)
          · cases e
        · exact .inl y
        · exact .inr y
      · obtain ⟨o, ho, hd⟩ := z
        exact ⟨o, old c o ho, hd⟩
  · obtain ⟨v, o, ho, hd⟩ := I.cell x c (lookOut x c e)
    exact ⟨v, o, old c o ho, hd⟩
  · show upd H D (.lst []) C = none
    rw [upd_ne (Ne.symm hDC)]
    exact I.hok.fresh hC
  · rw [upd_ne (Nat.ne_of_lt (Nat.lt_of_lt_of_le (cellLt x c (lookOut x c e)) hD))]
    exact I.freeC x c (lookOut x c e)
  · show (List.replicate cn.length none ++ σ).length = (cn ++ X.N).length
    rw [List.length_append, List.length_replicate, List.length_append, I.len]
/-- behind the block -/
theorem Inv.unblock {s₂ s' : Shared} {h' : Heap} {cn : List Str} {scope : Scope} {fp : List Addr} {xe : Value → Shared → Prop} {C : Addr} {H' : Hp} {σ' : St} {pl : List (Addr × Obj)}
    (I : Inv X pins σ H s₂) (hf : ∀ b ∈ fp, FpOk X pins H b) (hC : s₂.heap.objs.size ≤ C) (J : Inv (compCx X cn scope ⟨C, s₂, H, fp, xe⟩) pl σ' H' s') (sb : Heap.SameBut C s'.heap h') :
    Inv X pins σ H' { s' with heap := h' } := by
  have neC : ∀ b o, s₂.heap.get? b = some o → b ≠ C := fun b o e => Nat.ne_of_lt (Nat.lt_of_lt_of_le (Heap.lt_size e) hC)
  have u : Un (frs X.stack) fp H H' s₂.heap s'.heap := J.base
  have un : Un (frs X.stack) fp H H' s₂.heap h' :=
    ⟨fun b o e n hb hx => (sb.2 b (neC b o e)).trans (u.keep b o e n hb hx),
     fun b o e n hb hx => by
      obtain ⟨sl, q⟩ := u.slot b o e n hb hx
      exact ⟨sl, (sb.2 b (neC b o e)).trans q⟩,
     u.free, fun b o e hx => by
      obtain ⟨o', q⟩ := u.there b o e hx
      exact ⟨o', (sb.2 b (neC b o e)).trans q⟩, u.tups, u.frzs, u.tbls⟩
  have fC : H' C = none := J.free
  have hok : HOk X.prog X.w H' h' := fun b o e => by
    refine (J.hok b o e).stay (fun c v hc q => (sb.2 c ?_).trans q) (fun _ q => q) fun _ _ q => q
    rintro rfl
    rcases hc with z | z
    · rw [← z, fC] at e; cases e
    · rw [fC] at z; cases z
  have os : s'.os = s₂.os := J.os
  refine I.call' (s' := { s' with heap := h' }) os un hok J.bare fun b hb => ?_
  obtain ⟨_, f1, _, f3, f4, f5⟩ := hf b hb
  exact ⟨f3, f1, f4, f5⟩
end
end L2

set_option maxHeartbeats 4000000
namespace L2
open PySem PySem.Spec PyProof.Rows

/-- the loop of a comprehension with one clause, whatever its target -/
theorem comp_loop {prog : Program} {w : World} {A : Around} {R : Result → Shared → Prop} {s : Shared} {elt tg iter : Expr} {ifs : List Expr} {scope : Scope} {pos : Pos} {it acc : Value} {env : Env} (J : Nat → Shared → Prop)
    (turn : ∀ n s, J n s → wpAny (model prog w) A (pyNext it) (fun r s₁ => (r = none ∧ R (.ok .next) s₁) ∨ ∃ v, r = some v ∧
      wpAny (model prog w) A (letOwnedTupleGo tg it v) (fun _ s₂ => wpAny (model prog w) A (assign tg env v) (fun _ s₃ =>
        wpAny (model prog w) A (forIn ifs true fun c r => if r = true then do let ok ← isTrue c env (eval c env); pure (ForInStep.yield ok) else pure (ForInStep.yield r)) (fun ok s₄ =>
          if ok = true then wpAny (model prog w) A (eval elt env) (fun x s₅ => wpAny (model prog w) A (call (.builtin "list.append") [acc, x]) (fun _ s₆ => ∃ m, m < n ∧ J m s₆) (notedBy (model prog w) A env fun e s' => R (.error e) s') s₅)
            (notedBy (model prog w) A env fun e s' => R (.error e) s') s₄
          else ∃ m, m < n ∧ J m s₄) (notedBy (model prog w) A env fun e s' => R (.error e) s') s₃) (notedBy (model prog w) A env fun e s' => R (.error e) s') s₂) (notedBy (model prog w) A env fun e s' => R (.error e) s') s₁)
      (notedBy (model prog w) A env fun e s' => R (.error e) s') s)
    (n : Nat) (h : J n s) : codeAny (model prog w) A (.compLoop (.ListComp elt [⟨tg, iter, ifs, 0⟩] scope pos) 0 it acc env) R s := by
  refine codeAny_loop rfl J (fun n s hJ => ?_) n h
  refine wpAny_noted (A := A) (m := compTurn (.ListComp elt [⟨tg, iter, ifs, 0⟩] scope pos) 0 it acc env) (env := env) ?_
  rw [compTurn_list]
  refine wpAny_bind (wpAny_standAt (wpAny_bind (thn (turn n s hJ) fun r s₁ h₁ => ?_)))
  rcases h₁ with ⟨e, h₁⟩ | ⟨v, e, h₁⟩
  · subst e
    exact wpAny_pure h₁
  · subst e
    refine wpAny_bind (thn h₁ fun _ s₂ h₂ => wpAny_bind (thn h₂ fun _ s₃ h₃ => wpAny_bind (thn h₃ fun ok s₄ h₄ => ?_)))
    cases ok with
    | false => exact wpAny_pure ⟨rfl, h₄⟩
    | true => exact wpAny_bind (wpAny_bind (thn h₄ fun x s₅ h₅ => wpAny_bind (thn h₅ fun _ s₆ h₆ => wpAny_pure (wpAny_pure ⟨rfl, h₆⟩))))

/-- the tests of a clause: all of them -/
def PF (X : Cx) (ifs : List Expr) (t : TT) : Prop :=
  ∀ (pins : List (Addr × Obj)) (s : Shared) (σ : St) (H : Hp) (Q : Bool → Hp → Prop), Inv X pins σ H s → t σ H Q →
    wpAny (model X.prog X.w) X.A (forIn ifs true fun c r => if r = true then do let ok ← isTrue c X.env (eval c X.env); pure (ForInStep.yield ok) else pure (ForInStep.yield r)) (TP X pins σ Q) X.xe s
def tAll : TT := fun _ H Q => Q true H
theorem pf_nil {X : Cx} : PF X [] tAll := by
  intro pins s σ H Q I h
  rw [List.forIn_nil]
  exact wpAny_pure ⟨H, I, h⟩
/-- an exception out of a block: its names go, then it passes on -/
def blkErr (X : Cx) (C : Addr) (e : Value) (s' : Shared) : Prop :=
  ∃ m, s'.heap.Ns C m ∧ ∀ h', Heap.SameBut C s'.heap h' → ∀ cenv : Env, cenv.locals = C → wpAny (model X.prog X.w) X.A (passOn "comprehension.variables-let-go" e cenv : Sem Value) (fun _ _ => False) X.xe { s' with heap := h' }
def blkXe (X : Cx) (scope : Scope) (C : Addr) : Value → Shared → Prop :=
  notedBy (model X.prog X.w) X.A (compEnvC scope (closOf X.env scope.names []) C X.env) (blkErr X C)

/-- W: the invariant by the turn, a measure, the items so far, the block's names, the heap -/
def tComp (n : Nat) (wi : TI) (g : Bk → TG) (tc : Bk → TT) (te : Bk → TE) : TE := fun σ H Q => wi σ H fun J H1 => ∀ (D : Addr) (b : Bk), H1 D = none → ∃ W : Nat → Nat → List V → St → Hp → Prop,
  (∃ m, W 0 m [] (List.replicate n none ++ σ) (upd H1 D (.lst []))) ∧ ∀ i m ys σ H, W i m ys σ H →
    (J.stop i H ∧ Q (.ref D) H) ∨ (J.go i H ∧ ∀ x H', J.yld i H x H' → g b x σ H' fun σ2 H2 => tc b σ2 H2 fun ok H3 =>
      if ok = true then te b σ2 H3 fun y H4 => H4 D = some (.lst ys) ∧ ys.length < sizeLine ∧ ∃ m', m' < m ∧ W (i + 1) m' (ys ++ [y]) σ2 (upd H4 D (.lst (ys ++ [y])))
      else ∃ m', m' < m ∧ W (i + 1) m' ys σ2 H3)

section
variable {X : Cx} {tg iter elt : Expr} {ifs : List Expr} {scope : Scope} {pos : Pos} {cn : List Str} {wi : TI} {g : Bk → TG} {tc : Bk → TT} {te : Bk → TE} {TH : Bk → Prop}

/-- the block runs: RR what is wanted at its end -/
theorem comp_run {pins : List (Addr × Obj)} {σ : St} {H : Hp} {s₂ : Shared} {it : Addr} {fp : List Addr} {tn : Nat → Heap → Prop} {J : It} {RR : Value → Addr → Result → Shared → Prop} {QQ : Addr → Hp → Prop} {EE : Value → Shared → Prop}
    (hcalm : X.calm = true) (F : CompFit X.env.scope X.N scope) (hg : ∀ b, TH b → PG (compCx X cn scope b) tg (g b)) (ht : ∀ b, TH b → PF (compCx X cn scope b) ifs (tc b)) (he : ∀ b, TH b → PE (compCx X cn scope b) elt (te b))
    (hTH : ∀ C, s₂.heap.objs.size ≤ C → TH ⟨C, s₂, H, fp, blkXe X scope C⟩)
    (I : Inv X pins σ H s₂) (T : Turn X.prog X.w X.K tg J fp it tn) (st : tn 0 s₂.heap) (hf : ∀ b ∈ fp, FpOk X pins H b)
    (h : ∀ (D : Addr) (b : Bk), H D = none → ∃ W : Nat → Nat → List V → St → Hp → Prop, (∃ m, W 0 m [] (List.replicate cn.length none ++ σ) (upd H D (.lst []))) ∧ ∀ i m ys σ H, W i m ys σ H →
      (J.stop i H ∧ QQ D H) ∨ (J.go i H ∧ ∀ x H', J.yld i H x H' → g b x σ H' fun σ2 H2 => tc b σ2 H2 fun ok H3 =>
        if ok = true then te b σ2 H3 fun y H4 => H4 D = some (.lst ys) ∧ ys.length < sizeLine ∧ ∃ m', m' < m ∧ W (i + 1) m' (ys ++ [y]) σ2 (upd H4 D (.lst (ys ++ [y])))
        else ∃ m', m' < m ∧ W (i + 1) m' ys σ2 H3))
    (hR : ∀ C D σ' H' s', s₂.heap.objs.size ≤ C → Inv (compCx X cn scope ⟨C, s₂, H, fp, blkXe X scope C⟩) [] σ' H' s' → QQ D H' → RR (.ref D) C (.ok .next) s')
    (hE : ∀ C D e s', blkErr X C e s' → RR (.ref D) C (.error e) s') :
    wpAny (model X.prog X.w) X.A (newList []) (fun acc s₃ => wpAny (model X.prog X.w) X.A (newFunctionEnv scope X.env.globals (closOf X.env scope.names []) [] X.env.qual none .none (some X.env)) (fun cenv s₄ =>
      codeAny (model X.prog X.w) X.A (.compStart (.ListComp elt [⟨tg, iter, ifs, 0⟩] scope pos) 0 (.ref it) acc { cenv with scope := relabel scope X.env }) (RR acc cenv.locals) s₄) EE s₃) EE s₂ := by
  refine wpAny_newObj_type (wpAny_newFunctionEnv F.nocell (by intro y hy; simp at hy) (fun h₁ hns₁ hsb₁ => ?_) F.kind)
  dsimp only at hns₁ hsb₁ ⊢
  generalize hH2 : s₂.heap.push { cls := .type "list", dict := none, data := .seq ([] : List Value).toArray } = H2 at hns₁ hsb₁ ⊢
  have hC : H2.objs.size = s₂.heap.objs.size + 1 := by rw [← hH2, Heap.size_push]
  have hDC : s₂.heap.objs.size ≠ H2.objs.size := by omega
  have hCle : s₂.heap.objs.size ≤ H2.objs.size := by omega
  have hfl : ∀ b ∈ fp, b < s₂.heap.objs.size := fun b hb => by
    obtain ⟨o, e, _⟩ := T.obj 0 _ st b hb
    exact Heap.lt_size e
  have old2 : ∀ b o, s₂.heap.get? b = some o → H2.get? b = some o := fun b o e => hH2 ▸ Heap.get?_push_of_some _ e
  have old : ∀ b o, s₂.heap.get? b = some o → h₁.get? b = some o := fun b o e => by
    have hb := Heap.lt_size e
    refine hsb₁.extBut b o (Nat.ne_of_lt (Nat.lt_of_lt_of_le hb hCle)) (Heap.get?_push_of_some _ (old2 b o e))
  have hacc : h₁.get? s₂.heap.objs.size = some { cls := .type "list", data := .seq ([] : List Value).toArray 0 } :=
    hsb₁.extBut _ _ hDC (Heap.get?_push_of_some _ (hH2 ▸ Heap.get?_push_size _ rfl))
  have I0 := Inv.block (cn := cn) (xe := blkXe X scope H2.objs.size) (tk := s₂.toks + ([] : List (Str × Value)).length) I F hcalm hf hfl hCle (Nat.le_refl _) hDC hns₁ old hacc
  have th := hTH _ hCle
  obtain ⟨W, ⟨m0, w0⟩, turn⟩ := h s₂.heap.objs.size ⟨H2.objs.size, s₂, H, fp, blkXe X scope H2.objs.size⟩ (I.hok.fresh (Nat.le_refl _))
  have fpx : ∀ {H' : Hp}, (∀ b ∈ fp, H' b = none) → ∀ b ∈ fp, FpOk (compCx X cn scope ⟨H2.objs.size, s₂, H, fp, blkXe X scope H2.objs.size⟩) [] H' b := fun {H'} hn b hb => by
    refine ⟨hn b hb, (I0.ok.exf b hb).1, I0.ok.exfs b hb, .inl hb, (I0.ok.exf b hb).2, fun p hp => absurd (show p ∈ ([] : List (Addr × Obj)) from hp) (by simp)⟩
  have hcomp : (compCx X cn scope ⟨H2.objs.size, s₂, H, fp, blkXe X scope H2.objs.size⟩).calm = true := hcalm
  have loop : ∀ s₃ : Shared, s₃ = { s₂ with heap := h₁, toks := s₂.toks + ([] : List (Str × Value)).length } →
      codeAny (model X.prog X.w) X.A (.compLoop (.ListComp elt [⟨tg, iter, ifs, 0⟩] scope pos) 0 (.ref it) (.ref s₂.heap.objs.size) (compEnvC scope (closOf X.env scope.names []) H2.objs.size X.env))
        (RR (.ref s₂.heap.objs.size) H2.objs.size) s₃ := by
    rintro s₃ rfl
    have toE : ∀ e s', (compCx X cn scope ⟨H2.objs.size, s₂, H, fp, blkXe X scope H2.objs.size⟩).xe e s' →
        notedBy (model X.prog X.w) X.A (compEnvC scope (closOf X.env scope.names []) H2.objs.size X.env) (fun e s' => RR (.ref s₂.heap.objs.size) H2.objs.size (.error e) s') e s' := fun e s' z =>
      wpAny_mono (show notedBy (model X.prog X.w) X.A (compEnvC scope (closOf X.env scope.names []) H2.objs.size X.env) (blkErr X H2.objs.size) e s' from z) (fun _ _ q => hE _ _ _ _ q) fun _ _ q => hE _ _ _ _ q
    refine comp_loop (env := compEnvC scope (closOf X.env scope.names []) H2.objs.size X.env)
      (fun n s' => ∃ i ys σ' H', Inv (compCx X cn scope ⟨H2.objs.size, s₂, H, fp, blkXe X scope H2.objs.size⟩) [] σ' H' s' ∧ tn i s'.heap ∧ (∀ b ∈ fp, H' b = none) ∧ W i n ys σ' H') ?_ m0
      ⟨0, [], _, _, I0, T.keep _ _ _ st fun b _ o e => old b o e, fun b hb => ?_, w0⟩
    · rintro n s' ⟨i, ys, σ', H', I', st', fr', w'⟩
      rcases turn i n ys σ' H' w' with ⟨stop, qn⟩ | ⟨go, step⟩
      · refine wpAny_mono (T.done (compCx X cn scope ⟨H2.objs.size, s₂, H, fp, blkXe X scope H2.objs.size⟩) rfl rfl rfl hcomp i [] s' σ' H' (fun _ _ => False) I' (fpx fr') st' stop) (fun r s4 ⟨hr, I4⟩ => ?_) fun _ _ z => z.elim
        exact .inl ⟨hr, hR _ _ _ _ _ hCle I4 qn⟩
      · refine wpAny_mono (T.item (compCx X cn scope ⟨H2.objs.size, s₂, H, fp, blkXe X scope H2.objs.size⟩) rfl rfl rfl hcomp i [] s' σ' H' (fun _ _ => False) I' (fpx fr') st' go) (fun r s4 ⟨u, hr, h4⟩ => ?_) fun _ _ z => z.elim
        refine .inr ⟨u, hr, wpAny_mono h4 (fun _ s5 ⟨x, H5, I5, r5, y5, st5, fr5⟩ => ?_) fun _ _ z => z.elim⟩
        have I5' := I5.pinned (fpx fr5) (T.obj _ _ st5)
        refine wpAny_mono (hg _ th _ s5 σ' H5 x u _ I5' r5 (step x H5 y5)) (fun _ s6 ⟨σ6, H6, I6, q6⟩ => ?_) toE
        refine wpAny_mono (ht _ th _ s6 σ6 H6 _ I6 q6) (fun ok s7 ⟨H7, I7, q7⟩ => ?_) toE
        have back : ∀ {σ8 : St} {H8 : Hp} {s8 : Shared}, Inv (compCx X cn scope ⟨H2.objs.size, s₂, H, fp, blkXe X scope H2.objs.size⟩) ([] ++ pinsAt fp s5.heap) σ8 H8 s8 → tn (i + 1) s8.heap ∧ ∀ b ∈ fp, H8 b = none := fun {σ8 H8 s8} I8 => by
          refine ⟨T.keep _ _ _ st5 fun b hb o e => (I8.pin (b, o) (List.mem_append_right _ (List.mem_append_right _ (mem_pinsAt hb e)))).1, fun b hb => ?_⟩
          obtain ⟨o, e, d⟩ := T.obj _ _ st5 b hb
          exact (I8.pin (b, o) (List.mem_append_right _ (List.mem_append_right _ (mem_pinsAt hb e)))).2.1
        cases ok with
        | false =>
          rw [if_neg Bool.false_ne_true] at q7 ⊢
          obtain ⟨m', hm, w7⟩ := q7
          obtain ⟨t8, f8⟩ := back I7
          exact ⟨m', hm, i + 1, ys, σ6, H7, I7.unpinned, t8, f8, w7⟩
        | true =>
          rw [if_pos rfl] at q7 ⊢
          refine wpAny_mono (he _ th _ s7 σ6 H7 _ I7 q7) (fun v s8 ⟨y, H8, I8, r8, hl, hz, m', hm, w8⟩ => ?_) toE
          refine wpAny_mono (mt_append (X := compCx X cn scope ⟨H2.objs.size, s₂, H, fp, blkXe X scope H2.objs.size⟩) _ s8 σ6 H8 (.ref s₂.heap.objs.size) [y] (.ref s₂.heap.objs.size) [v] (fun _ H9 => W (i + 1) m' (ys ++ [y]) σ6 H9) I8 rfl (.cons r8 .nil) ⟨_, ys, y, rfl, rfl, hl, hz, w8⟩)
            (fun _ s9 ⟨_, H9, I9, _, w9⟩ => ?_) toE
          obtain ⟨t9, f9⟩ := back I9
          exact ⟨m', hm, i + 1, _, σ6, H9, I9.unpinned, t9, f9, w9⟩
    · rw [upd_ne (Nat.ne_of_lt (hfl b hb))]
      exact (hf b hb).1
  exact codeAny_compStart_list (loop _ rfl) (T.self _ 0 _ _ _ (T.keep _ _ _ st fun b _ o e => old b o e) (loop _ rfl))

/-- [elt for tg in iter if ..] -/
theorem pe_compT (hcalm : X.calm = true) (F : CompFit X.env.scope X.N scope) (hi : PI X tg iter wi) (hg : ∀ b, TH b → PG (compCx X cn scope b) tg (g b)) (ht : ∀ b, TH b → PF (compCx X cn scope b) ifs (tc b))
    (he : ∀ b, TH b → PE (compCx X cn scope b) elt (te b))
    (hTH : ∀ pins σ H s₂ fp C, Inv X pins σ H s₂ → (∀ b ∈ fp, FpOk X pins H b) → s₂.heap.objs.size ≤ C → TH ⟨C, s₂, H, fp, blkXe X scope C⟩)
    (hs : ∀ x, foldedSetIterable iter X.env x = pure x := by intro _; rfl) : PE X (.ListComp elt [⟨tg, iter, ifs, 0⟩] scope pos) (tComp cn.length wi g tc te) := by
  intro pins s σ H Q I h
  rw [eval_ListComp]
  have hcl : closureFor scope X.env = pure (closOf X.env scope.names []) := clos_eq fun p hp e => I.ok.has p.1 (F.free p hp e)
  refine wpAny_comprehension_free (use := none) rfl hs hcl F.kind F.loc (thn (hi pins s σ H _ I h) fun xv s₁ h₁ => thn h₁ fun itv s₂ h₂ => ?_)
  obtain ⟨it, fp, tn, J, H2, rfl, I2, T, st, f2, R⟩ := h₂
  refine comp_run (QQ := fun D H' => Q (.ref D) H') (RR := fun acc C => compPost (model X.prog X.w) X.A X.xe none (EP X pins σ Q) acc C) hcalm F hg ht he (fun C hC => hTH pins σ H2 s₂ fp C I2 f2 hC) I2 T st f2 R ?_ ?_
  · intro C D σ' H' s' hC I' q
    obtain ⟨m, hm, _⟩ := I'.loc
    exact ⟨m, hm, fun h' sb => ⟨.ref D, H', I2.unblock f2 hC I' sb, rfl, q⟩⟩
  · intro C D e s' z
    exact z
theorem pe_comp (hcalm : X.calm = true) (F : CompFit X.env.scope X.N scope) (hi : PI X tg iter wi) (hg : ∀ b, PG (compCx X cn scope b) tg (g b)) (ht : ∀ b, PF (compCx X cn scope b) ifs (tc b)) (he : ∀ b, PE (compCx X cn scope b) elt (te b))
    (hs : ∀ x, foldedSetIterable iter X.env x = pure x := by intro _; rfl) : PE X (.ListComp elt [⟨tg, iter, ifs, 0⟩] scope pos) (tComp cn.length wi g tc te) :=
  pe_compT (TH := fun _ => True) hcalm F hi (fun b _ => hg b) (fun b _ => ht b) (fun b _ => he b) (fun _ _ _ _ _ _ _ _ _ => trivial) hs
/-- name = [elt for ..] on one row: the name is stored ahead of the block's names going -/
def tSetComp (n : Nat) (i : Nat) (wi : TI) (g : Bk → TG) (tc : Bk → TT) (te : Bk → TE) : TS := fun D σ H => tComp n wi g tc te σ H fun v H' => D.nx (σ.set i (some v)) H'
end
end L2

set_option maxHeartbeats 4000000
namespace L2
open PySem PySem.Spec PyProof.Rows
section
variable {X : Cx} {e : Expr} {es : List Expr} {te : TE} {pos : Pos}

/-! ### f-strings -/
abbrev TP1 := St → Hp → (Str → Hp → Prop) → Prop
abbrev TPs := Str → St → Hp → (Str → Hp → Prop) → Prop
def StrP (X : Cx) (pins : List (Addr × Obj)) (σ : St) (Q : Str → Hp → Prop) (u : Value) (s' : Shared) : Prop := ∃ y t H', u = .str y t ∧ Inv X pins σ H' s' ∧ Q y H'
/-- a part of an f-string: its value is a text -/
def PP (X : Cx) (e : Expr) (t : TP1) : Prop :=
  ∀ (pins : List (Addr × Obj)) (s : Shared) (σ : St) (H : Hp) (Q : Str → Hp → Prop), Inv X pins σ H s → t σ H Q → wpAny (model X.prog X.w) X.A (eval e X.env) (StrP X pins σ Q) X.xe s
def PPs (X : Cx) (es : List Expr) (t : TPs) : Prop :=
  ∀ (pins : List (Addr × Obj)) (s : Shared) (σ : St) (H : Hp) (acc : Str) (Q : Str → Hp → Prop), Inv X pins σ H s → t acc σ H Q →
    Joins (model X.prog X.w) X.A X.xe (evalEach es X.env) acc (fun out s₁ => ∃ H', Inv X pins σ H' s₁ ∧ Q out H') s
def tPC (x : Str) : TP1 := fun _ H Q => Q x H
/-- {value} of a text or an int -/
def tPV (te : TE) : TP1 := fun σ H Q => te σ H fun v H1 => (∃ z, v = .str z ∧ z.length ≤ sizeLine ∧ Q z H1) ∨ ∃ i : Int, v = .int i ∧ i.natAbs.log2 < 1920 ∧ Q (toString i) H1
def tJ0 : TPs := fun acc _ H Q => Q acc H
def tJ (t : TP1) (u : TPs) : TPs := fun acc σ H Q => t σ H fun y H1 => (acc ++ y).length ≤ sizeLine ∧ u (acc ++ y) σ H1 Q
def tF (u : TPs) : TE := fun σ H Q => u Str.empty σ H fun out H1 => out.length ≤ sizeLine ∧ Q (.str out) H1
/-! ### int(text), join, split, a slice of a text -/
theorem call_int_text : CallR X (.type "int") (fun xs H Q => ∃ z n, xs = [.str z] ∧ PySem.intText? z = some n ∧ z.length ≤ 640 ∧ Q (.int n) H) := by
  intro pins s σ H xs us Q I r h
  obtain ⟨z, n, rfl, hn, hl, q⟩ := h
  obtain ⟨u, rfl, t, rfl⟩ := r.one
  exact PySem.W.KIN.call_text hn hl ⟨.int n, H, I.tok _, ⟨_, rfl⟩, q⟩
def rJoin (K : PySem.W.Frag) : V → List V → Hp → VK → Prop := fun x vs H Q => ∃ sep a ys, x = .str sep ∧ vs = [.ref a] ∧ SqL K H a (ys.map V.str) ∧ (ys.map (·.length)).sum + ys.length * sep.length ≤ 16777216 ∧ Q (.str (Str.join sep ys)) H
def rSplit : V → List V → Hp → VK → Prop := fun x vs H Q => ∃ z y, x = .str z ∧ vs = [.str y] ∧ (y.length == 0) = false ∧ z.length ≤ sizeLine ∧ (Txt.split z y).length ≤ sizeLine ∧
  ∀ p, H p = none → Q (.ref p) (upd H p (.lst ((Txt.split z y).map V.str)))
/-- t[lo:hi] -/
def rSlS : V → Option Int → Option Int → Hp → VK → Prop := fun x lo hi H Q => ∃ z, x = .str z ∧ z.length ≤ sizeLine ∧ Q (.str (Txt.slice z lo hi)) H
theorem part_pair {v : Value} {o : Option Int} (p : IsPart v o) : ∃ l : Option (Int × Tok), v = partValue l ∧ l.map (·.1) = o := by
  cases p with
  | none => exact ⟨none, rfl, rfl⟩
  | int i t => exact ⟨some (i, t), rfl, rfl⟩
theorem sl_str : SlR X rSlS := by
  intro pins s σ H x v vl vu lo hi sl Q I rx hs pl pu h
  obtain ⟨z, rfl, hz, q⟩ := h
  obtain ⟨t, rfl⟩ := rx
  obtain ⟨l, rfl, el⟩ := part_pair pl
  obtain ⟨u, rfl, eu⟩ := part_pair pu
  subst el eu
  refine ⟨"str", _, F.slot_str_getitem.lookup, typeIs_str _ _ _, ?_⟩
  obtain ⟨o, ho, hc, hd⟩ := hs
  refine wpAny_getItem_str_slice (l := l) (u := u) (st := none) ⟨o, ho, hc, hd⟩ rfl ?_
  exact post_val_or_str ⟨Nat.le_trans (Txt.slice_le z _ _) hz, fun t' k => ⟨.str _, H, I.tok _, ⟨t', rfl⟩, q⟩⟩

/-! ### the signs of a text, one after another -/
def Its (z : Str) : It := ⟨fun i _ => i < z.cps.size, fun i H x H' => H' = H ∧ ∃ c, z.cps[i]? = some c ∧ x = .str ⟨#[c]⟩, fun i _ => z.cps.size ≤ i⟩
def iStr (tl : TE) : TI := fun σ H R => tl σ H fun x H1 => ∃ z, x = .str z ∧ R (Its z) H1
/-! ### any of a list of bools -/
end
end L2

set_option maxHeartbeats 4000000
namespace L2
open PySem PySem.Spec PyProof.Rows PySem.SeqAt

/-! ### deep equality: two values that are the same all through -/
inductive Deq (K : PySem.W.Frag) (H : Hp) : Nat → V → V → Prop where
  | flat {n : Nat} {x : V} (f : flatV x = true) : Deq K H n x x
  | tup {n : Nat} {a b : Addr} {xs ys : List V} (ha : SqT K H a xs) (hb : SqT K H b ys) (hl : xs.length = ys.length) (h : ∀ (i : Nat) x y, xs[i]? = some x → ys[i]? = some y → Deq K H n x y) : Deq K H (n + 1) (.ref a) (.ref b)
  | lst {n : Nat} {a b : Addr} {xs ys : List V} (ha : SqL K H a xs) (hb : SqL K H b ys) (hl : xs.length = ys.length) (h : ∀ (i : Nat) x y, xs[i]? = some x → ys[i]? = some y → Deq K H n x y) : Deq K H (n + 1) (.ref a) (.ref b)
section
variable {X : Cx} {pins : List (Addr × Obj)} {σ : St} {H : Hp} {s : Shared}
theorem eqV_self : ∀ {x : V}, flatV x = true → eqV x x = true := by
  intro x f
  cases x <;> first | (simp [eqV]; done) | (cases f)
theorem range_all_true (n : Nat) : (List.range n).all (fun _ => true) = true := by simp
theorem Deq.at {n : Nat} {x y : V} (d : Deq X.K H n x y) (I : Inv X pins σ H s) : ∀ {A : Around} {u v : Value}, A.units + n < cLine → RelV x u → RelV y v →
    EqAt A s u v true ∧ (∀ a b, x = .ref a → y = .ref b → RcAt A s u v true ∧ RcNeAt A s u v false) := by
  induction d with
  | @flat n x f =>
    intro A u v hu ru rv
    refine ⟨?_, fun a b e _ => ?_⟩
    · have := eqAt_V (A := A) (s := s) ru rv f f
      rw [eqV_self f] at this
      exact this
    · subst e; cases f
  | @tup n a b xs ys ha hb hl h ih =>
    intro A u v hu ru rv
    cases ru
    cases rv
    obtain ⟨its, r, p, _⟩ := I.tuple ha
    obtain ⟨its', r', p', _⟩ := I.tuple hb
    have e1 := r.length
    have e2 := r'.length
    have he : ∀ j (h1 : j < its.toArray.size) (h2 : j < its'.toArray.size), EqAt A.in1 s its.toArray[j] its'.toArray[j] true := by
      intro j h1 h2
      have h1' : j < its.length := by simpa using h1
      have h2' : j < its'.length := by simpa using h2
      have g1 : xs[j]? = some xs[j] := List.getElem?_eq_getElem (by omega)
      have g2 : ys[j]? = some ys[j] := List.getElem?_eq_getElem (by omega)
      obtain ⟨u1, q1, k1⟩ := r.get g1
      obtain ⟨u2, q2, k2⟩ := r'.get g2
      have z1 : its.toArray[j] = u1 := by
        rw [List.getElem?_eq_getElem h1'] at q1
        simpa using q1
      have z2 : its'.toArray[j] = u2 := by
        rw [List.getElem?_eq_getElem h2'] at q2
        simpa using q2
      rw [z1, z2]
      exact (ih j _ _ g1 g2 (by show A.units + 1 + n < cLine; omega) k1 k2).1
    have bt : ((List.range (min its.toArray.size its'.toArray.size)).all (fun _ => true) && its.toArray.size == its'.toArray.size) = true := by
      rw [range_all_true]
      simp
      omega
    have rc : RcAt A s (.ref a) (.ref b) true := by
      have := RcAt.tuples (A := A) (e := fun _ => true) (show s.heap.IsTuple a its.toArray from p) (show s.heap.IsTuple b its'.toArray from p') (by omega) he
      rw [bt] at this
      exact this
    have rn : RcNeAt A s (.ref a) (.ref b) false := by
      have := RcNeAt.tuples (A := A) (e := fun _ => true) (show s.heap.IsTuple a its.toArray from p) (show s.heap.IsTuple b its'.toArray from p') (by omega) he
      rw [bt] at this
      exact this
    refine ⟨?_, fun _ _ _ _ => ⟨rc, rn⟩⟩
    by_cases e : a = b
    · subst e; exact EqAt.same _
    · exact EqAt.of_refs e rc
  | @lst n a b xs ys ha hb hl h ih =>
    intro A u v hu ru rv
    cases ru
    cases rv
    obtain ⟨its, r, p, _⟩ := I.list ha
    obtain ⟨its', r', p', _⟩ := I.list hb
    have e1 := r.length
    have e2 := r'.length
    have he : ∀ j (h1 : j < its.toArray.size) (h2 : j < its'.toArray.size), EqAt A.in1 s its.toArray[j] its'.toArray[j] true := by
      intro j h1 h2
      have h1' : j < its.length := by simpa using h1
      have h2' : j < its'.length := by simpa using h2
      have g1 : xs[j]? = some xs[j] := List.getElem?_eq_getElem (by omega)
      have g2 : ys[j]? = some ys[j] := List.getElem?_eq_getElem (by omega)
      obtain ⟨u1, q1, k1⟩ := r.get g1
      obtain ⟨u2, q2, k2⟩ := r'.get g2
      have z1 : its.toArray[j] = u1 := by
        rw [List.getElem?_eq_getElem h1'] at q1
        simpa using q1
      have z2 : its'.toArray[j] = u2 := by
        rw [List.getElem?_eq_getElem h2'] at q2
        simpa using q2
      rw [z1, z2]
      exact (ih j _ _ g1 g2 (by show A.units + 1 + n < cLine; omega) k1 k2).1
    have bt : (List.range its.toArray.size).all (fun _ => true) = true := range_all_true _
    have rc : RcAt A s (.ref a) (.ref b) true := by
      have := RcAt.lists (A := A) (e := fun _ => true) p.isList p'.isList (by simp; omega) (by omega) he
      rw [bt] at this
      exact this
    have rn : RcNeAt A s (.ref a) (.ref b) false := by
      have := RcNeAt.lists (A := A) (e := fun _ => true) p.isList p'.isList (by simp; omega) (by omega) he
      rw [bt] at this
      exact this
    refine ⟨?_, fun _ _ _ _ => ⟨rc, rn⟩⟩
    by_cases e : a = b
    · subst e; exact EqAt.same _
    · exact EqAt.of_refs e rc
def rEqD (K : PySem.W.Frag) (b : Bool) : R2 := fun x y H Q => ∃ a c, x = .ref a ∧ y = .ref c ∧ Deq K H 60 x y ∧ Q (.bl b) H
theorem op_eqD (hu : X.A.units + 64 < cLine) : OpR X (compareOp .Eq) (rEqD X.K true) := by
  intro pins s σ H x y v u Q I r1 r2 h
  obtain ⟨a, c, rfl, rfl, d, q⟩ := h
  exact (((d.at I (A := X.A) (by omega) r1 r2).2 a c rfl rfl).1) X.prog X.w X.xe _ ⟨.bl true, H, I, rfl, q⟩
theorem op_neD (hu : X.A.units + 64 < cLine) : OpR X (compareOp .NotEq) (rEqD X.K false) := by
  intro pins s σ H x y v u Q I r1 r2 h
  obtain ⟨a, c, rfl, rfl, d, q⟩ := h
  exact (((d.at I (A := X.A) (by omega) r1 r2).2 a c rfl rfl).2) X.prog X.w X.xe _ ⟨.bl false, H, I, rfl, q⟩
/-! ### isinstance(x, T), T a built-in type -/
theorem call_isT : CallR X (.builtin "isinstance") (fun xs H Q => ∃ x T t b, xs = [x, .ty T] ∧ TyOf X.K H x t ∧ PySem.W.kitOne X.K t (.type T) = some b ∧ Q (.bl b) H) := by
  intro pins s σ H xs us Q I r h
  obtain ⟨x, T, t, b, rfl, ty, e, q⟩ := h
  obtain ⟨u, v, rfl, r1, r2⟩ := r.two
  cases r2
  exact isinst_ok I r1 ty e fun tk => ⟨.bl b, H, I.tok _, rfl, q⟩

/-! ### zip of two lists, enumerate of a list: the pair is a tuple that is not looked at -/
/-- (i, x) of the list at a -/
def Ite (K : PySem.W.Frag) (a : Addr) : It :=
  ⟨fun i H => ∃ xs x, SqL K H a xs ∧ xs[i]? = some x, fun i H x H' => ∃ y t, x = .ref t ∧ H t = none ∧ (∀ xs, SqL K H a xs → xs[i]? = some y) ∧ H' = upd H t (.tup [.int i, y]), fun i H => ∃ xs, SqL K H a xs ∧ xs.length ≤ i⟩
/-- (x, y) of the lists at a and b -/
def Itz (K : PySem.W.Frag) (a b : Addr) : It :=
  ⟨fun i H => ∃ xs ys x y, SqL K H a xs ∧ SqL K H b ys ∧ xs[i]? = some x ∧ ys[i]? = some y,
   fun i H p H' => ∃ x y t, p = .ref t ∧ H t = none ∧ (∀ xs, SqL K H a xs → xs[i]? = some x) ∧ (∀ ys, SqL K H b ys → ys[i]? = some y) ∧ H' = upd H t (.tup [x, y]),
   fun i H => ∃ xs ys, SqL K H a xs ∧ SqL K H b ys ∧ min xs.length ys.length = i⟩
end
end L2

set_option maxHeartbeats 4000000
namespace L2
open PySem PySem.Spec PyProof.Rows PySem.SeqAt
/-! ### one word for an operation, whatever it is upon -/
section
variable {X : Cx}
theorem hu_of64 {k : Nat} {A : Around} (hr : Room k A) : A.units + 64 < cLine := hr.units
theorem bt_len : bootBuiltins "len" = some (.builtin "len") := by decide +kernel
theorem bt_min : bootBuiltins "min" = some (.builtin "min") := by decide +kernel
theorem bt_max : bootBuiltins "max" = some (.builtin "max") := by decide +kernel
theorem bt_isinstance : bootBuiltins "isinstance" = some (.builtin "isinstance") := by decide +kernel
theorem bt_int : bootBuiltins "int" = some (.type "int") := by decide +kernel
theorem bt_bool : bootBuiltins "bool" = some (.type "bool") := by decide +kernel
theorem bt_list : bootBuiltins "list" = some (.type "list") := by decide +kernel
/-- text * n -/
def rRepS : R2 := fun x y H Q => ∃ z k, x = .str z ∧ y = .int k ∧ 0 ≤ k ∧ z.length * k.toNat ≤ 1000 ∧ ∀ r : Str, r.cps.toList = (List.replicate k.toNat z.cps.toList).flatten → Q (.str r) H
end
end L2
namespace L2
open PySem PySem.Spec PyProof.Rows
/-! ### a row of written texts as arguments -/
def cstrs : List Expr → Option (List Str)
  | [] => some []
  | .Constant (.str x) _ _ :: r => (cstrs r).map fun ys => x :: ys
  | _ => none
end L2

namespace L2
open PySem
theorem seq_upd {K : PySem.W.Frag} {H : Hp} {a l : Addr} {o : HO} {xs : List V} (h : SqL K H a xs) (hn : H l = none) : SqL K (upd H l o) a xs := by
  have ne : ∀ {u}, H a = some u → a ≠ l := fun e => ne_of_none e hn
  rcases h with (h | ⟨u, h⟩) | h
  · exact .inl (.inl (by rw [upd_ne (ne h)]; exact h))
  · exact .inl (.inr ⟨u, by rw [upd_ne (ne h)]; exact h⟩)
  · exact .inr h
theorem Same.upd {H : Hp} {l : Addr} {o : HO} (hn : H l = none) : Same H (upd H l o) := fun b u e => by
  rw [upd_ne (ne_of_none e hn)]
  exact e
end L2
namespace L2
theorem bodyOk {X : Cx} {b : List PySem.Stmt} {t : TS} {D : Ends} {σ : St} {H : Hp} (h : PSs X b t) (q : t D σ H) : ∃ t, PSs X b t ∧ t D σ H := ⟨t, h, q⟩
theorem dec_int' (i j : Int) : decide (V.int i = V.int j) = decide (i = j) := by
  by_cases h : i = j
  · subst h; simp
  · rw [decide_eq_false h]
    exact decide_eq_false fun e => h (V.int.inj e)
end L2
namespace L2
open PySem
end L2
namespace L2
open PySem
end L2

set_option maxHeartbeats 4000000
namespace L2
open PySem PySem.Spec PyProof.Rows
section
variable {X : Cx} {tg : Expr}
def iEnum (K : PySem.W.Frag) (tl : TE) : TI := fun σ H R => tl σ H fun x H1 => ∃ a, x = .ref a ∧ (∃ xs, SqL K H1 a xs) ∧ R (Ite K a) H1
end
end L2

set_option maxHeartbeats 4000000
namespace L2
open PySem PySem.Spec PyProof.Rows
structure ZipOwn (z TI TO i1 i2 : Addr) : Prop where
  TIz : TI ≠ z
  TOz : TO ≠ z
  i1z : i1 ≠ z
  i2z : i2 ≠ z
  TITO : TI ≠ TO
  TIi1 : TI ≠ i1
  TIi2 : TI ≠ i2
  TOi1 : TO ≠ i1
  TOi2 : TO ≠ i2
  i12 : i1 ≠ i2
section
variable {X : Cx}
def zipSt (z TI TO i1 i2 a b : Addr) (i : Nat) (h : Heap) : Prop := IsZip h z TI TO .none ∧ IsPair h TI (.ref i1) (.ref i2) ∧ (∃ x y, IsPair h TO x y) ∧ h.IsListIter i1 a i ∧ h.IsListIter i2 b i
def iZip (K : PySem.W.Frag) (tl tm : TE) : TI := fun σ H R => tl σ H fun x H1 => tm σ H1 fun y H2 => ∃ a b, x = .ref a ∧ y = .ref b ∧ (∃ xs, SqL K H2 a xs) ∧ (∃ ys, SqL K H2 b ys) ∧ R (Itz K a b) H2
end
end L2

set_option maxHeartbeats 4000000
namespace L2
open PySem
/-! ### a comprehension by what holds between two turns -/
abbrev CompW (J : It) (g : TG) (tc : TT) (te : TE) (D : Addr) (R : Hp → Prop) (σ : St) (H : Hp) : Prop := ∃ W : Nat → Nat → List V → St → Hp → Prop, (∃ m, W 0 m [] σ H) ∧ ∀ i m ys σ H, W i m ys σ H →
    (J.stop i H ∧ R H) ∨ (J.go i H ∧ ∀ x H', J.yld i H x H' → g x σ H' fun σ2 H2 => tc σ2 H2 fun ok H3 =>
      if ok = true then te σ2 H3 fun y H4 => H4 D = some (.lst ys) ∧ ys.length < sizeLine ∧ ∃ m', m' < m ∧ W (i + 1) m' (ys ++ [y]) σ2 (upd H4 D (.lst (ys ++ [y])))
      else ∃ m', m' < m ∧ W (i + 1) m' ys σ2 H3)
/-- one turn: N is what the rest asks -/
abbrev CompT (g : TG) (tc : TT) (te : TE) (D : Addr) (ys : List V) (x : V) (σ : St) (H : Hp) (N : List V → St → Hp → Prop) : Prop :=
  g x σ H fun σ2 H2 => tc σ2 H2 fun ok H3 => if ok = true then te σ2 H3 fun y H4 => H4 D = some (.lst ys) ∧ ys.length < sizeLine ∧ N (ys ++ [y]) σ2 (upd H4 D (.lst (ys ++ [y]))) else N ys σ2 H3
theorem comp_range {lo : Int} {n : Nat} {g : TG} {tc : TT} {te : TE} {D : Addr} {R : Hp → Prop} {σ : St} {H : Hp} (Pv : Nat → List V → St → Hp → Prop) (h0 : Pv 0 [] σ H)
    (hs : ∀ i ys σ H, i < n → Pv i ys σ H → ∀ N : List V → St → Hp → Prop, (∀ ys σ H, Pv (i + 1) ys σ H → N ys σ H) → CompT g tc te D ys (.int (lo + i)) σ H N) (hd : ∀ ys σ H, Pv n ys σ H → R H) : CompW (Itr lo n) g tc te D R σ H := by
  refine ⟨fun i m ys σ H => m = n - i ∧ i ≤ n ∧ Pv i ys σ H, ⟨n, by simp, Nat.zero_le _, h0⟩, ?_⟩
  rintro i m ys σ H ⟨rfl, hi, p⟩
  by_cases hlt : i < n
  · refine .inr ⟨hlt, fun x H' y => ?_⟩
    obtain ⟨e, y⟩ := y
    subst e y
    exact hs i ys σ _ hlt p (fun ys' σ' H' => ∃ m', m' < n - i ∧ m' = n - (i + 1) ∧ i + 1 ≤ n ∧ Pv (i + 1) ys' σ' H') fun ys' σ' H' q => ⟨n - (i + 1), by omega, rfl, hlt, q⟩
  · have e : i = n := by omega
    subst e
    exact .inl ⟨Nat.le_refl _, hd ys σ H p⟩
theorem comp_list {K : PySem.W.Frag} {a : Addr} {xs : List V} {g : TG} {tc : TT} {te : TE} {D : Addr} {R : Hp → Prop} {σ : St} {H : Hp} (Pv : Nat → List V → St → Hp → Prop) (h0 : Pv 0 [] σ H) (hl : ∀ i ys σ H, Pv i ys σ H → SqL K H a xs)
    (hs : ∀ i ys x σ H, xs[i]? = some x → Pv i ys σ H → ∀ N : List V → St → Hp → Prop, (∀ ys σ H, Pv (i + 1) ys σ H → N ys σ H) → CompT g tc te D ys x σ H N) (hd : ∀ ys σ H, Pv xs.length ys σ H → R H) : CompW (Itl K a) g tc te D R σ H := by
  refine ⟨fun i m ys σ H => m = xs.length - i ∧ i ≤ xs.length ∧ Pv i ys σ H, ⟨xs.length, by simp, Nat.zero_le _, h0⟩, ?_⟩
  rintro i m ys σ H ⟨rfl, hi, p⟩
  have q := hl i ys σ H p
  by_cases hlt : i < xs.length
  · refine .inr ⟨⟨xs, xs[i], q, by simp [hlt]⟩, fun x H' y => ?_⟩
    obtain ⟨e, y⟩ := y
    subst e
    exact hs i ys x σ _ (y xs q) p (fun ys' σ' H' => ∃ m', m' < xs.length - i ∧ m' = xs.length - (i + 1) ∧ i + 1 ≤ xs.length ∧ Pv (i + 1) ys' σ' H') fun ys' σ' H' q => ⟨xs.length - (i + 1), by omega, rfl, hlt, q⟩
  · have e : i = xs.length := by omega
    subst e
    exact .inl ⟨⟨xs, q, Nat.le_refl _⟩, hd ys σ H p⟩
end L2
namespace L2
open PySem
/-- one name, no test -/
theorem compT_name {j : Nat} {te : TE} {D : Addr} {ys : List V} {x : V} {σ : St} {H : Hp} {N : List V → St → Hp → Prop}
    (h : te (σ.set j (some x)) H fun y H4 => H4 D = some (.lst ys) ∧ ys.length < sizeLine ∧ N (ys ++ [y]) (σ.set j (some x)) (upd H4 D (.lst (ys ++ [y])))) : CompT (gName j) tAll te D ys x σ H N := by
  unfold CompT gName tAll
  exact (if_pos (rfl : true = true)).mpr h
end L2

set_option maxHeartbeats 4000000
namespace L2
open PySem PySem.Spec PyProof.Rows
open Sem (wp)
/-! ### enumerate over a zip: the inner pair may still be alive at the next turn -/
abbrev ZipG (h : Heap) (z TI TO : Addr) (f0 f1 : Value) : Prop :=
  h.get? z = some { cls := .type "zip", dict := none, data := .fields #[f0, f1, .bool false, .ref TI, .ref TO], slots := #[] }
def Loose (f0 f1 : Value) : Prop := (f0 = .none ∨ ∃ a : Nat, f0 = rawInt (a : Int)) ∧ ∃ b, f1 = .bool b
section
variable {prog : Program} {w : World} {A : Around} {E : Value → Shared → Prop} {s : Shared}
/-- one turn of enumerate over such a zip -/
def zipS (z TI TO i1 i2 a b : Addr) (i : Nat) (h : Heap) : Prop := (∃ f0 f1, ZipG h z TI TO f0 f1 ∧ Loose f0 f1) ∧ IsPair h TI (.ref i1) (.ref i2) ∧ (∃ x y, IsPair h TO x y) ∧ h.IsListIter i1 a i ∧ h.IsListIter i2 b i
end
end L2

set_option maxHeartbeats 4000000
namespace L2
open PySem PySem.Spec PyProof.Rows
section
variable {X : Cx} {pins : List (Addr × Obj)} {σ : St} {H : Hp} {s : Shared}
/-- (i, (x, y)) of the lists at a and b -/
def Itez (K : PySem.W.Frag) (a b : Addr) : It :=
  ⟨fun i H => ∃ xs ys x y, SqL K H a xs ∧ SqL K H b ys ∧ xs[i]? = some x ∧ ys[i]? = some y,
   fun i H p H' => ∃ x y t0 t1, p = .ref t1 ∧ H t0 = none ∧ H t1 = none ∧ t0 ≠ t1 ∧ (∀ xs, SqL K H a xs → xs[i]? = some x) ∧ (∀ ys, SqL K H b ys → ys[i]? = some y) ∧ H' = upd (upd H t0 (.tup [x, y])) t1 (.tup [.int i, .ref t0]),
   fun i H => ∃ xs ys, SqL K H a xs ∧ SqL K H b ys ∧ xs.length ≤ i⟩
def iEz (K : PySem.W.Frag) (tl tm : TE) : TI := fun σ H R => tl σ H fun x H1 => tm σ H1 fun y H2 => ∃ a b, x = .ref a ∧ y = .ref b ∧ (∃ xs, SqL K H2 a xs) ∧ (∃ ys, SqL K H2 b ys) ∧ R (Itez K a b) H2
end
end L2

set_option maxHeartbeats 4000000
namespace L2
open PySem PySem.Spec PyProof.Rows
/-! ### a def with defaults -/
structure FunD (K : PySem.W.Frag) (x qual : Str) (st : Stmt) (f : Addr) (fd : FuncData) (dV : Value) : Prop where
  ex : ∃ (oc : Value) (od : Option Addr) (kV doc pm : Value) (an : Option Addr) (cdv ct : Value) (osl : Array (Option Value)),
    fd = PySem.W.fnOf x qual (defArgs st) (defBody st) (defScope st) dV kV doc pm an cdv ct ∧ K.lookup f = some ⟨oc, od, .func fd, osl⟩ ∧ PySem.W.codeIn K cdv qual = true
  kp : PySem.W.keepIn K (.ref f) = true
section
variable {P : Program} {w : World} {K : PySem.W.Frag} {mg : Str → Option Value} {base : Heap}
theorem FunD.ok {x qual : Str} {st : Stmt} {f : Addr} {fd : FuncData} {dV : Value} {N ps : List Str} {k : Nat} {sp : Sp} (F : FunD K x qual st f fd dV) (S : FnScope N ps (defScope st)) (len : ∀ vs H Q E, sp vs H Q E → vs.length = ps.length)
    (hbody : ∀ (cdv : Value) (A : Around) (outer : List Env) (s : Shared) (H : Hp) (vs : List V) (Q : VK) (E : XK), Room k (A.deeper (envOfC qual (defScope st) s.heap.objs.size f cdv)) → sp vs H Q E →
      ∃ t, PSs (cxOf CX0 P w K mg base N qual (defScope st) f cdv A outer s H E).nox (defBody st) t ∧ t { nx := fun _ H' => Q .non H', rt := Q } (start N vs) H) : FnOk P w K mg base CX0 (k + 1) f fd ps sp := by
  obtain ⟨oc, od, kV, doc, pm, an, cdv, ct, osl, rfl, lk, hcd⟩ := F.ex
  refine fn_of lk hcd S len fun A outer s H vs Q E hr hsp => ?_
  obtain ⟨t, h, q⟩ := hbody cdv A outer s H vs Q E hr hsp
  exact ⟨t, h.nox, q⟩
theorem FunD.binds {x qual : Str} {st : Stmt} {f : Addr} {fd : FuncData} {T : Addr} {o : Obj} {items : Array Value} {n : Nat} {ps : List Str} {ds : List Value} (F : FunD K x qual st f fd (.ref T)) (lk : K.lookup T = some o) (hs : o.data = .seq items n)
    (h : ∀ (kV doc pm : Value) (an : Option Addr) (cdv ct : Value) (us : List Value), (us ++ ds).length = ps.length → ∃ k, bindArgs (PySem.W.fnOf x qual (defArgs st) (defBody st) (defScope st) (.ref T) kV doc pm an cdv ct) ⟨us, []⟩ = seqItems? (.ref T) >>= k ∧ k (some items) = pure (ps.zip (us ++ ds))) : Binds K fd ps ds := by
  obtain ⟨oc, od, kV, doc, pm, an, cdv, ct, osl, rfl, lkf, hcd⟩ := F.ex
  intro s us KI hl
  obtain ⟨k, h1, h2⟩ := h kV doc pm an cdv ct us hl
  exact BindsTo.of_defaults rfl (KI _ _ lk) hs h1 h2
theorem funD_mk {x qual : Str} {st : Stmt} {f : Addr} {oc : Value} {od an : Option Addr} {osl : Array (Option Value)} {dV kV doc pm cdv ct : Value} (l : K.lookup f = some ⟨oc, od, .func (PySem.W.fnOf x qual (defArgs st) (defBody st) (defScope st) dV kV doc pm an cdv ct), osl⟩)
    (c : PySem.W.codeIn K cdv qual = true) (k : PySem.W.keepIn K (.ref f) = true) : FunD K x qual st f (PySem.W.fnOf x qual (defArgs st) (defBody st) (defScope st) dV kV doc pm an cdv ct) dV := ⟨⟨oc, od, kV, doc, pm, an, cdv, ct, osl, rfl, l, c⟩, k⟩
end
/-! ### a dict of the module: texts as keys -/
inductive EsOk (w : World) : List DictEntry → List (Str × V) → Prop
  | nil : EsOk w [] []
  | cons {x : Str} {t : Tok} {u : Value} {v : V} {es : List DictEntry} {kvs : List (Str × V)} : RelV v u → EsOk w es kvs → EsOk w (⟨PyData.keyHash w.params x, .str x t, u⟩ :: es) ((x, v) :: kvs)
structure KD (K : PySem.W.Frag) (w : World) (a : Addr) (kvs : List (Str × V)) : Prop where
  sys : (a == sysModules) = false
  ok : ∃ es n, K.lookup a = some ⟨.type "dict", none, .dict es n, #[]⟩ ∧ EsOk w es.toList kvs ∧ (kvs.map (·.1)).Nodup
theorem EsOk.vs (P : Program) {w : World} : ∀ {es : List DictEntry} {kvs : List (Str × V)}, EsOk w es kvs → ∃ vs : List (Key × Value), Pairs (mixKind P w) es vs ∧ vs.map (·.1) = kvs.map (fun p => (Sum.inr p.1 : Key)) ∧
    (∀ e ∈ es, ∃ k, (mixKind P w).is k e.key = true ∧ e.hash = (mixKind P w).hash k) ∧ ∀ x, RelO (kvs.lookup x) (valueAt vs (Sum.inr x))
  | _, _, .nil => ⟨[], .nil, rfl, fun e h => by simp at h, fun x => True.intro⟩
  | _, _, .cons (x := x) (t := t) (u := u) (v := v) r q => by
    obtain ⟨vs, h1, h2, h3, h4⟩ := EsOk.vs P q
    refine ⟨(Sum.inr x, u) :: vs, .cons (mixKind_str P w x t) rfl h1, by rw [List.map_cons, List.map_cons, h2], fun e he => ?_, fun y => ?_⟩
    · rcases List.mem_cons.mp he with rfl | he
      · exact ⟨Sum.inr x, mixKind_str P w x t, rfl⟩
      · exact h3 e he
    · by_cases hy : y = x
      · subst hy
        unfold valueAt
        simp only [List.lookup_cons, List.find?_cons]
        simp
        exact r
      · unfold valueAt
        have h5 := h4 y
        unfold valueAt at h5
        have e1 : (y == x) = false := by simpa using hy
        have e2 : decide ((Sum.inr x : Key) = Sum.inr y) = false := decide_eq_false fun e => hy (Sum.inr.inj e).symm
        simp only [List.lookup_cons, e1, List.find?_cons, e2]
        exact h5
theorem nodup_inr : ∀ {l : List Str}, l.Nodup → (l.map (fun p => (Sum.inr p : Key))).Nodup
  | [], _ => .nil
  | x :: l, h => by
    rw [List.map_cons, List.nodup_cons]
    obtain ⟨h1, h2⟩ := List.nodup_cons.mp h
    refine ⟨fun z => ?_, nodup_inr h2⟩
    obtain ⟨y, hy, e⟩ := List.mem_map.mp z
    cases e
    exact h1 hy
theorem KD.dict (P : Program) {K : PySem.W.Frag} {w : World} {a : Addr} {kvs : List (Str × V)} {h : Heap} (d : KD K w a kvs) (hi : K.In h) : ∃ vs, h.DictOf (mixKind P w) a vs ∧ ∀ x, RelO (kvs.lookup x) (valueAt vs (Sum.inr x)) := by
  obtain ⟨es, n, lk, ok, nd⟩ := d.ok
  obtain ⟨vs, h1, h2, h3, h4⟩ := ok.vs P
  refine ⟨vs, ⟨_, es, n, hi _ _ lk, ⟨rfl, rfl, rfl⟩, rfl, fun e he => h3 e (by simpa using he), h1, ?_⟩, h4⟩
  rw [h2]
  have := nodup_inr nd
  rw [List.map_map] at this
  exact this
theorem RelO.isSome' {o : Option V} {u : Option Value} (r : RelO o u) : o.isSome = u.isSome := by
  cases o <;> cases u <;> first | rfl | exact False.elim r
section
variable {X : Cx}
theorem op_in_kd : OpR X (compareOp .In) (fun x y H Q => ∃ a z kvs, x = .str z ∧ y = .ref a ∧ KD X.K X.w a kvs ∧ Q (.bl (kvs.lookup z).isSome) H) := by
  intro pins s σ H x y v u Q I rx ry h
  obtain ⟨a, z, kvs, rfl, rfl, d, q⟩ := h
  obtain ⟨t, rfl⟩ := rx
  cases ry
  obtain ⟨vs, dd, rel⟩ := d.dict X.prog I.kIn
  refine wpAny_in_of (knd := mixKind X.prog X.w) (k := Sum.inr z) (mixKind_str _ _ z t) d.sys dd.mapOf ?_
  rw [← (rel z).isSome']
  exact ⟨.bl _, H, I.tok _, rfl, q⟩
theorem ix_kd : IxR X (fun x y H Q => ∃ a z kvs r, x = .ref a ∧ y = .str z ∧ KD X.K X.w a kvs ∧ kvs.lookup z = some r ∧ Q r H) := by
  intro value slice pins s σ H x y v u Q I rx ry h hs
  obtain ⟨a, z, kvs, r, rfl, rfl, d, l, q⟩ := h
  cases rx
  obtain ⟨t, rfl⟩ := ry
  obtain ⟨vs, dd, rel⟩ := d.dict X.prog I.kIn
  have hr := rel z
  rw [l] at hr
  cases hv : valueAt vs (Sum.inr z) with
  | none => rw [hv] at hr; exact False.elim hr
  | some rv =>
    rw [hv] at hr
    exact subscriptTail_builtinR (x := rv) dd.typeIs PySem.F.slot_dict_getitem.lookup
      (wpAny_getItem_of (knd := mixKind X.prog X.w) (k := Sum.inr z) (mixKind_str _ _ z t) dd.mapOf hv ⟨rfl, ⟨r, H, I.tok _, hr, q⟩⟩) hs
/-- d.get(k, x) of a dict of the module -/
def tKGet2 (K : PySem.W.Frag) (w : World) (td ty tx : TE) : TE := fun σ H Q => td σ H fun x H1 => ∃ a kvs, x = .ref a ∧ KD K w a kvs ∧ ty σ H1 fun y H2 => tx σ H2 fun z H3 => ∃ k, y = .str k ∧ Q ((kvs.lookup k).getD z) H3
/-! ### sum of a list of ints -/
def sumI : List Int → Int
  | [] => 0
  | x :: l => x + sumI l
end
end L2

set_option maxHeartbeats 4000000
namespace L2
open PySem PySem.Spec PyProof.Rows
/-! ### a halt amidst: what is known behind a part, said once -/
def tMidE (t : TE) : TE := fun σ H Q => ∃ R : V → Hp → Prop, t σ H R ∧ ∀ v H', R v H' → Q v H'
def tMidT (t : TT) : TT := fun σ H Q => ∃ R : Bool → Hp → Prop, t σ H R ∧ ∀ v H', R v H' → Q v H'
def tMidS (t : TS) : TS := fun D σ H => ∃ R : St → Hp → Prop, t { D with nx := R } σ H ∧ ∀ σ' H', R σ' H' → D.nx σ' H'
section
variable {X : Cx}
theorem pe_mid {e : Expr} {t : TE} (h : PE X e t) : PE X e (tMidE t) := by
  intro pins s σ H Q I ⟨R, hR, hQ⟩
  exact thn (h pins s σ H R I hR) fun u s1 ⟨v, H1, I1, r, q⟩ => ⟨v, H1, I1, r, hQ v H1 q⟩
theorem pt_mid {e : Expr} {t : TT} (h : PT X e t) : PT X e (tMidT t) := by
  intro pins s σ H Q I ⟨R, hR, hQ⟩
  exact thn (h pins s σ H R I hR) fun u s1 ⟨H1, I1, q⟩ => ⟨H1, I1, hQ u H1 q⟩
theorem ps_mid {st : Stmt} {t : TS} (h : PS X st t) : PS X st (tMidS t) := by
  intro pins s σ H D I ⟨R, hR, hQ⟩
  refine thn (h pins s σ H _ I hR) fun f s1 q => ?_
  cases f with
  | next => exact let ⟨σ', H', I', q'⟩ := q; ⟨σ', H', I', hQ _ _ q'⟩
  | brk => exact q
  | cont => exact q
  | ret u => exact q
end
theorem midV {t : TE} {σ : St} {H : Hp} {Q : VK} (v : V) (h : t σ H fun x H1 => x = v ∧ H1 = H) (q : Q v H) : ∃ R : V → Hp → Prop, t σ H R ∧ ∀ v H', R v H' → Q v H' := ⟨_, h, by rintro _ _ ⟨rfl, rfl⟩; exact q⟩
theorem midB {t : TT} {σ : St} {H : Hp} {Q : Bool → Hp → Prop} (b : Bool) (h : t σ H fun x H1 => x = b ∧ H1 = H) (q : Q b H) : ∃ R : Bool → Hp → Prop, t σ H R ∧ ∀ v H', R v H' → Q v H' := ⟨_, h, by rintro _ _ ⟨rfl, rfl⟩; exact q⟩
theorem midS {t : TS} {σ : St} {H : Hp} {D : Ends} (σ' : St) (H' : Hp) (h : t { D with nx := fun σ1 H1 => σ1 = σ' ∧ H1 = H' } σ H) (q : D.nx σ' H') : ∃ R : St → Hp → Prop, t { D with nx := R } σ H ∧ ∀ σ' H', R σ' H' → D.nx σ' H' :=
  ⟨_, h, by rintro _ _ ⟨rfl, rfl⟩; exact q⟩
/-- the end of a pure part -/
theorem endV {x v : V} {H : Hp} (e : x = v) : x = v ∧ H = H := ⟨e, rfl⟩
theorem endB {x v : Bool} {H : Hp} (e : x = v) : x = v ∧ H = H := ⟨e, rfl⟩
end L2

set_option maxHeartbeats 4000000
namespace L2
open PySem PySem.Spec PyProof.Rows
/-! ### a name that a comprehension shadows: its slot is forgotten by name while it is empty -/
abbrev Cx.names (X : Cx) (N : List Str) : Cx := { X with N := N }
section
variable {X : Cx} {pins : List (Addr × Obj)} {σ : St} {H : Hp} {s : Shared}
end
def tHide (k : Nat) (t : TE) : TE := fun σ H Q => σ[k]? = some none ∧ t σ H Q
end L2

set_option maxHeartbeats 4000000
namespace L2
open PySem PySem.Spec PyProof.Rows
section
variable {X : Cx} {tg iter elt : Expr} {ifs : List Expr} {scope : Scope} {pos : Pos} {cn : List Str} {wi : TI} {g : Bk → TG} {tc : Bk → TT} {te : Bk → TE}
end
/-- the same where the block's name shadows one of the def's -/
def tHideS (k : Nat) (t : TS) : TS := fun D σ H => σ[k]? = some none ∧ t { D with nx := fun σ' H' => σ'[k]? = some none ∧ D.nx σ' H' } σ H
end L2

set_option maxHeartbeats 4000000
namespace L2
open PySem PySem.Spec PyProof.Rows PySem.SeqAt
section
variable {X : Cx}
/-! ### pairs of flat values beside each other -/
def rEq2 (K : PySem.W.Frag) (neg : Bool) : R2 := fun x y H Q => ∃ a c x0 x1 y0 y1, x = .ref a ∧ y = .ref c ∧ SqT K H a [x0, x1] ∧ SqT K H c [y0, y1] ∧ (flatV x0 = true ∧ flatV x1 = true ∧ flatV y0 = true ∧ flatV y1 = true) ∧ Q (.bl (if neg then !(eqV x0 y0 && eqV x1 y1) else (eqV x0 y0 && eqV x1 y1))) H
/-! ### a list beside an empty one -/
def rEqE (K : PySem.W.Frag) (neg : Bool) : R2 := fun x y H Q => ∃ a c xs, x = .ref a ∧ y = .ref c ∧ SqL K H a xs ∧ SqL K H c [] ∧ Q (.bl (if neg then !xs.isEmpty else xs.isEmpty)) H
end
end L2

set_option maxHeartbeats 4000000
namespace L2
open PySem PySem.Spec PyProof.Rows
/-! ### xs[::-1] -/
def tBack (K : PySem.W.Frag) (te : TE) (ts : TO) : TE := fun σ H Q => te σ H fun x H1 => ts σ H1 fun o H2 => o = some (-1) ∧ ∃ a xs, x = .ref a ∧ SqL K H2 a xs ∧ ∀ p, H2 p = none → Q (.ref p) (upd H2 p (.lst xs.reverse))
/-! ### displays of displays -/
/-- a for over another expression -/
def setIter (s : Stmt) (e : Expr) : Stmt := match s with
  | .For t _ b o p => .For t e b o p
  | s => s
structure PEw (X : Cx) (e : Expr) (t : TE) : Prop where
  out : PE X e t
structure PAw (X : Cx) (es : List Expr) (t : TA) : Prop where
  out : PA X es t
end L2

set_option maxHeartbeats 4000000
namespace L2
open PySem PySem.Spec PyProof.Rows
/-! ### exceptions of the text's own: raised, passed on, caught -/
/-- an exception of the class cls flies over the frames l; G is the heap behind which it was made -/
def Fly (l : List Env) (G : Heap) (e : Addr) (cls : Value) (h : Heap) : Prop :=
  ∃ B a0, (∀ b o, G.get? b = some o → b ∉ frs l → B.get? b = some o) ∧ Heap.FlyingW B l e cls a0 h ∧ G.UpToSlots h ∧ G.get? e = none
/-- how it lies behind a call -/
def CX1 (P : Program) (w : World) : CXT := fun outer H s E ev s' =>
  ∃ a cls H' G, ev = .ref a ∧ s'.os = s.os ∧ AllBare s'.gens ∧ Un (frs outer) [] H H' s.heap G ∧ HOk P w H' G ∧ Fly outer G a cls s'.heap ∧ E cls none H'
abbrev XSt := St → Value → Hp → Prop
/-- within a body: one that came from a callee -/
def WX (X : Cx) (XS : XSt) : Value → Shared → Prop := fun ev s' =>
  ∃ pins σ H' G a cls, ev = .ref a ∧ Inv X pins σ H' { s' with heap := G } ∧ Fly X.stack G a cls s'.heap ∧ XS σ cls H'
/-- within a body: that, or one that was raised here -/
def WD (X : Cx) (XS : XSt) : Value → Shared → Prop := fun ev s' => WX X XS ev s' ∨
  ∃ pins σ H' G a cls args, ev = .ref a ∧ Inv X pins σ H' { s' with heap := G } ∧ Heap.MadeExcOf G s'.heap a cls args ∧ XS σ cls H'
section
variable {X : Cx} {pins : List (Addr × Obj)} {σ : St} {H H' : Hp} {s s' : Shared}
theorem passX {XS : XSt} {ev : Value} (I : Inv X pins σ H s) (h : CX1 X.prog X.w X.stack H s (fun cls _ H' => XS σ cls H') ev s') : WX X XS ev s' := by
  obtain ⟨a, cls, H', G, e, os, bare, un, hok, fly, q⟩ := h
  refine ⟨pins, σ, H', G, a, cls, e, ?_, fly, q⟩
  exact I.call' (s' := { s' with heap := G }) (ch := []) os un hok bare fun b z => absurd z (by simp)
/-- the frame's own part is struck out of the heap that counts -/
theorem strike {P : Program} {w : World} {h G : Heap} {L : Addr} {fs : List Addr} (un : Un fs [] H H' h G) (hok : HOk P w H' G) (hL : h.objs.size ≤ L) (hf : H' L = none) : Un fs [] H H' h (PySem.W.hideAll G [L]) ∧ HOk P w H' (PySem.W.hideAll G [L]) := by
  have get : ∀ {b o}, G.get? b = some o → b ≠ L → (PySem.W.hideAll G [L]).get? b = some o := fun e hn => PySem.W.hideAll_get _ e (by simpa using hn)
  have ne : ∀ {b o}, h.get? b = some o → b ≠ L := fun e z => absurd (z ▸ Heap.lt_size e) (Nat.not_lt.mpr hL)
  refine ⟨⟨fun b o e n hb hx => get (un.keep b o e n hb hx) (ne e), fun b o e n hb hx => ?_, un.free, fun b o e hx => ?_, un.tups, un.frzs, un.tbls⟩, fun b u e => ?_⟩
  · obtain ⟨sl, z⟩ := un.slot b o e n hb hx
    exact ⟨sl, get z (ne e)⟩
  · obtain ⟨o', z⟩ := un.there b o e hx
    exact ⟨o', get z (ne e)⟩
  · refine (hok b u e).stay (fun c v hc q => get q ?_) (fun _ q => q) fun _ _ q => q
    rintro rfl
    rcases hc with rfl | hc
    · rw [hf] at e; cases e
    · rw [hf] at hc; cases hc
theorem Fly.strike {env : Env} {outer : List Env} {G h : Heap} {B : Heap} {e L : Addr} {cls a0 : Value} (hf : env.frame = some L) (cov : ∀ b o, G.get? b = some o → b ∉ frs (env :: outer) → B.get? b = some o) (fl : Heap.FlyingW B outer e cls a0 h) (up : G.UpToSlots h) (hn : G.get? e = none) : Fly outer (PySem.W.hideAll G [L]) e cls h := by
  have back : ∀ {b o}, (PySem.W.hideAll G [L]).get? b = some o → G.get? b = some o ∧ b ≠ L := fun {b o} q => ⟨PySem.W.of_hideAll _ q, fun z => by
    rw [PySem.W.hideAll_none [L] (by rw [z]; simp)] at q; cases q⟩
  refine ⟨B, a0, fun b o q hb => ?_, fl, fun b o q hd => up b o (back q).1 hd, ?_⟩
  · obtain ⟨q1, q2⟩ := back q
    refine cov b o q1 ?_
    unfold frs
    rw [List.filterMap_cons, hf]
    intro z
    rcases List.mem_cons.mp z with z | z
    · exact q2 z
    · exact hb z
  · cases q : (PySem.W.hideAll G [L]).get? e with
    | none => rfl
    | some o => rw [(back q).1] at hn; cases hn
end
/-- out of a def's frame -/
theorem leaveX {P : Program} {w : World} {K : PySem.W.Frag} {mg : Str → Option Value} {base : Heap} {N : List Str} {qual : Str} {scope : Scope} {f : Addr} {cdv : Value} {A : Around} {outer : List Env} {s : Shared} {H : Hp} {E : XK} {ev : Value} {s' : Shared}
    (h : WD (cxOf (CX1 P w) P w K mg base N qual scope f cdv A outer s H E) (fun _ cls H' => E cls none H') ev s') : (cxOf (CX1 P w) P w K mg base N qual scope f cdv A outer s H E).xe ev s' := by
  rcases h with ⟨pins, σ, H', G, a, cls, rfl, I, ⟨B, a0, cov, fl, up, hn⟩, q⟩ | ⟨pins, σ, H', G, a, cls, args, rfl, I, hm, q⟩
  · show wpAny (model P w) _ (leaving _ (.ref a)) _ _ s'
    refine wpAny_leaves_onW I.ok.frames rfl fl fun h' fl' up' => ?_
    obtain ⟨un, hok⟩ := strike I.base I.hok I.ok.above I.free
    exact ⟨a, cls, H', _, rfl, I.os, I.bare, un, hok, Fly.strike rfl cov fl' (up.trans up') hn, q⟩
  · show wpAny (model P w) _ (leaving _ (.ref a)) _ _ s'
    have hin : ∀ env ∈ (cxOf (CX1 P w) P w K mg base N qual scope f cdv A outer s H E).stack, ∀ b, env.frame = some b → b ∈ frs (cxOf (CX1 P w) P w K mg base N qual scope f cdv A outer s H E).stack := fun env he b hb => List.mem_filterMap.mpr ⟨env, he, hb⟩
    refine wpAny_leaves_madeW (base := PySem.W.hideAll G (frs (cxOf (CX1 P w) P w K mg base N qual scope f cdv A outer s H E).stack)) (h := G) I.ok.frames rfl (fun b o z => PySem.W.of_hideAll _ z) (PySem.W.funFrames_hide I.stack hin) hm fun h' t fl' _ _ up' => ?_
    obtain ⟨un, hok⟩ := strike I.base I.hok I.ok.above I.free
    exact ⟨a, cls, H', _, rfl, I.os, I.bare, un, hok, Fly.strike rfl (fun b o z hb => PySem.W.hideAll_get _ z hb) fl' ((Heap.UpToSlots.of_keeps hm.keeps).trans up') hm.new, q⟩
theorem PSs.wishes {X : Cx} {E1 : Value → Shared → Prop} {st : List Stmt} {t : TS} (h : PSs (X.wish E1) st t) (hE : ∀ e s, E1 e s → X.xe e s) : PSs X st t := fun pins s σ H D I hw =>
  wpAny_mono (h pins s σ H D (I.wish _) hw) (fun _ _ q => q.unwish) hE
section
variable {P : Program} {w : World} {K : PySem.W.Frag} {mg : Str → Option Value} {base : Heap}
/-- THE RULE for a def that may raise -/
theorem Fun.okX {x qual : Str} {st : Stmt} {f : Addr} {fd : FuncData} {N ps : List Str} {k : Nat} {sp : Sp} (F : Fun K x qual st f fd) (S : FnScope N ps (defScope st)) (len : ∀ vs H Q E, sp vs H Q E → vs.length = ps.length)
    (hbody : ∀ (cdv : Value) (A : Around) (outer : List Env) (s : Shared) (H : Hp) (vs : List V) (Q : VK) (E : XK), Room k (A.deeper (envOfC qual (defScope st) s.heap.objs.size f cdv)) → sp vs H Q E →
      ∃ t, PSs ((cxOf (CX1 P w) P w K mg base N qual (defScope st) f cdv A outer s H E).wish (WD (cxOf (CX1 P w) P w K mg base N qual (defScope st) f cdv A outer s H E) fun _ cls H' => E cls none H')) (defBody st) t ∧ t { nx := fun _ H' => Q .non H', rt := Q } (start N vs) H) : FnOk P w K mg base (CX1 P w) (k + 1) f fd ps sp := by
  obtain ⟨oc, od, kV, doc, pm, an, cdv, ct, osl, rfl, lk, hcd⟩ := F.ex
  refine fn_of lk hcd S len fun A outer s H vs Q E hr hsp => ?_
  obtain ⟨t, h, q⟩ := hbody cdv A outer s H vs Q E hr hsp
  exact ⟨t, h.wishes fun _ _ z => leaveX z, q⟩
end
/-! ### calls of defs that may raise -/
def tCallX (sp : Sp) (dvs : List V) (XS : XSt) (t : TA) : TE := fun σ H Q => t σ H fun vs H1 => sp (vs ++ dvs) H1 Q fun cls _ H' => XS σ cls H'
def tMethX (C : Addr) (m : Str) (sp : Sp) (dvs : List V) (XS : XSt) (ta : TE) (t : TA) : TE := fun σ H Q => ta σ H fun x H1 => ∃ a dx fs, x = .ref a ∧ H1 a = some (.ins C dx fs) ∧ fs.lookup m = none ∧
  t σ H1 fun vs H2 => sp (x :: (vs ++ dvs)) H2 Q fun cls _ H' => XS σ cls H'
section
variable {X : Cx} {W : Value → Shared → Prop} {XS : XSt} {k : Nat} {f C : Addr} {fd : FuncData} {ps : List Str} {sp : Sp} {dvs : List V} {ds : List Value} {x m : Str} {p pos apos : Pos} {e o : Expr} {es : List Expr} {ta : TE} {t : TA}
theorem run_fnX {pins : List (Addr × Obj)} {σ : St} {H : Hp} {s : Shared} {Q : VK} {us : List Value} {vs : List V} (F : FnOk X.prog X.w X.K X.mg X.base (CX1 X.prog X.w) k f fd ps sp) (hr : Room k X.A) (hb : Binds X.K fd ps ds) (hd : Vals dvs ds) (hx : ∀ ev s', WX X XS ev s' → W ev s')
    (I : Inv (X.wish W) pins σ H s) (r : Vals vs us) (h : sp (vs ++ dvs) H Q fun cls _ H' => XS σ cls H') : wpAny (model X.prog X.w) X.A (call (.ref f) us) (EP (X.wish W) pins σ Q) W s := by
  have I0 := I.unwish
  have r2 : Vals (vs ++ dvs) (us ++ ds) := r.append hd
  have hl : (us ++ ds).length = ps.length := by rw [← r2.length]; exact F.len _ _ _ _ h
  refine wpAny_call (codeAny_mono (F.run X.A X.stack s H ⟨us, []⟩ (us ++ ds) (vs ++ dvs) Q _ hr I0.env0 (hb s us I0.kIn hl) r2 h) fun r s' hq => ?_)
  cases r with
  | error e => exact hx _ _ (passX I0 hq)
  | ok fl =>
    cases fl with
    | ret u => exact I.after hq
    | next => exact False.elim hq
    | brk => exact False.elim hq
    | cont => exact False.elim hq
theorem pe_methX {pl : Sem Bool} (ho : PE (X.wish W) o ta) (c : Cls X.K C) (hm : Meth X.K C m f) (F : FnOk X.prog X.w X.K X.mg X.base (CX1 X.prog X.w) k f fd ps sp) (hr : Room k X.A) (hb : Binds X.K fd ps ds) (hd : Vals dvs ds) (hx : ∀ ev s', WX X XS ev s' → W ev s') (ha : PA (X.wish W) (e :: es) t)
    (hst : starEach (e :: es) X.env = (false, eval e X.env) :: starEach es X.env := by rfl) (hpl : (backTo pos (starEach es X.env)).any (·.1) = false := by rfl)
    (ht : eval (.Call (.Attribute o m apos) (e :: es) [] pos) X.env = (do
      let ov ← eval o X.env
      standAt apos.atName
      let (f, first) ← holding [ov] (getMethod ov m pl)
      callWith pos f first (backTo pos (starEach (e :: es) X.env)) (backToKw pos (keywordEach [] X.env))) := by rfl) :
    PE (X.wish W) (.Call (.Attribute o m apos) (e :: es) [] pos) (tMethX C m sp dvs XS ta t) := by
  intro pins s σ H Q I h
  refine PySem.W.methodCall_KW (pl := pl) (thn (ho pins s σ H _ I h) fun u s1 ⟨x, H1, I1, rx, a, dx, fs, ex, ea, l, q⟩ => ?_) ht
  subst ex
  obtain rfl : u = Value.ref a := rx
  refine getmeth_ok I1 ea c hm l ?_
  refine PySem.W.callWith_K (first := [.ref a]) (h₀ := X.base) I.ok.mod.kin hm.kp (thn (ha pos pins s1 σ H1 _ I1 q) fun us s2 ⟨vs, H2, I2, r, q2⟩ => ⟨I2.kIn, ?_⟩) hst hpl
  exact run_fnX (X := X) (us := .ref a :: us) (vs := .ref a :: vs) F hr hb hd hx I2 (.cons rfl r) q2
theorem pe_methX0 {pl : Sem Bool} (ho : PE (X.wish W) o ta) (c : Cls X.K C) (hm : Meth X.K C m f) (F : FnOk X.prog X.w X.K X.mg X.base (CX1 X.prog X.w) k f fd ps sp) (hr : Room k X.A) (hb : Binds X.K fd ps ds) (hd : Vals dvs ds) (hx : ∀ ev s', WX X XS ev s' → W ev s')
    (ht : eval (.Call (.Attribute o m apos) [] [] pos) X.env = (do
      let ov ← eval o X.env
      standAt apos.atName
      let (f, first) ← holding [ov] (getMethod ov m pl)
      callWith pos f first (backTo pos (starEach [] X.env)) (backToKw pos (keywordEach [] X.env))) := by rfl) :
    PE (X.wish W) (.Call (.Attribute o m apos) [] [] pos) (tMethX C m sp dvs XS ta tNil) := by
  intro pins s σ H Q I h
  refine PySem.W.methodCall_KW (pl := pl) (thn (ho pins s σ H _ I h) fun u s1 ⟨x, H1, I1, rx, a, dx, fs, ex, ea, l, q⟩ => ?_) ht
  subst ex
  obtain rfl : u = Value.ref a := rx
  refine getmeth_ok I1 ea c hm l ?_
  exact PySem.W.callWith_K0 (first := [.ref a]) I1.kIn hm.kp (run_fnX (X := X) (us := [.ref a]) (vs := [.ref a]) F hr hb hd hx I1 (.cons rfl .nil) q)
end
/-! ### raise C(e) of an own class without __init__ -/
abbrev veMro : List Value := [.type "ValueError", .type "Exception", .type "BaseException", .type "object"]
/-- an own class of refusals, of ValueError -/
def ExC (K : PySem.W.Frag) (C : Addr) : Prop := PySem.W.excIn K C veMro "ValueError.__new__" = true
theorem ExC.obj {K : PySem.W.Frag} {C : Addr} {h : Heap} (q : ExC K C) (X : K.In h) : ∃ bm N nm qn bs hdct sn sub ab col dd k0 k1 k2 k3 k5 mN, h.get? C = some (excClassObj nm qn C N bs bm hdct sn sub ab col dd k0 k1 k2 k3 k5 "ValueError.__new__") ∧ h.Ns N mN ∧ mN "__init__" = none ∧ OwnTail h veMro bm := by
  have q : PySem.W.excIn K C veMro "ValueError.__new__" = true := q
  unfold PySem.W.excIn at q
  split at q
  · next dd cd sl ho =>
    split at q
    · next C' bm k0 k1 k2 k3 n k5 hm hs =>
      simp only [Bool.and_eq_true, beq_iff_eq, Bool.not_eq_true'] at q
      obtain ⟨⟨⟨⟨⟨rfl, rfl⟩, hdel⟩, ht⟩, hok⟩, hni⟩ := q
      obtain ⟨nm, bs, mro, ns, qn, hd, sn, sub, ab, col, del⟩ := cd
      dsimp only at hm hdel hok hni
      subst hm
      subst hdel
      obtain ⟨l⟩ := sl
      have hl : l = [k0, k1, k2, k3, some (.builtin "ValueError.__new__"), k5] := hs
      subst hl
      refine ⟨bm, ns, nm, qn, bs, hd, sn, sub, ab, col, dd, k0, k1, k2, k3, k5, h.nsMap ns, X _ _ ho, ?_, ?_, PySem.W.tail_of_in X ht⟩
      · exact .of_isNs (PySem.W.isNs_of_in X hok)
      · exact PySem.W.nsMap_none_of_in X hok hni
    · cases q
  · cases q
def tRaise (C : Addr) (XS : XSt) (te : TA) : TS := fun _ σ H => te σ H fun vs H1 => vs.length ≤ sizeLine ∧ XS σ (.ref C) H1
theorem ps_raise {X : Cx} {XS : XSt} {W : Value → Shared → Prop} {C : Addr} {x : Str} {np cpos pos : Pos} {e : Expr} {es : List Expr} {t : TA} (hx : ∀ ev s', WD X XS ev s' → W ev s') (hc : X.calm = true) (q : ExC X.K C) (hg : Gl (X.wish W) x) (hm : X.mg x = some (.ref C)) (ha : PA (X.wish W) (e :: es) t)
    (hdb : (x == ("__debug__" : Str)) = false := by decide) (he : starEach (e :: es) X.env = (false, eval e X.env) :: starEach es X.env := by rfl) (hpl : (backTo cpos (starEach es X.env)).any (·.1) = false := by rfl) :
    PS (X.wish W) (.Raise (some (.Call (.Name x np) (e :: es) [] cpos)) none pos) (tRaise C XS t) := by
  intro pins s σ H D I h
  obtain ⟨bm, N, nm, qn, bs, hdct, sn, sub, ab, col, dd, k0, k1, k2, k3, k5, mN, hC, hN, hni, T⟩ := q.obj I.mod.kin
  refine wpAny_Raise_call_subT (C := C) (nm := nm) (q := qn) (N := N) (bs := bs) (bm := bm) (hdct := hdct) (sn := sn) (sub := sub) (ab := ab) (col := col) (dd := dd) (k0 := k0) (k1 := k1) (k2 := k2) (k3 := k3) (k5 := k5) (mN := mN)
    PySem.F.excBase_ValueError (T.hasType PySem.F.excBase_ValueError.hasBase) (I.ok.hd hc) ?_ hni (ld_glob I hg hm ⟨rfl, ?_⟩ hdb)
  · show (backTo cpos (starEach (e :: es) X.env)).any (·.1) = false
    rw [he]
    show (false || (backTo cpos (starEach es X.env)).any (·.1)) = false
    rw [hpl]
    rfl
  · have h1 := ha cpos pins s σ H _ I h
    show wpAny (model X.prog X.w) X.A (evalArgs (.ref C) true (backTo cpos (starEach (e :: es) X.env)) []) _ W s
    have h1 : wpAny (model X.prog X.w) X.A (spliced (backTo cpos (starEach (e :: es) X.env))) _ W s := h1
    rw [he] at h1 ⊢
    refine Calls.evalArgs_plain (wpAny_mono h1 (fun us s1 ⟨vs, H1, I1, r, hz, q1⟩ => ?_) fun _ _ z => z)
    refine ⟨rfl, by rw [← r.length]; exact hz, I1.bk _ _ hC, hN.keeps I1.bk, T.keeps I1.bk, fun h' a hm' => hx _ _ (.inr ?_)⟩
    exact ⟨pins, σ, H1, s1.heap, a, .ref C, us, rfl, I1.unwish, hm', q1⟩
/-! ### try: .. except C as n: .. -/
/-- pins that every state bears -/
abbrev Cx.pnd (X : Cx) (pn : List (Addr × Obj)) : Cx := { X with pn := pn }
/-- within an except suite, the exception at a -/
abbrev Cx.hand (X : Cx) (a : Addr) : Cx := { X with A := X.A.mark (some (.ref a)), calm := false, xe := fun _ _ => False }
theorem Cx.Ok.pnd {X : Cx} (ok : X.Ok) (pn : List (Addr × Obj)) : (X.pnd pn).Ok :=
  ⟨ok.mod, ok.kind, ok.glob, ok.blt, ok.above, ok.inj, ok.has, ok.cab, ok.hd, ok.frames, ok.stk, ok.exf, ok.bs, ok.bsz, ok.noex, ok.exfs, ok.funs, ok.frf⟩
theorem Cx.Ok.hand {X : Cx} (ok : X.Ok) (a : Addr) : (X.hand a).Ok :=
  ⟨ok.mod, ok.kind, ok.glob, ok.blt, ok.above, ok.inj, ok.has, ok.cab, (fun z => nomatch z), ok.frames, ok.stk, ok.exf, ok.bs, ok.bsz, ok.noex, ok.exfs, ok.funs, ok.frf⟩
section
variable {X : Cx} {pins pins' : List (Addr × Obj)} {σ : St} {H H' : Hp} {s : Shared}
theorem Inv.pnd (I : Inv X pins σ H s) : Inv (X.pnd (X.pn ++ pins)) [] σ H s := ⟨I.ok.pnd _, I.os, I.bare, I.base, I.loc, I.cell, I.free, I.freeC, fun p hp => I.pin p (by simpa using hp), I.hok, I.len⟩
theorem Inv.unpnd (I : Inv (X.pnd (X.pn ++ pins)) pins' σ H s) (ok : X.Ok) : Inv X pins σ H s := ⟨ok, I.os, I.bare, I.base, I.loc, I.cell, I.free, I.freeC, fun p hp => I.pin p (List.mem_append_left _ hp), I.hok, I.len⟩
theorem SP.unpnd {D : Ends} {f : Flow} {s' : Shared} (ok : X.Ok) (h : SP (X.pnd (X.pn ++ pins)) [] D f s') : SP X pins D f s' := by
  cases f with
  | next => obtain ⟨σ', H', I, q⟩ := h; exact ⟨σ', H', I.unpnd ok, q⟩
  | brk => obtain ⟨σ', H', I, q⟩ := h; exact ⟨σ', H', I.unpnd ok, q⟩
  | cont => obtain ⟨σ', H', I, q⟩ := h; exact ⟨σ', H', I.unpnd ok, q⟩
  | ret u => obtain ⟨v, σ', H', I, r, q⟩ := h; exact ⟨v, σ', H', I.unpnd ok, r, q⟩
theorem Inv.hand (I : Inv X pins σ H s) (a : Addr) : Inv (X.hand a) pins σ H s := ⟨I.ok.hand a, I.os, I.bare, I.base, I.loc, I.cell, I.free, I.freeC, I.pin, I.hok, I.len⟩
theorem Inv.unhand {a : Addr} (I : Inv (X.hand a) pins σ H s) (ok : X.Ok) : Inv X pins σ H s := ⟨ok, I.os, I.bare, I.base, I.loc, I.cell, I.free, I.freeC, I.pin, I.hok, I.len⟩
/-- the heap as the exception has left it -/
theorem Inv.flown {G h' B : Heap} (I : Inv X pins σ H { s with heap := G }) (cov : ∀ b o, G.get? b = some o → b ∉ frs X.stack → B.get? b = some o) (st : B.StaysIn h') (up : G.UpToSlots h') : Inv X pins σ H { s with heap := h' } := by
  have keep : ∀ b o, G.get? b = some o → b ∉ frs X.stack → h'.get? b = some o := fun b o e hb => st b o (cov b o e hb)
  have slot : ∀ b o, G.get? b = some o → b ∈ frs X.stack → ∃ sl, h'.get? b = some { o with slots := sl } := fun b o e hb => by
    obtain ⟨_, o', e', hd⟩ := I.stack.mem hb
    have : o' = o := Option.some.inj (e'.symm.trans e)
    subst this
    exact up b o' e hd
  refine I.call' (s' := { s with heap := h' }) (ch := []) rfl ⟨fun b o e _ hb _ => keep b o e hb, fun b o e _ hb _ => slot b o e hb, fun _ _ _ n _ => n, fun b o e _ => ?_, fun _ _ q => q, fun _ _ _ q => q, fun _ ps q => ⟨#[], by rw [q]; simp⟩⟩ (fun b u e => ?_) I.bare fun b z => absurd z (by simp)
  · by_cases hb : b ∈ frs X.stack
    · obtain ⟨sl, z⟩ := slot b o e hb
      exact ⟨_, z⟩
    · exact ⟨o, keep b o e hb⟩
  · refine (I.hok b u e).stay (fun c v hc q => keep c v q fun hm => ?_) (fun _ q => q) fun _ _ q => q
    have hf := I.stkFree c hm
    rcases hc with rfl | hc
    · rw [hf] at e; cases e
    · rw [hf] at hc; cases hc
theorem ObjOk.is {P : Program} {w : World} {h : Heap} {a : Addr} {o : HO} (x : ObjOk P w H h a o) : ∃ ob, h.get? a = some ob := by
  cases o with
  | lst xs => obtain ⟨_, _, _, _, e⟩ := x; exact ⟨_, e⟩
  | tup xs => obtain ⟨_, _, _, p⟩ := x; obtain ⟨ob, e, _⟩ := p; exact ⟨ob, e⟩
  | dK kvs => obtain ⟨_, _, _, _, o, _, _, e, _⟩ := x; exact ⟨_, e⟩
  | dT kvs => obtain ⟨_, _, _, _, o, _, _, e, _⟩ := x; exact ⟨_, e⟩
  | set S n => obtain ⟨o, _, _, _, e, _⟩ := x; exact ⟨_, e⟩
  | ins C dx fs => obtain ⟨_, _, _, e, _⟩ := x; exact ⟨_, e⟩
  | own y => exact x
  | xd fs => obtain ⟨_, ⟨_, _, _, e, _⟩, _⟩ := x; exact ⟨_, e⟩
  | rng lo hi => obtain ⟨_, _, _, e⟩ := x; exact ⟨_, e⟩
  | frz ob u => obtain ⟨e, _⟩ := x; exact ⟨_, e⟩
  | tbl ps => exact ⟨_, show h.get? a = some _ from x⟩
  | met f y => exact ⟨_, show h.get? a = some _ from x⟩
  | ext φ => obtain ⟨_, e, _⟩ := x; exact e
theorem Inv.untracked {G : Heap} {a : Addr} (I0 : Inv X pins σ H { s with heap := G }) (hn : G.get? a = none) : H a = none := by
  cases q : H a with
  | none => rfl
  | some u =>
    obtain ⟨ob, e⟩ := (I0.hok a u q).is
    have e : G.get? a = some ob := e
    rw [hn] at e; cases e
/-- a thing that was not tracked is tracked from now on -/
theorem Inv.track {G : Heap} {a : Addr} {o : HO} (I0 : Inv X pins σ H { s with heap := G }) (hn : G.get? a = none) (I : Inv X pins σ H s) (new : ObjOk X.prog X.w (upd H a o) s.heap a o) : Inv X pins σ (upd H a o) s := by
  have hH := I0.untracked hn
  have ne : ∀ {b ob}, G.get? b = some ob → b ≠ a := fun e z => by rw [z, hn] at e; cases e
  have neS : ∀ {b ob}, X.s₀.heap.get? b = some ob → b ∉ X.ex → b ≠ a := fun {b ob} e hx => by
    obtain ⟨o', z⟩ := I0.base.there b ob e hx
    exact ne z
  refine ⟨I.ok, I.os, I.bare, ⟨I.base.keep, I.base.slot, fun b ob e n hx => ?_, I.base.there, fun b xs q => ?_, fun b ob u q => ?_, fun b ps q => ?_⟩, I.loc, I.cell, ?_, fun x c e => ?_, fun p hp => ?_, fun b u e => ?_, I.len⟩
  · rw [upd_ne (neS e hx)]; exact I.base.free b ob e n hx
  · have := I.base.tups b xs q
    rw [upd_ne (ne_of_none this hH)]; exact this
  · have := I.base.frzs b ob u q
    rw [upd_ne (ne_of_none this hH)]; exact this
  · obtain ⟨m, this⟩ := I.base.tbls b ps q
    exact ⟨m, by rw [upd_ne (ne_of_none this hH)]; exact this⟩
  · obtain ⟨m, ⟨ob, _, _, e, _⟩, _⟩ := I0.loc
    rw [upd_ne (ne e)]; exact I.free
  · obtain ⟨v, ob, z, _⟩ := I0.cell x c e
    rw [upd_ne (ne z)]; exact I.freeC x c e
  · obtain ⟨e, n, r⟩ := I.pin p hp
    refine ⟨e, ?_, r⟩
    rw [upd_ne (ne (I0.pin p hp).1)]; exact n
  · by_cases hb : b = a
    · subst hb; rw [upd_same] at e; cases e; exact new
    · rw [upd_ne hb] at e
      refine (I.hok b u e).stay (fun _ _ _ q => q) (fun c q => ?_) fun c xs q => ?_
      · rw [upd_ne (ne_of_none q hH)]; exact q
      · rw [upd_ne (ne_of_none q hH)]; exact q
/-- a name goes -/
theorem unbind_ok {M : Model} {A : Around} {E : Value → Shared → Prop} {i : Nat} {n : Str} {pos : Pos} {Q : Unit → Shared → Prop} (I : Inv X pins σ H s) (hN : X.N.Nodup) (hi : X.N[i]? = some n) (hl : X.env.kindOf n = some .local)
    (h : ∀ s', Inv X pins (σ.set i none) H s' → Q () s') : wpAny M A (do bindName X.env n .none; unbindBehindTheSuite X.env n pos) Q E s := by
  obtain ⟨m, hn, hm⟩ := id I.loc
  have hiσ : i < σ.length := by rw [I.len]; exact (List.getElem?_eq_some_iff.mp hi).1
  refine wpAny_nameGoes_keeps hl hn (by rw [I.ok.kind]; rfl) fun h' v hn' hs => h _ ?_
  obtain ⟨oL, _, _, hoL, _⟩ := id hn
  have old : ∀ {b o}, X.s₀.heap.get? b = some o → b ≠ X.env.locals := fun e => Nat.ne_of_lt (Nat.lt_of_lt_of_le (Heap.lt_size e) I.ok.above)
  refine ⟨I.ok, I.os, I.bare, ⟨fun b o e n hb hx => (hs.2 b (old e)).trans (I.base.keep b o e n hb hx), fun b o e n hb hx => ?_, I.base.free, fun b o e hx => ?_, I.base.tups, I.base.frzs, I.base.tbls⟩, ⟨_, hn', fun j y v' e1 e2 e3 => ?_⟩, fun y c e => ?_, I.free, I.freeC, fun p hp => ?_, fun b ob e => ?_, by simpa using I.len⟩
  · obtain ⟨sl, z⟩ := I.base.slot b o e n hb hx
    exact ⟨sl, (hs.2 b (old e)).trans z⟩
  · obtain ⟨o', z⟩ := I.base.there b o e hx
    exact ⟨o', (hs.2 b (old e)).trans z⟩
  · by_cases hj : j = i
    · subst hj
      rw [List.getElem?_set_self hiσ] at e2
      cases e2
    · rw [List.getElem?_set_ne (Ne.symm hj)] at e2
      obtain ⟨u', r', q⟩ := hm j y v' e1 e2 e3
      refine ⟨u', r', ?_⟩
      rcases q with ⟨k, z⟩ | ⟨k, c, z1, z2⟩
      · have : y ≠ n := fun z => hj (nodup_ix hN e1 (z ▸ hi))
        exact .inl ⟨k, by simp [this, z]⟩
      · exact .inr ⟨k, c, z1, z2.sameBut hs (I.cne y c z1)⟩
  · obtain ⟨w', z⟩ := I.cell y c e
    exact ⟨w', z.sameBut hs (I.cne y c e)⟩
  · obtain ⟨e, n, ne, nf, d⟩ := I.pin p hp
    exact ⟨(hs.2 p.1 ne).trans e, n, ne, nf, d⟩
  · refine (I.hok b ob e).stay (fun c w' hc q => (hs.2 c ?_).trans q) (fun _ q => q) fun _ _ q => q
    rintro rfl
    rcases hc with rfl | hc
    · rw [I.free] at e; cases e
    · rw [I.free] at hc; cases hc
end
/-- an exception as a thing in the heap -/
def excO (a : Addr) (cls : Value) : HO := .ext fun h => ∃ o, h.get? a = some o ∧ o.cls = cls ∧ ∃ vs, o.data = .fields vs
theorem excO_ok {P : Program} {w : World} {H : Hp} {h : Heap} {a : Addr} {cls : Value} {o : Obj} {vs : Array Value} (e : h.get? a = some o) (hc : o.cls = cls) (hd : o.data = .fields vs) : ObjOk P w H h a (excO a cls) :=
  ⟨⟨o, e, hc, vs, hd⟩, ⟨o, e⟩, fun h1 h2 ⟨o1, e1, c1, d1⟩ k => ⟨o1, k o1 e1, c1, d1⟩⟩
/-- what is wanted behind the suite, the name gone -/
def Ends.gone (D : Ends) (i : Nat) : Ends := { nx := fun σ H => D.nx (σ.set i none) H, rt := D.rt, bk := fun σ H => D.bk (σ.set i none) H, ct := fun σ H => D.ct (σ.set i none) H }
def tTryAs (K : PySem.W.Frag) (CT : Addr) (i : Nat) (tb : XSt → TS) (ts : TS) : TS := fun D σ H =>
  tb (fun σ' cls H' => PySem.W.exmOne K cls (.ref CT) = some true ∧ ∀ a, H' a = none → ts (D.gone i) (σ'.set i (some (.ref a))) (upd H' a (excO a cls))) D σ H
theorem ps_tryAs {X : Cx} {CT : Addr} {i : Nat} {x n : Str} {body : List Stmt} {b₀ : Stmt} {suite : List Stmt} {np hpos pos : Pos} {tb : XSt → TS} {ts : TS}
    (hb : ∀ pn XS, PSs ((X.pnd pn).wish (WX (X.pnd pn) XS)) body (tb XS)) (hs : ∀ pn a, PSs ((X.pnd pn).hand a) (b₀ :: suite) ts) (hN : X.N.Nodup) (hi : X.N[i]? = some n) (hl : X.env.scope.names.lookup n = some .local) (hst : X.stack = X.env :: X.outer) (hfr : X.env.frame = some X.env.locals)
    (hg : Gl X x) (hm : X.mg x = some (.ref CT)) (hd : (x == ("__debug__" : Str)) = false := by decide) :
    PS X (.Try body [.ExceptHandler (some (.Name x np)) (some n) (b₀ :: suite) hpos] [] [] pos) (tTryAs X.K CT i tb ts) := by
  intro pins s σ H D I h
  refine wpAny_Try_except (wpAny_mono (hb (X.pn ++ pins) _ [] s σ H D (I.pnd.wish _) h) (fun f s1 q => ?_) fun ev s1 z => ?_)
  · have q' : SP X pins D f s1 := q.unwish.unpnd I.ok
    cases f with
    | next => exact wpAny_execs_nil q'
    | brk => exact q'
    | cont => exact q'
    | ret u => exact q'
  · obtain ⟨pins', σ', H', G, a, cls, rfl, I', ⟨B, a0, cov, fl, up, hn⟩, hx, q⟩ := z
    have I1 : Inv X pins σ' H' { s1 with heap := G } := I'.unpnd I.ok
    have hH := I1.untracked hn
    have q := q a hH
    have hF : X.A.frames = some (X.env :: X.outer) := by rw [← hst]; exact I.ok.frames
    have fl : Heap.FlyingW B (X.env :: X.outer) a cls a0 s1.heap := by rw [← hst]; exact fl
    refine wpAny_looks_onW hF hfr fl fun h4 held4 up4 => ?_
    refine wpAny_landsW held4 fun h5 fl5 up5 => ?_
    have U5 := (up.trans up4).trans up5
    have I5 : Inv X pins σ' H' { s1 with heap := h5 } := I1.flown cov fl5.1 U5
    have I5h := I5.hand a
    refine wpAny_handleBy_cons (codeAny_handlers_test (ld_glob I5h hg hm ?_ hd)) (by intro q; cases q)
    obtain ⟨ob, hob, hobc⟩ := fl5.there
    refine (PySem.W.exm_one (M := model X.prog X.w) I5.kIn (hobc ▸ (PySem.W.Looks.ld hob).andThen .now) hx).here ?_
    refine codeAny_handlers_suite_as ?_
    refine lands_againW fl5 fun h6 fl6 up6 => ?_
    have U6 := U5.trans up6
    have I6 : Inv X pins σ' H' { s1 with heap := h6 } := I1.flown cov fl6.1 U6
    obtain ⟨oe, vs, hoe, hoec, hoed, _⟩ := fl6.first
    have I7 := Inv.track (s := { s1 with heap := h6 }) I1 hn I6 (excO_ok hoe hoec hoed)
    refine store_ok I7 hN hi (.inl hl) (show RelV (.ref a) (.ref a) from rfl) (fun s8 I8 => ?_) (.inr hl)
    refine wpAny_mono ((hs (X.pn ++ pins) a) [] s8 _ _ _ (I8.pnd.hand a) q) (fun f s9 z => ?_) fun _ _ z => z.elim
    have gone : ∀ {σ9 : St} {H9 : Hp} {R : Prop}, Inv ((X.pnd (X.pn ++ pins)).hand a) [] σ9 H9 s9 → (∀ s', Inv X pins (σ9.set i none) H9 s' → SP X pins D f s') → wpAny (model X.prog X.w) X.A (do bindName X.env n .none; unbindBehindTheSuite X.env n hpos) (fun _ s' => SP X pins D f s') X.xe s9 := fun {σ9 H9 _} J k =>
      unbind_ok (X := X) ((J.unhand (I.ok.pnd _)).unpnd I.ok) hN hi hl fun s' J' => k s' J'
    cases f with
    | next => obtain ⟨σ9, H9, J, w⟩ := z; exact gone (R := True) J fun s' J' => ⟨_, H9, J', w⟩
    | brk => obtain ⟨σ9, H9, J, w⟩ := z; exact gone (R := True) J fun s' J' => ⟨_, H9, J', w⟩
    | cont => obtain ⟨σ9, H9, J, w⟩ := z; exact gone (R := True) J fun s' J' => ⟨_, H9, J', w⟩
    | ret u => obtain ⟨v, σ9, H9, J, r, w⟩ := z; exact gone (R := True) J fun s' J' => ⟨v, _, H9, J', r, w⟩
end L2

set_option maxHeartbeats 4000000
namespace L2
open PySem PySem.Spec PyProof.Rows
/-! ### isinstance(e, ..) of a caught exception -/
structure ExA (K : PySem.W.Frag) (C : Addr) : Prop where
  exc : ExC K C
  ga : PySem.W.findIn K (.ref C) "__getattribute__" = some (some (.builtin "BaseException.__getattribute__"))
  noga : PySem.W.findIn K (.ref C) "__getattr__" = some none
  cl : PySem.W.findIn K (.ref C) "__class__" = some (some (.builtin "object.__class__"))
section
variable {prog : Program} {w : World} {A : Around} {E : Value → Shared → Prop} {h : Heap} {g : Array GenState} {d : Drawn} {t : Nat} {os : OsState} {a : Addr} {o : Obj} {vs : Array Value} {K : PySem.W.Frag}
  {nm q : Str} {C N : Addr} {bs bm : List Value} {hdct : Bool} {sn : List Str} {sub : List Value} {ab : Bool} {col : Option Bool} {dd : Option Addr} {k0 k1 k2 k3 k5 : Option Value} {newId : String}
theorem exc_clsGet {R : Result → Shared → Prop} (hC : h.get? C = some (excClassObj nm q C N bs bm hdct sn sub ab col dd k0 k1 k2 k3 k5 newId)) (T : OwnTail h veMro bm) (hx : h.get? a = some o) (hc : o.cls = .ref C) (hq : R (.ok (.ret (.ref C))) ⟨h, g, d, t, os⟩) :
    codeAny (model prog w) A (.call (.builtin "getset_descriptor.__get__") ⟨[.builtin "object.__class__", .ref a, .ref C], []⟩) R ⟨h, g, d, t, os⟩ := by
  have hG : (⟨h, g, d, t, os⟩ : Shared).TypeIs (.builtin "object.__class__") "getset_descriptor" := F.typeOf_object_class
  have own : (Value.ref C :: bm).contains (.type (".".intercalate ("object.__class__".cutAt '.').dropLast)) = true := by
    rw [F.owner_object_class, List.contains_cons, T.hasType (show veMro.contains (.type "object") = true from rfl)]; rfl
  refine codeAny_call_builtin F.slot_gs_get.plain F.entry_gs_get (F.slot_gs_get.check _ _ _ _ _ _ _ _ hG (F.args_gs_get _ _ _) ?_)
  repeat (any_goals (first | assumption | (with_reducible refine wpAny_loadPart_at hx ?_; rw [hc]) | (with_reducible refine wpAny_isSubtype_exc hC ?_; rw [own]) | wp_step))
  refine ⟨Code.quiet_builtin _ (by decide +kernel), codeAny_builtin F.entry_object_class ?_⟩
  repeat (any_goals (first | assumption | (with_reducible refine wpAny_loadPart_at hx ?_; rw [hc]) | wp_step))
theorem exc_clsEntry {tk : Tok} {Q : Fin → Shared → Prop} (X : K.In h) (F0 : ExA K C) (hC : h.get? C = some (excClassObj nm q C N bs bm hdct sn sub ab col dd k0 k1 k2 k3 k5 newId)) (T : OwnTail h veMro bm) (hx : h.get? a = some o) (hc : o.cls = .ref C) (hq : Q (.done (.ret (.ref C))) ⟨h, g, d, t, os⟩) :
    wpAny (model prog w) A (Builtin.«object.__getattribute__» ⟨[.ref a, .str "__class__" tk], []⟩) Q E ⟨h, g, d, t, os⟩ := by
  have hG : (⟨h, g, d, t, os⟩ : Shared).TypeIs (.builtin "object.__class__") "getset_descriptor" := F.typeOf_object_class
  have g1 := F.typeOf_object_class
  have g2 := F.slot_gs_get.lookup
  have g3 := F.slot_gs_set.lookup
  have lk : PySem.W.Looks (model prog w) h (typeLookup (.ref C) "__class__") (some (.builtin "object.__class__")) := PySem.W.looks_findIn X F0.cl
  repeat (any_goals (first | assumption | (with_reducible refine wpAny_loadPart_at hx ?_; rw [hc]) | with_reducible refine lk.at ?_ | wp_step))
  refine exc_clsGet hC T hx hc ?_
  repeat (any_goals (first | assumption | wp_step))
theorem exc_gaCheck {M : Model} {nameV : Value} {Q : Unit → Shared → Prop} (hC : h.get? C = some (excClassObj nm q C N bs bm hdct sn sub ab col dd k0 k1 k2 k3 k5 newId)) (T : OwnTail h veMro bm)
    (hx : h.get? a = some o) (hc : o.cls = .ref C) (hq : Q () ⟨h, g, d, t, os⟩) : wpAny M A (checkBuiltinCall "BaseException.__getattribute__" ⟨[.ref a, nameV], []⟩) Q E ⟨h, g, d, t, os⟩ := by
  have kd : builtinKind "BaseException.__getattribute__" = some .slot := by decide +kernel
  have sp : splitId "BaseException.__getattribute__" = some ("BaseException", "__getattribute__") := by decide +kernel
  have own : (Value.ref C :: bm).contains (.type "BaseException") = true := by rw [List.contains_cons, T.hasType (show veMro.contains (.type "BaseException") = true from rfl)]; rfl
  have ar := F.args_bexc_ga (.ref a) nameV
  simp only [checkBuiltinCall, kd, sp]
  refine wpAny_bind ?_
  unfold isInstance
  repeat (first | (with_reducible refine wpAny_loadPart_at hx ?_; rw [hc]) | (with_reducible refine wpAny_isSubtype_exc hC ?_; rw [own]) | wp_step)
  exact hq
theorem exc_clsBy {tk : Tok} {Q : Value → Shared → Prop} (X : K.In h) (F0 : ExA K C) (hC : h.get? C = some (excClassObj nm q C N bs bm hdct sn sub ab col dd k0 k1 k2 k3 k5 newId)) (T : OwnTail h veMro bm) (hx : h.get? a = some o) (hc : o.cls = .ref C) (hq : Q (.ref C) ⟨h, g, d, t, os⟩) :
    wpAny (model prog w) A (getAttrBy (.ref a) (.str "__class__" tk) false) Q E ⟨h, g, d, t, os⟩ := by
  have f3 := PySem.F.attrBase_ValueError.ga.bind (.ref a)
  have n2 : (Value.builtin "BaseException.__getattribute__" == Value.builtin "object.__getattribute__") = false := by decide +kernel
  have n1 : (onTheHeap (Value.ref C) && Value.builtin "BaseException.__getattribute__" == Value.builtin "object.__getattribute__") = false := by rw [n2]; rfl
  have l1 : PySem.W.Looks (model prog w) h (typeLookup (.ref C) "__getattribute__") (some (.builtin "BaseException.__getattribute__")) := PySem.W.looks_findIn X F0.ga
  have l2 : PySem.W.Looks (model prog w) h (typeLookup (.ref C) "__getattr__") none := PySem.W.looks_findIn X F0.noga
  repeat (any_goals (first | assumption | (with_reducible refine wpAny_loadPart_at hx ?_; rw [hc]) | with_reducible refine l1.at ?_ | with_reducible refine l2.at ?_ | wp_step))
  refine codeAny_call_builtin PySem.F.attrBase_ValueError.ga.plain F.entry_bexc_ga (exc_gaCheck hC T hx hc (exc_clsEntry X F0 hC T hx hc ?_))
  repeat (any_goals (first | assumption | wp_step))
theorem exc_cls {Q : Option Value → Shared → Prop} (X : K.In h) (F0 : ExA K C) (hx : h.get? a = some o) (hc : o.cls = .ref C) (hq : Q (some (.ref C)) ⟨h, g, d, t + 1, os⟩) : wpAny (model prog w) A (getAttr? (.ref a) "__class__") Q E ⟨h, g, d, t, os⟩ := by
  obtain ⟨bm, N, nm, qn, bs, hdct, sn, sub, ab, col, dd, k0, k1, k2, k3, k5, mN, hC, hN, hni, T⟩ := F0.exc.obj X
  unfold getAttr? getAttrBy?
  repeat (any_goals (first | assumption | with_reducible apply exc_clsBy X F0 hC T hx hc | wp_step))
end
/-- a caught exception, for isinstance -/
theorem kitx_exc {K : PySem.W.Frag} {a C : Addr} (F0 : ExA K C) : PySem.W.KitX K (.ref a) (.ref C) (fun h => ∃ o, h.get? a = some o ∧ o.cls = .ref C) where
  ty := fun M h _ ⟨o, e, c⟩ => c ▸ (PySem.W.Looks.ld e).andThen .now
  it := fun M h X _ => by
    obtain ⟨bm, N, nm, qn, bs, hdct, sn, sub, ab, col, dd, k0, k1, k2, k3, k5, mN, hC, _⟩ := F0.exc.obj X
    intro A' Q' E' s' k q
    unfold isType loadHead
    exact wpAny_bind (wpAny_loadPart (k _ _ hC) (wpAny_pure q))
  ne := fun h tp dd its n sl X htp => by
    obtain ⟨bm, N, nm, qn, bs, hdct, sn, sub, ab, col, dd, k0, k1, k2, k3, k5, mN, hC, _⟩ := F0.exc.obj X
    refine Bool.eq_false_iff.mpr fun q => ?_
    have e : C = tp := Value.ref.inj (beq_iff_eq.mp q)
    subst e
    rw [hC] at htp
    have z := congrArg Obj.cls (Option.some.inj htp)
    exact absurd (Value.type.inj z) (by decide)
  ca := fun {prog w A E Q s} X ⟨o, e, c⟩ k => by
    obtain ⟨h, g, d, t, os⟩ := s
    exact exc_cls X F0 e c k
section
variable {X : Cx}
/-- isinstance: the old reading, or a caught exception against a built-in class, an own class, a tuple of own classes -/
def rIsX (K : PySem.W.Frag) : List V → Hp → VK → Prop := fun xs H Q =>
  (∃ x T t b, xs = [x, .ty T] ∧ TyOf K H x t ∧ PySem.W.kitOne K t (.type T) = some b ∧ Q (.bl b) H) ∨
  (∃ a C T b, xs = [.ref a, .ty T] ∧ H a = some (excO a (.ref C)) ∧ ExA K C ∧ PySem.W.kitOne K (.ref C) (.type T) = some b ∧ Q (.bl b) H) ∨
  (∃ a C C' b, xs = [.ref a, .ref C'] ∧ H a = some (excO a (.ref C)) ∧ ExA K C ∧ PySem.W.kitOne K (.ref C) (.ref C') = some b ∧ Q (.bl b) H) ∨
  (∃ (a C p : Addr) (cs : List Addr) (b : Bool), xs = [.ref a, .ref p] ∧ H a = some (excO a (.ref C)) ∧ ExA K C ∧ H p = some (.tup (cs.map V.ref)) ∧ PySem.W.kitAny K (.ref C) (cs.map Value.ref) = some b ∧ Q (.bl b) H)
theorem valsRef : ∀ {cs : List Addr} {us : List Value}, Vals (cs.map V.ref) us → us = cs.map Value.ref
  | [], _, .nil => rfl
  | c :: t, _, .cons r s => by
    have : _ = Value.ref c := r
    rw [this, valsRef s]
    rfl
theorem call_isX0 : CallR X (.builtin "isinstance") (rIsX X.K) := by
  intro pins s σ H xs us Q I r h
  rcases h with h | h | h | h
  · exact call_isT pins s σ H xs us Q I r h
  · obtain ⟨a, C, T, b, rfl, hH, F0, e, q⟩ := h
    cases r with
    | cons r1 r2 => cases r2 with
      | cons r2 r3 =>
        cases r3
        cases (show _ = Value.ref a from r1)
        cases (show _ = Value.type T from r2)
        obtain ⟨⟨o, e1, e2, _⟩, _⟩ := I.hok a _ hH
        exact PySem.W.kia_one (kitx_exc F0) I.kIn ⟨o, e1, e2⟩ e (fun z => nomatch z) fun tk => ⟨.bl b, H, I.tok _, rfl, q⟩
  · obtain ⟨a, C, C', b, rfl, hH, F0, e, q⟩ := h
    cases r with
    | cons r1 r2 => cases r2 with
      | cons r2 r3 =>
        cases r3
        cases (show _ = Value.ref a from r1)
        cases (show _ = Value.ref C' from r2)
        obtain ⟨⟨o, e1, e2, _⟩, _⟩ := I.hok a _ hH
        exact PySem.W.kia_one (kitx_exc F0) I.kIn ⟨o, e1, e2⟩ e (fun z => nomatch z) fun tk => ⟨.bl b, H, I.tok _, rfl, q⟩
  · obtain ⟨a, C, p, cs, b, rfl, hH, F0, hp, e, q⟩ := h
    cases r with
    | cons r1 r2 => cases r2 with
      | cons r2 r3 =>
        cases r3
        cases (show _ = Value.ref a from r1)
        cases (show _ = Value.ref p from r2)
        obtain ⟨⟨o, e1, e2, _⟩, _⟩ := I.hok a _ hH
        obtain ⟨_, its, rv, ob, h1, h2, n, h3⟩ := I.hok p _ hp
        have := valsRef rv
        subst this
        obtain ⟨oc, od, odt, osl⟩ := ob
        dsimp only at h2 h3
        subst h2 h3
        exact PySem.W.kia_tup (kitx_exc F0) I.kIn ⟨o, e1, e2⟩ h1 e (fun z => nomatch z) fun tk => ⟨.bl b, H, I.tok _, rfl, q⟩
/-- the reading names the fragment itself -/
theorem call_isX {K : PySem.W.Frag} (h : X.K = K) : CallR X (.builtin "isinstance") (rIsX K) := h ▸ call_isX0
/-- a def that may raise, called where it does not -/
theorem pass1 : Passes (CX1 X.prog X.w) X E0 := fun _ _ _ _ _ _ _ ⟨_, _, _, _, _, _, _, _, _, _, z⟩ => z.elim
theorem bt_ValueError : bootBuiltins "ValueError" = some (.type "ValueError") := PyProof.Rows.Boot.«ValueError»
end
end L2

set_option maxHeartbeats 1000000
namespace Mine
open PySem L2
/-! ### the nine kinds -/
inductive Kd where
  | G | D | R | s | d | r | dot | three | two
  deriving DecidableEq, Repr
def Kd.str : Kd → Str
  | .G => "G" | .D => "D" | .R => "R" | .s => "s" | .d => "d" | .r => "r" | .dot => "." | .three => "3" | .two => "2"
def Kd.cp : Kd → Nat
  | .G => 71 | .D => 68 | .R => 82 | .s => 115 | .d => 100 | .r => 114 | .dot => 46 | .three => 51 | .two => 50
def Kd.great : Kd → Bool
  | .G => true | .D => true | .R => true | _ => false
def Kd.small : Kd → Bool
  | .s => true | .d => true | .r => true | _ => false
def Kd.parting : Kd → Bool
  | .dot => true | .three => true | .two => true | _ => false
def Kd.meas : Kd → Bool
  | .three => true | .two => true | _ => false
def Kd.sounds : Kd → Bool
  | .G => true | .D => true | .s => true | .d => true | _ => false
/-- a kind that may be lacking -/
def okstr : Option Kd → Str
  | some k => k.str
  | none => ""
abbrev Sg := Kd × Int
def inS (x y : Str) : Bool := !(Builtin.Str.occurrences y x 0 y.length 1).isEmpty
theorem kd_cp (k : Kd) : k.str = ⟨#[k.cp]⟩ := by cases k <;> decide +kernel
theorem str_inj {a b : Kd} : a.str = b.str ↔ a = b := by
  constructor
  · revert a b
    have : ∀ a b : Kd, a.str = b.str → a = b := by
      intro a b
      cases a <;> cases b <;> first | (intro _; rfl) | (intro h; exact absurd h (by decide +kernel))
    exact fun {a b} => this a b
  · exact fun h => by rw [h]
theorem ostr_inj {a b : Option Kd} : okstr a = okstr b ↔ a = b := by
  constructor
  · have : ∀ a b : Option Kd, okstr a = okstr b → a = b := by
      intro a b
      cases a with
      | none => cases b with
        | none => intro _; rfl
        | some b => cases b <;> (intro h; exact absurd h (by decide +kernel))
      | some a => cases b with
        | none => cases a <;> (intro h; exact absurd h (by decide +kernel))
        | some b => intro h; exact congrArg some (str_inj.mp h)
    exact fun h => this a b h
  · exact fun h => by rw [h]
theorem decV (a b : Str) : decide (V.str a = V.str b) = decide (a = b) := by
  by_cases h : a = b
  · rw [h]; simp
  · rw [decide_eq_false h]; exact decide_eq_false fun e => h (V.str.inj e)
theorem decK (a b : Kd) : decide (V.str a.str = V.str b.str) = decide (a = b) := by
  rw [decV]; exact decide_eq_decide.mpr str_inj
theorem decO (a b : Option Kd) : decide (V.str (okstr a) = V.str (okstr b)) = decide (a = b) := by
  rw [decV]; exact decide_eq_decide.mpr ostr_inj
theorem o_G (o : Option Kd) : decide (V.str (okstr o) = V.str "G") = decide (o = some .G) := decO o (some .G)
theorem k_G (k : Kd) : decide (V.str k.str = V.str "G") = decide (k = .G) := decK k .G
theorem k_D (k : Kd) : decide (V.str k.str = V.str "D") = decide (k = .D) := decK k .D
theorem o_s (o : Option Kd) : decide (V.str (okstr o) = V.str "s") = decide (o = some .s) := decO o (some .s)
theorem k_s (k : Kd) : decide (V.str k.str = V.str "s") = decide (k = .s) := decK k .s
theorem o_dot (o : Option Kd) : decide (V.str (okstr o) = V.str ".") = decide (o = some .dot) := decO o (some .dot)
theorem k_dot (k : Kd) : decide (V.str k.str = V.str ".") = decide (k = .dot) := decK k .dot
theorem k_three (k : Kd) : decide (V.str k.str = V.str "3") = decide (k = .three) := decK k .three
theorem k_two (k : Kd) : decide (V.str k.str = V.str "2") = decide (k = .two) := decK k .two
/-! ### signs and lines in the heap -/
def SgAt (H : Hp) (v : V) (s : Sg) : Prop := ∃ p, v = .ref p ∧ H p = some (.tup [.str s.1.str, .int s.2])
theorem SgAt.same {H H' : Hp} {v : V} {s : Sg} (e : Same H H') (h : SgAt H v s) : SgAt H' v s := by
  obtain ⟨p, rfl, q⟩ := h
  exact ⟨p, rfl, e _ _ q⟩
abbrev Sgs (H : Hp) : List V → List Sg → Prop := Paired (SgAt H)
theorem Sgs.same {H H' : Hp} (e : Same H H') : ∀ {xs : List V} {ss : List Sg}, Sgs H xs ss → Sgs H' xs ss
  | _, _, .nil => .nil
  | _, _, .cons a b => .cons (a.same e) (Sgs.same e b)
theorem pget {α β : Type} {F : α → β → Prop} : ∀ {xs : List α} {ys : List β} {i : Nat} {x : α}, Paired F xs ys → xs[i]? = some x → ∃ y, ys[i]? = some y ∧ F x y
  | _, _, _, _, .nil, e => by simp at e
  | _, _, 0, _, .cons r _, e => by simp at e; subst e; exact ⟨_, rfl, r⟩
  | _, _, i + 1, x, .cons _ t, e => by
    obtain ⟨u, h1, h2⟩ := pget (i := i) (x := x) t (by simpa using e)
    exact ⟨u, by simpa using h1, h2⟩
theorem pgetR {α β : Type} {F : α → β → Prop} : ∀ {xs : List α} {ys : List β} {i : Nat} {y : β}, Paired F xs ys → ys[i]? = some y → ∃ x, xs[i]? = some x ∧ F x y
  | _, _, _, _, .nil, e => by simp at e
  | _, _, 0, _, .cons r _, e => by simp at e; subst e; exact ⟨_, rfl, r⟩
  | _, _, i + 1, x, .cons _ t, e => by
    obtain ⟨u, h1, h2⟩ := pgetR (i := i) t (by simpa using e)
    exact ⟨u, by simpa using h1, h2⟩
theorem plen {α β : Type} {F : α → β → Prop} {xs : List α} {ys : List β} (h : Paired F xs ys) : xs.length = ys.length := Paired.length h
theorem psnoc {α β : Type} {F : α → β → Prop} : ∀ {xs : List α} {ys : List β} {x : α} {y : β}, Paired F xs ys → F x y → Paired F (xs ++ [x]) (ys ++ [y])
  | _, _, _, _, .nil, h => .cons h .nil
  | _, _, _, _, .cons a b, h => .cons a (psnoc b h)
theorem pmono {α β : Type} {F G : α → β → Prop} (h : ∀ x y, F x y → G x y) : ∀ {xs : List α} {ys : List β}, Paired F xs ys → Paired G xs ys
  | _, _, .nil => .nil
  | _, _, .cons a b => .cons (h _ _ a) (pmono h b)
/-- an own list is written: what was tracked ahead of it stays -/
theorem sameOwn {H0 H : Hp} {l : Addr} {o : HO} (s : Same H0 H) (hl : H0 l = none) : Same H0 (upd H l o) := fun b u e => by
  rw [upd_ne (ne_of_none e hl)]
  exact s b u e
theorem sgUpd {H : Hp} {D : Addr} {o : HO} {zs : List V} {v : V} {s : Sg} (hD : H D = some (.lst zs)) (h : SgAt H v s) : SgAt (upd H D o) v s := by
  obtain ⟨p, e, q⟩ := h
  exact ⟨p, e, by rw [upd_ne (ne_of q hD (by intro z; cases z))]; exact q⟩
theorem sgsUpd {H : Hp} {D : Addr} {o : HO} {zs : List V} {xs : List V} {ss : List Sg} (hD : H D = some (.lst zs)) (h : Sgs H xs ss) : Sgs (upd H D o) xs ss := pmono (fun _ _ q => sgUpd hD q) h
theorem intsAt {ms : List Int} {i : Nat} {x : V} (h : (ms.map V.int)[i]? = some x) : ∃ z, ms[i]? = some z ∧ x = V.int z := by
  rw [List.getElem?_map] at h
  cases e : ms[i]? with
  | none => rw [e] at h; cases h
  | some z => rw [e] at h; exact ⟨z, rfl, (Option.some.inj h).symm⟩
section
variable {K : PySem.W.Frag} {H : Hp} {p : Addr} {Q : VK}
/-- an item of a pair -/
theorem ix0 {a b : V} (h : H p = some (.tup [a, b])) (q : Q a H) : rIxL K (.ref p) (.int 0) H Q ∨ rIxT K (.ref p) (.int 0) H Q ∨ rIxS (.ref p) (.int 0) H Q := .inr (.inl ⟨p, _, 0, a, rfl, rfl, SqT.of h, rfl, q⟩)
/-- an item of a list, by its place -/
theorem ixL {xs : List V} {i : Int} {n : Nat} {v : V} (h : SqL K H p xs) (hn : i = n) (e : xs[n]? = some v) (q : Q v H) : rIxL K (.ref p) (.int i) H Q ∨ rIxT K (.ref p) (.int i) H Q ∨ rIxS (.ref p) (.int i) H Q := .inl ⟨p, xs, i, v, rfl, rfl, h, by rw [hn]; exact atI_nat e, q⟩
/-- an item of a row of signs -/
theorem ixSg {xs : List V} {ss : List Sg} {i : Int} {n : Nat} {s : Sg} (h : SqL K H p xs) (g : Sgs H xs ss) (hn : i = n) (e : ss[n]? = some s) (q : ∀ b, H b = some (.tup [.str s.1.str, .int s.2]) → Q (.ref b) H) :
    rIxL K (.ref p) (.int i) H Q ∨ rIxT K (.ref p) (.int i) H Q ∨ rIxS (.ref p) (.int i) H Q := by
  obtain ⟨x, hx, b, rfl, hb⟩ := pgetR g e
  exact ixL h hn hx (q b hb)
/-- an item of a row of ints -/
theorem ixN' {ns : List Int} {i : Int} {n : Nat} {z : Int} (h : SqL K H p (ns.map V.int)) (hn : i = n) (e : ns[n]? = some z) (q : Q (.int z) H) : rIxL K (.ref p) (.int i) H Q ∨ rIxT K (.ref p) (.int i) H Q ∨ rIxS (.ref p) (.int i) H Q :=
  ixL h hn (by rw [List.getElem?_map, e]; rfl) q
theorem lenN {ns : List Int} {C : Prop} (h : SqL K H p (ns.map V.int)) (q : Q (.int ns.length) H) : (∃ p' ys, [V.ref p] = [V.ref p'] ∧ (SqL K H p' ys ∨ SqT K H p' ys) ∧ Q (.int ys.length) H) ∨ C := .inl ⟨p, _, rfl, .inl h, by rw [List.length_map]; exact q⟩
end
end Mine

set_option maxHeartbeats 1000000
namespace Mine
open PySem L2
/-! ### the reading of a line, as functions of its kinds -/
def nm (m : Int) : Kd → Int
  | .three => 3
  | .two => 2
  | _ => m
def Ms (m : Int) : Prop := m = 3 ∨ m = 2
theorem Ms.nm {m : Int} (h : Ms m) (k : Kd) : Ms (nm m k) := by
  cases k <;> first | exact h | exact .inl rfl | exact .inr rfl
def measL (m : Int) : List Kd → List Int
  | [] => []
  | k :: t => nm m k :: measL (nm m k) t
def pw : Kd → Int → Int
  | .G, m => if m = 2 then 2 else 3
  | .R, m => if m = 2 then 2 else 3
  | .D, _ => 2
  | .s, _ => 1
  | .d, _ => 1
  | .r, _ => 1
  | _, _ => 0
def bw (m : Int) (k : Kd) (n : Option Kd) : Int := if m = 2 ∧ k = .G ∧ n = some .dot then 3 else pw k m
def baseL (m : Int) : List Kd → List Int
  | [] => []
  | k :: t => bw (nm m k) k t.head? :: baseL (nm m k) t
def baseOn : List Kd → List Int → List Int
  | k :: t, m :: ms => bw m k t.head? :: baseOn t ms
  | _, _ => []
theorem baseL_len (m : Int) (ks : List Kd) : (baseL m ks).length = ks.length := by
  induction ks generalizing m with
  | nil => rfl
  | cons k t ih => simp [baseL, ih]
def inR (m : Int) (k : Kd) : Bool := decide (m ≠ 2) && k.small
def insL (m : Int) : List Kd → List Bool
  | [] => []
  | k :: t => inR (nm m k) k :: insL (nm m k) t
theorem insL_len (m : Int) (ks : List Kd) : (insL m ks).length = ks.length := by
  induction ks generalizing m with
  | nil => rfl
  | cons k t ih => simp [insL, ih]
def insOn : List Kd → List Int → List Bool
  | k :: t, m :: ms => inR m k :: insOn t ms
  | _, _ => []
/-- the runs of a row of marks, from a place on, a run begun at `first` -/
def runsF (at' first : Nat) : List Bool → List (Nat × Nat)
  | [] => if first < at' then [(first, at')] else []
  | true :: t => runsF (at' + 1) first t
  | false :: t => (if first < at' then [(first, at')] else []) ++ runsF (at' + 1) (at' + 1) t
def runsL (m : Int) (ks : List Kd) : List (Nat × Nat) := runsF 0 0 (insL m ks)
def kAt (ks : List Kd) (i : Int) : Option Kd := if 0 ≤ i then ks[i.toNat]? else none
theorem kAt_nat (ks : List Kd) (n : Nat) : kAt ks (n : Int) = ks[n]? := by
  unfold kAt
  rw [if_pos (by omega)]
  rfl
def greatO : Option Kd → Bool
  | some k => k.great
  | none => false
def leftN (ks : List Kd) (f : List Int) (a : Nat) : Bool := decide (kAt ks ((a : Int) - 1) = some .G) && decide (f.getD (a - 1) 0 = 3)
def rightN (ks : List Kd) (z : Nat) : Bool := decide (ks[z]? = some .G) && !greatO ks[z + 1]?
def settle1 (ks : List Kd) (f : List Int) (a z : Nat) : Bool × List Int := if leftN ks f a then (true, f.set (a - 1) 2) else if rightN ks z then (true, f.set z 2) else (false, f)
def settle2 (ks : List Kd) (f : List Int) (a z : Nat) : Bool × List Int := if greatO ks[z]? && decide (ks[z - 1]? = some .s) then (true, f.set (z - 1) 2) else if leftN ks f a && rightN ks z then (true, (f.set (a - 1) 2).set z 2) else (false, f)
def settle (ks : List Kd) (f : List Int) (a z : Nat) : Bool × List Int := if (z - a) % 3 = 1 then settle1 ks f a z else if (z - a) % 3 = 2 then settle2 ks f a z else (true, f)
theorem settle_len (ks : List Kd) (f : List Int) (a z : Nat) : (settle ks f a z).2.length = f.length := by
  unfold settle settle1 settle2
  repeat' split
  all_goals simp
abbrev RdS := List Int × List (Nat × Nat)
def rdStep (ks : List Kd) (c : RdS) (p : Nat × Nat) : RdS := ((settle ks c.1 p.1 p.2).2, if (settle ks c.1 p.1 p.2).1 then c.2 else c.2 ++ [p])
def readL (m : Int) (ks : List Kd) : RdS := (runsL m ks).foldl (rdStep ks) (baseL m ks, [])
theorem fold_len (ks : List Kd) (rs : List (Nat × Nat)) (c : RdS) : (rs.foldl (rdStep ks) c).1.length = c.1.length := by
  induction rs generalizing c with
  | nil => rfl
  | cons p t ih => rw [List.foldl_cons, ih]; exact settle_len ..
theorem readL_len (m : Int) (ks : List Kd) : (readL m ks).1.length = ks.length := by
  unfold readL
  rw [fold_len, baseL_len]
/-- the runs lie within the line, and none is empty -/
theorem runsF_in : ∀ (bs : List Bool) (at' first : Nat), first ≤ at' → ∀ p ∈ runsF at' first bs, first ≤ p.1 ∧ p.1 < p.2 ∧ p.2 ≤ at' + bs.length
  | [], at', first, h, p, hp => by
    unfold runsF at hp
    split at hp
    · have : p = (first, at') := by simpa using hp
      subst this
      exact ⟨Nat.le_refl _, by assumption, by simp⟩
    · cases hp
  | true :: t, at', first, h, p, hp => by
    have := runsF_in t (at' + 1) first (by omega) p hp
    simp only [List.length_cons]
    omega
  | false :: t, at', first, h, p, hp => by
    unfold runsF at hp
    simp only [List.length_cons]
    rcases List.mem_append.mp hp with hp | hp
    · split at hp
      · have : p = (first, at') := by simpa using hp
        subst this
        exact ⟨Nat.le_refl _, by assumption, by simp⟩
      · cases hp
    · have := runsF_in t (at' + 1) (at' + 1) (Nat.le_refl _) p hp
      omega
theorem runsL_in (m : Int) (ks : List Kd) : ∀ p ∈ runsL m ks, p.1 < p.2 ∧ p.2 ≤ ks.length := by
  intro p hp
  have := runsF_in (insL m ks) 0 0 (Nat.le_refl _) p hp
  rw [insL_len] at this
  omega
theorem runsF_count : ∀ (bs : List Bool) (at' first : Nat), (runsF at' first bs).length ≤ bs.length + 1
  | [], at', first => by unfold runsF; split <;> simp
  | true :: t, at', first => by
    unfold runsF
    have := runsF_count t (at' + 1) first
    simp only [List.length_cons]; omega
  | false :: t, at', first => by
    unfold runsF
    have := runsF_count t (at' + 1) (at' + 1)
    simp only [List.length_cons, List.length_append]
    split <;> simp <;> omega
/-- pairs of places in the heap -/
def PrAt (H : Hp) (v : V) (q : Nat × Nat) : Prop := ∃ p, v = .ref p ∧ H p = some (.tup [.int (q.1 : Int), .int (q.2 : Int)])
abbrev Prs (H : Hp) : List V → List (Nat × Nat) → Prop := Paired (PrAt H)
theorem PrAt.same {H H' : Hp} {v : V} {q : Nat × Nat} (e : Same H H') (h : PrAt H v q) : PrAt H' v q := by
  obtain ⟨p, rfl, z⟩ := h
  exact ⟨p, rfl, e _ _ z⟩
theorem prsSame {H H' : Hp} (e : Same H H') {xs : List V} {qs : List (Nat × Nat)} (h : Prs H xs qs) : Prs H' xs qs := pmono (fun _ _ z => z.same e) h
theorem prUpd {H : Hp} {D : Addr} {o : HO} {zs : List V} {v : V} {q : Nat × Nat} (hD : H D = some (.lst zs)) (h : PrAt H v q) : PrAt (upd H D o) v q := by
  obtain ⟨p, e, z⟩ := h
  exact ⟨p, e, by rw [upd_ne (ne_of z hD (by intro z; cases z))]; exact z⟩
theorem prsUpd {H : Hp} {D : Addr} {o : HO} {zs : List V} {xs : List V} {qs : List (Nat × Nat)} (hD : H D = some (.lst zs)) (h : Prs H xs qs) : Prs (upd H D o) xs qs := pmono (fun _ _ q => prUpd hD q) h
theorem upd_self {H : Hp} {a : Addr} {o : HO} (h : H a = some o) : upd H a o = H := by
  funext b
  unfold upd
  split
  · rename_i e; rw [e, h]
  · rfl
theorem leftN_pos {ks : List Kd} {f : List Int} {a : Nat} (h : leftN ks f a = true) : 1 ≤ a ∧ a - 1 < ks.length := by
  unfold leftN at h
  have h1 := of_decide_eq_true (Bool.and_eq_true_iff.mp h).1
  unfold kAt at h1
  split at h1
  · have := (List.getElem?_eq_some_iff.mp h1).1
    omega
  · cases h1
theorem rightN_pos {ks : List Kd} {z : Nat} (h : rightN ks z = true) : z < ks.length := by
  unfold rightN at h
  have h1 := of_decide_eq_true (Bool.and_eq_true_iff.mp h).1
  exact (List.getElem?_eq_some_iff.mp h1).1
theorem ixN_nat {n : Nat} {i : Int} {j : Nat} (e : i = j) (h : j < n) : ixN n i = some j := by
  unfold ixN
  subst e
  rw [if_pos (by omega), if_pos (by omega)]
  rfl
theorem drop_at {α : Type} {l : List α} {i : Nat} {x : α} (h : l[i]? = some x) : l.drop i = x :: l.drop (i + 1) := by
  obtain ⟨hi, e⟩ := List.getElem?_eq_some_iff.mp h
  rw [List.drop_eq_getElem_cons hi, e]
theorem map_at {α β : Type} {l : List α} {f : α → β} {i : Nat} {x : α} (h : l[i]? = some x) : (l.map f)[i]? = some (f x) := by rw [List.getElem?_map, h]; rfl
abbrev kds (ss : List Sg) : List Kd := ss.map Prod.fst
theorem set_map {fs : List Int} {j : Nat} {v : Int} : (fs.map V.int).set j (V.int v) = (fs.set j v).map V.int := by rw [List.map_set]
theorem big {n : Nat} (h : n ≤ 1000) : n ≤ sizeLine := Nat.le_of_lt (small1000 h)
theorem head_drop {α : Type} (l : List α) (i : Nat) : (l.drop i).head? = l[i]? := by
  rw [List.head?_drop]
def threeL (m : Int) : List Kd → List Bool
  | [] => []
  | k :: t => decide (nm m k = 3) :: threeL (nm m k) t
theorem threeL_len (m : Int) (ks : List Kd) : (threeL m ks).length = ks.length := by
  induction ks generalizing m with
  | nil => rfl
  | cons k t ih => simp [threeL, ih]
/-- how many marks stand at the head -/
def lead : List Bool → Nat
  | true :: t => lead t + 1
  | _ => 0
theorem lead_le : ∀ bs : List Bool, lead bs ≤ bs.length
  | [] => Nat.le_refl _
  | true :: t => by simp only [lead, List.length_cons]; have := lead_le t; omega
  | false :: t => Nat.zero_le _
theorem runsF_lead : ∀ (bs : List Bool) (at' first : Nat), first < at' + lead bs ∨ lead bs = 0 → first ≤ at' → runsF at' first bs = (if first < at' + lead bs then [(first, at' + lead bs)] else []) ++ runsF (at' + lead bs) (at' + lead bs) (bs.drop (lead bs))
  | [], at', first, _, h => by
    show (if first < at' then [(first, at')] else []) = (if first < at' then [(first, at')] else []) ++ runsF at' at' []
    rw [show runsF at' at' [] = [] by unfold runsF; rw [if_neg (Nat.lt_irrefl _)], List.append_nil]
  | true :: t, at', first, h0, h => by
    have ih := runsF_lead t (at' + 1) first (.inl (by omega)) (by omega)
    have e : at' + 1 + lead t = at' + (lead t + 1) := by omega
    rw [e] at ih
    simp only [runsF, lead, List.drop_succ_cons]
    exact ih
  | false :: t, at', first, _, h => by
    show (if first < at' then [(first, at')] else []) ++ runsF (at' + 1) (at' + 1) t = (if first < at' then [(first, at')] else []) ++ ((if at' < at' then [(at', at')] else []) ++ runsF (at' + 1) (at' + 1) t)
    rw [if_neg (Nat.lt_irrefl at'), List.nil_append]
theorem threeIn {m : Int} (h : Ms m) : ∀ (ks : List Kd) (i : Nat) (k : Kd), ks[i]? = some k → ∃ b, (threeL m ks)[i]? = some b ∧ (insL m ks)[i]? = some (k.small && b)
  | [], i, k, e => by simp at e
  | c :: t, 0, k, e => by
    have : c = k := by simpa using e
    subst this
    refine ⟨decide (nm m c = 3), rfl, ?_⟩
    simp only [insL, List.getElem?_cons_zero, inR]
    have hm := h.nm c
    rcases hm with e | e <;> rw [e] <;> cases c <;> rfl
  | c :: t, i + 1, k, e => by
    obtain ⟨b, h1, h2⟩ := threeIn (h.nm c) t i k (by simpa using e)
    exact ⟨b, by simpa [threeL] using h1, by simpa [insL] using h2⟩
theorem lead_at : ∀ (bs : List Bool) (j : Nat), j ≤ lead bs → (j < lead bs ↔ bs[j]? = some true)
  | [], j, h => by simp [lead]
  | true :: t, 0, h => by simp [lead]
  | true :: t, j + 1, h => by
    have := lead_at t j (by simp only [lead] at h; omega)
    simp only [lead, List.getElem?_cons_succ]
    rw [← this]
    omega
  | false :: t, j, h => by
    have : j = 0 := by simp only [lead] at h; omega
    subst this
    simp [lead]
theorem ins_at {m : Int} {ks : List Kd} {low j : Nat} : ((insL m ks).drop low)[j]? = (insL m ks)[low + j]? := by rw [List.getElem?_drop]
end Mine

set_option maxHeartbeats 1000000
namespace Mine
open PySem L2
/-! ### what the laws have in common -/
theorem cutTo (xs : List V) (n : Nat) : cutV xs none (some (n : Int)) = xs.take n := by
  unfold cutV
  have e : HT.sIx xs.length xs.length (some (n : Int)) = min n xs.length := HT.sIx_nat xs.length xs.length n
  rw [HT.sIx_none, e, Nat.sub_zero, List.drop_zero]
  rcases Nat.le_total n xs.length with h | h
  · rw [Nat.min_eq_left h]
  · rw [Nat.min_eq_right h, List.take_length, List.take_of_length_le h]
theorem cutFrom (xs : List V) (n : Nat) (h : n ≤ xs.length) : cutV xs (some (n : Int)) none = xs.drop n := by
  unfold cutV
  have e : HT.sIx xs.length 0 (some (n : Int)) = min n xs.length := HT.sIx_nat xs.length 0 n
  rw [HT.sIx_none, e, Nat.min_eq_left h]
  exact List.take_of_length_le (by rw [List.length_drop]; omega)
/-- pairs of whole numbers in the heap -/
def PrI (H : Hp) (v : V) (q : Int × Int) : Prop := ∃ p, v = .ref p ∧ H p = some (.tup [.int q.1, .int q.2])
abbrev PrsI (H : Hp) : List V → List (Int × Int) → Prop := Paired (PrI H)
/-- a law's line stands in the heap, new -/
structure LineAt (H0 H : Hp) (l : Addr) (xs : List V) (ss : List Sg) : Prop where
  same : Same H0 H
  new : H0 l = none
  at' : H l = some (.lst xs)
  sg : Sgs H xs ss
def sp_law (K : PySem.W.Frag) : Sp := fun vs H Q _ => ∃ (a : Addr) (ns : List Int), vs = [.ref a] ∧ SqL K H a (ns.map V.int) ∧ ns.length ≤ 63 ∧ ∀ H', Q (.bl true) H'
theorem law_start {K : PySem.W.Frag} {H : Hp} {a : Addr} {ns : List Int} (hl : ns.length ≤ 63) (_ : Only H) (hS : SqL K H a (ns.map V.int)) : sp_law K [.ref a] H (fun v _ => v = .bl true) fun _ _ _ => False :=
  ⟨a, ns, rfl, hS, hl, fun _ => rfl⟩
end Mine

set_option maxHeartbeats 1000000
namespace Mine
open PySem L2
/-! ### the reading, block by block from the left -/
def fd (ks : List Kd) (rs : List (Nat × Nat)) (f : List Int) : List Int := rs.foldl (fun f q => (settle ks f q.1 q.2).2) f
theorem fold_fd (ks : List Kd) : ∀ (rs : List (Nat × Nat)) (c : RdS), (rs.foldl (rdStep ks) c).1 = fd ks rs c.1
  | [], _ => rfl
  | r :: t, c => by rw [List.foldl_cons, fold_fd ks t]; rfl
def rd (m : Int) (ks : List Kd) : List Int := (readL m ks).1
theorem rd_fd (m : Int) (ks : List Kd) : rd m ks = fd ks (runsL m ks) (baseL m ks) := fold_fd ks _ _
theorem rd_len (m : Int) (ks : List Kd) : (rd m ks).length = ks.length := readL_len m ks
def shift (n : Nat) (rs : List (Nat × Nat)) : List (Nat × Nat) := rs.map fun q => (q.1 + n, q.2 + n)
theorem shift_shift (n m : Nat) (rs : List (Nat × Nat)) : shift n (shift m rs) = shift (m + n) rs := by
  unfold shift
  rw [List.map_map]
  congr 1
  funext q
  simp only [Function.comp, Nat.add_assoc]
theorem shF (bs : List Bool) (n a f : Nat) : runsF (a + n) (f + n) bs = shift n (runsF a f bs) := by
  induction bs generalizing a f with
  | nil =>
    unfold runsF
    by_cases h : f < a
    · rw [if_pos h, if_pos (by omega)]; rfl
    · rw [if_neg h, if_neg (by omega)]; rfl
  | cons b t ih =>
    cases b with
    | true =>
      simp only [runsF]
      rw [← ih (a + 1) f, Nat.add_right_comm]
    | false =>
      simp only [runsF]
      rw [show a + n + 1 = a + 1 + n by omega, ih (a + 1) (a + 1)]
      unfold shift
      rw [List.map_append]
      congr 1
      by_cases h : f < a
      · rw [if_pos h, if_pos (by omega)]; rfl
      · rw [if_neg h, if_neg (by omega)]; rfl
theorem settle_sh (A B : List Kd) (f g : List Int) (hf : f.length = A.length) (hg : g.length = B.length) {a z : Nat} (haz : a < z) (hz : z ≤ B.length) (h0 : a = 0 → leftN (A ++ B) (f ++ g) A.length = false) :
    (settle (A ++ B) (f ++ g) (a + A.length) (z + A.length)).2 = f ++ (settle B g a z).2 := by
  have ix : ∀ j, (A ++ B)[j + A.length]? = B[j]? := fun j => by
    rw [List.getElem?_append_right (by omega), Nat.add_sub_cancel]
  have hl : leftN (A ++ B) (f ++ g) (a + A.length) = leftN B g a := by
    by_cases e0 : a = 0
    · have := h0 e0
      subst e0
      rw [Nat.zero_add, this]
      rfl
    · unfold leftN kAt
      rw [if_pos (by omega), if_pos (by omega)]
      have e1 : (((a + A.length : Nat) : Int) - 1).toNat = (a - 1) + A.length := by omega
      have e2 : (((a : Nat) : Int) - 1).toNat = a - 1 := by omega
      rw [e1, e2, ix]
      congr 2
      rw [List.getD_eq_getElem?_getD, List.getD_eq_getElem?_getD, List.getElem?_append_right (by omega)]
      have e3 : a + A.length - 1 - f.length = a - 1 := by omega
      rw [e3]
  have hr : rightN (A ++ B) (z + A.length) = rightN B z := by
    unfold rightN
    rw [ix, show z + A.length + 1 = (z + 1) + A.length by omega, ix]
  have st : ∀ (h : List Int) (j : Nat), (f ++ h).set (j + A.length) 2 = f ++ h.set j 2 := fun h j => by
    rw [List.set_append_right _ _ (by omega)]
    congr 2
    omega
  have ed : z + A.length - (a + A.length) = z - a := by omega
  have ez : z + A.length - 1 = (z - 1) + A.length := by omega
  have hlp : leftN B g a = true → a + A.length - 1 = (a - 1) + A.length := fun h => by have := leftN_pos h; omega
  unfold settle settle1 settle2
  rw [hl, hr, ed, ez, ix, ix]
  split
  · split
    · rename_i h; rw [hlp h, st]
    · split
      · rw [st]
      · rfl
  · split
    · split
      · rw [st]
      · split
        · rename_i h
          obtain ⟨h1, h2⟩ := Bool.and_eq_true_iff.mp h
          rw [hlp h1, st, st]
        · rfl
    · rfl
theorem fd_sh (A B : List Kd) (f : List Int) (hf : f.length = A.length) : ∀ (rs : List (Nat × Nat)) (g : List Int), g.length = B.length → (∀ q ∈ rs, q.1 < q.2 ∧ q.2 ≤ B.length ∧ (q.1 = 0 → ∀ g', leftN (A ++ B) (f ++ g') A.length = false)) →
    fd (A ++ B) (shift A.length rs) (f ++ g) = f ++ fd B rs g
  | [], _, _, _ => rfl
  | r :: t, g, hg, h => by
    obtain ⟨h1, h2, h3⟩ := h r List.mem_cons_self
    show fd (A ++ B) (shift A.length t) (settle (A ++ B) (f ++ g) (r.1 + A.length) (r.2 + A.length)).2 = f ++ fd B t (settle B g r.1 r.2).2
    rw [settle_sh A B f g hf hg h1 h2 fun e => h3 e g]
    exact fd_sh A B f hf t _ (by rw [settle_len]; exact hg) fun q hq => h q (List.mem_cons_of_mem _ hq)
def ones (n : Nat) : List Int := List.replicate n 1
def Smalls (r : List Kd) : Prop := ∀ k ∈ r, k.small = true
/-- no small sign at the head -/
def Cut (B : List Kd) : Prop := ∀ k t, B = k :: t → k.small = false
theorem nm_small {k : Kd} (h : k.small = true) (m : Int) : nm m k = m := by cases k <;> first | rfl | cases h
theorem ins_smalls : ∀ (r : List Kd), Smalls r → ∀ B, insL 3 (r ++ B) = List.replicate r.length true ++ insL 3 B
  | [], _, B => rfl
  | k :: t, h, B => by
    have hk := h k List.mem_cons_self
    show inR (nm 3 k) k :: insL (nm 3 k) (t ++ B) = _
    rw [nm_small hk, ins_smalls t (fun x hx => h x (List.mem_cons_of_mem _ hx)) B]
    have : inR 3 k = true := by unfold inR; rw [hk]; rfl
    rw [this]
    rfl
theorem base_smalls : ∀ (r : List Kd), Smalls r → ∀ B, baseL 3 (r ++ B) = ones r.length ++ baseL 3 B
  | [], _, B => rfl
  | k :: t, h, B => by
    have hk := h k List.mem_cons_self
    show bw (nm 3 k) k (t ++ B).head? :: baseL (nm 3 k) (t ++ B) = _
    rw [nm_small hk, base_smalls t (fun x hx => h x (List.mem_cons_of_mem _ hx)) B]
    have : bw 3 k (t ++ B).head? = 1 := by
      unfold bw
      rw [if_neg (by rintro ⟨z, _⟩; cases z)]
      cases k <;> first | rfl | cases hk
    rw [this]
    rfl
theorem runsF_true : ∀ (c a f : Nat) (bs : List Bool), runsF a f (List.replicate c true ++ bs) = runsF (a + c) f bs
  | 0, a, f, bs => rfl
  | c + 1, a, f, bs => by
    show runsF (a + 1) f (List.replicate c true ++ bs) = _
    rw [runsF_true c (a + 1) f bs]
    congr 1
    omega
theorem runsF_cut {B : List Kd} (h : Cut B) (a f : Nat) : runsF a f (insL 3 B) = (if f < a then [(f, a)] else []) ++ shift a (runsL 3 B) := by
  cases B with
  | nil =>
    show (if f < a then [(f, a)] else []) = _ ++ shift a (runsF 0 0 [])
    simp [runsF, shift]
  | cons k t =>
    have hk := h k t rfl
    have e : inR (nm 3 k) k = false := by unfold inR; rw [hk, Bool.and_false]
    show runsF a f (inR (nm 3 k) k :: insL (nm 3 k) t) = _ ++ shift a (runsF 0 0 (inR (nm 3 k) k :: insL (nm 3 k) t))
    rw [e]
    simp only [runsF]
    rw [if_neg (Nat.lt_irrefl 0), List.nil_append, ← shF]
    congr 2 <;> omega
theorem runs_r {r B : List Kd} (hr : Smalls r) (h : Cut B) : runsL 3 (r ++ B) = (if 0 < r.length then [(0, r.length)] else []) ++ shift r.length (runsL 3 B) := by
  show runsF 0 0 (insL 3 (r ++ B)) = _
  rw [ins_smalls r hr, runsF_true, Nat.zero_add, runsF_cut h]
theorem runs_Gr {r B : List Kd} (hr : Smalls r) (h : Cut B) : runsL 3 (.G :: r ++ B) = (if 0 < r.length then [(1, r.length + 1)] else []) ++ shift (r.length + 1) (runsL 3 B) := by
  show runsF 0 0 (insL 3 (.G :: (r ++ B))) = _
  show runsF 0 0 (false :: insL 3 (r ++ B)) = _
  simp only [runsF]
  rw [if_neg (Nat.lt_irrefl 0), List.nil_append, ins_smalls r hr, runsF_true, runsF_cut h]
  rw [show 0 + 1 + r.length = r.length + 1 by omega]
  by_cases c : 0 < r.length
  · rw [if_pos c, if_pos (by omega)]
  · rw [if_neg c, if_neg (by omega)]
theorem runs_G (B : List Kd) : runsL 3 (.G :: B) = shift 1 (runsL 3 B) := by
  show runsF 0 0 (false :: insL 3 B) = _
  simp only [runsF]
  rw [if_neg (Nat.lt_irrefl 0), List.nil_append]
  exact shF _ 1 0 0
theorem base_G (B : List Kd) : baseL 3 (.G :: B) = 3 :: baseL 3 B := by
  show bw 3 .G B.head? :: baseL 3 B = _
  unfold bw
  rw [if_neg (by rintro ⟨z, _⟩; cases z)]
  rfl
def rightB (B : List Kd) : Bool := decide (B[0]? = some .G) && !greatO B[1]?
def dbl (r B : List Kd) : Bool := greatO B[0]? && decide (r.getLast? = some .s)
def onesD (r B : List Kd) : List Int := if r.length % 3 = 2 ∧ dbl r B = true then ones (r.length - 1) ++ [2] else ones r.length
theorem lastIx {r B : List Kd} (h : 0 < r.length) : (r ++ B)[r.length - 1]? = r.getLast? := by
  rw [List.getElem?_append_left (by omega), List.getLast?_eq_getElem?]
theorem ones_len (n : Nat) : (ones n).length = n := List.length_replicate
theorem ones_set (n : Nat) (h : 0 < n) : (ones n).set (n - 1) 2 = ones (n - 1) ++ [2] := by
  obtain ⟨k, rfl⟩ : ∃ k, n = k + 1 := ⟨n - 1, by omega⟩
  show (ones (k + 1)).set k 2 = ones k ++ [2]
  unfold ones
  induction k with
  | zero => rfl
  | succ k ih =>
    show (1 : Int) :: (List.replicate (k + 1) (1 : Int)).set k 2 = 1 :: (List.replicate k 1 ++ [2])
    rw [ih (by omega)]
theorem onesD_len (r B : List Kd) : (onesD r B).length = r.length := by
  unfold onesD
  split
  · rename_i h
    rw [List.length_append, ones_len]
    have : r.length ≠ 0 := fun e => by rw [e] at h; omega
    simp only [List.length_cons, List.length_nil]
    omega
  · exact ones_len _
theorem noG {r : List Kd} (hr : Smalls r) {B : List Kd} {f : List Int} (h : 0 < r.length) (P : List Kd) : leftN (P ++ r ++ B) f (P ++ r).length = false := by
  unfold leftN
  rw [List.length_append]
  have e1 : (((P.length + r.length : Nat) : Int) - 1).toNat = (r.length - 1) + P.length := by omega
  have : kAt (P ++ r ++ B) (((P.length + r.length : Nat) : Int) - 1) ≠ some .G := by
    unfold kAt
    rw [if_pos (by omega), e1, List.append_assoc, List.getElem?_append_right (by omega), Nat.add_sub_cancel, lastIx h]
    intro e
    have := hr _ (List.mem_of_getLast? e)
    cases this
  rw [decide_eq_false this]
  rfl
/-- a run at the head -/
theorem rd_r {r B : List Kd} (hr : Smalls r) (hB : Cut B) (hc : 0 < r.length) : rd 3 (r ++ B) = onesD r B ++ (if r.length % 3 = 1 ∧ rightB B = true then 2 :: rd 3 B.tail else rd 3 B) := by
  have hin : ∀ q ∈ runsL 3 B, q.1 < q.2 ∧ q.2 ≤ B.length := runsL_in 3 B
  have l0 : leftN (r ++ B) (ones r.length ++ baseL 3 B) 0 = false := rfl
  have rz : rightN (r ++ B) r.length = rightB B := by
    unfold rightN rightB
    rw [List.getElem?_append_right (Nat.le_refl _), List.getElem?_append_right (by omega), Nat.sub_self, Nat.add_sub_cancel_left]
  have gz : (r ++ B)[r.length]? = B[0]? := by rw [List.getElem?_append_right (Nat.le_refl _), Nat.sub_self]
  have hd : (greatO (r ++ B)[r.length]? && decide ((r ++ B)[r.length - 1]? = some .s)) = dbl r B := by rw [gz, lastIx hc]; rfl
  rw [rd_fd, runs_r hr hB, if_pos hc, base_smalls r hr]
  show fd (r ++ B) (shift r.length (runsL 3 B)) (settle (r ++ B) (ones r.length ++ baseL 3 B) 0 r.length).2 = _
  have plain : ∀ f : List Int, f.length = r.length → fd (r ++ B) (shift r.length (runsL 3 B)) (f ++ baseL 3 B) = f ++ rd 3 B := fun f hf => by
    rw [fd_sh r B f hf (runsL 3 B) (baseL 3 B) (baseL_len 3 B) fun q hq => ⟨(hin q hq).1, (hin q hq).2, fun _ g' => noG hr hc []⟩, rd_fd]
  unfold settle settle1 settle2
  rw [l0, rz, hd, Nat.sub_zero]
  by_cases c1 : r.length % 3 = 1
  · have e : onesD r B = ones r.length := by unfold onesD; rw [if_neg (by omega)]
    rw [if_pos c1, if_neg Bool.false_ne_true, e]
    by_cases hb : rightB B = true
    · rw [if_pos hb, if_pos ⟨c1, hb⟩]
      obtain ⟨t, rfl⟩ : ∃ t, B = .G :: t := by
        have := of_decide_eq_true (Bool.and_eq_true_iff.mp hb).1
        cases B with
        | nil => cases this
        | cons k t => exact ⟨t, by simp at this; rw [this]⟩
      rw [base_G, runs_G, shift_shift]
      dsimp only
      have eL : (ones r.length ++ (3 :: baseL 3 t)).set r.length 2 = (ones r.length ++ [2]) ++ baseL 3 t := by
        rw [List.set_append_right _ _ (by rw [ones_len]; exact Nat.le_refl _), ones_len, Nat.sub_self, List.append_assoc]
        rfl
      rw [eL]
      have eK : r ++ .G :: t = (r ++ [.G]) ++ t := by simp
      have eS : 1 + r.length = (r ++ [Kd.G]).length := by simp; omega
      rw [eK, eS, fd_sh (r ++ [Kd.G]) t (ones r.length ++ [2]) (by rw [List.length_append, List.length_append, ones_len]; rfl) (runsL 3 t) (baseL 3 t) (baseL_len 3 t) fun q hq => ⟨(runsL_in 3 t q hq).1, (runsL_in 3 t q hq).2, fun _ g' => ?_⟩, ← rd_fd, List.append_assoc]
      · rfl
      · unfold leftN
        have : ((ones r.length ++ [2]) ++ g').getD ((r ++ [Kd.G]).length - 1) 0 = 2 := by
          rw [List.getD_eq_getElem?_getD, List.append_assoc, List.getElem?_append_right (by rw [ones_len]; simp), ones_len]
          simp
        rw [this]
        simp
    · rw [if_neg hb, if_neg (fun z => hb z.2)]
      exact plain _ (ones_len _)
  · rw [if_neg c1, if_neg (fun z : r.length % 3 = 1 ∧ _ => c1 z.1)]
    by_cases c2 : r.length % 3 = 2
    · rw [if_pos c2]
      by_cases hb : dbl r B = true
      · have e : onesD r B = ones (r.length - 1) ++ [2] := by unfold onesD; rw [if_pos ⟨c2, hb⟩]
        rw [if_pos hb, e]
        dsimp only
        rw [List.set_append_left _ _ (by rw [ones_len]; omega), ones_set _ hc]
        exact plain _ (by rw [List.length_append, ones_len]; simp; omega)
      · have e : onesD r B = ones r.length := by unfold onesD; rw [if_neg (fun z => hb z.2)]
        rw [if_neg hb, Bool.false_and, if_neg Bool.false_ne_true, e]
        exact plain _ (ones_len _)
    · have e : onesD r B = ones r.length := by unfold onesD; rw [if_neg (fun z => c2 z.1)]
      rw [if_neg c2, e]
      exact plain _ (ones_len _)
/-- a `G` and a run behind it -/
theorem rd_Gr {r B : List Kd} (hr : Smalls r) (hB : Cut B) (hc : 0 < r.length) : rd 3 (.G :: r ++ B) =
    if r.length % 3 = 1 then 2 :: (ones r.length ++ rd 3 B)
    else if r.length % 3 = 2 ∧ dbl r B = false ∧ rightB B = true then 2 :: (ones r.length ++ 2 :: rd 3 B.tail)
    else 3 :: (onesD r B ++ rd 3 B) := by
  have hin : ∀ q ∈ runsL 3 B, q.1 < q.2 ∧ q.2 ≤ B.length := runsL_in 3 B
  have kG : (.G :: r ++ B : List Kd) = .G :: (r ++ B) := rfl
  have bG : baseL 3 (.G :: r ++ B) = (3 :: ones r.length) ++ baseL 3 B := by rw [kG, base_G, base_smalls r hr]; rfl
  have l0 : leftN (.G :: r ++ B) ((3 :: ones r.length) ++ baseL 3 B) 1 = true := rfl
  have rz : rightN (.G :: r ++ B) (r.length + 1) = rightB B := by
    unfold rightN rightB
    rw [kG, List.getElem?_cons_succ, List.getElem?_cons_succ, List.getElem?_append_right (Nat.le_refl _), List.getElem?_append_right (by omega), Nat.sub_self, Nat.add_sub_cancel_left]
  have hd : (greatO (.G :: r ++ B : List Kd)[r.length + 1]? && decide ((.G :: r ++ B : List Kd)[r.length + 1 - 1]? = some .s)) = dbl r B := by
    have e1 : (.G :: r ++ B : List Kd)[r.length + 1]? = B[0]? := by rw [kG, List.getElem?_cons_succ, List.getElem?_append_right (Nat.le_refl _), Nat.sub_self]
    have e2 : (.G :: r ++ B : List Kd)[r.length + 1 - 1]? = r.getLast? := by
      rw [Nat.add_sub_cancel, kG]
      obtain ⟨k, hk⟩ : ∃ k, r.length = k + 1 := ⟨r.length - 1, by omega⟩
      have := lastIx (B := B) hc
      rw [hk, Nat.add_sub_cancel] at this
      rw [hk, List.getElem?_cons_succ, this]
    rw [e1, e2]
    rfl
  rw [rd_fd, runs_Gr hr hB, if_pos hc, bG]
  show fd (.G :: r ++ B) (shift (r.length + 1) (runsL 3 B)) (settle (.G :: r ++ B) ((3 :: ones r.length) ++ baseL 3 B) 1 (r.length + 1)).2 = _
  have plain : ∀ f : List Int, f.length = r.length + 1 → fd (.G :: r ++ B) (shift (r.length + 1) (runsL 3 B)) (f ++ baseL 3 B) = f ++ rd 3 B := fun f hf => by
    have := fd_sh (.G :: r) B f hf (runsL 3 B) (baseL 3 B) (baseL_len 3 B) fun q hq => ⟨(hin q hq).1, (hin q hq).2, fun _ g' => noG hr hc [.G]⟩
    rw [List.length_cons] at this
    rw [this, rd_fd]
  unfold settle settle1 settle2
  rw [l0, rz, hd, show r.length + 1 - 1 = r.length by omega]
  by_cases c1 : r.length % 3 = 1
  · rw [if_pos c1, if_pos rfl, if_pos c1]
    exact plain (2 :: ones r.length) (by rw [List.length_cons, ones_len])
  · rw [if_neg c1, if_neg c1]
    by_cases c2 : r.length % 3 = 2
    · rw [if_pos c2]
      by_cases hb : dbl r B = true
      · have e : onesD r B = ones (r.length - 1) ++ [2] := by unfold onesD; rw [if_pos ⟨c2, hb⟩]
        rw [if_pos hb, if_neg (fun z => by rw [hb] at z; cases z.2.1), e]
        dsimp only
        have eS : ((3 :: ones r.length) ++ baseL 3 B).set r.length 2 = (3 :: (ones (r.length - 1) ++ [2])) ++ baseL 3 B := by
          rw [List.set_append_left _ _ (by rw [List.length_cons, ones_len]; omega)]
          congr 1
          rw [show (3 :: ones r.length).set r.length 2 = 3 :: (ones r.length).set (r.length - 1) 2 by
            obtain ⟨k, hk⟩ : ∃ k, r.length = k + 1 := ⟨r.length - 1, by omega⟩
            rw [hk]; rfl, ones_set _ hc]
        rw [eS]
        exact plain _ (by rw [List.length_cons, List.length_append, ones_len]; simp; omega)
      · have hb' : dbl r B = false := Bool.eq_false_iff.mpr hb
        have e : onesD r B = ones r.length := by unfold onesD; rw [if_neg (fun z => hb z.2)]
        rw [if_neg hb, Bool.true_and, e]
        by_cases hR : rightB B = true
        · rw [if_pos hR, if_pos ⟨c2, hb', hR⟩]
          obtain ⟨t, rfl⟩ : ∃ t, B = .G :: t := by
            have := of_decide_eq_true (Bool.and_eq_true_iff.mp hR).1
            cases B with
            | nil => cases this
            | cons k t => exact ⟨t, by simp at this; rw [this]⟩
          rw [base_G, runs_G, shift_shift]
          dsimp only
          have eL : ((((3 :: ones r.length) ++ (3 :: baseL 3 t)).set (1 - 1) 2).set (r.length + 1) 2) = (2 :: (ones r.length ++ [2])) ++ baseL 3 t := by
            show ((2 :: ones r.length) ++ (3 :: baseL 3 t)).set (r.length + 1) 2 = _
            rw [List.set_append_right _ _ (by rw [List.length_cons, ones_len]; exact Nat.le_refl _), List.length_cons, ones_len, Nat.sub_self]
            show (2 :: ones r.length) ++ (2 :: baseL 3 t) = _
            simp
          rw [eL]
          have eK : (.G :: r ++ .G :: t : List Kd) = (.G :: (r ++ [.G])) ++ t := by simp
          have eS : 1 + (r.length + 1) = (.G :: (r ++ [Kd.G])).length := by simp; omega
          rw [eK, eS, fd_sh (Kd.G :: (r ++ [Kd.G])) t (2 :: (ones r.length ++ [2])) (by simp [ones_len]) (runsL 3 t) (baseL 3 t) (baseL_len 3 t) fun q hq => ⟨(runsL_in 3 t q hq).1, (runsL_in 3 t q hq).2, fun _ g' => ?_⟩, ← rd_fd]
          · simp
          · unfold leftN
            have : ((2 :: (ones r.length ++ [2])) ++ g').getD ((Kd.G :: (r ++ [Kd.G])).length - 1) 0 = 2 := by
              rw [List.getD_eq_getElem?_getD]
              show ((2 :: (ones r.length ++ [2])) ++ g')[(r ++ [Kd.G]).length + 1 - 1]?.getD 0 = 2
              rw [Nat.add_sub_cancel, List.length_append]
              show (2 :: ((ones r.length ++ [2]) ++ g'))[r.length + 1]?.getD 0 = 2
              rw [List.getElem?_cons_succ, List.append_assoc, List.getElem?_append_right (by rw [ones_len]; exact Nat.le_refl _), ones_len, Nat.sub_self]
              rfl
            rw [this]
            simp
        · rw [if_neg hR, if_neg (fun z => hR z.2.2)]
          exact plain (3 :: ones r.length) (by rw [List.length_cons, ones_len])
    · rw [if_neg c2, if_neg (fun z : r.length % 3 = 2 ∧ _ => c2 z.1)]
      have e : onesD r B = ones r.length := by unfold onesD; rw [if_neg (fun z => c2 z.1)]
      rw [e]
      exact plain (3 :: ones r.length) (by rw [List.length_cons, ones_len])
/-- one sign at the head that no run touches -/
theorem rd_one {m : Int} {k : Kd} {B : List Kd} (hM : Ms m) (hk : m = 2 ∨ k.small = false) (hG : m = 3 → k = .G → Cut B) : rd m (k :: B) = bw (nm m k) k B.head? :: rd (nm m k) B := by
  have e : inR (nm m k) k = false := by
    unfold inR
    rcases hk with h | h
    · subst h
      cases k <;> rfl
    · rw [h, Bool.and_false]
  have er : runsL m (k :: B) = shift 1 (runsL (nm m k) B) := by
    show runsF 0 0 (inR (nm m k) k :: insL (nm m k) B) = _
    rw [e]
    simp only [runsF]
    rw [if_neg (Nat.lt_irrefl 0), List.nil_append]
    exact shF _ 1 0 0
  rw [rd_fd, er]
  show fd ([k] ++ B) (shift [k].length (runsL (nm m k) B)) ([bw (nm m k) k B.head?] ++ baseL (nm m k) B) = _
  rw [fd_sh [k] B [bw (nm m k) k B.head?] rfl (runsL (nm m k) B) (baseL (nm m k) B) (baseL_len _ B) fun q hq => ⟨(runsL_in _ B q hq).1, (runsL_in _ B q hq).2, fun h0 g' => ?_⟩, ← rd_fd]
  · rfl
  · cases hkG : decide (k = .G) with
    | false =>
      have : k ≠ .G := of_decide_eq_false hkG
      unfold leftN
      rw [show kAt ([k] ++ B) (([k].length : Int) - 1) = some k from rfl, decide_eq_false (fun z => this (Option.some.inj z))]
      rfl
    | true =>
      have ek := of_decide_eq_true hkG
      subst ek
      by_cases hm : m = 3
      · subst hm
        have hC := hG rfl rfl
        exfalso
        cases B with
        | nil =>
          have := (runsL_in _ [] q hq)
          simp at this
          omega
        | cons c t =>
          have hc := hC c t rfl
          have hq2 : q ∈ runsF 0 0 (inR (nm 3 c) c :: insL (nm 3 c) t) := hq
          have ec : inR (nm 3 c) c = false := by unfold inR; rw [hc, Bool.and_false]
          rw [ec] at hq2
          simp only [runsF] at hq2
          rw [if_neg (Nat.lt_irrefl 0), List.nil_append] at hq2
          have := runsF_in _ 1 1 (Nat.le_refl _) q hq2
          omega
      · rcases hM with h | h
        · exact absurd h hm
        · subst h
          unfold leftN
          have : ([bw (nm 2 .G) .G B.head?] ++ g').getD ([Kd.G].length - 1) 0 = bw 2 .G B.head? := rfl
          rw [this]
          by_cases hdot : B.head? = some .dot
          · exfalso
            cases B with
            | nil => cases hdot
            | cons c t =>
              have : c = .dot := Option.some.inj hdot
              subst this
              have hq2 : q ∈ runsF 0 0 (false :: insL 2 t) := hq
              simp only [runsF] at hq2
              rw [if_neg (Nat.lt_irrefl 0), List.nil_append] at hq2
              have := runsF_in _ 1 1 (Nat.le_refl _) q hq2
              omega
          · have : bw 2 .G B.head? = 2 := by
              unfold bw
              rw [if_neg (fun z => hdot z.2.2)]
              rfl
            rw [this]
            simp
/-! ### the ear -/
structure Ea where
  m : Int
  held : List Int
  left : Bool
  right : Bool
  cnt : Nat
  last : Option Kd
def setLast (l : List Int) (v : Int) : List Int := l.set (l.length - 1) v
def smallO : Option Kd → Bool
  | some k => k.small
  | none => false
def closeRun (e : Ea) (k : Option Kd) : Ea :=
  if e.cnt % 3 = 2 ∧ e.last = some .s ∧ greatO k = true then { e with cnt := 0, held := setLast e.held 2, left := false }
  else if e.cnt % 3 = 2 ∧ e.left = true ∧ k = some .G then { e with cnt := 0, right := true }
  else if e.cnt % 3 = 1 ∧ e.left = true then { e with cnt := 0, held := e.held.set 0 2, left := false }
  else if e.cnt % 3 = 1 ∧ k = some .G then { e with cnt := 0, right := true, left := false }
  else { e with cnt := 0, left := false }
def settleRight (e : Ea) (k : Option Kd) : Ea :=
  if greatO k = true then { e with left := false, right := false }
  else { e with held := if e.left = true then (setLast e.held 2).set 0 2 else setLast e.held 2, left := false, right := false }
def settleDot (e : Ea) (k : Option Kd) : Ea := if e.last = some .G ∧ k = some .dot then { e with held := setLast e.held 3 } else e
def settleE (e : Ea) (k : Option Kd) : Ea := if e.m = 2 then settleDot e k else if e.right = true then settleRight e k else if smallO k = true then e else closeRun e k
def settledBy (e : Ea) (k : Option Kd) : Ea × List Int := if (settleE e k).left = true then (settleE e k, []) else ({ settleE e k with held := [] }, (settleE e k).held)
def holdE (e : Ea) (k : Kd) : Ea := { e with held := e.held ++ [pw k e.m], last := some k, cnt := if e.m = 3 ∧ k.small = true then e.cnt + 1 else e.cnt, left := if e.m = 3 ∧ k = .G ∧ e.right = false then true else e.left }
def hangs (e : Ea) : Bool := if e.m = 2 then decide (e.last = some .G) else e.left || e.right || (decide (e.last = some .s) && decide (e.cnt % 3 = 2))
def tailE (e : Ea) (k : Kd) : Ea × List Int := if hangs (holdE { e with m := nm e.m k } k) = true then (holdE { e with m := nm e.m k } k, []) else ({ holdE { e with m := nm e.m k } k with held := [] }, (holdE { e with m := nm e.m k } k).held)
def hearE (e : Ea) (k : Kd) : Ea × List Int := ((tailE (settledBy e (some k)).1 k).1, (settledBy e (some k)).2 ++ (tailE (settledBy e (some k)).1 k).2)
def closeE (e : Ea) : List Int := (settledBy e none).2
def initE (m : Int) : Ea := ⟨m, [], false, false, 0, none⟩
def hang (r : List Kd) : Bool := decide (r.length % 3 = 2) && decide (r.getLast? = some .s)
def toldN (r : List Kd) : Nat := r.length - (if hang r = true then 1 else 0)
def heldR (r : List Kd) : List Int := if hang r = true then [1] else []
inductive Sh : Ea → Int → List Kd → Nat → Prop
  | two {l : Option Kd} (h : l ≠ some .G) : Sh ⟨2, [], false, false, 0, l⟩ 2 [] 0
  | twoG : Sh ⟨2, [2], false, false, 0, some .G⟩ 2 [.G] 0
  | run {r : List Kd} {l : Option Kd} (hr : Smalls r) (hl : r ≠ [] → l = r.getLast?) : Sh ⟨3, heldR r, false, false, r.length, l⟩ 3 r (toldN r)
  | left {r : List Kd} (hr : Smalls r) : Sh ⟨3, 3 :: ones r.length, true, false, r.length, (Kd.G :: r).getLast?⟩ 3 (.G :: r) 0
  | right {r : List Kd} (hr : Smalls r) (h1 : r.length % 3 = 1) : Sh ⟨3, [3], false, true, 0, some .G⟩ 3 (r ++ [.G]) r.length
  | both {r : List Kd} (hr : Smalls r) (h2 : r.length % 3 = 2) (hs : r.getLast? ≠ some .s) : Sh ⟨3, 3 :: ones r.length ++ [3], true, true, 0, some .G⟩ 3 (.G :: r ++ [.G]) 0
def Next (e : Ea) (m : Int) (P : List Kd) (T : Nat) (k : Kd) (q : Ea × List Int) : Prop := ∃ m' P' T', Sh q.1 m' P' T' ∧ ∀ t, (rd m (P ++ k :: t)).drop T = q.2 ++ (rd m' (P' ++ t)).drop T'
theorem sh_init {m : Int} (h : Ms m) : Sh (initE m) m [] 0 := by
  rcases h with rfl | rfl
  · exact Sh.run (r := []) (fun _ h => nomatch h) (fun h => absurd rfl h)
  · exact Sh.two (by simp)
theorem rd_nil (m : Int) : rd m [] = [] := rfl
/-- the head of a run is told as ones -/
theorem rd_ones {r : List Kd} (hr : Smalls r) : ∀ (t : List Kd), (rd 3 (r ++ t)).take (toldN r) = ones (toldN r) := by
  intro t
  -- the whole run
  have main : ∀ (t : List Kd) (r' : List Kd), Smalls (r ++ r') → (rd 3 (r ++ r' ++ t)).take (toldN r) = ones (toldN r) := by
    intro t
    induction t with
    | nil =>
      intro r' h
      by_cases h0 : 0 < (r ++ r').length
      · have e := rd_r h (fun k t e => by cases e) h0 (B := [])
        have e2 : onesD (r ++ r') [] = ones (r ++ r').length := by unfold onesD; rw [if_neg (by rintro ⟨_, z⟩; cases z)]
        rw [e, e2, if_neg (by rintro ⟨_, z⟩; cases z), rd_nil, List.append_nil]
        unfold ones
        rw [List.take_replicate]
        congr 1
        unfold toldN
        rw [List.length_append]
        omega
      · have z : r.length = 0 := by rw [List.length_append] at h0; omega
        have : toldN r = 0 := by unfold toldN; omega
        rw [this]
        rfl
    | cons k t ih =>
      intro r' h
      by_cases hk : k.small = true
      · have := ih (r' ++ [k]) (fun x hx => by
          rw [← List.append_assoc] at hx
          rcases List.mem_append.mp hx with z | z
          · exact h x z
          · rw [List.mem_singleton.mp z]; exact hk)
        rw [show r ++ r' ++ k :: t = r ++ (r' ++ [k]) ++ t by simp]
        exact this
      · by_cases h0 : 0 < (r ++ r').length
        · have hC : Cut (k :: t) := fun c u e => by cases e; exact Bool.eq_false_iff.mpr hk
          rw [rd_r h hC h0]
          have hT : toldN r ≤ r.length := by unfold toldN; omega
          have hle : toldN r ≤ (onesD (r ++ r') (k :: t)).length := by rw [onesD_len, List.length_append]; omega
          rw [List.take_append_of_le_length hle]
          unfold onesD
          split
          · rename_i hd
            have hlen : toldN r ≤ (r ++ r').length - 1 := by
              rw [List.length_append]
              by_cases hn : r' = []
              · subst hn
                have hh : hang r = true := by
                  unfold hang
                  rw [List.append_nil] at hd
                  have h2 := (Bool.and_eq_true_iff.mp hd.2).2
                  rw [decide_eq_true hd.1, h2]
                  rfl
                unfold toldN
                rw [if_pos hh]
                simp
              · have : 0 < r'.length := List.length_pos_iff.mpr hn
                omega
            rw [List.take_append_of_le_length (by rw [ones_len]; exact hlen)]
            unfold ones
            rw [List.take_replicate]
            congr 1
            omega
          · unfold ones
            rw [List.take_replicate]
            congr 1
            rw [onesD_len] at hle
            omega
        · have z : r.length = 0 := by rw [List.length_append] at h0; omega
          have : toldN r = 0 := by unfold toldN; omega
          rw [this]
          rfl
  have := main t [] (by rw [List.append_nil]; exact hr)
  rw [List.append_nil] at this
  exact this
theorem drop_ones {l : List Int} {a b : Nat} (h : l.take b = ones b) (hab : a ≤ b) : l.drop a = ones (b - a) ++ l.drop b := by
  have : l.drop a = (l.take b).drop a ++ l.drop b := by
    have hb : b ≤ l.length := by
      have := congrArg List.length h
      rw [List.length_take, ones_len] at this
      omega
    conv => lhs; rw [← List.take_append_drop b l]
    rw [List.drop_append_of_le_length (by rw [List.length_take]; omega)]
  rw [this, h]
  unfold ones
  rw [List.drop_replicate]
theorem told_snoc_le {r : List Kd} {k : Kd} : toldN r ≤ toldN (r ++ [k]) := by
  unfold toldN
  rw [List.length_append]
  split <;> split <;> simp <;> omega
/-- a sign behind all that is settled, in the threefold measure -/
def clean3 (l : Option Kd) : Ea := ⟨3, [], false, false, 0, l⟩
theorem fresh3 (l : Option Kd) (k : Kd) : Next (clean3 l) 3 [] 0 k (tailE (clean3 l) k) := by
  cases k with
  | G => exact ⟨3, [.G], 0, Sh.left (r := []) (fun _ h => nomatch h), fun t => rfl⟩
  | D => exact ⟨3, [], 0, Sh.run (r := []) (l := some .D) (fun _ h => nomatch h) (fun h => absurd rfl h), fun t => by
      show rd 3 (Kd.D :: t) = [2] ++ rd 3 t
      rw [rd_one (.inl rfl) (.inr rfl) (by intro _ z; cases z)]; rfl⟩
  | R => exact ⟨3, [], 0, Sh.run (r := []) (l := some .R) (fun _ h => nomatch h) (fun h => absurd rfl h), fun t => by
      show rd 3 (Kd.R :: t) = [3] ++ rd 3 t
      rw [rd_one (.inl rfl) (.inr rfl) (by intro _ z; cases z)]; rfl⟩
  | dot => exact ⟨3, [], 0, Sh.run (r := []) (l := some .dot) (fun _ h => nomatch h) (fun h => absurd rfl h), fun t => by
      show rd 3 (Kd.dot :: t) = [0] ++ rd 3 t
      rw [rd_one (.inl rfl) (.inr rfl) (by intro _ z; cases z)]; rfl⟩
  | three => exact ⟨3, [], 0, Sh.run (r := []) (l := some .three) (fun _ h => nomatch h) (fun h => absurd rfl h), fun t => by
      show rd 3 (Kd.three :: t) = [0] ++ rd 3 t
      rw [rd_one (.inl rfl) (.inr rfl) (by intro _ z; cases z)]; rfl⟩
  | two => exact ⟨2, [], 0, Sh.two (l := some .two) (by simp), fun t => by
      show rd 3 (Kd.two :: t) = [0] ++ rd 2 t
      rw [rd_one (.inl rfl) (.inr rfl) (by intro _ z; cases z)]; rfl⟩
  | s =>
    have hr : Smalls [Kd.s] := fun x hx => by rw [List.mem_singleton.mp hx]; rfl
    exact ⟨3, [.s], 1, Sh.run (r := [.s]) (l := some .s) hr (fun _ => rfl), fun t => drop_ones (b := 1) (rd_ones hr t) (Nat.zero_le _)⟩
  | d =>
    have hr : Smalls [Kd.d] := fun x hx => by rw [List.mem_singleton.mp hx]; rfl
    exact ⟨3, [.d], 1, Sh.run (r := [.d]) (l := some .d) hr (fun _ => rfl), fun t => drop_ones (b := 1) (rd_ones hr t) (Nat.zero_le _)⟩
  | r =>
    have hr : Smalls [Kd.r] := fun x hx => by rw [List.mem_singleton.mp hx]; rfl
    exact ⟨3, [.r], 1, Sh.run (r := [.r]) (l := some .r) hr (fun _ => rfl), fun t => drop_ones (b := 1) (rd_ones hr t) (Nat.zero_le _)⟩
theorem fresh2 (l : Option Kd) (k : Kd) : Next ⟨2, [], false, false, 0, l⟩ 2 [] 0 k (tailE ⟨2, [], false, false, 0, l⟩ k) := by
  have one : ∀ k t, k ≠ .G → rd 2 (k :: t) = pw k (nm 2 k) :: rd (nm 2 k) t := fun k t hG => by
    rw [rd_one (.inr rfl) (.inl rfl) (fun z => nomatch z)]
    unfold bw
    rw [if_neg (fun z => hG z.2.1)]
  cases k with
  | G => exact ⟨2, [.G], 0, Sh.twoG, fun t => rfl⟩
  | three => exact ⟨3, [], 0, Sh.run (r := []) (l := some .three) (fun _ h => nomatch h) (fun h => absurd rfl h), fun t => one .three t (by simp)⟩
  | two => exact ⟨2, [], 0, Sh.two (l := some .two) (by simp), fun t => one .two t (by simp)⟩
  | dot => exact ⟨2, [], 0, Sh.two (l := some .dot) (by simp), fun t => one .dot t (by simp)⟩
  | D => exact ⟨2, [], 0, Sh.two (l := some .D) (by simp), fun t => one .D t (by simp)⟩
  | R => exact ⟨2, [], 0, Sh.two (l := some .R) (by simp), fun t => one .R t (by simp)⟩
  | s => exact ⟨2, [], 0, Sh.two (l := some .s) (by simp), fun t => one .s t (by simp)⟩
  | d => exact ⟨2, [], 0, Sh.two (l := some .d) (by simp), fun t => one .d t (by simp)⟩
  | r => exact ⟨2, [], 0, Sh.two (l := some .r) (by simp), fun t => one .r t (by simp)⟩
/-- what was held is settled, and nothing of it touches what comes -/
theorem next_of {e : Ea} {m m1 : Int} {P : List Kd} {T : Nat} {k : Kd} {e1 : Ea} {out : List Int} (h : settledBy e (some k) = (e1, out)) (hn : Next e1 m1 [] 0 k (tailE e1 k)) (hq : ∀ t, (rd m (P ++ k :: t)).drop T = out ++ rd m1 (k :: t)) : Next e m P T k (hearE e k) := by
  obtain ⟨m', P', T', s, q⟩ := hn
  unfold hearE
  rw [h]
  refine ⟨m', P', T', s, fun t => ?_⟩
  rw [hq t, List.append_assoc]
  congr 1
  exact q t
theorem great_small {k : Kd} (h : k.great = true) : k.small = false := by cases k <;> first | rfl | cases h
theorem cutG {k : Kd} {t : List Kd} (h : k.small = false) : Cut (k :: t) := fun c u e => by cases e; exact h
theorem smalls_snoc {r : List Kd} {k : Kd} (hr : Smalls r) (hk : k.small = true) : Smalls (r ++ [k]) := fun x hx => by
  rcases List.mem_append.mp hx with z | z
  · exact hr x z
  · rw [List.mem_singleton.mp z]; exact hk
theorem ones_snoc (n : Nat) : ones n ++ [1] = ones (n + 1) := by
  unfold ones
  rw [List.replicate_succ']
theorem pw_small {k : Kd} (h : k.small = true) (m : Int) : pw k m = 1 := by cases k <;> first | rfl | cases h
theorem small_notG {k : Kd} (h : k.small = true) : k ≠ .G := fun z => by rw [z] at h; cases h
theorem step_run {r : List Kd} {l : Option Kd} (hr : Smalls r) (hl : r ≠ [] → l = r.getLast?) (k : Kd) : Next ⟨3, heldR r, false, false, r.length, l⟩ 3 r (toldN r) k (hearE ⟨3, heldR r, false, false, r.length, l⟩ k) := by
  have hlast : r.length % 3 = 2 → l = r.getLast? := fun h => hl (fun e => by rw [e] at h; cases h)
  by_cases hk : k.small = true
  · have h1 : settledBy ⟨3, heldR r, false, false, r.length, l⟩ (some k) = (⟨3, [], false, false, r.length, l⟩, heldR r) := by
      unfold settledBy settleE
      have : smallO (some k) = true := hk
      simp [this]
    have h2 : tailE ⟨3, [], false, false, r.length, l⟩ k = (⟨3, heldR (r ++ [k]), false, false, (r ++ [k]).length, some k⟩, if hang (r ++ [k]) = true then [] else [1]) := by
      unfold tailE holdE hangs heldR hang
      rw [nm_small hk, pw_small hk, List.length_append]
      simp [hk, small_notG hk]
      by_cases e : k = .s <;> by_cases c : (r.length + 1) % 3 = 2 <;> simp [e, c]
    unfold hearE
    rw [h1]
    dsimp only
    rw [h2]
    have hr' := smalls_snoc hr hk
    refine ⟨3, r ++ [k], toldN (r ++ [k]), Sh.run hr' (fun _ => by simp), fun t => ?_⟩
    rw [show r ++ k :: t = (r ++ [k]) ++ t by simp, drop_ones (rd_ones hr' t) told_snoc_le]
    congr 1
    unfold heldR
    have e : toldN (r ++ [k]) = r.length + 1 - (if hang (r ++ [k]) = true then 1 else 0) := by unfold toldN; rw [List.length_append]; rfl
    have e2 : toldN r = r.length - (if hang r = true then 1 else 0) := rfl
    have hz : hang r = true → 0 < r.length := fun h => by
      unfold hang at h
      have := of_decide_eq_true (Bool.and_eq_true_iff.mp h).1
      omega
    by_cases a : hang r = true <;> by_cases b : hang (r ++ [k]) = true
    · exfalso
      unfold hang at a b
      have h1 := of_decide_eq_true (Bool.and_eq_true_iff.mp a).1
      have h2 := of_decide_eq_true (Bool.and_eq_true_iff.mp b).1
      rw [List.length_append] at h2
      simp at h2
      omega
    · have := hz a
      rw [if_pos a] at e2
      rw [if_neg b] at e
      rw [if_pos a, show toldN (r ++ [k]) - toldN r = 2 by omega]; show ones 2 = [1] ++ (if hang (r ++ [k]) = true then [] else [1]); rw [if_neg b]; rfl
    · rw [if_neg a] at e2
      rw [if_pos b] at e
      rw [if_neg a, show toldN (r ++ [k]) - toldN r = 0 by omega]; show ones 0 = [] ++ (if hang (r ++ [k]) = true then [] else [1]); rw [if_pos b]; rfl
    · rw [if_neg a] at e2
      rw [if_neg b] at e
      rw [if_neg a, show toldN (r ++ [k]) - toldN r = 1 by omega]; show ones 1 = [] ++ (if hang (r ++ [k]) = true then [] else [1]); rw [if_neg b]; rfl
  · have hk' : k.small = false := Bool.eq_false_iff.mpr hk
    have hsm : smallO (some k) = false := hk'
    by_cases hd : r.length % 3 = 2 ∧ l = some .s ∧ k.great = true
    · obtain ⟨c2, hs, hg⟩ := hd
      have hs' : r.getLast? = some .s := (hlast c2) ▸ hs
      have hh : hang r = true := by unfold hang; rw [decide_eq_true c2, decide_eq_true hs']; rfl
      have hgo : greatO (some k) = true := hg
      refine next_of (m1 := 3) (e1 := clean3 l) (out := [2]) ?_ (fresh3 l k) fun t => ?_
      · unfold settledBy settleE closeRun heldR
        simp [hsm, c2, hs, hgo, hh, setLast, clean3]
      · rw [rd_r hr (cutG hk') (by omega)]
        have eD : onesD r (k :: t) = ones (r.length - 1) ++ [2] := by
          unfold onesD
          rw [if_pos ⟨c2, by unfold dbl; rw [decide_eq_true hs']; exact (Bool.and_eq_true_iff.mpr ⟨hg, rfl⟩)⟩]
        rw [eD, if_neg (fun z => by omega)]
        have eT : toldN r = (ones (r.length - 1)).length := by unfold toldN; rw [if_pos hh, ones_len]
        rw [eT, List.append_assoc, List.drop_left]
    · by_cases hG : r.length % 3 = 1 ∧ k = .G
      · obtain ⟨c1, rfl⟩ := hG
        have hh : hang r = false := by unfold hang; rw [decide_eq_false (by omega)]; rfl
        have h1 : settledBy ⟨3, heldR r, false, false, r.length, l⟩ (some .G) = (⟨3, [], false, true, 0, l⟩, []) := by
          unfold settledBy settleE closeRun heldR
          simp [smallO, Kd.small, c1, hh]
        unfold hearE
        rw [h1]
        refine ⟨3, r ++ [Kd.G], r.length, Sh.right hr c1, fun t => ?_⟩
        have eT : toldN r = r.length := by unfold toldN; rw [hh]; rfl
        rw [eT, show r ++ Kd.G :: t = (r ++ [Kd.G]) ++ t by simp]
        rfl
      · refine next_of (m1 := 3) (e1 := clean3 l) (out := heldR r) ?_ (fresh3 l k) fun t => ?_
        · have hgk : ¬ (r.length % 3 = 2 ∧ l = some .s ∧ greatO (some k) = true) := hd
          have hG' : ¬ (r.length % 3 = 1 ∧ some k = some Kd.G) := fun z => hG ⟨z.1, Option.some.inj z.2⟩
          unfold settledBy settleE closeRun
          simp only [hsm, Bool.false_eq_true, if_false, hgk, hG', false_and, and_false, show ¬ ((3 : Int) = 2) by omega]
          rfl
        · by_cases h0 : 0 < r.length
          · rw [rd_r hr (cutG hk') h0, if_neg (fun z => by
              have h2 : decide ((k :: t : List Kd)[0]? = some .G) = true := (Bool.and_eq_true_iff.mp z.2).1
              exact hG ⟨z.1, by simpa using h2⟩)]
            have eD : onesD r (k :: t) = ones r.length := by
              unfold onesD
              rw [if_neg (fun z => by
                obtain ⟨z1, z2⟩ := z
                unfold dbl at z2
                obtain ⟨z3, z4⟩ := Bool.and_eq_true_iff.mp z2
                exact hd ⟨z1, (hlast z1).trans (of_decide_eq_true z4), z3⟩)]
            rw [eD]
            unfold toldN heldR
            by_cases a : hang r = true
            · rw [if_pos a, if_pos a]
              rw [List.drop_append_of_le_length (by rw [ones_len]; omega)]
              congr 1
              unfold ones
              rw [List.drop_replicate, show r.length - (r.length - 1) = 1 by omega]
              rfl
            · rw [if_neg a, if_neg a, Nat.sub_zero]
              have := List.drop_left (l₁ := ones r.length) (l₂ := rd 3 (k :: t))
              rw [ones_len] at this
              exact this
          · have : r = [] := List.length_eq_zero_iff.mp (by omega)
            subst this
            rfl
theorem lastGr {r : List Kd} (h : r ≠ []) : (Kd.G :: r).getLast? = r.getLast? := by
  cases r with
  | nil => exact absurd rfl h
  | cons a t => simp [List.getLast?_cons]
theorem step_left {r : List Kd} (hr : Smalls r) (k : Kd) : Next ⟨3, 3 :: ones r.length, true, false, r.length, (Kd.G :: r).getLast?⟩ 3 (.G :: r) 0 k (hearE ⟨3, 3 :: ones r.length, true, false, r.length, (Kd.G :: r).getLast?⟩ k) := by
  have hlast : r.length % 3 = 2 → (Kd.G :: r).getLast? = r.getLast? := fun h => lastGr (fun e => by rw [e] at h; cases h)
  by_cases hk : k.small = true
  · have h1 : settledBy ⟨3, 3 :: ones r.length, true, false, r.length, (Kd.G :: r).getLast?⟩ (some k) = (⟨3, 3 :: ones r.length, true, false, r.length, (Kd.G :: r).getLast?⟩, []) := by
      unfold settledBy settleE
      have : smallO (some k) = true := hk
      simp [this]
    have h2 : tailE ⟨3, 3 :: ones r.length, true, false, r.length, (Kd.G :: r).getLast?⟩ k = (⟨3, 3 :: ones (r ++ [k]).length, true, false, (r ++ [k]).length, (Kd.G :: (r ++ [k])).getLast?⟩, []) := by
      unfold tailE holdE hangs
      rw [nm_small hk, pw_small hk, List.length_append]
      simp [hk, small_notG hk, ones_snoc, List.getLast?_cons]
    unfold hearE
    rw [h1]
    dsimp only
    rw [h2]
    refine ⟨3, .G :: (r ++ [k]), 0, Sh.left (smalls_snoc hr hk), fun t => ?_⟩
    rw [show (Kd.G :: r) ++ k :: t = (Kd.G :: (r ++ [k])) ++ t by simp]
    rfl
  · have hk' : k.small = false := Bool.eq_false_iff.mpr hk
    have hsm : smallO (some k) = false := hk'
    generalize hL : (Kd.G :: r).getLast? = l at *
    by_cases hd : r.length % 3 = 2 ∧ l = some .s ∧ k.great = true
    · obtain ⟨c2, hs, hg⟩ := hd
      have hs' : r.getLast? = some .s := (hlast c2) ▸ hs
      have hgo : greatO (some k) = true := hg
      refine next_of (m1 := 3) (e1 := clean3 l) (out := 3 :: (ones (r.length - 1) ++ [2])) ?_ (fresh3 l k) fun t => ?_
      · have eS : setLast (3 :: ones r.length) 2 = 3 :: (ones (r.length - 1) ++ [2]) := by
          unfold setLast
          rw [List.length_cons, ones_len, Nat.add_sub_cancel, ← ones_set _ (by omega)]
          obtain ⟨c, hc⟩ : ∃ c, r.length = c + 1 := ⟨r.length - 1, by omega⟩
          rw [hc]
          rfl
        unfold settledBy settleE closeRun
        simp [hsm, c2, hs, hgo, eS, clean3]
      · rw [rd_Gr hr (cutG hk') (by omega), if_neg (by omega)]
        have hdb : dbl r (k :: t) = true := by unfold dbl; rw [decide_eq_true hs']; exact (Bool.and_eq_true_iff.mpr ⟨hg, rfl⟩)
        have eD : onesD r (k :: t) = ones (r.length - 1) ++ [2] := by unfold onesD; rw [if_pos ⟨c2, hdb⟩]
        rw [eD, if_neg (fun z => by rw [hdb] at z; cases z.2.1)]
        rfl
    · by_cases hG : r.length % 3 = 2 ∧ k = .G
      · obtain ⟨c2, rfl⟩ := hG
        have hns : r.getLast? ≠ some .s := fun z => hd ⟨c2, (hlast c2).trans z, rfl⟩
        have hnl : ¬ (l = some .s) := fun z => hns ((hlast c2) ▸ z)
        have h1 : settledBy ⟨3, 3 :: ones r.length, true, false, r.length, l⟩ (some .G) = (⟨3, 3 :: ones r.length, true, true, 0, l⟩, []) := by
          unfold settledBy settleE closeRun
          simp [smallO, Kd.small, c2, hnl]
        unfold hearE
        rw [h1]
        refine ⟨3, Kd.G :: r ++ [Kd.G], 0, Sh.both hr c2 hns, fun t => ?_⟩
        rw [show Kd.G :: r ++ Kd.G :: t = (Kd.G :: r ++ [Kd.G]) ++ t by simp]
        rfl
      · have hgk : ¬ (r.length % 3 = 2 ∧ l = some .s ∧ greatO (some k) = true) := hd
        have hG' : ¬ (r.length % 3 = 2 ∧ some k = some Kd.G) := fun z => hG ⟨z.1, Option.some.inj z.2⟩
        by_cases c1 : r.length % 3 = 1
        · refine next_of (m1 := 3) (e1 := clean3 l) (out := 2 :: ones r.length) ?_ (fresh3 l k) fun t => ?_
          · unfold settledBy settleE closeRun
            have n2 : ¬ (r.length % 3 = 2) := by omega
            simp [hsm, c1, clean3]
          · rw [rd_Gr hr (cutG hk') (by omega), if_pos c1]
            rfl
        · refine next_of (m1 := 3) (e1 := clean3 l) (out := 3 :: ones r.length) ?_ (fresh3 l k) fun t => ?_
          · unfold settledBy settleE closeRun
            simp only [hsm, Bool.false_eq_true, if_false, hgk, hG', c1, false_and, true_and, and_false, show ¬ ((3 : Int) = 2) by omega]
            rfl
          · by_cases h0 : 0 < r.length
            · rw [rd_Gr hr (cutG hk') h0, if_neg c1, if_neg (fun z => by
                have h2 : decide ((k :: t : List Kd)[0]? = some .G) = true := (Bool.and_eq_true_iff.mp z.2.2).1
                exact hG ⟨z.1, by simpa using h2⟩)]
              have eD : onesD r (k :: t) = ones r.length := by
                unfold onesD
                rw [if_neg (fun z => by
                  obtain ⟨z1, z2⟩ := z
                  unfold dbl at z2
                  obtain ⟨z3, z4⟩ := Bool.and_eq_true_iff.mp z2
                  exact hd ⟨z1, (hlast z1).trans (of_decide_eq_true z4), z3⟩)]
              rw [eD]
              rfl
            · have : r = [] := List.length_eq_zero_iff.mp (by omega)
              subst this
              show rd 3 (.G :: k :: t) = 3 :: rd 3 (k :: t)
              rw [rd_one (.inl rfl) (.inr rfl) (fun _ _ => cutG hk')]
              congr 1
theorem rightB_G {k : Kd} {t : List Kd} : rightB (.G :: k :: t) = !k.great := rfl
theorem step_right {r : List Kd} (hr : Smalls r) (h1 : r.length % 3 = 1) (k : Kd) : Next ⟨3, [3], false, true, 0, some .G⟩ 3 (r ++ [.G]) r.length k (hearE ⟨3, [3], false, true, 0, some .G⟩ k) := by
  have eD : ∀ B, onesD r B = ones r.length := fun B => by unfold onesD; rw [if_neg (fun z => by omega)]
  have dl : ∀ l : List Int, (ones r.length ++ l).drop r.length = l := fun l => by
    have := List.drop_left (l₁ := ones r.length) (l₂ := l)
    rw [ones_len] at this
    exact this
  by_cases hg : k.great = true
  · have hgo : greatO (some k) = true := hg
    refine next_of (m1 := 3) (e1 := clean3 (some .G)) (out := [3]) ?_ (fresh3 _ k) fun t => ?_
    · unfold settledBy settleE settleRight
      simp [hgo, clean3]
    · rw [show (r ++ [Kd.G]) ++ k :: t = r ++ (Kd.G :: k :: t) by simp, rd_r hr (cutG rfl) (by omega), eD, dl, if_neg (fun z => by rw [rightB_G, hg] at z; cases z.2), rd_one (.inl rfl) (.inr rfl) (fun _ _ => cutG (great_small hg))]
      rfl
  · have hg' : k.great = false := Bool.eq_false_iff.mpr hg
    have hgo : greatO (some k) = false := hg'
    refine next_of (m1 := 3) (e1 := clean3 (some .G)) (out := [2]) ?_ (fresh3 _ k) fun t => ?_
    · unfold settledBy settleE settleRight
      simp [hgo, clean3, setLast]
    · rw [show (r ++ [Kd.G]) ++ k :: t = r ++ (Kd.G :: k :: t) by simp, rd_r hr (cutG rfl) (by omega), eD, dl, if_pos ⟨h1, by rw [rightB_G, hg']; rfl⟩]
      rfl
theorem step_both {r : List Kd} (hr : Smalls r) (h2 : r.length % 3 = 2) (hs : r.getLast? ≠ some .s) (k : Kd) : Next ⟨3, 3 :: ones r.length ++ [3], true, true, 0, some .G⟩ 3 (.G :: r ++ [.G]) 0 k (hearE ⟨3, 3 :: ones r.length ++ [3], true, true, 0, some .G⟩ k) := by
  have hdb : ∀ B, dbl r B = false := fun B => by unfold dbl; rw [decide_eq_false hs, Bool.and_false]
  have eD : ∀ B, onesD r B = ones r.length := fun B => by unfold onesD; rw [if_neg (fun z => by rw [hdb] at z; cases z.2)]
  by_cases hg : k.great = true
  · have hgo : greatO (some k) = true := hg
    refine next_of (m1 := 3) (e1 := clean3 (some .G)) (out := 3 :: ones r.length ++ [3]) ?_ (fresh3 _ k) fun t => ?_
    · unfold settledBy settleE settleRight
      simp [hgo, clean3]
    · rw [show (Kd.G :: r ++ [Kd.G]) ++ k :: t = Kd.G :: r ++ (Kd.G :: k :: t) by simp, rd_Gr hr (cutG rfl) (by omega), eD, if_neg (by omega), if_neg (fun z => by rw [rightB_G, hg] at z; cases z.2.2), rd_one (.inl rfl) (.inr rfl) (fun _ _ => cutG (great_small hg))]
      simp [bw, pw, nm]
  · have hg' : k.great = false := Bool.eq_false_iff.mpr hg
    have hgo : greatO (some k) = false := hg'
    refine next_of (m1 := 3) (e1 := clean3 (some .G)) (out := 2 :: ones r.length ++ [2]) ?_ (fresh3 _ k) fun t => ?_
    · have eS : (setLast (3 :: ones r.length ++ [3]) 2).set 0 2 = 2 :: ones r.length ++ [2] := by
        unfold setLast
        have eL : ((3 : Int) :: ones r.length ++ [3]).length - 1 = ((3 : Int) :: ones r.length).length := by simp
        rw [eL, List.set_append_right _ _ (Nat.le_refl _), Nat.sub_self]
        rfl
      unfold settledBy settleE settleRight
      simp only [hgo, Bool.false_eq_true, if_false, if_true, eS, show ¬ ((3 : Int) = 2) by omega]
      rfl
    · rw [show (Kd.G :: r ++ [Kd.G]) ++ k :: t = Kd.G :: r ++ (Kd.G :: k :: t) by simp, rd_Gr hr (cutG rfl) (by omega), if_neg (by omega), if_pos ⟨h2, hdb _, by rw [rightB_G, hg']; rfl⟩]
      simp
theorem step_two {l : Option Kd} (h : l ≠ some .G) (k : Kd) : Next ⟨2, [], false, false, 0, l⟩ 2 [] 0 k (hearE ⟨2, [], false, false, 0, l⟩ k) := by
  refine next_of (m1 := 2) (e1 := ⟨2, [], false, false, 0, l⟩) (out := []) ?_ (fresh2 l k) fun t => rfl
  unfold settledBy settleE settleDot
  simp [h]
theorem step_twoG (k : Kd) : Next ⟨2, [2], false, false, 0, some .G⟩ 2 [.G] 0 k (hearE ⟨2, [2], false, false, 0, some .G⟩ k) := by
  by_cases hk : k = .dot
  · subst hk
    refine next_of (m1 := 2) (e1 := ⟨2, [], false, false, 0, some .G⟩) (out := [3]) ?_ (fresh2 _ .dot) fun t => ?_
    · unfold settledBy settleE settleDot
      simp [setLast]
    · show rd 2 (.G :: .dot :: t) = _
      rw [rd_one (.inr rfl) (.inl rfl) (fun z => nomatch z)]
      rfl
  · refine next_of (m1 := 2) (e1 := ⟨2, [], false, false, 0, some .G⟩) (out := [2]) ?_ (fresh2 _ k) fun t => ?_
    · unfold settledBy settleE settleDot
      simp [hk]
    · show rd 2 (.G :: k :: t) = _
      rw [rd_one (.inr rfl) (.inl rfl) (fun z => nomatch z)]
      show bw 2 .G (some k) :: _ = _
      unfold bw
      rw [if_neg (fun z => hk (Option.some.inj z.2.2))]
      rfl
theorem step_ear {e : Ea} {m : Int} {P : List Kd} {T : Nat} (h : Sh e m P T) (k : Kd) : Next e m P T k (hearE e k) := by
  cases h with
  | two h => exact step_two h k
  | twoG => exact step_twoG k
  | run hr hl => exact step_run hr hl k
  | left hr => exact step_left hr k
  | right hr h1 => exact step_right hr h1 k
  | both hr h2 hs => exact step_both hr h2 hs k
theorem close_run {r : List Kd} {l : Option Kd} (hr : Smalls r) : closeE ⟨3, heldR r, false, false, r.length, l⟩ = (rd 3 r).drop (toldN r) := by
  have hc : closeE ⟨3, heldR r, false, false, r.length, l⟩ = heldR r := by
    unfold closeE settledBy settleE closeRun
    simp [smallO, greatO]
  rw [hc]
  by_cases h0 : 0 < r.length
  · have e := rd_r hr (fun k t e => by cases e) h0 (B := [])
    rw [List.append_nil] at e
    have e2 : onesD r [] = ones r.length := by unfold onesD; rw [if_neg (by rintro ⟨_, z⟩; cases z)]
    rw [e, e2, if_neg (by rintro ⟨_, z⟩; cases z), rd_nil, List.append_nil]
    unfold toldN heldR ones
    rw [List.drop_replicate]
    by_cases a : hang r = true
    · rw [if_pos a, if_pos a, show r.length - (r.length - 1) = 1 by omega]; rfl
    · rw [if_neg a, if_neg a, Nat.sub_zero, Nat.sub_self]; rfl
  · have : r = [] := List.length_eq_zero_iff.mp (by omega)
    subst this
    rfl
theorem close_ear {e : Ea} {m : Int} {P : List Kd} {T : Nat} (h : Sh e m P T) : closeE e = (rd m P).drop T := by
  cases h with
  | @two l h =>
    unfold closeE settledBy settleE settleDot
    simp [rd_nil]
  | twoG =>
    show _ = rd 2 [.G]
    rw [rd_one (.inr rfl) (.inl rfl) (fun z => nomatch z)]
    rfl
  | run hr hl =>
    rename_i l
    exact close_run hr
  | @left r hr =>
    have hN : Cut ([] : List Kd) := fun k t e => by cases e
    by_cases h0 : 0 < r.length
    · have e := rd_Gr hr hN h0
      rw [List.append_nil] at e
      have e2 : onesD r [] = ones r.length := by unfold onesD; rw [if_neg (by rintro ⟨_, z⟩; cases z)]
      rw [e, e2, rd_nil, List.append_nil]
      by_cases c1 : r.length % 3 = 1
      · rw [if_pos c1]
        unfold closeE settledBy settleE closeRun
        simp [smallO, greatO, c1]
      · rw [if_neg c1, if_neg (fun z => by cases z.2.2)]
        unfold closeE settledBy settleE closeRun
        simp [smallO, greatO, c1]
    · have : r = [] := List.length_eq_zero_iff.mp (by omega)
      subst this
      show _ = rd 3 [.G]
      rw [rd_one (.inl rfl) (.inr rfl) (fun _ _ => hN)]
      rfl
  | @right r hr h1 =>
    have e := rd_r hr (cutG rfl) (by omega) (B := [.G])
    have e2 : onesD r [.G] = ones r.length := by unfold onesD; rw [if_neg (by rintro ⟨z, _⟩; omega)]
    rw [e, e2, if_pos ⟨h1, rfl⟩]
    have := List.drop_left (l₁ := ones r.length) (l₂ := 2 :: rd 3 [])
    rw [ones_len] at this
    rw [show ([Kd.G] : List Kd).tail = [] from rfl, this]
    rfl
  | @both r hr h2 hs =>
    have e := rd_Gr hr (cutG rfl) (by omega) (B := [.G])
    have hdb : dbl r [.G] = false := by unfold dbl; rw [decide_eq_false hs, Bool.and_false]
    rw [e, if_neg (by omega), if_pos ⟨h2, hdb, rfl⟩]
    have eS : (setLast (3 :: ones r.length ++ [3]) 2).set 0 2 = 2 :: ones r.length ++ [2] := by
      unfold setLast
      have eL : ((3 : Int) :: ones r.length ++ [3]).length - 1 = ((3 : Int) :: ones r.length).length := by simp
      rw [eL, List.set_append_right _ _ (Nat.le_refl _), Nat.sub_self]
      rfl
    unfold closeE settledBy settleE settleRight
    simp only [greatO, Bool.false_eq_true, if_false, if_true, eS, show ¬ ((3 : Int) = 2) by omega]
    show _ = 2 :: (ones r.length ++ 2 :: rd 3 [])
    rw [rd_nil]
    simp
def runE (e : Ea) : List Kd → List Int
  | [] => closeE e
  | k :: t => (hearE e k).2 ++ runE (hearE e k).1 t
/-- the ear behind a beginning, and what it has told -/
def earAt (m : Int) : List Kd → Ea
  | [] => initE m
  | k :: t => (k :: t).foldl (fun e k => (hearE e k).1) (initE m)
end Mine

set_option maxHeartbeats 1000000
namespace Mine
open PySem L2
theorem lk_hit {k : Str} {v : V} {r : List (Str × V)} : ((k, v) :: r).lookup k = some v := by simp [List.lookup]
theorem lk_miss {k g : Str} {v : V} {r : List (Str × V)} (h : ¬ g = k) : ((k, v) :: r).lookup g = r.lookup g := by
  have : (g == k) = false := beq_eq_false_iff_ne.mpr h
  simp [List.lookup, this]
theorem pf_hit {k : Str} {v y : V} {r : List (Str × V)} : putF k y ((k, v) :: r) = (k, y) :: r := if_pos rfl
theorem pf_miss {k g : Str} {x y : V} {r : List (Str × V)} (h : ¬ g = k) : putF k y ((g, x) :: r) = (g, x) :: putF k y r := if_neg h
/-! ### an ear as an object -/
def eaF (e : Ea) (D : Addr) (c : Bool) : List (Str × V) := [("measure", V.int e.m), ("held", V.ref D), ("left", V.bl e.left), ("right", V.bl e.right), ("counted", V.int (e.cnt : Int)), ("last", V.str (okstr e.last)), ("is_closed", V.bl c)]
theorem eaF_measure (e : Ea) (D : Addr) (c : Bool) : (eaF e D c).lookup ("measure" : Str) = some (V.int e.m) := lk_hit
theorem eaF_put_measure (e : Ea) (D : Addr) (c : Bool) (y : V) : putF "measure" y (eaF e D c) = ([("measure", y), ("held", V.ref D), ("left", V.bl e.left), ("right", V.bl e.right), ("counted", V.int (e.cnt : Int)), ("last", V.str (okstr e.last)), ("is_closed", V.bl c)] : List (Str × V)) := pf_hit
theorem eaF_held (e : Ea) (D : Addr) (c : Bool) : (eaF e D c).lookup ("held" : Str) = some (V.ref D) := (lk_miss (by decide +kernel)).trans (lk_hit)
theorem eaF_put_held (e : Ea) (D : Addr) (c : Bool) (y : V) : putF "held" y (eaF e D c) = ([("measure", V.int e.m), ("held", y), ("left", V.bl e.left), ("right", V.bl e.right), ("counted", V.int (e.cnt : Int)), ("last", V.str (okstr e.last)), ("is_closed", V.bl c)] : List (Str × V)) := (pf_miss (by decide +kernel)).trans (congrArg _ (pf_hit))
theorem eaF_left (e : Ea) (D : Addr) (c : Bool) : (eaF e D c).lookup ("left" : Str) = some (V.bl e.left) := (lk_miss (by decide +kernel)).trans ((lk_miss (by decide +kernel)).trans (lk_hit))
theorem eaF_put_left (e : Ea) (D : Addr) (c : Bool) (y : V) : putF "left" y (eaF e D c) = ([("measure", V.int e.m), ("held", V.ref D), ("left", y), ("right", V.bl e.right), ("counted", V.int (e.cnt : Int)), ("last", V.str (okstr e.last)), ("is_closed", V.bl c)] : List (Str × V)) := (pf_miss (by decide +kernel)).trans (congrArg _ ((pf_miss (by decide +kernel)).trans (congrArg _ (pf_hit))))
theorem eaF_right (e : Ea) (D : Addr) (c : Bool) : (eaF e D c).lookup ("right" : Str) = some (V.bl e.right) := (lk_miss (by decide +kernel)).trans ((lk_miss (by decide +kernel)).trans ((lk_miss (by decide +kernel)).trans (lk_hit)))
theorem eaF_put_right (e : Ea) (D : Addr) (c : Bool) (y : V) : putF "right" y (eaF e D c) = ([("measure", V.int e.m), ("held", V.ref D), ("left", V.bl e.left), ("right", y), ("counted", V.int (e.cnt : Int)), ("last", V.str (okstr e.last)), ("is_closed", V.bl c)] : List (Str × V)) := (pf_miss (by decide +kernel)).trans (congrArg _ ((pf_miss (by decide +kernel)).trans (congrArg _ ((pf_miss (by decide +kernel)).trans (congrArg _ (pf_hit))))))
theorem eaF_counted (e : Ea) (D : Addr) (c : Bool) : (eaF e D c).lookup ("counted" : Str) = some (V.int (e.cnt : Int)) := (lk_miss (by decide +kernel)).trans ((lk_miss (by decide +kernel)).trans ((lk_miss (by decide +kernel)).trans ((lk_miss (by decide +kernel)).trans (lk_hit))))
theorem eaF_put_counted (e : Ea) (D : Addr) (c : Bool) (y : V) : putF "counted" y (eaF e D c) = ([("measure", V.int e.m), ("held", V.ref D), ("left", V.bl e.left), ("right", V.bl e.right), ("counted", y), ("last", V.str (okstr e.last)), ("is_closed", V.bl c)] : List (Str × V)) := (pf_miss (by decide +kernel)).trans (congrArg _ ((pf_miss (by decide +kernel)).trans (congrArg _ ((pf_miss (by decide +kernel)).trans (congrArg _ ((pf_miss (by decide +kernel)).trans (congrArg _ (pf_hit))))))))
theorem eaF_last (e : Ea) (D : Addr) (c : Bool) : (eaF e D c).lookup ("last" : Str) = some (V.str (okstr e.last)) := (lk_miss (by decide +kernel)).trans ((lk_miss (by decide +kernel)).trans ((lk_miss (by decide +kernel)).trans ((lk_miss (by decide +kernel)).trans ((lk_miss (by decide +kernel)).trans (lk_hit)))))
theorem eaF_put_last (e : Ea) (D : Addr) (c : Bool) (y : V) : putF "last" y (eaF e D c) = ([("measure", V.int e.m), ("held", V.ref D), ("left", V.bl e.left), ("right", V.bl e.right), ("counted", V.int (e.cnt : Int)), ("last", y), ("is_closed", V.bl c)] : List (Str × V)) := (pf_miss (by decide +kernel)).trans (congrArg _ ((pf_miss (by decide +kernel)).trans (congrArg _ ((pf_miss (by decide +kernel)).trans (congrArg _ ((pf_miss (by decide +kernel)).trans (congrArg _ ((pf_miss (by decide +kernel)).trans (congrArg _ (pf_hit))))))))))
theorem eaF_is_closed (e : Ea) (D : Addr) (c : Bool) : (eaF e D c).lookup ("is_closed" : Str) = some (V.bl c) := (lk_miss (by decide +kernel)).trans ((lk_miss (by decide +kernel)).trans ((lk_miss (by decide +kernel)).trans ((lk_miss (by decide +kernel)).trans ((lk_miss (by decide +kernel)).trans ((lk_miss (by decide +kernel)).trans (lk_hit))))))
theorem eaF_put_is_closed (e : Ea) (D : Addr) (c : Bool) (y : V) : putF "is_closed" y (eaF e D c) = ([("measure", V.int e.m), ("held", V.ref D), ("left", V.bl e.left), ("right", V.bl e.right), ("counted", V.int (e.cnt : Int)), ("last", V.str (okstr e.last)), ("is_closed", y)] : List (Str × V)) := (pf_miss (by decide +kernel)).trans (congrArg _ ((pf_miss (by decide +kernel)).trans (congrArg _ ((pf_miss (by decide +kernel)).trans (congrArg _ ((pf_miss (by decide +kernel)).trans (congrArg _ ((pf_miss (by decide +kernel)).trans (congrArg _ ((pf_miss (by decide +kernel)).trans (congrArg _ (pf_hit))))))))))))
theorem eaF_no_hear (e : Ea) (D : Addr) (c : Bool) : (eaF e D c).lookup ("hear" : Str) = none := (lk_miss (by decide +kernel)).trans ((lk_miss (by decide +kernel)).trans ((lk_miss (by decide +kernel)).trans ((lk_miss (by decide +kernel)).trans ((lk_miss (by decide +kernel)).trans ((lk_miss (by decide +kernel)).trans ((lk_miss (by decide +kernel)).trans (rfl)))))))
theorem eaF_no_close (e : Ea) (D : Addr) (c : Bool) : (eaF e D c).lookup ("close" : Str) = none := (lk_miss (by decide +kernel)).trans ((lk_miss (by decide +kernel)).trans ((lk_miss (by decide +kernel)).trans ((lk_miss (by decide +kernel)).trans ((lk_miss (by decide +kernel)).trans ((lk_miss (by decide +kernel)).trans ((lk_miss (by decide +kernel)).trans (rfl)))))))
theorem eaF_no_waiting (e : Ea) (D : Addr) (c : Bool) : (eaF e D c).lookup ("waiting" : Str) = none := (lk_miss (by decide +kernel)).trans ((lk_miss (by decide +kernel)).trans ((lk_miss (by decide +kernel)).trans ((lk_miss (by decide +kernel)).trans ((lk_miss (by decide +kernel)).trans ((lk_miss (by decide +kernel)).trans ((lk_miss (by decide +kernel)).trans (rfl)))))))
theorem eaF_no_refuse_where_closed (e : Ea) (D : Addr) (c : Bool) : (eaF e D c).lookup ("refuse_where_closed" : Str) = none := (lk_miss (by decide +kernel)).trans ((lk_miss (by decide +kernel)).trans ((lk_miss (by decide +kernel)).trans ((lk_miss (by decide +kernel)).trans ((lk_miss (by decide +kernel)).trans ((lk_miss (by decide +kernel)).trans ((lk_miss (by decide +kernel)).trans (rfl)))))))
theorem eaF_no_settled_by (e : Ea) (D : Addr) (c : Bool) : (eaF e D c).lookup ("settled_by" : Str) = none := (lk_miss (by decide +kernel)).trans ((lk_miss (by decide +kernel)).trans ((lk_miss (by decide +kernel)).trans ((lk_miss (by decide +kernel)).trans ((lk_miss (by decide +kernel)).trans ((lk_miss (by decide +kernel)).trans ((lk_miss (by decide +kernel)).trans (rfl)))))))
theorem eaF_no_settle_dotted (e : Ea) (D : Addr) (c : Bool) : (eaF e D c).lookup ("settle_dotted" : Str) = none := (lk_miss (by decide +kernel)).trans ((lk_miss (by decide +kernel)).trans ((lk_miss (by decide +kernel)).trans ((lk_miss (by decide +kernel)).trans ((lk_miss (by decide +kernel)).trans ((lk_miss (by decide +kernel)).trans ((lk_miss (by decide +kernel)).trans (rfl)))))))
theorem eaF_no_settle_right (e : Ea) (D : Addr) (c : Bool) : (eaF e D c).lookup ("settle_right" : Str) = none := (lk_miss (by decide +kernel)).trans ((lk_miss (by decide +kernel)).trans ((lk_miss (by decide +kernel)).trans ((lk_miss (by decide +kernel)).trans ((lk_miss (by decide +kernel)).trans ((lk_miss (by decide +kernel)).trans ((lk_miss (by decide +kernel)).trans (rfl)))))))
theorem eaF_no_close_run (e : Ea) (D : Addr) (c : Bool) : (eaF e D c).lookup ("close_run" : Str) = none := (lk_miss (by decide +kernel)).trans ((lk_miss (by decide +kernel)).trans ((lk_miss (by decide +kernel)).trans ((lk_miss (by decide +kernel)).trans ((lk_miss (by decide +kernel)).trans ((lk_miss (by decide +kernel)).trans ((lk_miss (by decide +kernel)).trans (rfl)))))))
theorem eaF_no_hold (e : Ea) (D : Addr) (c : Bool) : (eaF e D c).lookup ("hold" : Str) = none := (lk_miss (by decide +kernel)).trans ((lk_miss (by decide +kernel)).trans ((lk_miss (by decide +kernel)).trans ((lk_miss (by decide +kernel)).trans ((lk_miss (by decide +kernel)).trans ((lk_miss (by decide +kernel)).trans ((lk_miss (by decide +kernel)).trans (rfl)))))))
theorem eaF_no_hangs (e : Ea) (D : Addr) (c : Bool) : (eaF e D c).lookup ("hangs" : Str) = none := (lk_miss (by decide +kernel)).trans ((lk_miss (by decide +kernel)).trans ((lk_miss (by decide +kernel)).trans ((lk_miss (by decide +kernel)).trans ((lk_miss (by decide +kernel)).trans ((lk_miss (by decide +kernel)).trans ((lk_miss (by decide +kernel)).trans (rfl)))))))
theorem eaF_no_let_go (e : Ea) (D : Addr) (c : Bool) : (eaF e D c).lookup ("let_go" : Str) = none := (lk_miss (by decide +kernel)).trans ((lk_miss (by decide +kernel)).trans ((lk_miss (by decide +kernel)).trans ((lk_miss (by decide +kernel)).trans ((lk_miss (by decide +kernel)).trans ((lk_miss (by decide +kernel)).trans ((lk_miss (by decide +kernel)).trans (rfl)))))))
theorem eaF_mk0 (v0 : V) : putF "measure" v0 ([] : List (Str × V)) = ([("measure", v0)] : List (Str × V)) := rfl
theorem eaF_mk1 (v0 v1 : V) : putF "held" v1 ([("measure", v0)] : List (Str × V)) = ([("measure", v0), ("held", v1)] : List (Str × V)) := (pf_miss (by decide +kernel)).trans (congrArg _ (rfl))
theorem eaF_mk2 (v0 v1 v2 : V) : putF "left" v2 ([("measure", v0), ("held", v1)] : List (Str × V)) = ([("measure", v0), ("held", v1), ("left", v2)] : List (Str × V)) := (pf_miss (by decide +kernel)).trans (congrArg _ ((pf_miss (by decide +kernel)).trans (congrArg _ (rfl))))
theorem eaF_mk3 (v0 v1 v2 v3 : V) : putF "right" v3 ([("measure", v0), ("held", v1), ("left", v2)] : List (Str × V)) = ([("measure", v0), ("held", v1), ("left", v2), ("right", v3)] : List (Str × V)) := (pf_miss (by decide +kernel)).trans (congrArg _ ((pf_miss (by decide +kernel)).trans (congrArg _ ((pf_miss (by decide +kernel)).trans (congrArg _ (rfl))))))
theorem eaF_mk4 (v0 v1 v2 v3 v4 : V) : putF "counted" v4 ([("measure", v0), ("held", v1), ("left", v2), ("right", v3)] : List (Str × V)) = ([("measure", v0), ("held", v1), ("left", v2), ("right", v3), ("counted", v4)] : List (Str × V)) := (pf_miss (by decide +kernel)).trans (congrArg _ ((pf_miss (by decide +kernel)).trans (congrArg _ ((pf_miss (by decide +kernel)).trans (congrArg _ ((pf_miss (by decide +kernel)).trans (congrArg _ (rfl))))))))
theorem eaF_mk5 (v0 v1 v2 v3 v4 v5 : V) : putF "last" v5 ([("measure", v0), ("held", v1), ("left", v2), ("right", v3), ("counted", v4)] : List (Str × V)) = ([("measure", v0), ("held", v1), ("left", v2), ("right", v3), ("counted", v4), ("last", v5)] : List (Str × V)) := (pf_miss (by decide +kernel)).trans (congrArg _ ((pf_miss (by decide +kernel)).trans (congrArg _ ((pf_miss (by decide +kernel)).trans (congrArg _ ((pf_miss (by decide +kernel)).trans (congrArg _ ((pf_miss (by decide +kernel)).trans (congrArg _ (rfl))))))))))
theorem eaF_mk6 (v0 v1 v2 v3 v4 v5 v6 : V) : putF "is_closed" v6 ([("measure", v0), ("held", v1), ("left", v2), ("right", v3), ("counted", v4), ("last", v5)] : List (Str × V)) = ([("measure", v0), ("held", v1), ("left", v2), ("right", v3), ("counted", v4), ("last", v5), ("is_closed", v6)] : List (Str × V)) := (pf_miss (by decide +kernel)).trans (congrArg _ ((pf_miss (by decide +kernel)).trans (congrArg _ ((pf_miss (by decide +kernel)).trans (congrArg _ ((pf_miss (by decide +kernel)).trans (congrArg _ ((pf_miss (by decide +kernel)).trans (congrArg _ ((pf_miss (by decide +kernel)).trans (congrArg _ (rfl))))))))))))
/-- the ear e at x, its list at D -/
def EarAt (C : Addr) (H : Hp) (x : Addr) (e : Ea) (D : Addr) (c : Bool) : Prop := (∃ dx, H x = some (.ins C dx (eaF e D c))) ∧ H D = some (.lst (e.held.map V.int))
/-- all is as it was but at two places -/
def Kp (x D : Addr) (H H' : Hp) : Prop := ∀ b o, H b = some o → b ≠ x → b ≠ D → H' b = some o
theorem Kp.refl {x D : Addr} {H : Hp} : Kp x D H H := fun _ _ h _ _ => h
theorem Kp.trans {x D : Addr} {H H1 H2 : Hp} (a : Kp x D H H1) (b : Kp x D H1 H2) : Kp x D H H2 := fun c o h h1 h2 => b c o (a c o h h1 h2) h1 h2
theorem Kp.x {x D : Addr} {H : Hp} {o : HO} : Kp x D H (upd H x o) := fun b o h h1 _ => by rw [upd_ne h1]; exact h
theorem Kp.d {x D : Addr} {H : Hp} {o : HO} : Kp x D H (upd H D o) := fun b o h _ h2 => by rw [upd_ne h2]; exact h
theorem Kp.same {x D : Addr} {H H' : Hp} (s : Same H H') : Kp x D H H' := fun b o h _ _ => s b o h
theorem EarAt.ne {C : Addr} {H : Hp} {x D : Addr} {e : Ea} {c : Bool} (h : EarAt C H x e D c) : x ≠ D := by
  obtain ⟨⟨dx, h1⟩, h2⟩ := h
  exact ne_of h1 h2 (by intro z; cases z)
theorem EarAt.same {C : Addr} {H H' : Hp} {x D : Addr} {e : Ea} {c : Bool} (h : EarAt C H x e D c) (s : Same H H') : EarAt C H' x e D c := by
  obtain ⟨⟨dx, h1⟩, h2⟩ := h
  exact ⟨⟨dx, s _ _ h1⟩, s _ _ h2⟩
theorem EarAt.kp {C : Addr} {H H' : Hp} {x D y E : Addr} {e : Ea} {c : Bool} (h : EarAt C H x e D c) (k : Kp y E H H') (h1 : x ≠ y) (h2 : x ≠ E) (h3 : D ≠ y) (h4 : D ≠ E) : EarAt C H' x e D c := by
  obtain ⟨⟨dx, a⟩, b⟩ := h
  exact ⟨⟨dx, k _ _ a h1 h2⟩, k _ _ b h3 h4⟩
theorem negOne {n : Nat} (h : 0 < n) : ixN n (-1) = some (n - 1) := by
  unfold ixN
  rw [if_neg (by omega), if_pos (by omega)]
  congr 1
  omega
theorem close_held {e : Ea} {m : Int} {P : List Kd} {T : Nat} (h : Sh e m P T) : (settledBy e none).1.held = [] := by
  have hl : (settleE e none).left = false := by
    cases h with
    | two h =>
      unfold settleE settleDot
      simp
    | twoG => rfl
    | run hr hl =>
      unfold settleE closeRun
      simp [smallO, greatO]
    | left hr =>
      unfold settleE closeRun
      simp only [smallO, greatO, Bool.false_eq_true, if_false, and_false, show ¬ ((3 : Int) = 2) by omega, reduceCtorEq]
      split <;> rfl
    | right hr h1 => rfl
    | both hr h2 hs => rfl
  unfold settledBy
  rw [hl, if_neg Bool.false_ne_true]
/-- what was there ahead of an ear stays -/
theorem Same.kp {H H1 H2 : Hp} {x D : Addr} (s : Same H H1) (k : Kp x D H1 H2) (hx : H x = none) (hD : H D = none) : Same H H2 := fun b o h => k b o (s b o h) (ne_of_none h hx) (ne_of_none h hD)
/-- an ear has heard i signs of a line and told tv -/
def Told (b : Int) (ks : List Kd) (i : Nat) (e : Ea) (tv : List Int) : Prop := (∃ m P T, Sh e m P T ∧ tv ++ (rd m (P ++ ks.drop i)).drop T = rd b ks) ∧ tv.length + e.held.length = i
theorem told_init {b : Int} (hb : Ms b) (ks : List Kd) : Told b ks 0 (initE b) [] := ⟨⟨b, [], 0, sh_init hb, rfl⟩, rfl⟩
theorem Told.sh {b : Int} {ks : List Kd} {i : Nat} {e : Ea} {tv : List Int} (h : Told b ks i e tv) : ∃ m P T, Sh e m P T := let ⟨⟨m, P, T, s, _⟩, _⟩ := h; ⟨m, P, T, s⟩
theorem hear_len' (e : Ea) (k : Kd) : (hearE e k).1.held.length + (hearE e k).2.length = e.held.length + 1 := by
  have h1 : (settledBy e (some k)).1.held.length + (settledBy e (some k)).2.length = e.held.length := by
    have h : (settleE e (some k)).held.length = e.held.length := by
      unfold settleE settleDot settleRight closeRun setLast
      repeat' split
      all_goals simp
    unfold settledBy
    split
    · simp [h]
    · simp [h]
  have h2 : (tailE (settledBy e (some k)).1 k).1.held.length + (tailE (settledBy e (some k)).1 k).2.length = (settledBy e (some k)).1.held.length + 1 := by
    generalize (settledBy e (some k)).1 = f
    have h : (holdE { f with m := nm f.m k } k).held.length = f.held.length + 1 := by
      unfold holdE
      simp
    unfold tailE
    split
    · simpa using h
    · simpa using h
  unfold hearE
  simp only [List.length_append]
  omega
theorem told_step {b : Int} {ks : List Kd} {i : Nat} {e : Ea} {tv : List Int} {k : Kd} (h : Told b ks i e tv) (hk : ks[i]? = some k) : Told b ks (i + 1) (hearE e k).1 (tv ++ (hearE e k).2) ∧ ∃ rest, rd b ks = tv ++ ((hearE e k).2 ++ rest) := by
  obtain ⟨⟨m, P, T, s, q⟩, hl⟩ := h
  obtain ⟨m', P', T', s', q'⟩ := step_ear s k
  rw [drop_at hk, q'] at q
  refine ⟨⟨⟨m', P', T', s', by rw [List.append_assoc]; exact q⟩, ?_⟩, _, q.symm⟩
  have := hear_len' e k
  rw [List.length_append]
  omega
theorem told_end {b : Int} {ks : List Kd} {e : Ea} {tv : List Int} (h : Told b ks ks.length e tv) : tv ++ closeE e = rd b ks := by
  obtain ⟨⟨m, P, T, s, q⟩, _⟩ := h
  rw [close_ear s, ← q, List.drop_length, List.append_nil]
end Mine

set_option maxHeartbeats 1000000
namespace Mine
open PySem L2
/-- an ear has heard a beginning and told tv, whatever comes -/
def ToldA (b : Int) (pre : List Kd) (e : Ea) (tv : List Int) : Prop := (∃ m P T, Sh e m P T ∧ ∀ t, tv ++ (rd m (P ++ t)).drop T = rd b (pre ++ t)) ∧ tv.length + e.held.length = pre.length
def bhK : List (List Kd) := [[], [.dot], [.R], [.d], [.d, .d]]
/-- the worths met, each once -/
def meet (m : List Int) (w : Int) : List Int := if w ∈ m then m else m ++ [w]
/-- lists of signs in the heap, new -/
def BhN (H0 H : Hp) (v : V) (bh : List Sg) : Prop := ∃ p ys, v = .ref p ∧ H0 p = none ∧ H p = some (.lst ys) ∧ Sgs H ys bh
def bhS : List (List Sg) := [[], [(.dot, 0)], [(.R, 0)], [(.d, 1)], [(.d, 1), (.d, 1)]]
/-- the worths of the first sign that is held back -/
def firsts (e : Ea) : List Int := bhK.map fun k => (runE e k).head?.getD 0
end Mine


set_option maxHeartbeats 1000000
local macro_rules | `(tactic| array_get_dec) => `(tactic| first
  | refine ⟨_, rfl, ?_⟩
  | refine ⟨_, _, rfl, rfl, ⟨by decide, by decide⟩, ?_⟩
  | refine ⟨_, _, rfl, rfl, (by first | decide | (show (0 : Int) < _; decide)), ?_⟩
  | refine .inl ⟨_, _, rfl, rfl, .inr ⟨by decide, by decide⟩, ?_⟩
  | refine ⟨_, _, rfl, rfl, ?_⟩
  | refine .inl ⟨_, _, rfl, rfl, ?_⟩
  | refine .inl ⟨rfl, ?_⟩
  | refine .inr ⟨_, _, rfl, rfl, ?_⟩
  | refine Mine.ix0 (by assumption) ?_
  | refine Mine.ix1 (by assumption) ?_)

namespace Mine
open PySem L2
def top (i : Nat) : Stmt := PySem.Challenge.pw_noteworth_k20_closed_ears.main.body.getD i (.Pass ⟨0, 0, 0, 0⟩)
abbrev s_l_sign_by : Stmt := top 24
abbrev s_l_cell_at : Stmt := top 21
abbrev s_l_mixed : Stmt := top 22
abbrev s_l_numbers : Stmt := top 23
abbrev s_l_line : Stmt := top 25
abbrev s_l_begin : Stmt := top 29
abbrev s_Ear___init__ : Stmt := inClass (top 19) 0
abbrev s_Ear_refuse_where_closed : Stmt := inClass (top 19) 4
abbrev s_Ear_let_go : Stmt := inClass (top 19) 11
abbrev s_Ear_settle_dotted : Stmt := inClass (top 19) 6
abbrev s_Ear_settle_right : Stmt := inClass (top 19) 7
abbrev s_Ear_close_run : Stmt := inClass (top 19) 8
abbrev s_Ear_settled_by : Stmt := inClass (top 19) 5
abbrev s_Ear_close : Stmt := inClass (top 19) 2
abbrev s_l_many : Stmt := top 26
abbrev s_sets_measure : Stmt := top 9
abbrev s_plain_worth : Stmt := top 16
abbrev s_Ear_hold : Stmt := inClass (top 19) 9
abbrev s_Ear_hangs : Stmt := inClass (top 19) 10
abbrev s_Ear_hear : Stmt := inClass (top 19) 1
abbrev s_l_whole : Stmt := top 27
abbrev s_l_nums : Stmt := top 28
abbrev s_l_close_refused : Stmt := top 35
abbrev s_l_hear_refused : Stmt := top 34
abbrev s_Ear_waiting : Stmt := inClass (top 19) 3
abbrev s_l_base : Stmt := top 30
abbrev s_l_three : Stmt := top 31
abbrev s_l_run : Stmt := top 32
abbrev s_l_read : Stmt := top 33
abbrev s_law : Stmt := top 36
theorem sc_l_sign_by : FnScope ["_law_number", "_law_kind"] ["_law_number"] (defScope s_l_sign_by) := ⟨rfl, rfl, rfl, by decide +kernel, rfl, by decide +kernel, by decide +kernel⟩
theorem sc_l_cell_at : FnScope ["_law_script", "_law_k"] ["_law_script", "_law_k"] (defScope s_l_cell_at) := ⟨rfl, rfl, rfl, by decide +kernel, rfl, by decide +kernel, by decide +kernel⟩
theorem sc_l_mixed : FnScope ["_law_seed", "_law_k", "_law_one", "_law_two"] ["_law_seed", "_law_k"] (defScope s_l_mixed) := ⟨rfl, rfl, rfl, by decide +kernel, rfl, by decide +kernel, by decide +kernel⟩
theorem sc_l_numbers : FnScope ["_law_script", "_law_at", "_law_many_here", "_law_seed", "_law_left", "_law_row"] ["_law_script", "_law_at", "_law_many_here"] (defScope s_l_numbers) := ⟨rfl, rfl, rfl, by decide +kernel, rfl, by decide +kernel, by decide +kernel⟩
theorem sc_l_line : FnScope ["_law_script", "_law_at", "_law_many_here"] ["_law_script", "_law_at", "_law_many_here"] (defScope s_l_line) := ⟨rfl, rfl, rfl, by decide +kernel, rfl, by decide +kernel, by decide +kernel⟩
theorem sc_l_begin : FnScope ["_law_cell"] ["_law_cell"] (defScope s_l_begin) := ⟨rfl, rfl, rfl, by decide +kernel, rfl, by decide +kernel, by decide +kernel⟩
theorem sc_Ear___init__ : FnScope ["self", "begin"] ["self", "begin"] (defScope s_Ear___init__) := ⟨rfl, rfl, rfl, by decide +kernel, rfl, by decide +kernel, by decide +kernel⟩
theorem sc_Ear_refuse_where_closed : FnScope ["self"] ["self"] (defScope s_Ear_refuse_where_closed) := ⟨rfl, rfl, rfl, by decide +kernel, rfl, by decide +kernel, by decide +kernel⟩
theorem sc_Ear_let_go : FnScope ["self", "settled"] ["self"] (defScope s_Ear_let_go) := ⟨rfl, rfl, rfl, by decide +kernel, rfl, by decide +kernel, by decide +kernel⟩
theorem sc_Ear_settle_dotted : FnScope ["self", "kind"] ["self", "kind"] (defScope s_Ear_settle_dotted) := ⟨rfl, rfl, rfl, by decide +kernel, rfl, by decide +kernel, by decide +kernel⟩
theorem sc_Ear_settle_right : FnScope ["self", "kind"] ["self", "kind"] (defScope s_Ear_settle_right) := ⟨rfl, rfl, rfl, by decide +kernel, rfl, by decide +kernel, by decide +kernel⟩
theorem sc_Ear_close_run : FnScope ["self", "kind", "rest"] ["self", "kind"] (defScope s_Ear_close_run) := ⟨rfl, rfl, rfl, by decide +kernel, rfl, by decide +kernel, by decide +kernel⟩
theorem sc_Ear_settled_by : FnScope ["self", "kind"] ["self", "kind"] (defScope s_Ear_settled_by) := ⟨rfl, rfl, rfl, by decide +kernel, rfl, by decide +kernel, by decide +kernel⟩
theorem sc_Ear_close : FnScope ["self"] ["self"] (defScope s_Ear_close) := ⟨rfl, rfl, rfl, by decide +kernel, rfl, by decide +kernel, by decide +kernel⟩
theorem sc_l_many : FnScope ["_law_cell"] ["_law_cell"] (defScope s_l_many) := ⟨rfl, rfl, rfl, by decide +kernel, rfl, by decide +kernel, by decide +kernel⟩
theorem sc_sets_measure : FnScope ["sign"] ["sign"] (defScope s_sets_measure) := ⟨rfl, rfl, rfl, by decide +kernel, rfl, by decide +kernel, by decide +kernel⟩
theorem sc_plain_worth : FnScope ["kind", "measure"] ["kind", "measure"] (defScope s_plain_worth) := ⟨rfl, rfl, rfl, by decide +kernel, rfl, by decide +kernel, by decide +kernel⟩
theorem sc_Ear_hold : FnScope ["self", "kind"] ["self", "kind"] (defScope s_Ear_hold) := ⟨rfl, rfl, rfl, by decide +kernel, rfl, by decide +kernel, by decide +kernel⟩
theorem sc_Ear_hangs : FnScope ["self", "may_double"] ["self"] (defScope s_Ear_hangs) := ⟨rfl, rfl, rfl, by decide +kernel, rfl, by decide +kernel, by decide +kernel⟩
theorem sc_Ear_hear : FnScope ["self", "sign", "settled"] ["self", "sign"] (defScope s_Ear_hear) := ⟨rfl, rfl, rfl, by decide +kernel, rfl, by decide +kernel, by decide +kernel⟩
theorem sc_l_whole : FnScope ["_law_found"] ["_law_found"] (defScope s_l_whole) := ⟨rfl, rfl, rfl, by decide +kernel, rfl, by decide +kernel, by decide +kernel⟩
theorem sc_l_nums : FnScope ["_law_found", "_law_due", "_law_k"] ["_law_found", "_law_due"] (defScope s_l_nums) := ⟨rfl, rfl, rfl, by decide +kernel, rfl, by decide +kernel, by decide +kernel⟩
theorem sc_l_close_refused : FnScope ["_law_hark", "e"] ["_law_hark"] (defScope s_l_close_refused) := ⟨rfl, rfl, rfl, by decide +kernel, rfl, by decide +kernel, by decide +kernel⟩
theorem sc_l_hear_refused : FnScope ["_law_hark", "_law_sign", "e"] ["_law_hark", "_law_sign"] (defScope s_l_hear_refused) := ⟨rfl, rfl, rfl, by decide +kernel, rfl, by decide +kernel, by decide +kernel⟩
theorem sc_Ear_waiting : FnScope ["self"] ["self"] (defScope s_Ear_waiting) := ⟨rfl, rfl, rfl, by decide +kernel, rfl, by decide +kernel, by decide +kernel⟩
theorem sc_l_base : FnScope ["_law_line_here", "_law_begin_here", "_law_told", "_law_now", "_law_at", "_law_kind"] ["_law_line_here", "_law_begin_here"] (defScope s_l_base) := ⟨rfl, rfl, rfl, by decide +kernel, rfl, by decide +kernel, by decide +kernel⟩
theorem sc_l_three : FnScope ["_law_line_here", "_law_begin_here", "_law_told", "_law_now", "_law_sign"] ["_law_line_here", "_law_begin_here"] (defScope s_l_three) := ⟨rfl, rfl, rfl, by decide +kernel, rfl, by decide +kernel, by decide +kernel⟩
theorem sc_l_run : FnScope ["_law_line_here", "_law_told", "_law_low", "_law_high", "_law_rest", "_law_behind", "_law_after", "_law_left", "_law_right"] ["_law_line_here", "_law_told", "_law_low", "_law_high"] (defScope s_l_run) := ⟨rfl, rfl, rfl, by decide +kernel, rfl, by decide +kernel, by decide +kernel⟩
theorem sc_l_read : FnScope ["_law_line_here", "_law_begin_here", "_law_told", "_law_three_here", "_law_left", "_law_low", "_law_high"] ["_law_line_here", "_law_begin_here"] (defScope s_l_read) := ⟨rfl, rfl, rfl, by decide +kernel, rfl, by decide +kernel, by decide +kernel⟩
theorem sc_law : FnScope ["_law_script", "_law_line_here", "_law_begin_here", "_law_cut", "_law_one", "_law_two", "_law_told", "_law_sign", "_law_k"] ["_law_script"] (defScope s_law) := ⟨rfl, rfl, rfl, by decide +kernel, rfl, by decide +kernel, by decide +kernel⟩
theorem nd_l_numbers_0 : (["_law_k", "_law_script", "_law_at", "_law_many_here", "_law_seed", "_law_left", "_law_row"] : List Str).Nodup := by decide +kernel
theorem nd_l_line_1 : (["_law_number", "_law_script", "_law_at", "_law_many_here"] : List Str).Nodup := by decide +kernel
structure Adr where
  f_l_sign_by : Addr
  d_l_sign_by : FuncData
  f_l_cell_at : Addr
  d_l_cell_at : FuncData
  f_l_mixed : Addr
  d_l_mixed : FuncData
  f_l_numbers : Addr
  d_l_numbers : FuncData
  f_l_line : Addr
  d_l_line : FuncData
  f_l_begin : Addr
  d_l_begin : FuncData
  f_Ear___init__ : Addr
  d_Ear___init__ : FuncData
  df_Ear___init__ : Addr
  dt0_Ear___init__ : Tok
  f_Ear_refuse_where_closed : Addr
  d_Ear_refuse_where_closed : FuncData
  f_Ear_let_go : Addr
  d_Ear_let_go : FuncData
  f_Ear_settle_dotted : Addr
  d_Ear_settle_dotted : FuncData
  f_Ear_settle_right : Addr
  d_Ear_settle_right : FuncData
  f_Ear_close_run : Addr
  d_Ear_close_run : FuncData
  f_Ear_settled_by : Addr
  d_Ear_settled_by : FuncData
  f_Ear_close : Addr
  d_Ear_close : FuncData
  f_l_many : Addr
  d_l_many : FuncData
  f_sets_measure : Addr
  d_sets_measure : FuncData
  f_plain_worth : Addr
  d_plain_worth : FuncData
  f_Ear_hold : Addr
  d_Ear_hold : FuncData
  f_Ear_hangs : Addr
  d_Ear_hangs : FuncData
  f_Ear_hear : Addr
  d_Ear_hear : FuncData
  f_l_whole : Addr
  d_l_whole : FuncData
  f_l_nums : Addr
  d_l_nums : FuncData
  f_l_close_refused : Addr
  d_l_close_refused : FuncData
  f_l_hear_refused : Addr
  d_l_hear_refused : FuncData
  f_Ear_waiting : Addr
  d_Ear_waiting : FuncData
  f_l_base : Addr
  d_l_base : FuncData
  f_l_three : Addr
  d_l_three : FuncData
  f_l_run : Addr
  d_l_run : FuncData
  f_l_read : Addr
  d_l_read : FuncData
  f_law : Addr
  d_law : FuncData
  a_GREAT_KINDS : Addr
  a_SMALL_KINDS : Addr
  a_MEASURE_KINDS : Addr
  a_PLAIN_WORTHS : Addr
  a_TWOFOLD_WORTHS : Addr
  t_SHORTENED_WORTH : Tok
  t_DOUBLED_WORTH : Tok
  t_DOTTED_WORTH : Tok
  t_NOTHING_MORE : Tok
  C_Ear : Addr
  C_Closed : Addr
  C_NoteError : Addr
  C_BadSign : Addr
  C_NoMore : Addr
structure Txt (K : PySem.W.Frag) (w : World) (mg : Str → Option Value) (t : Adr) : Prop where
  F_l_sign_by : Fun K "_law_sign_by" "_law_sign_by" s_l_sign_by t.f_l_sign_by t.d_l_sign_by
  b_l_sign_by : Binds K t.d_l_sign_by ["_law_number"] []
  mg_l_sign_by : mg "_law_sign_by" = some (.ref t.f_l_sign_by)
  F_l_cell_at : Fun K "_law_cell_at" "_law_cell_at" s_l_cell_at t.f_l_cell_at t.d_l_cell_at
  b_l_cell_at : Binds K t.d_l_cell_at ["_law_script", "_law_k"] []
  mg_l_cell_at : mg "_law_cell_at" = some (.ref t.f_l_cell_at)
  F_l_mixed : Fun K "_law_mixed" "_law_mixed" s_l_mixed t.f_l_mixed t.d_l_mixed
  b_l_mixed : Binds K t.d_l_mixed ["_law_seed", "_law_k"] []
  mg_l_mixed : mg "_law_mixed" = some (.ref t.f_l_mixed)
  F_l_numbers : Fun K "_law_numbers" "_law_numbers" s_l_numbers t.f_l_numbers t.d_l_numbers
  b_l_numbers : Binds K t.d_l_numbers ["_law_script", "_law_at", "_law_many_here"] []
  mg_l_numbers : mg "_law_numbers" = some (.ref t.f_l_numbers)
  F_l_line : Fun K "_law_line" "_law_line" s_l_line t.f_l_line t.d_l_line
  b_l_line : Binds K t.d_l_line ["_law_script", "_law_at", "_law_many_here"] []
  mg_l_line : mg "_law_line" = some (.ref t.f_l_line)
  F_l_begin : Fun K "_law_begin" "_law_begin" s_l_begin t.f_l_begin t.d_l_begin
  b_l_begin : Binds K t.d_l_begin ["_law_cell"] []
  mg_l_begin : mg "_law_begin" = some (.ref t.f_l_begin)
  F_Ear___init__ : FunD K "__init__" "Ear.__init__" s_Ear___init__ t.f_Ear___init__ t.d_Ear___init__ (.ref t.df_Ear___init__)
  bd_Ear___init__ : Binds K t.d_Ear___init__ ["self", "begin"] [.int 3 t.dt0_Ear___init__]
  b_Ear___init__ : Binds K t.d_Ear___init__ ["self", "begin"] []
  F_Ear_refuse_where_closed : Fun K "refuse_where_closed" "Ear.refuse_where_closed" s_Ear_refuse_where_closed t.f_Ear_refuse_where_closed t.d_Ear_refuse_where_closed
  b_Ear_refuse_where_closed : Binds K t.d_Ear_refuse_where_closed ["self"] []
  me_Ear_refuse_where_closed : Meth K t.C_Ear "refuse_where_closed" t.f_Ear_refuse_where_closed
  F_Ear_let_go : Fun K "let_go" "Ear.let_go" s_Ear_let_go t.f_Ear_let_go t.d_Ear_let_go
  b_Ear_let_go : Binds K t.d_Ear_let_go ["self"] []
  me_Ear_let_go : Meth K t.C_Ear "let_go" t.f_Ear_let_go
  F_Ear_settle_dotted : Fun K "settle_dotted" "Ear.settle_dotted" s_Ear_settle_dotted t.f_Ear_settle_dotted t.d_Ear_settle_dotted
  b_Ear_settle_dotted : Binds K t.d_Ear_settle_dotted ["self", "kind"] []
  me_Ear_settle_dotted : Meth K t.C_Ear "settle_dotted" t.f_Ear_settle_dotted
  F_Ear_settle_right : Fun K "settle_right" "Ear.settle_right" s_Ear_settle_right t.f_Ear_settle_right t.d_Ear_settle_right
  b_Ear_settle_right : Binds K t.d_Ear_settle_right ["self", "kind"] []
  me_Ear_settle_right : Meth K t.C_Ear "settle_right" t.f_Ear_settle_right
  F_Ear_close_run : Fun K "close_run" "Ear.close_run" s_Ear_close_run t.f_Ear_close_run t.d_Ear_close_run
  b_Ear_close_run : Binds K t.d_Ear_close_run ["self", "kind"] []
  me_Ear_close_run : Meth K t.C_Ear "close_run" t.f_Ear_close_run
  F_Ear_settled_by : Fun K "settled_by" "Ear.settled_by" s_Ear_settled_by t.f_Ear_settled_by t.d_Ear_settled_by
  b_Ear_settled_by : Binds K t.d_Ear_settled_by ["self", "kind"] []
  me_Ear_settled_by : Meth K t.C_Ear "settled_by" t.f_Ear_settled_by
  F_Ear_close : Fun K "close" "Ear.close" s_Ear_close t.f_Ear_close t.d_Ear_close
  b_Ear_close : Binds K t.d_Ear_close ["self"] []
  me_Ear_close : Meth K t.C_Ear "close" t.f_Ear_close
  F_l_many : Fun K "_law_many" "_law_many" s_l_many t.f_l_many t.d_l_many
  b_l_many : Binds K t.d_l_many ["_law_cell"] []
  mg_l_many : mg "_law_many" = some (.ref t.f_l_many)
  F_sets_measure : Fun K "sets_measure" "sets_measure" s_sets_measure t.f_sets_measure t.d_sets_measure
  b_sets_measure : Binds K t.d_sets_measure ["sign"] []
  mg_sets_measure : mg "sets_measure" = some (.ref t.f_sets_measure)
  F_plain_worth : Fun K "plain_worth" "plain_worth" s_plain_worth t.f_plain_worth t.d_plain_worth
  b_plain_worth : Binds K t.d_plain_worth ["kind", "measure"] []
  mg_plain_worth : mg "plain_worth" = some (.ref t.f_plain_worth)
  F_Ear_hold : Fun K "hold" "Ear.hold" s_Ear_hold t.f_Ear_hold t.d_Ear_hold
  b_Ear_hold : Binds K t.d_Ear_hold ["self", "kind"] []
  me_Ear_hold : Meth K t.C_Ear "hold" t.f_Ear_hold
  F_Ear_hangs : Fun K "hangs" "Ear.hangs" s_Ear_hangs t.f_Ear_hangs t.d_Ear_hangs
  b_Ear_hangs : Binds K t.d_Ear_hangs ["self"] []
  me_Ear_hangs : Meth K t.C_Ear "hangs" t.f_Ear_hangs
  F_Ear_hear : Fun K "hear" "Ear.hear" s_Ear_hear t.f_Ear_hear t.d_Ear_hear
  b_Ear_hear : Binds K t.d_Ear_hear ["self", "sign"] []
  me_Ear_hear : Meth K t.C_Ear "hear" t.f_Ear_hear
  F_l_whole : Fun K "_law_whole" "_law_whole" s_l_whole t.f_l_whole t.d_l_whole
  b_l_whole : Binds K t.d_l_whole ["_law_found"] []
  mg_l_whole : mg "_law_whole" = some (.ref t.f_l_whole)
  F_l_nums : Fun K "_law_nums" "_law_nums" s_l_nums t.f_l_nums t.d_l_nums
  b_l_nums : Binds K t.d_l_nums ["_law_found", "_law_due"] []
  mg_l_nums : mg "_law_nums" = some (.ref t.f_l_nums)
  F_l_close_refused : Fun K "_law_close_refused" "_law_close_refused" s_l_close_refused t.f_l_close_refused t.d_l_close_refused
  b_l_close_refused : Binds K t.d_l_close_refused ["_law_hark"] []
  mg_l_close_refused : mg "_law_close_refused" = some (.ref t.f_l_close_refused)
  F_l_hear_refused : Fun K "_law_hear_refused" "_law_hear_refused" s_l_hear_refused t.f_l_hear_refused t.d_l_hear_refused
  b_l_hear_refused : Binds K t.d_l_hear_refused ["_law_hark", "_law_sign"] []
  mg_l_hear_refused : mg "_law_hear_refused" = some (.ref t.f_l_hear_refused)
  F_Ear_waiting : Fun K "waiting" "Ear.waiting" s_Ear_waiting t.f_Ear_waiting t.d_Ear_waiting
  b_Ear_waiting : Binds K t.d_Ear_waiting ["self"] []
  me_Ear_waiting : Meth K t.C_Ear "waiting" t.f_Ear_waiting
  F_l_base : Fun K "_law_base" "_law_base" s_l_base t.f_l_base t.d_l_base
  b_l_base : Binds K t.d_l_base ["_law_line_here", "_law_begin_here"] []
  mg_l_base : mg "_law_base" = some (.ref t.f_l_base)
  F_l_three : Fun K "_law_three" "_law_three" s_l_three t.f_l_three t.d_l_three
  b_l_three : Binds K t.d_l_three ["_law_line_here", "_law_begin_here"] []
  mg_l_three : mg "_law_three" = some (.ref t.f_l_three)
  F_l_run : Fun K "_law_run" "_law_run" s_l_run t.f_l_run t.d_l_run
  b_l_run : Binds K t.d_l_run ["_law_line_here", "_law_told", "_law_low", "_law_high"] []
  mg_l_run : mg "_law_run" = some (.ref t.f_l_run)
  F_l_read : Fun K "_law_read" "_law_read" s_l_read t.f_l_read t.d_l_read
  b_l_read : Binds K t.d_l_read ["_law_line_here", "_law_begin_here"] []
  mg_l_read : mg "_law_read" = some (.ref t.f_l_read)
  F_law : Fun K "law" "law" s_law t.f_law t.d_law
  b_law : Binds K t.d_law ["_law_script"] []
  mg_law : mg "law" = some (.ref t.f_law)
  nb_ValueError : mg "ValueError" = none
  nb_bool : mg "bool" = none
  nb_int : mg "int" = none
  nb_isinstance : mg "isinstance" = none
  nb_len : mg "len" = none
  nb_list : mg "list" = none
  nb_max : mg "max" = none
  nb_min : mg "min" = none
  nb_range : mg "range" = none
  c_GREAT_KINDS : mg "GREAT_KINDS" = some (.ref t.a_GREAT_KINDS)
  q_GREAT_KINDS : ∀ H, SqT K H t.a_GREAT_KINDS [.str "G", .str "D", .str "R"]
  c_SMALL_KINDS : mg "SMALL_KINDS" = some (.ref t.a_SMALL_KINDS)
  q_SMALL_KINDS : ∀ H, SqT K H t.a_SMALL_KINDS [.str "s", .str "d", .str "r"]
  c_MEASURE_KINDS : mg "MEASURE_KINDS" = some (.ref t.a_MEASURE_KINDS)
  q_MEASURE_KINDS : ∀ H, SqT K H t.a_MEASURE_KINDS [.str "3", .str "2"]
  c_PLAIN_WORTHS : mg "PLAIN_WORTHS" = some (.ref t.a_PLAIN_WORTHS)
  kd_PLAIN_WORTHS : KD K w t.a_PLAIN_WORTHS [("G", .int 3), ("D", .int 2), ("R", .int 3), ("s", .int 1), ("d", .int 1), ("r", .int 1), (".", .int 0), ("3", .int 0), ("2", .int 0)]
  c_TWOFOLD_WORTHS : mg "TWOFOLD_WORTHS" = some (.ref t.a_TWOFOLD_WORTHS)
  kd_TWOFOLD_WORTHS : KD K w t.a_TWOFOLD_WORTHS [("G", .int 2), ("R", .int 2)]
  c_SHORTENED_WORTH : mg "SHORTENED_WORTH" = some (.int 2 t.t_SHORTENED_WORTH)
  c_DOUBLED_WORTH : mg "DOUBLED_WORTH" = some (.int 2 t.t_DOUBLED_WORTH)
  c_DOTTED_WORTH : mg "DOTTED_WORTH" = some (.int 3 t.t_DOTTED_WORTH)
  c_NOTHING_MORE : mg "NOTHING_MORE" = some (.str "" t.t_NOTHING_MORE)
  mg_Ear : mg "Ear" = some (.ref t.C_Ear)
  mk_Ear : Mk K t.C_Ear t.f_Ear___init__
  cl_Ear : Cls K t.C_Ear
  na_Ear_measure : NoAttr K t.C_Ear "measure"
  na_Ear_held : NoAttr K t.C_Ear "held"
  na_Ear_left : NoAttr K t.C_Ear "left"
  na_Ear_right : NoAttr K t.C_Ear "right"
  na_Ear_counted : NoAttr K t.C_Ear "counted"
  na_Ear_last : NoAttr K t.C_Ear "last"
  na_Ear_is_closed : NoAttr K t.C_Ear "is_closed"
  mg_Closed : mg "Closed" = some (.ref t.C_Closed)
  mg_NoteError : mg "NoteError" = some (.ref t.C_NoteError)
  mg_BadSign : mg "BadSign" = some (.ref t.C_BadSign)
  mg_NoMore : mg "NoMore" = some (.ref t.C_NoMore)
  xa_Closed : ExA K t.C_Closed
  xm_Closed_NoteError : PySem.W.exmOne K (.ref t.C_Closed) (.ref t.C_NoteError) = some true
  ki_Closed_Closed : PySem.W.kitOne K (.ref t.C_Closed) (.ref t.C_Closed) = some true
  kb_Closed_ValueError : PySem.W.kitOne K (.ref t.C_Closed) (.type "ValueError") = some true
  kt_Closed_BadSign_NoMore : PySem.W.kitAny K (.ref t.C_Closed) [.ref t.C_BadSign, .ref t.C_NoMore] = some false
end Mine

namespace Mine
open PySem L2
def l24 : List Kd := [.G, .G, .G, .G, .G, .s, .s, .s, .s, .s, .s, .s, .s, .s, .d, .d, .r, .r, .D, .R, .dot, .dot, .three, .two]
theorem cps24 : (Str.ofString "GGGGGsssssssssddrrDR..32").cps.toList = l24.map Kd.cp := by decide +kernel
theorem k_sounds (k : Kd) : inS k.str "GDsd" = k.sounds := by cases k <;> decide +kernel
def GoodT (s : Sg) : Prop := (s.1.sounds = true → 0 ≤ s.2 ∧ s.2 < 100) ∧ (s.1.sounds = false → s.2 = 0)
def sp_l_sign_by : Sp := fun vs H Q _ => ∃ m : Int, vs = [.int m] ∧ 0 ≤ m ∧ ∀ (p : Addr) (s : Sg), GoodT s → H p = none → Q (.ref p) (upd H p (.tup [.str s.1.str, .int s.2]))
theorem ok_l_sign_by {P : Program} {w : World} {K : PySem.W.Frag} {mg : Str → Option Value} {base : Heap} {t : Adr} (T : Txt K w mg t) : FnOk P w K mg base CX0 (0 + 1) t.f_l_sign_by t.d_l_sign_by ["_law_number"] sp_l_sign_by := by
  refine T.F_l_sign_by.ok sc_l_sign_by (fun vs H Q E h => ?_) (fun cdv A outer s H vs Q E hr h => ?_)
  · obtain ⟨_, rfl, _⟩ := h
    rfl
  · obtain ⟨m, rfl, hm, q⟩ := h
    refine bodyOk (pss_cons (ps_set (i := 1) sc_l_sign_by.nd rfl (Or.inl rfl) (pe_ix ix_seq pe_str (pe_op op_mod (pv 0) pe_int) (fun _ _ => rfl))) (pss_cons (ps_if (pt_cmpR (op_in_seq.or op_in_str) (pv 1) pe_str rfl) (pss_one (ps_ret (pe_tup (pa_cons (pv 1) (pa_cons (pe_op op_mod (pe_op op_fdiv (pv 0) pe_int) pe_int) pa_nil))))) pss_nil) (pss_one (ps_ret (pe_tup (pa_cons (pv 1) (pa_cons pe_int pa_nil))))))) ?_
    obtain ⟨k, hk⟩ : ∃ k, l24[(m % 24).toNat]? = some k := by
      have h1 : (m % 24).toNat < l24.length := by
        show _ < 24
        omega
      exact ⟨_, List.getElem?_eq_getElem h1⟩
    have hat : atI (Str.ofString "GGGGGsssssssssddrrDR..32").cps.toList (m % 24) = some k.cp := by
      have e0 : m % 24 = (((m % 24).toNat : Nat) : Int) := by omega
      rw [e0, cps24]
      exact atI_nat (by rw [List.getElem?_map, hk]; rfl)
    refine ⟨_, rfl, _, _, rfl, rfl, (by decide : (0 : Int) < 24), .inr (.inr ⟨_, _, _, rfl, rfl, (by decide +kernel), hat, ?_⟩)⟩
    rw [← kd_cp k]
    (repeat array_get_dec)
    refine ite2 (fun h => ?_) (fun h => ?_)
    · have h4 : k.sounds = true := by rw [← k_sounds]; exact h
      (repeat array_get_dec)
      refine ⟨(by show 2 ≤ sizeLine; decide), fun p hp => ?_⟩
      exact q p (k, m / 24 % 100) ⟨fun _ => by show 0 ≤ m / 24 % 100 ∧ m / 24 % 100 < 100; omega, fun z => by rw [h4] at z; cases z⟩ hp
    · have h4 : k.sounds = false := by
        rw [← k_sounds]
        exact Bool.eq_false_iff.mpr h
      (repeat array_get_dec)
      refine ⟨(by show 2 ≤ sizeLine; decide), fun p hp => ?_⟩
      exact q p (k, 0) ⟨(fun z => by rw [h4] at z; cases z), fun _ => rfl⟩ hp

end Mine

namespace Mine
open PySem L2
/-! ### a cell of the script -/
def cellN (ns : List Int) (k : Nat) : Int := ns.getD k 0
def sp_l_cell_at (K : PySem.W.Frag) : Sp := fun vs H Q _ => ∃ (a : Addr) (ns : List Int) (k : Nat), vs = [.ref a, .int (k : Int)] ∧ SqL K H a (ns.map V.int) ∧ ns.length ≤ 63 ∧ Q (.int (cellN ns k)) H
theorem ok_l_cell_at {P : Program} {w : World} {K : PySem.W.Frag} {mg : Str → Option Value} {base : Heap} {t : Adr} (T : Txt K w mg t) : FnOk P w K mg base CX0 (0 + 1) t.f_l_cell_at t.d_l_cell_at ["_law_script", "_law_k"] (sp_l_cell_at K) := by
  refine T.F_l_cell_at.ok sc_l_cell_at (fun vs H Q E h => ?_) (fun cdv A outer s H vs Q E hr h => ?_)
  · obtain ⟨a, ns, k, rfl, _⟩ := h
    rfl
  · obtain ⟨a, ns, k, rfl, hS, hl, q⟩ := h
    refine bodyOk (pss_cons (ps_if (pt_cmpR op_lt (pv 1) (pe_callB (call_min2 rfl) rfl T.nb_min bt_min (pa_cons pe_int (pa_cons (pe_callB (call_len_seq.or call_len_str) rfl T.nb_len bt_len (pa_cons (pv 0) pa_nil)) pa_nil))) (nomark _)) (pss_one (ps_ret (pe_ix ix_seq (pv 0) (pv 1) (fun _ _ => rfl)))) pss_nil) (pss_one (ps_ret pe_int))) ?_
    refine ⟨_, rfl, _, rfl, .inl ⟨_, _, rfl, .inl hS, _, _, rfl, _, _, rfl, rfl, _, rfl, ?_⟩⟩
    rw [List.length_map]
    refine ite2 (fun h => ?_) (fun h => ?_)
    · have hk : k < ns.length := by
        have := of_decide_eq_true h
        split at this <;> omega
      have e : (ns.map V.int)[k]? = some (V.int (cellN ns k)) := by
        rw [List.getElem?_map, List.getElem?_eq_getElem hk]
        unfold cellN
        rw [List.getD_eq_getElem?_getD, List.getElem?_eq_getElem hk]
        rfl
      exact ⟨_, rfl, _, rfl, .inl ⟨_, _, _, _, rfl, rfl, hS, atI_nat e, q⟩⟩
    · have hk : ns.length ≤ k := by
        have h' : ¬ ((k : Int) < if (ns.length : Int) < 63 then (ns.length : Int) else 63) := fun z => h (decide_eq_true z)
        split at h' <;> omega
      have e : cellN ns k = 0 := by
        unfold cellN
        rw [List.getD_eq_getElem?_getD, List.getElem?_eq_none hk]
        rfl
      rw [e] at q
      exact q

end Mine

namespace Mine
open PySem L2
def sp_l_mixed : Sp := fun vs H Q _ => ∃ seed k : Int, vs = [.int seed, .int k] ∧ ∀ r : Int, 0 ≤ r → r < 65521 → Q (.int r) H
theorem ok_l_mixed {P : Program} {w : World} {K : PySem.W.Frag} {mg : Str → Option Value} {base : Heap} {t : Adr} (T : Txt K w mg t) : FnOk P w K mg base CX0 (0 + 1) t.f_l_mixed t.d_l_mixed ["_law_seed", "_law_k"] sp_l_mixed := by
  refine T.F_l_mixed.ok sc_l_mixed (fun vs H Q E h => ?_) (fun cdv A outer s H vs Q E hr h => ?_)
  · obtain ⟨_, _, rfl, _⟩ := h
    rfl
  · obtain ⟨seed, k, rfl, q⟩ := h
    refine bodyOk (pss_cons (ps_set (i := 2) sc_l_mixed.nd rfl (Or.inl rfl) (pe_op op_mod (pe_op (op_add.or (op_add_str.or op_cat)) (pe_op (op_add.or (op_add_str.or op_cat)) (pe_op (op_mul.or op_rep) (pe_op op_mod (pv 0) pe_int) pe_int) (pe_op (op_mul.or op_rep) (pv 1) pe_int)) pe_int) pe_int)) (pss_cons (ps_set (i := 3) sc_l_mixed.nd rfl (Or.inl rfl) (pe_op op_mod (pe_op (op_add.or (op_add_str.or op_cat)) (pe_op (op_add.or (op_add_str.or op_cat)) (pe_op (op_mul.or op_rep) (pv 2) (pv 2)) (pe_op (op_mul.or op_rep) (pv 1) pe_int)) (pe_op op_mod (pe_op op_fdiv (pv 0) pe_int) pe_int)) pe_int)) (pss_one (ps_ret (pe_op op_mod (pe_op (op_add.or (op_add_str.or op_cat)) (pe_op op_fdiv (pe_op (op_mul.or op_rep) (pv 3) (pv 3)) pe_int) (pv 3)) pe_int))))) ?_
    have p2 : (2 : Int) ^ 64 = 18446744073709551616 := by decide
    refine ⟨_, rfl, _, _, rfl, rfl, (by decide : (0 : Int) < 1000003), .inl ⟨_, _, rfl, rfl, .inr ⟨by decide, by decide⟩, _, rfl, .inl ⟨_, _, rfl, rfl, .inr ⟨by decide, by decide⟩, .inl ⟨_, _, rfl, rfl, .inl ⟨_, _, rfl, rfl, _, _, rfl, rfl, (by decide : (0 : Int) < 1000033), ?_⟩⟩⟩⟩⟩
    generalize hone : (seed % 1000003 * 48271 + k * 30011 + 17) % 1000033 = one
    have b1 : 0 ≤ one ∧ one < 1000033 := by omega
    refine ⟨_, rfl, _, rfl, .inl ⟨_, _, rfl, rfl, .inl ⟨by rw [p2]; omega, by rw [p2]; omega⟩, _, rfl, .inl ⟨_, _, rfl, rfl, .inr ⟨by decide, by decide⟩, .inl ⟨_, _, rfl, rfl, _, rfl, _, _, rfl, rfl, ⟨by decide, by decide⟩, _, _, rfl, rfl, (by decide : (0 : Int) < 997), .inl ⟨_, _, rfl, rfl, _, _, rfl, rfl, (by decide : (0 : Int) < 999983), ?_⟩⟩⟩⟩⟩
    generalize htwo : (one * one + k * 613 + seed / 1000003 % 997) % 999983 = two
    have b2 : 0 ≤ two ∧ two < 999983 := by omega
    refine ⟨_, rfl, _, rfl, .inl ⟨_, _, rfl, rfl, .inl ⟨by rw [p2]; omega, by rw [p2]; omega⟩, _, _, rfl, rfl, ⟨by decide, by decide⟩, _, rfl, .inl ⟨_, _, rfl, rfl, _, _, rfl, rfl, (by decide : (0 : Int) < 65521), ?_⟩⟩⟩
    exact q _ (by omega) (by omega)

end Mine

namespace Mine
open PySem L2
/-! ### numbers -/
def sp_l_numbers (K : PySem.W.Frag) : Sp := fun vs H Q _ => ∃ (a : Addr) (ns : List Int) (k m : Nat), vs = [.ref a, .int (k : Int), .int (m : Int)] ∧ SqL K H a (ns.map V.int) ∧ ns.length ≤ 63 ∧ m ≤ 48 ∧
  ∀ (l : Addr) (ms : List Int) (H' : Hp), Same H H' → H' l = some (.lst (ms.map V.int)) → ms.length ≤ 60 → (∀ x ∈ ms, 0 ≤ x) → Q (.ref l) H'
theorem ok_l_numbers {P : Program} {w : World} {K : PySem.W.Frag} {mg : Str → Option Value} {base : Heap} {t : Adr} (T : Txt K w mg t) : FnOk P w K mg base CX0 (0 + 2) t.f_l_numbers t.d_l_numbers ["_law_script", "_law_at", "_law_many_here"] (sp_l_numbers K) := by
  have G_l_cell_at := ok_l_cell_at (P := P) (w := w) (base := base) T
  have G_l_mixed := ok_l_mixed (P := P) (w := w) (base := base) T
  refine T.F_l_numbers.ok sc_l_numbers (fun vs H Q E h => ?_) (fun cdv A outer s H vs Q E hr h => ?_)
  · obtain ⟨_, _, _, _, rfl, _⟩ := h
    rfl
  · obtain ⟨a, ns, k, m, rfl, hS, hl, hm, q⟩ := h
    refine bodyOk (pss_cons (ps_set (i := 3) sc_l_numbers.nd rfl (Or.inr rfl) (pe_call G_l_cell_at (hr.mono (by decide)) rfl T.mg_l_cell_at T.F_l_cell_at.kp T.b_l_cell_at .nil pass0 (pa_cons (pv 0) (pa_cons (pv 1) pa_nil)))) (pss_cons (ps_if (pt_cmpR op_lt (pv 3) (pe_op op_pow pe_int pe_int) (nomark _)) (pss_one (ps_ret (pe_comp (cn := ["_law_k"]) rfl (CompFit.of rfl) (pi_range1 rfl T.nb_range (pa_cons (pv 2) pa_nil)) (fun _ => (pg_name (i := 0) nd_l_numbers_0 rfl (Or.inl rfl))) (fun _ => pf_nil) (fun _ => (pe_call G_l_mixed (hr.mono (by decide)) rfl T.mg_l_mixed T.F_l_mixed.kp T.b_l_mixed .nil pass0 (pa_cons (pe_op (op_add.or (op_add_str.or op_cat)) (pv 4) (pe_op (op_mul.or op_rep) pe_int (pe_call G_l_cell_at (hr.mono (by decide)) rfl T.mg_l_cell_at T.F_l_cell_at.kp T.b_l_cell_at .nil pass0 (pa_cons (pv 1) (pa_cons (pe_op (op_add.or (op_add_str.or op_cat)) (pe_op (op_add.or (op_add_str.or op_cat)) (pv 2) pe_int) (pv 0)) pa_nil))))) (pa_cons (pv 0) pa_nil))))))) pss_nil) (pss_cons (ps_set (i := 4) sc_l_numbers.nd rfl (Or.inl rfl) (pe_op op_sub (pv 3) (pe_op op_pow pe_int pe_int))) (pss_cons (ps_set (i := 5) sc_l_numbers.nd rfl (Or.inl rfl) (pe_lst pa_nil)) (pss_cons (ps_while PassesOwn.never (pt_mid (PW.pt (pw_and (pt_cmpR op_gt (pv 4) pe_int (nomark _)) (pw_and1 (pt_cmpR op_lt (pe_callB (call_len_seq.or call_len_str) rfl T.nb_len bt_len (pa_cons (pv 5) pa_nil)) pe_int (nomark _)))))) (pss_cons (ps_expr (pe_bm PySem.F.plainAttrs_list PySem.F.slot_list_append PySem.F.type_list_append mt_append (pv 5) (pa_cons (pe_op op_mod (pv 4) pe_int) pa_nil))) (pss_one (ps_set (i := 4) sc_l_numbers.nd rfl (Or.inl rfl) (pe_op op_fdiv (pv 4) pe_int))))) (pss_one (ps_ret (pv 5)))))))) ?_
    refine ⟨_, rfl, _, rfl, a, ns, k, rfl, hS, hl, ?_⟩
    refine ⟨_, rfl, _, _, rfl, rfl, ⟨by decide, by decide, by decide⟩, _, _, rfl, rfl, _, rfl, ?_⟩
    refine ite2 (fun _ => ?_) (fun _ => ?_)
    · refine ⟨_, rfl, (m : Int), rfl, (by omega), (by omega), fun D b hD => ?_⟩
      refine comp_range (lo := 0) (n := ((m : Int)).toNat) (fun i ys σ H' => ∃ (v : Option V) (ms : List Int), σ = [v, some (.ref a), some (.int (k : Int)), some (.int (m : Int)), some (.int (cellN ns k)), none, none] ∧ H' = upd H D (.lst ys) ∧ ys = ms.map V.int ∧ ms.length = i ∧ ∀ x ∈ ms, 0 ≤ x) ⟨none, [], rfl, rfl, rfl, rfl, fun _ h => nomatch h⟩ ?_ ?_
      · rintro i ys σ H' hi ⟨v, ms, rfl, rfl, rfl, hlen, hpos⟩ N hN
        refine compT_name ?_
        refine ⟨_, rfl, _, rfl, _, rfl, .inl ⟨_, _, rfl, rfl, _, rfl, .inl ⟨_, _, rfl, rfl, a, ns, k + 1 + i, ?_, seq_upd hS hD, hl, .inl ⟨_, _, rfl, rfl, .inl ⟨by decide, by decide⟩, ?_⟩⟩⟩⟩
        · show [V.ref a, V.int ((k : Int) + 1 + (0 + (i : Int)))] = [V.ref a, V.int ((k + 1 + i : Nat) : Int)]
          have e : (k : Int) + 1 + (0 + (i : Int)) = ((k + 1 + i : Nat) : Int) := by omega
          rw [e]
        · refine .inl ⟨_, _, rfl, rfl, _, rfl, _, _, rfl, fun r h0 h1 => ⟨upd_same, ?_, ?_⟩⟩
          · rw [List.length_map]
            exact small1000 (by omega)
          · refine hN _ _ _ ⟨some _, ms ++ [r], rfl, upd_upd, by simp, by simp [hlen], fun x hx => ?_⟩
            rcases List.mem_append.mp hx with z | z
            · exact hpos x z
            · have : x = r := by simpa using z
              omega
      · rintro ys σ H' ⟨v, ms, rfl, rfl, rfl, hlen, hpos⟩
        exact q D ms _ (Same.upd hD) upd_same (by omega) hpos
    · refine ⟨_, rfl, _, _, rfl, rfl, ⟨by decide, by decide, by decide⟩, _, _, rfl, rfl, (by decide), fun l hl0 => ?_⟩
      refine ⟨fun mm σ H' => ∃ (left : Int) (ms : List Int), σ = [some (.ref a), some (.int (k : Int)), some (.int (m : Int)), some (.int (cellN ns k)), some (.int left), some (.ref l)] ∧ H' = upd H l (.lst (ms.map V.int)) ∧ mm = 60 - ms.length ∧ ms.length ≤ 60 ∧ ∀ x ∈ ms, 0 ≤ x,
        ⟨60, _, [], rfl, rfl, rfl, Nat.zero_le _, fun _ h => nomatch h⟩, ?_⟩
      rintro mm σ H' ⟨left, ms, rfl, rfl, rfl, hlen, hpos⟩
      refine midB (decide (0 < left) && decide ((ms.length : Int) < 60)) ?_ ?_
      · refine ⟨_, rfl, _, _, rfl, rfl, _, rfl, ?_⟩
        refine ite2 (fun h => ?_) (fun h => ?_)
        · refine ⟨_, rfl, .inl ⟨l, _, rfl, .inl (SqL.of upd_same), _, _, rfl, rfl, _, rfl, ?_⟩⟩
          rw [List.length_map]
          exact ⟨by rw [h, Bool.true_and], rfl⟩
        · exact ⟨by rw [Bool.eq_false_iff.mpr h]; rfl, rfl⟩
      refine ite2 (fun h60 => ?_) (fun _ => ?_)
      · have h60' : ms.length < 60 := by
          have := of_decide_eq_true (Bool.and_eq_true_iff.mp h60).2
          omega
        refine ⟨fun σ' H' => ∃ m', m' < 60 - ms.length ∧ ∃ (left : Int) (ms : List Int), σ' = [some (.ref a), some (.int (k : Int)), some (.int (m : Int)), some (.int (cellN ns k)), some (.int left), some (.ref l)] ∧ H' = upd H l (.lst (ms.map V.int)) ∧ m' = 60 - ms.length ∧ ms.length ≤ 60 ∧ ∀ x ∈ ms, 0 ≤ x, fun _ _ h => h, ?_⟩
        refine ⟨_, rfl, .inl ⟨rfl, _, SqL.of upd_same⟩, _, rfl, _, _, rfl, rfl, (by decide : (0 : Int) < 2400), l, _, _, rfl, rfl, upd_same, (by rw [List.length_map]; exact small1000 (by omega)), _, rfl, _, _, rfl, rfl, ⟨by decide, by decide⟩, 60 - (ms.length + 1), by omega, _, ms ++ [left % 2400], rfl, ?_, by simp, by simp; omega, fun x hx => ?_⟩
        · rw [upd_upd, List.map_append]
          rfl
        · rcases List.mem_append.mp hx with z | z
          · exact hpos x z
          · have : x = left % 2400 := by simpa using z
            omega
      · exact ⟨_, rfl, q l ms _ (Same.upd hl0) upd_same (by omega) hpos⟩

end Mine

namespace Mine
open PySem L2
def sp_l_line (K : PySem.W.Frag) : Sp := fun vs H Q _ => ∃ (a : Addr) (ns : List Int) (k m : Nat), vs = [.ref a, .int (k : Int), .int (m : Int)] ∧ SqL K H a (ns.map V.int) ∧ ns.length ≤ 63 ∧ m ≤ 48 ∧
  ∀ (l : Addr) (xs : List V) (ss : List Sg) (H' : Hp), Same H H' → H l = none → H' l = some (.lst xs) → Sgs H' xs ss → (∀ s ∈ ss, GoodT s) → ss.length ≤ 60 → Q (.ref l) H'
theorem ok_l_line {P : Program} {w : World} {K : PySem.W.Frag} {mg : Str → Option Value} {base : Heap} {t : Adr} (T : Txt K w mg t) : FnOk P w K mg base CX0 (0 + 3) t.f_l_line t.d_l_line ["_law_script", "_law_at", "_law_many_here"] (sp_l_line K) := by
  have G_l_sign_by := ok_l_sign_by (P := P) (w := w) (base := base) T
  have G_l_numbers := ok_l_numbers (P := P) (w := w) (base := base) T
  refine T.F_l_line.ok sc_l_line (fun vs H Q E h => ?_) (fun cdv A outer s H vs Q E hr h => ?_)
  · obtain ⟨_, _, _, _, rfl, _⟩ := h
    rfl
  · obtain ⟨a, ns, k, m, rfl, hS, hl, hm, q⟩ := h
    refine bodyOk (pss_one (ps_ret (pe_comp (cn := ["_law_number"]) rfl (CompFit.of rfl) (pi_list (pe_call G_l_numbers (hr.mono (by decide)) rfl T.mg_l_numbers T.F_l_numbers.kp T.b_l_numbers .nil pass0 (pa_cons (pv 0) (pa_cons (pv 1) (pa_cons (pv 2) pa_nil))))) (fun _ => (pg_name (i := 0) nd_l_line_1 rfl (Or.inl rfl))) (fun _ => pf_nil) (fun _ => (pe_call G_l_sign_by (hr.mono (by decide)) rfl T.mg_l_sign_by T.F_l_sign_by.kp T.b_l_sign_by .nil pass0 (pa_cons (pv 0) pa_nil)))))) ?_
    refine ⟨_, rfl, _, rfl, _, rfl, a, ns, k, m, rfl, hS, hl, hm, fun l ms H1 s1 hl1 hlen hpos => ⟨l, rfl, ⟨_, SqL.of hl1⟩, fun D b hD => ?_⟩⟩
    refine comp_list (K := K) (xs := ms.map V.int) (fun i ys σ H' => ∃ (v : Option V) (ss : List Sg), σ = [v, some (.ref a), some (.int (k : Int)), some (.int (m : Int))] ∧ Same H1 H' ∧ H' D = some (.lst ys) ∧ Sgs H' ys ss ∧ ss.length = i ∧ i ≤ ms.length ∧ ∀ s ∈ ss, GoodT s)
      ⟨none, [], rfl, Same.upd hD, upd_same, .nil, rfl, Nat.zero_le _, fun _ h => nomatch h⟩ ?_ ?_ ?_
    · rintro i ys σ H' ⟨v, ss, rfl, s2, _⟩
      exact s2.seq (SqL.of hl1)
    · rintro i ys x σ H' hx ⟨v, ss, rfl, s2, hDl, hsg, hsl, hi, hg⟩ N hN
      have hil : i < ms.length := by
        have := (List.getElem?_eq_some_iff.mp hx).1
        rw [List.length_map] at this
        exact this
      obtain ⟨z, hz, rfl⟩ := intsAt hx
      refine compT_name ?_
      refine ⟨_, rfl, z, rfl, hpos z (List.mem_of_getElem? hz), fun p s gs hp => ⟨Same.upd hp _ _ hDl, ?_, ?_⟩⟩
      · rw [plen hsg, hsl]
        exact small1000 (by omega)
      · have hD4 := Same.upd (o := .tup [.str s.1.str, .int s.2]) hp _ _ hDl
        refine hN _ _ _ ⟨_, ss ++ [s], rfl, sameOwn (s2.trans (Same.upd hp)) hD, upd_same, psnoc (sgsUpd hD4 (hsg.same (Same.upd hp))) (sgUpd hD4 ⟨p, rfl, upd_same⟩), by simp [hsl], hil, fun y hy => ?_⟩
        rcases List.mem_append.mp hy with z | z
        · exact hg y z
        · have : y = s := by simpa using z
          rw [this]
          exact gs
    · rintro ys σ H' ⟨v, ss, rfl, s2, hDl, hsg, hsl, hi, hg⟩
      refine q D ys ss H' (s1.trans s2) (s1.free hD) hDl hsg hg ?_
      rw [hsl, List.length_map]
      omega

end Mine

namespace Mine
open PySem L2
def sp_l_begin : Sp := fun vs H Q _ => ∃ c : Int, vs = [.int c] ∧ ∀ b : Int, (b = 3 ∨ b = 2) → Q (.int b) H
theorem ok_l_begin {P : Program} {w : World} {K : PySem.W.Frag} {mg : Str → Option Value} {base : Heap} {t : Adr} (T : Txt K w mg t) : FnOk P w K mg base CX0 (0 + 1) t.f_l_begin t.d_l_begin ["_law_cell"] sp_l_begin := by
  refine T.F_l_begin.ok sc_l_begin (fun vs H Q E h => ?_) (fun cdv A outer s H vs Q E hr h => ?_)
  · obtain ⟨_, rfl, _⟩ := h
    rfl
  · obtain ⟨c, rfl, q⟩ := h
    refine bodyOk (pss_one (ps_ret (pe_op op_sub pe_int (pe_callTy (call_int1.or call_int_text) rfl T.nb_int bt_int (pa_cons (pe_cmpR (op_eq.or (op_eqD (hu_of64 hr))) (pe_op op_mod (pv 0) pe_int) pe_int (nomark _)) pa_nil))))) ?_
    (repeat array_get_dec)
    refine .inl (.inr ⟨_, rfl, ?_⟩)
    (repeat array_get_dec)
    refine q _ ?_
    dsimp only
    split
    · exact .inr rfl
    · exact .inl rfl

end Mine

namespace Mine
open PySem L2
def sp_Ear_init (C : Addr) : Sp := fun vs H Q _ => ∃ (x dx : Addr) (b : Int), vs = [.ref x, .int b] ∧ H x = some (.ins C dx []) ∧
  ∀ (D : Addr) (H' : Hp), (∀ y o, H y = some o → y ≠ x → H' y = some o) → H D = none → EarAt C H' x (initE b) D false → Q .non H'
theorem ok_Ear___init__ {P : Program} {w : World} {K : PySem.W.Frag} {mg : Str → Option Value} {base : Heap} {t : Adr} (T : Txt K w mg t) : FnOk P w K mg base CX0 (0 + 1) t.f_Ear___init__ t.d_Ear___init__ ["self", "begin"] (sp_Ear_init t.C_Ear) := by
  refine T.F_Ear___init__.ok sc_Ear___init__ (fun vs H Q E h => ?_) (fun cdv A outer s H vs Q E hr h => ?_)
  · obtain ⟨_, _, _, rfl, _⟩ := h
    rfl
  · obtain ⟨x, dx, b, rfl, hx, q⟩ := h
    refine bodyOk (pss_cons (ps_fld (pv 0) (pv 1) rfl) (pss_cons (ps_fld (pv 0) (pe_lst pa_nil) rfl) (pss_cons (ps_fld (pv 0) pe_bl rfl) (pss_cons (ps_fld (pv 0) pe_bl rfl) (pss_cons (ps_fld (pv 0) pe_int rfl) (pss_cons (ps_fld (pv 0) (pe_glob (v := .str "") rfl T.c_NOTHING_MORE ⟨_, rfl⟩) rfl) (pss_one (ps_fld (pv 0) pe_bl rfl)))))))) ?_
    refine ⟨_, rfl, _, rfl, x, _, dx, _, rfl, hx, T.cl_Ear, T.na_Ear_measure, by show 0 < 1000; decide, ?_⟩
    refine ⟨big (by show 0 ≤ 1000; omega), fun D hD => ?_⟩
    have nx : x ≠ D := fun e => by rw [← e, upd_same] at hD; cases hD
    have hD0 : H D = none := by rw [upd_ne (Ne.symm nx)] at hD; exact hD
    refine ⟨_, rfl, x, _, dx, _, rfl, by rw [upd_ne nx]; exact upd_same, T.cl_Ear, T.na_Ear_held, by rw [eaF_mk0]; show 1 < 1000; decide, ?_⟩
    refine ⟨_, rfl, x, _, dx, _, rfl, upd_same, T.cl_Ear, T.na_Ear_left, ?_, ?_⟩
    · rw [eaF_mk0, eaF_mk1]; show 2 < 1000; decide
    refine ⟨_, rfl, x, _, dx, _, rfl, upd_same, T.cl_Ear, T.na_Ear_right, ?_, ?_⟩
    · rw [eaF_mk0, eaF_mk1, eaF_mk2]; show 3 < 1000; decide
    refine ⟨_, rfl, x, _, dx, _, rfl, upd_same, T.cl_Ear, T.na_Ear_counted, ?_, ?_⟩
    · rw [eaF_mk0, eaF_mk1, eaF_mk2, eaF_mk3]; show 4 < 1000; decide
    refine ⟨_, rfl, x, _, dx, _, rfl, upd_same, T.cl_Ear, T.na_Ear_last, ?_, ?_⟩
    · rw [eaF_mk0, eaF_mk1, eaF_mk2, eaF_mk3, eaF_mk4]; show 5 < 1000; decide
    refine ⟨_, rfl, x, _, dx, _, rfl, upd_same, T.cl_Ear, T.na_Ear_is_closed, ?_, ?_⟩
    · rw [eaF_mk0, eaF_mk1, eaF_mk2, eaF_mk3, eaF_mk4, eaF_mk5]; show 6 < 1000; decide
    rw [eaF_mk0, eaF_mk1, eaF_mk2, eaF_mk3, eaF_mk4, eaF_mk5, eaF_mk6]
    simp only [upd_upd]
    refine q D _ (fun y o hy ny => ?_) hD0 ⟨⟨dx, upd_same⟩, ?_⟩
    · rw [upd_ne ny, upd_ne (ne_of_none hy hD0), upd_ne ny]; exact hy
    · rw [upd_ne (Ne.symm nx)]; exact upd_same

end Mine

namespace Mine
open PySem L2
def sp_Ear_refuse (C X : Addr) : Sp := fun vs H Q E => ∃ (x D : Addr) (e : Ea) (c : Bool), vs = [.ref x] ∧ EarAt C H x e D c ∧ (c = false → Q .non H) ∧ (c = true → E (.ref X) none H)
theorem ok_Ear_refuse_where_closed {P : Program} {w : World} {K : PySem.W.Frag} {mg : Str → Option Value} {base : Heap} {t : Adr} (T : Txt K w mg t) : FnOk P w K mg base (CX1 P w) (0 + 1) t.f_Ear_refuse_where_closed t.d_Ear_refuse_where_closed ["self"] (sp_Ear_refuse t.C_Ear t.C_Closed) := by
  refine T.F_Ear_refuse_where_closed.okX sc_Ear_refuse_where_closed (fun vs H Q E h => ?_) (fun cdv A outer s H vs Q E hr h => ?_)
  · obtain ⟨_, _, _, _, rfl, _⟩ := h
    rfl
  · obtain ⟨x, D, e, c, rfl, ⟨⟨dx, hx⟩, hD⟩, q, qe⟩ := h
    refine bodyOk (pss_one (ps_if (pt_val (pe_fld (pv 0) rfl)) (pss_one (ps_raise (X := (cxOf (CX1 P w) P w K mg base ["self"] "Ear.refuse_where_closed" (defScope s_Ear_refuse_where_closed) t.f_Ear_refuse_where_closed cdv A outer s H E)) (fun _ _ z => z) rfl T.xa_Closed.exc rfl T.mg_Closed (pa_cons pe_str pa_nil))) pss_nil)) ?_
    refine ⟨_, rfl, x, _, dx, _, _, rfl, hx, T.cl_Ear, T.na_Ear_is_closed, eaF_is_closed _ _ _, ?_⟩
    refine ⟨_, rfl, ?_⟩
    cases c with
    | false => exact iteF (q rfl)
    | true => exact iteT ⟨by show 1 ≤ sizeLine; decide, qe rfl⟩

end Mine

namespace Mine
open PySem L2
def sp_Ear_let_go (C : Addr) : Sp := fun vs H Q _ => ∃ (x D : Addr) (e : Ea) (c : Bool), vs = [.ref x] ∧ EarAt C H x e D c ∧
  ∀ (D' : Addr) (H' : Hp), H D' = none → (∀ b o, H b = some o → b ≠ x → H' b = some o) → EarAt C H' x { e with held := [] } D' c → Q (.ref D) H'
theorem ok_Ear_let_go {P : Program} {w : World} {K : PySem.W.Frag} {mg : Str → Option Value} {base : Heap} {t : Adr} (T : Txt K w mg t) : FnOk P w K mg base CX0 (0 + 1) t.f_Ear_let_go t.d_Ear_let_go ["self"] (sp_Ear_let_go t.C_Ear) := by
  refine T.F_Ear_let_go.ok sc_Ear_let_go (fun vs H Q E h => ?_) (fun cdv A outer s H vs Q E hr h => ?_)
  · obtain ⟨_, _, _, _, rfl, _⟩ := h
    rfl
  · obtain ⟨x, D, e, c, rfl, ⟨⟨dx, hx⟩, hD⟩, q⟩ := h
    refine bodyOk (pss_cons (ps_set (i := 1) sc_Ear_let_go.nd rfl (Or.inl rfl) (pe_fld (pv 0) rfl)) (pss_cons (ps_fld (pv 0) (pe_lst pa_nil) rfl) (pss_one (ps_ret (pv 1))))) ?_
    refine ⟨_, rfl, x, _, dx, _, _, rfl, hx, T.cl_Ear, T.na_Ear_held, eaF_held _ _ _, ?_⟩
    refine ⟨big (by show 0 ≤ 1000; omega), fun D' hD' => ?_⟩
    have nx : x ≠ D' := ne_of_none hx hD'
    refine ⟨_, rfl, x, _, dx, _, rfl, by rw [upd_ne nx]; exact hx, T.cl_Ear, T.na_Ear_held, by show 7 < 1000; decide, ?_⟩
    rw [eaF_put_held]
    refine ⟨_, rfl, ?_⟩
    refine q D' _ hD' (fun b o hb nb => ?_) ⟨⟨dx, upd_same⟩, ?_⟩
    · rw [upd_ne nb, upd_ne (ne_of_none hb hD')]; exact hb
    · rw [upd_ne (Ne.symm nx)]; exact upd_same

end Mine

namespace Mine
open PySem L2
def sp_Ear_settle_dotted (C : Addr) : Sp := fun vs H Q _ => ∃ (x D : Addr) (e : Ea) (c : Bool) (k : Option Kd), vs = [.ref x, .str (okstr k)] ∧ EarAt C H x e D c ∧ (e.last = some .G → k = some .dot → e.held ≠ []) ∧
  ∀ H', Kp x D H H' → EarAt C H' x (settleDot e k) D c → Q .non H'
theorem earSet {C : Addr} {H : Hp} {x D dx : Addr} {e : Ea} {c : Bool} {j : Nat} {v : Int} (hx : H x = some (.ins C dx (eaF e D c))) (hD : H D = some (.lst (e.held.map V.int))) : EarAt C (upd H D (.lst ((e.held.map V.int).set j (.int v)))) x { e with held := e.held.set j v } D c := by
  have nx : x ≠ D := ne_of hx hD (by intro z; cases z)
  exact ⟨⟨dx, by rw [upd_ne nx]; exact hx⟩, by rw [set_map]; exact upd_same⟩
theorem ok_Ear_settle_dotted {P : Program} {w : World} {K : PySem.W.Frag} {mg : Str → Option Value} {base : Heap} {t : Adr} (T : Txt K w mg t) : FnOk P w K mg base CX0 (0 + 1) t.f_Ear_settle_dotted t.d_Ear_settle_dotted ["self", "kind"] (sp_Ear_settle_dotted t.C_Ear) := by
  refine T.F_Ear_settle_dotted.ok sc_Ear_settle_dotted (fun vs H Q E h => ?_) (fun cdv A outer s H vs Q E hr h => ?_)
  · obtain ⟨_, _, _, _, _, rfl, _⟩ := h
    rfl
  · obtain ⟨x, D, e, c, k, rfl, ⟨⟨dx, hx⟩, hD⟩, hne, q⟩ := h
    unfold settleDot at q
    refine bodyOk (pss_one (ps_if (pt_mid (PW.pt (pw_and (pt_cmpR (op_eq.or (op_eqD (hu_of64 hr))) (pe_fld (pv 0) rfl) pe_str (nomark _)) (pw_and1 (pt_cmpR (op_eq.or (op_eqD (hu_of64 hr))) (pv 1) pe_str (nomark _)))))) (pss_one (ps_asg (pe_glob (v := .int 3) rfl T.c_DOTTED_WORTH ⟨_, rfl⟩) (pg_sub (pe_fld (pv 0) rfl) (pe_un un_neg pe_int) set_list))) pss_nil)) ?_
    refine midB (decide (e.last = some .G) && decide (k = some .dot)) ?_ ?_
    · refine ⟨_, rfl, x, _, dx, _, _, rfl, hx, T.cl_Ear, T.na_Ear_last, eaF_last _ _ _, ?_⟩
      (repeat array_get_dec)
      rw [o_G]
      refine ite2 (fun h => ?_) (fun h => ?_)
      · (repeat array_get_dec)
        rw [o_dot]
        exact endB (by rw [h]; rfl)
      · exact endB (by rw [Bool.eq_false_iff.mpr h]; rfl)
    · refine ite2 (fun h => ?_) (fun h => ?_)
      · obtain ⟨h1, h2⟩ := Bool.and_eq_true_iff.mp h
        have h1 := of_decide_eq_true h1
        have h2 := of_decide_eq_true h2
        rw [if_pos ⟨h1, h2⟩] at q
        have hl : 0 < e.held.length := List.length_pos_iff.mpr (hne h1 h2)
        refine ⟨_, rfl, x, _, dx, _, _, rfl, hx, T.cl_Ear, T.na_Ear_held, eaF_held _ _ _, ?_⟩
        (repeat array_get_dec)
        refine ⟨_, _, _, _, rfl, rfl, hD, negOne (by rw [List.length_map]; exact hl), ?_⟩
        have := earSet (j := (e.held.map V.int).length - 1) (v := 3) hx hD
        rw [List.length_map] at this
        rw [List.length_map]
        exact q _ Kp.d this
      · rw [if_neg (fun z => h (Bool.and_eq_true_iff.mpr ⟨decide_eq_true z.1, decide_eq_true z.2⟩))] at q
        exact q _ Kp.refl ⟨⟨dx, hx⟩, hD⟩

end Mine

namespace Mine
open PySem L2
theorem okGreat (k : Option Kd) : inV (.str (okstr k)) [.str "G", .str "D", .str "R"] = greatO k := by cases k with | none => decide +kernel | some k => cases k <;> decide +kernel
def sp_Ear_settle_right (C : Addr) : Sp := fun vs H Q _ => ∃ (x D : Addr) (e : Ea) (c : Bool) (k : Option Kd), vs = [.ref x, .str (okstr k)] ∧ EarAt C H x e D c ∧ e.held ≠ [] ∧
  ∀ H', Kp x D H H' → EarAt C H' x (settleRight e k) D c → Q .non H'
theorem ok_Ear_settle_right {P : Program} {w : World} {K : PySem.W.Frag} {mg : Str → Option Value} {base : Heap} {t : Adr} (T : Txt K w mg t) : FnOk P w K mg base CX0 (0 + 1) t.f_Ear_settle_right t.d_Ear_settle_right ["self", "kind"] (sp_Ear_settle_right t.C_Ear) := by
  refine T.F_Ear_settle_right.ok sc_Ear_settle_right (fun vs H Q E h => ?_) (fun cdv A outer s H vs Q E hr h => ?_)
  · obtain ⟨_, _, _, _, _, rfl, _⟩ := h
    rfl
  · obtain ⟨x, D, e, c, k, rfl, ⟨⟨dx, hx⟩, hD⟩, hne, q⟩ := h
    have hl : 0 < e.held.length := List.length_pos_iff.mpr hne
    have nx : x ≠ D := ne_of hx hD (by intro z; cases z)
    refine bodyOk (pss_cons (ps_mid (ps_if (pt_cmpR (op_notIn_seq.or op_notIn_str) (pv 1) (pe_glob (v := .ref t.a_GREAT_KINDS) rfl T.c_GREAT_KINDS rfl) rfl) (pss_cons (ps_asg (pe_glob (v := .int 2) rfl T.c_SHORTENED_WORTH ⟨_, rfl⟩) (pg_sub (pe_fld (pv 0) rfl) (pe_un un_neg pe_int) set_list)) (pss_one (ps_if (pt_val (pe_fld (pv 0) rfl)) (pss_one (ps_asg (pe_glob (v := .int 2) rfl T.c_SHORTENED_WORTH ⟨_, rfl⟩) (pg_sub (pe_fld (pv 0) rfl) pe_int set_list))) pss_nil))) pss_nil)) (pss_cons (ps_fld (pv 0) pe_bl rfl) (pss_one (ps_fld (pv 0) pe_bl rfl)))) ?_
    refine ⟨fun σ1 H1 => σ1 = [some (.ref x), some (.str (okstr k))] ∧ Kp x D H H1 ∧ H1 x = some (.ins t.C_Ear dx (eaF e D c)) ∧ H1 D = some (.lst ((if greatO k = true then e.held else if e.left = true then (setLast e.held 2).set 0 2 else setLast e.held 2).map V.int)), ?_, ?_⟩
    · (repeat array_get_dec)
      refine .inl ⟨_, _, rfl, .inr (T.q_GREAT_KINDS _), rfl, rfl, _, rfl, ?_⟩
      rw [okGreat]
      cases hg : greatO k with
      | true => exact iteF ⟨rfl, Kp.refl, hx, hD⟩
      | false =>
        refine iteT ?_
        refine ⟨_, rfl, x, _, dx, _, _, rfl, hx, T.cl_Ear, T.na_Ear_held, eaF_held _ _ _, ?_⟩
        (repeat array_get_dec)
        refine ⟨_, _, _, _, rfl, rfl, hD, negOne (by rw [List.length_map]; exact hl), ?_⟩
        rw [List.length_map, set_map]
        have hx1 : ∀ o, (upd H D o) x = some (.ins t.C_Ear dx (eaF e D c)) := fun o => by rw [upd_ne nx]; exact hx
        refine ⟨_, rfl, x, _, dx, _, _, rfl, hx1 _, T.cl_Ear, T.na_Ear_left, eaF_left _ _ _, _, rfl, ?_⟩
        refine ite2 (fun h => ?_) (fun h => ?_)
        · refine ⟨_, rfl, x, _, dx, _, _, rfl, hx1 _, T.cl_Ear, T.na_Ear_held, eaF_held _ _ _, ?_⟩
          (repeat array_get_dec)
          refine ⟨_, _, _, _, rfl, rfl, upd_same, ixN_nat (j := 0) rfl (by rw [List.length_map, List.length_set]; exact hl), ?_⟩
          rw [set_map, upd_upd]
          refine ⟨rfl, Kp.d, hx1 _, ?_⟩
          rw [if_neg Bool.false_ne_true, if_pos h]
          exact upd_same
        · refine ⟨rfl, Kp.d, hx1 _, ?_⟩
          rw [if_neg Bool.false_ne_true, if_neg h]
          exact upd_same
    · rintro σ1 H1 ⟨rfl, kp, h1, h2⟩
      refine ⟨_, rfl, x, _, dx, _, rfl, h1, T.cl_Ear, T.na_Ear_left, by show 7 < 1000; decide, ?_⟩
      rw [eaF_put_left]
      refine ⟨_, rfl, x, _, dx, _, rfl, upd_same, T.cl_Ear, T.na_Ear_right, by show 7 < 1000; decide, ?_⟩
      rw [upd_upd]
      have e1 : putF "right" (V.bl false) (eaF { e with left := false } D c) = eaF { e with left := false, right := false } D c := eaF_put_right _ _ _ _
      show Q .non (upd H1 x (.ins t.C_Ear dx (putF "right" (V.bl false) (eaF { e with left := false } D c))))
      rw [e1]
      refine q _ (kp.trans Kp.x) ?_
      unfold settleRight
      have nD : D ≠ x := Ne.symm nx
      by_cases hg : greatO k = true
      · rw [if_pos hg] at h2 ⊢
        exact ⟨⟨dx, upd_same⟩, by rw [upd_ne nD]; exact h2⟩
      · rw [if_neg hg] at h2 ⊢
        exact ⟨⟨dx, upd_same⟩, by rw [upd_ne nD]; exact h2⟩

end Mine

namespace Mine
open PySem L2
theorem rest3 (c : Nat) (n : Nat) (hn : n < 3) : decide (V.int ((c : Int) % 3) = V.int (n : Int)) = decide (c % 3 = n) := by
  by_cases h : c % 3 = n
  · rw [decide_eq_true h]
    exact decide_eq_true (by congr 1; omega)
  · rw [decide_eq_false h]
    exact decide_eq_false fun e => h (by injection e with e; omega)
theorem rest1 (c : Nat) : decide (V.int ((c : Int) % 3) = V.int 1) = decide (c % 3 = 1) := rest3 c 1 (by decide)
theorem rest2 (c : Nat) : decide (V.int ((c : Int) % 3) = V.int 2) = decide (c % 3 = 2) := rest3 c 2 (by decide)
def sp_Ear_close_run (C : Addr) : Sp := fun vs H Q _ => ∃ (x D : Addr) (e : Ea) (c : Bool) (k : Option Kd), vs = [.ref x, .str (okstr k)] ∧ EarAt C H x e D c ∧ (e.cnt % 3 = 2 → e.last = some .s → e.held ≠ []) ∧ (e.left = true → e.held ≠ []) ∧
  ∀ H', Kp x D H H' → EarAt C H' x (closeRun e k) D c → Q .non H'
theorem ok_Ear_close_run {P : Program} {w : World} {K : PySem.W.Frag} {mg : Str → Option Value} {base : Heap} {t : Adr} (T : Txt K w mg t) : FnOk P w K mg base CX0 (0 + 1) t.f_Ear_close_run t.d_Ear_close_run ["self", "kind"] (sp_Ear_close_run t.C_Ear) := by
  refine T.F_Ear_close_run.ok sc_Ear_close_run (fun vs H Q E h => ?_) (fun cdv A outer s H vs Q E hr h => ?_)
  · obtain ⟨_, _, _, _, _, rfl, _⟩ := h
    rfl
  · obtain ⟨x, D, e, c, k, rfl, ⟨⟨dx, hx⟩, hD⟩, hn1, hn2, q⟩ := h
    have nx : x ≠ D := ne_of hx hD (by intro z; cases z)
    have nD : D ≠ x := Ne.symm nx
    refine bodyOk (pss_cons (ps_set (i := 2) sc_Ear_close_run.nd rfl (Or.inl rfl) (pe_op op_mod (pe_fld (pv 0) rfl) pe_int)) (pss_cons (ps_fld (pv 0) pe_int rfl) (pss_cons (ps_mid (ps_if (pt_mid (PW.pt (pw_and (pt_cmpR (op_eq.or (op_eqD (hu_of64 hr))) (pv 2) pe_int (nomark _)) (pw_and (pt_cmpR (op_eq.or (op_eqD (hu_of64 hr))) (pe_fld (pv 0) rfl) pe_str (nomark _)) (pw_and1 (pt_cmpR (op_in_seq.or op_in_str) (pv 1) (pe_glob (v := .ref t.a_GREAT_KINDS) rfl T.c_GREAT_KINDS rfl) rfl)))))) (pss_one (ps_asg (pe_glob (v := .int 2) rfl T.c_DOUBLED_WORTH ⟨_, rfl⟩) (pg_sub (pe_fld (pv 0) rfl) (pe_un un_neg pe_int) set_list))) (pss_one (ps_if (pt_mid (PW.pt (pw_and (pt_cmpR (op_eq.or (op_eqD (hu_of64 hr))) (pv 2) pe_int (nomark _)) (pw_and (pt_val (pe_fld (pv 0) rfl)) (pw_and1 (pt_cmpR (op_eq.or (op_eqD (hu_of64 hr))) (pv 1) pe_str (nomark _))))))) (pss_cons (ps_fld (pv 0) pe_bl rfl) (pss_one ps_retN)) (pss_one (ps_if (pt_mid (PW.pt (pw_and (pt_cmpR (op_eq.or (op_eqD (hu_of64 hr))) (pv 2) pe_int (nomark _)) (pw_and1 (pt_val (pe_fld (pv 0) rfl)))))) (pss_one (ps_asg (pe_glob (v := .int 2) rfl T.c_SHORTENED_WORTH ⟨_, rfl⟩) (pg_sub (pe_fld (pv 0) rfl) pe_int set_list))) (pss_one (ps_if (pt_mid (PW.pt (pw_and (pt_cmpR (op_eq.or (op_eqD (hu_of64 hr))) (pv 2) pe_int (nomark _)) (pw_and1 (pt_cmpR (op_eq.or (op_eqD (hu_of64 hr))) (pv 1) pe_str (nomark _)))))) (pss_one (ps_fld (pv 0) pe_bl rfl)) pss_nil)))))))) (pss_one (ps_fld (pv 0) pe_bl rfl))))) ?_
    refine ⟨_, rfl, x, _, dx, _, _, rfl, hx, T.cl_Ear, T.na_Ear_counted, eaF_counted _ _ _, ?_⟩
    (repeat array_get_dec)
    refine ⟨x, _, dx, _, rfl, hx, T.cl_Ear, T.na_Ear_counted, by show 7 < 1000; decide, ?_⟩
    rw [show putF "counted" (V.int 0) (eaF e D c) = eaF { e with cnt := 0 } D c from eaF_put_counted _ _ _ _]
    have k0 : Kp x D H (upd H x (.ins t.C_Ear dx (eaF { e with cnt := 0 } D c))) := Kp.x
    have h0 : upd H x (.ins t.C_Ear dx (eaF { e with cnt := 0 } D c)) x = some (.ins t.C_Ear dx (eaF { e with cnt := 0 } D c)) := upd_same
    have d0 : upd H x (.ins t.C_Ear dx (eaF { e with cnt := 0 } D c)) D = some (.lst (e.held.map V.int)) := by rw [upd_ne nD]; exact hD
    generalize upd H x (.ins t.C_Ear dx (eaF { e with cnt := 0 } D c)) = H0 at k0 h0 d0
    have hx1 : ∀ o, (upd H0 D o) x = some (.ins t.C_Ear dx (eaF { e with cnt := 0 } D c)) := fun o => by rw [upd_ne nx]; exact h0
    have fin : ∀ (e1 : Ea) (H1 : Hp), Kp x D H H1 → H1 x = some (.ins t.C_Ear dx (eaF e1 D c)) → H1 D = some (.lst (e1.held.map V.int)) → closeRun e k = { e1 with left := false } → ∀ σ, sFld K (tVar 0) (tC (V.bl false)) "left" { nx := fun _ H' => Q .non H', rt := Q } (some (.ref x) :: σ) H1 := by
      intro e1 H1 kp h1 d1 hc σ
      refine ⟨_, rfl, x, _, dx, _, rfl, h1, T.cl_Ear, T.na_Ear_left, by show 7 < 1000; decide, ?_⟩
      rw [show putF "left" (V.bl false) (eaF e1 D c) = eaF { e1 with left := false } D c from eaF_put_left _ _ _ _]
      refine q _ (kp.trans Kp.x) ?_
      rw [hc]
      exact ⟨⟨dx, upd_same⟩, by rw [upd_ne nD]; exact d1⟩
    refine ⟨fun σ1 H1 => ∃ e1, σ1 = [some (.ref x), some (.str (okstr k)), some (.int ((e.cnt : Int) % 3))] ∧ Kp x D H H1 ∧ H1 x = some (.ins t.C_Ear dx (eaF e1 D c)) ∧ H1 D = some (.lst (e1.held.map V.int)) ∧ closeRun e k = { e1 with left := false }, ?_, ?_⟩
    · refine midB (decide (e.cnt % 3 = 2) && (decide (e.last = some .s) && greatO k)) ?_ ?_
      · (repeat array_get_dec)
        rw [rest2]
        refine ite2 (fun h => ?_) (fun h => ?_)
        · refine ⟨_, rfl, x, _, dx, _, _, rfl, h0, T.cl_Ear, T.na_Ear_last, eaF_last _ _ _, ?_⟩
          (repeat array_get_dec)
          rw [o_s]
          refine ite2 (fun h2 => ?_) (fun h2 => ?_)
          · (repeat array_get_dec)
            refine .inl ⟨_, _, rfl, .inr (T.q_GREAT_KINDS _), rfl, rfl, _, rfl, ?_⟩
            rw [okGreat]
            exact endB (by rw [h, h2]; rfl)
          · exact endB (by rw [h, Bool.eq_false_iff.mpr h2]; rfl)
        · exact endB (by rw [Bool.eq_false_iff.mpr h]; rfl)
      refine ite2 (fun h => ?_) (fun h => ?_)
      · obtain ⟨a1, a2⟩ := Bool.and_eq_true_iff.mp h
        obtain ⟨a2, a3⟩ := Bool.and_eq_true_iff.mp a2
        have a1 := of_decide_eq_true a1
        have a2 := of_decide_eq_true a2
        have hl : 0 < e.held.length := List.length_pos_iff.mpr (hn1 a1 a2)
        refine ⟨_, rfl, x, _, dx, _, _, rfl, h0, T.cl_Ear, T.na_Ear_held, eaF_held _ _ _, ?_⟩
        (repeat array_get_dec)
        refine ⟨_, _, _, _, rfl, rfl, d0, negOne (by rw [List.length_map]; exact hl), ?_⟩
        rw [List.length_map, set_map]
        exact ⟨{ e with cnt := 0, held := setLast e.held 2 }, rfl, k0.trans Kp.d, hx1 _, upd_same, by unfold closeRun; rw [if_pos ⟨a1, a2, a3⟩]⟩
      · have g1 : ¬ (e.cnt % 3 = 2 ∧ e.last = some .s ∧ greatO k = true) := fun z => h (by rw [decide_eq_true z.1, decide_eq_true z.2.1, z.2.2]; rfl)
        refine midB (decide (e.cnt % 3 = 2) && (e.left && decide (k = some .G))) ?_ ?_
        · (repeat array_get_dec)
          rw [rest2]
          refine ite2 (fun h => ?_) (fun h => ?_)
          · refine ⟨_, rfl, x, _, dx, _, _, rfl, h0, T.cl_Ear, T.na_Ear_left, eaF_left _ _ _, ?_⟩
            refine ⟨_, rfl, ?_⟩
            refine ite2 (fun h2 => ?_) (fun h2 => ?_)
            · (repeat array_get_dec)
              rw [o_G]
              exact endB (by rw [h, h2]; rfl)
            · exact endB (by rw [h, Bool.eq_false_iff.mpr h2]; rfl)
          · exact endB (by rw [Bool.eq_false_iff.mpr h]; rfl)
        refine ite2 (fun h => ?_) (fun h => ?_)
        · obtain ⟨a1, a2⟩ := Bool.and_eq_true_iff.mp h
          obtain ⟨a2, a3⟩ := Bool.and_eq_true_iff.mp a2
          have a1 := of_decide_eq_true a1
          have a3 := of_decide_eq_true a3
          refine ⟨_, rfl, x, _, dx, _, rfl, h0, T.cl_Ear, T.na_Ear_right, by show 7 < 1000; decide, ?_⟩
          rw [show putF "right" (V.bl true) (eaF { e with cnt := 0 } D c) = eaF { e with cnt := 0, right := true } D c from eaF_put_right _ _ _ _]
          refine q _ (k0.trans Kp.x) ?_
          unfold closeRun
          rw [if_neg g1, if_pos ⟨a1, a2, a3⟩]
          exact ⟨⟨dx, upd_same⟩, by rw [upd_ne nD]; exact d0⟩
        · have g2 : ¬ (e.cnt % 3 = 2 ∧ e.left = true ∧ k = some .G) := fun z => h (by rw [decide_eq_true z.1, z.2.1, decide_eq_true z.2.2]; rfl)
          refine midB (decide (e.cnt % 3 = 1) && e.left) ?_ ?_
          · (repeat array_get_dec)
            rw [rest1]
            refine ite2 (fun h => ?_) (fun h => ?_)
            · refine ⟨_, rfl, x, _, dx, _, _, rfl, h0, T.cl_Ear, T.na_Ear_left, eaF_left _ _ _, ?_⟩
              refine ⟨_, rfl, ?_⟩
              exact endB (by rw [h]; rfl)
            · exact endB (by rw [Bool.eq_false_iff.mpr h]; rfl)
          refine ite2 (fun h => ?_) (fun h => ?_)
          · obtain ⟨a1, a2⟩ := Bool.and_eq_true_iff.mp h
            have a1 := of_decide_eq_true a1
            have hl : 0 < e.held.length := List.length_pos_iff.mpr (hn2 a2)
            refine ⟨_, rfl, x, _, dx, _, _, rfl, h0, T.cl_Ear, T.na_Ear_held, eaF_held _ _ _, ?_⟩
            (repeat array_get_dec)
            refine ⟨_, _, _, _, rfl, rfl, d0, ixN_nat (j := 0) rfl (by rw [List.length_map]; exact hl), ?_⟩
            rw [set_map]
            exact ⟨{ e with cnt := 0, held := e.held.set 0 2 }, rfl, k0.trans Kp.d, hx1 _, upd_same, by unfold closeRun; rw [if_neg g1, if_neg g2, if_pos ⟨a1, a2⟩]⟩
          · have g3 : ¬ (e.cnt % 3 = 1 ∧ e.left = true) := fun z => h (by rw [decide_eq_true z.1, z.2]; rfl)
            refine midB (decide (e.cnt % 3 = 1) && decide (k = some .G)) ?_ ?_
            · (repeat array_get_dec)
              rw [rest1]
              refine ite2 (fun h => ?_) (fun h => ?_)
              · (repeat array_get_dec)
                rw [o_G]
                exact endB (by rw [h]; rfl)
              · exact endB (by rw [Bool.eq_false_iff.mpr h]; rfl)
            refine ite2 (fun h => ?_) (fun h => ?_)
            · obtain ⟨a1, a2⟩ := Bool.and_eq_true_iff.mp h
              have a1 := of_decide_eq_true a1
              have a2 := of_decide_eq_true a2
              refine ⟨_, rfl, x, _, dx, _, rfl, h0, T.cl_Ear, T.na_Ear_right, by show 7 < 1000; decide, ?_⟩
              rw [show putF "right" (V.bl true) (eaF { e with cnt := 0 } D c) = eaF { e with cnt := 0, right := true } D c from eaF_put_right _ _ _ _]
              exact ⟨{ e with cnt := 0, right := true }, rfl, k0.trans Kp.x, upd_same, by rw [upd_ne nD]; exact d0, by unfold closeRun; rw [if_neg g1, if_neg g2, if_neg g3, if_pos ⟨a1, a2⟩]⟩
            · have g4 : ¬ (e.cnt % 3 = 1 ∧ k = some .G) := fun z => h (by rw [decide_eq_true z.1, decide_eq_true z.2]; rfl)
              exact ⟨{ e with cnt := 0 }, rfl, k0, h0, d0, by unfold closeRun; rw [if_neg g1, if_neg g2, if_neg g3, if_neg g4]⟩
    · rintro σ1 H1 ⟨e1, rfl, kp, h1, d1, hc⟩
      exact fin e1 H1 kp h1 d1 hc _

end Mine

namespace Mine
open PySem L2
theorem okSmall (k : Option Kd) : inV (.str (okstr k)) [.str "s", .str "d", .str "r"] = smallO k := by cases k with | none => decide +kernel | some k => cases k <;> decide +kernel
/-- what holds between the places of an ear's lists -/
def sp_Ear_settled_by (C : Addr) : Sp := fun vs H Q _ => ∃ (x D : Addr) (e : Ea) (c : Bool) (k : Option Kd), vs = [.ref x, .str (okstr k)] ∧ EarAt C H x e D c ∧ (∃ m P T, Sh e m P T) ∧
  ∀ (L D' : Addr) (H' : Hp), Kp x D H H' → EarAt C H' x (settledBy e k).1 D' c → H' L = some (.lst ((settledBy e k).2.map V.int)) → L ≠ D' → ((L = D ∧ H D' = none) ∨ (D' = D ∧ H L = none)) → Q (.ref L) H'
theorem sh_dot {e : Ea} {m : Int} {P : List Kd} {T : Nat} (h : Sh e m P T) (hm : e.m = 2) : e.last = some .G → e.held ≠ [] := by
  cases h <;> first | (cases hm; done) | (intro z; rename_i hz; exact absurd z hz) | (intro _; exact List.cons_ne_nil _ _)
theorem sh_right {e : Ea} {m : Int} {P : List Kd} {T : Nat} (h : Sh e m P T) (hr : e.right = true) : e.held ≠ [] := by
  cases h <;> first | (cases hr; done) | exact List.cons_ne_nil _ _ | simp
theorem sh_left {e : Ea} {m : Int} {P : List Kd} {T : Nat} (h : Sh e m P T) (hr : e.left = true) : e.held ≠ [] := by
  cases h <;> first | (cases hr; done) | exact List.cons_ne_nil _ _ | simp
theorem sh_dbl {e : Ea} {m : Int} {P : List Kd} {T : Nat} (h : Sh e m P T) (hr : e.right = false) (hm : e.m ≠ 2) (h2 : e.cnt % 3 = 2) (hs : e.last = some .s) : e.held ≠ [] := by
  cases h with
  | two _ => exact absurd rfl hm
  | twoG => exact absurd rfl hm
  | run hr' hl =>
    have hP : P ≠ [] := fun z => by rw [z] at h2; cases h2
    have h2' : P.length % 3 = 2 := h2
    have : hang P = true := by unfold hang; rw [decide_eq_true h2', decide_eq_true ((hl hP).symm.trans hs)]; rfl
    show heldR P ≠ []
    unfold heldR
    rw [if_pos this]
    simp
  | left _ => exact List.cons_ne_nil _ _
  | right _ _ => cases hr
  | both _ _ _ => cases hr
theorem ok_Ear_settled_by {P : Program} {w : World} {K : PySem.W.Frag} {mg : Str → Option Value} {base : Heap} {t : Adr} (T : Txt K w mg t) : FnOk P w K mg base CX0 (0 + 2) t.f_Ear_settled_by t.d_Ear_settled_by ["self", "kind"] (sp_Ear_settled_by t.C_Ear) := by
  have G_Ear_let_go := ok_Ear_let_go (P := P) (w := w) (base := base) T
  have G_Ear_settle_dotted := ok_Ear_settle_dotted (P := P) (w := w) (base := base) T
  have G_Ear_settle_right := ok_Ear_settle_right (P := P) (w := w) (base := base) T
  have G_Ear_close_run := ok_Ear_close_run (P := P) (w := w) (base := base) T
  refine T.F_Ear_settled_by.ok sc_Ear_settled_by (fun vs H Q E h => ?_) (fun cdv A outer s H vs Q E hr h => ?_)
  · obtain ⟨_, _, _, _, _, rfl, _⟩ := h
    rfl
  · obtain ⟨x, D, e, c, k, rfl, hE, ⟨m, P, TT, hS⟩, q⟩ := h
    obtain ⟨dx, hx⟩ := hE.1
    refine bodyOk (pss_cons (ps_mid (ps_if (pt_cmpR (op_eq.or (op_eqD (hu_of64 hr))) (pe_fld (pv 0) rfl) pe_int (nomark _)) (pss_one (ps_expr (pe_meth (pv 0) T.cl_Ear T.me_Ear_settle_dotted G_Ear_settle_dotted (hr.mono (by decide)) T.b_Ear_settle_dotted .nil pass0 (pa_cons (pv 1) pa_nil)))) (pss_one (ps_if (pt_val (pe_fld (pv 0) rfl)) (pss_one (ps_expr (pe_meth (pv 0) T.cl_Ear T.me_Ear_settle_right G_Ear_settle_right (hr.mono (by decide)) T.b_Ear_settle_right .nil pass0 (pa_cons (pv 1) pa_nil)))) (pss_one (ps_if (pt_cmpR (op_notIn_seq.or op_notIn_str) (pv 1) (pe_glob (v := .ref t.a_SMALL_KINDS) rfl T.c_SMALL_KINDS rfl) rfl) (pss_one (ps_expr (pe_meth (pv 0) T.cl_Ear T.me_Ear_close_run G_Ear_close_run (hr.mono (by decide)) T.b_Ear_close_run .nil pass0 (pa_cons (pv 1) pa_nil)))) pss_nil)))))) (pss_cons (ps_if (pt_val (pe_fld (pv 0) rfl)) (pss_one (ps_ret (pe_lst pa_nil))) pss_nil) (pss_one (ps_ret (pe_meth0 (pv 0) T.cl_Ear T.me_Ear_let_go G_Ear_let_go (hr.mono (by decide)) T.b_Ear_let_go .nil pass0))))) ?_
    refine ⟨fun σ1 H1 => σ1 = [some (.ref x), some (.str (okstr k))] ∧ Kp x D H H1 ∧ EarAt t.C_Ear H1 x (settleE e k) D c, ?_, ?_⟩
    · refine ⟨_, rfl, x, _, dx, _, _, rfl, hx, T.cl_Ear, T.na_Ear_measure, eaF_measure _ _ _, ?_⟩
      (repeat array_get_dec)
      rw [dec_int']
      refine ite2 (fun h => ?_) (fun h => ?_)
      · have hm := of_decide_eq_true h
        refine ⟨_, rfl, x, dx, _, rfl, hx, eaF_no_settle_dotted _ _ _, ?_⟩
        (repeat array_get_dec)
        refine ⟨x, D, e, c, k, rfl, hE, fun h1 _ => sh_dot hS hm h1, fun H' kp hE' => ⟨rfl, kp, ?_⟩⟩
        unfold settleE
        rw [if_pos hm]
        exact hE'
      · have hm : ¬ e.m = 2 := fun z => h (decide_eq_true z)
        refine ⟨_, rfl, x, _, dx, _, _, rfl, hx, T.cl_Ear, T.na_Ear_right, eaF_right _ _ _, ?_⟩
        refine ⟨_, rfl, ?_⟩
        refine ite2 (fun h => ?_) (fun h => ?_)
        · refine ⟨_, rfl, x, dx, _, rfl, hx, eaF_no_settle_right _ _ _, ?_⟩
          (repeat array_get_dec)
          refine ⟨x, D, e, c, k, rfl, hE, sh_right hS h, fun H' kp hE' => ⟨rfl, kp, ?_⟩⟩
          unfold settleE
          rw [if_neg hm, if_pos h]
          exact hE'
        · have hr0 : e.right = false := Bool.eq_false_iff.mpr h
          (repeat array_get_dec)
          refine .inl ⟨_, _, rfl, .inr (T.q_SMALL_KINDS _), rfl, rfl, _, rfl, ?_⟩
          rw [okSmall]
          cases hs : smallO k with
          | true =>
            refine iteF ⟨rfl, Kp.refl, ?_⟩
            unfold settleE
            rw [if_neg hm, if_neg h, if_pos hs]
            exact hE
          | false =>
            refine iteT ?_
            refine ⟨_, rfl, x, dx, _, rfl, hx, eaF_no_close_run _ _ _, ?_⟩
            (repeat array_get_dec)
            refine ⟨x, D, e, c, k, rfl, hE, sh_dbl hS hr0 hm, sh_left hS, fun H' kp hE' => ⟨rfl, kp, ?_⟩⟩
            unfold settleE
            rw [if_neg hm, if_neg h, hs, if_neg Bool.false_ne_true]
            exact hE'
    · rintro σ1 H1 ⟨rfl, kp, hE1⟩
      obtain ⟨dx1, hx1⟩ := hE1.1
      have hD := hE.2
      refine ⟨_, rfl, x, _, dx1, _, _, rfl, hx1, T.cl_Ear, T.na_Ear_left, eaF_left _ _ _, _, rfl, ?_⟩
      unfold settledBy at q
      refine ite2 (fun h => ?_) (fun h => ?_)
      · rw [if_pos h] at q
        refine ⟨big (by show 0 ≤ 1000; omega), fun L hL => ?_⟩
        have hLH : H L = none := by
          cases z : H L with
          | none => rfl
          | some o =>
            by_cases e1 : L = x
            · rw [e1, hx1] at hL; cases hL
            · by_cases e2 : L = D
              · rw [e2, hE1.2] at hL; cases hL
              · rw [kp L o z e1 e2] at hL; cases hL
        refine q L D _ (kp.trans (Kp.same (Same.upd hL))) (hE1.same (Same.upd hL)) upd_same ?_ (.inr ⟨rfl, hLH⟩)
        exact fun z => by rw [z, hE1.2] at hL; cases hL
      · rw [if_neg h] at q
        refine ⟨_, rfl, x, dx1, _, rfl, hx1, eaF_no_let_go _ _ _, ?_⟩
        refine ⟨x, D, settleE e k, c, rfl, hE1, fun D' H' hD' k2 hE2 => ?_⟩
        have nDD : D ≠ D' := ne_of_none hE1.2 hD'
        have hH : H D' = none := by
          cases z : H D' with
          | none => rfl
          | some o =>
            by_cases e1 : D' = x
            · rw [e1, hx1] at hD'; cases hD'
            · rw [kp D' o z e1 (Ne.symm nDD)] at hD'; cases hD'
        exact q D D' H' (kp.trans fun b o hb h1 _ => k2 b o hb h1) hE2 (k2 D _ hE1.2 (Ne.symm hE.ne)) nDD (.inl ⟨rfl, hH⟩)

end Mine

namespace Mine
open PySem L2
def sp_Ear_close (C X : Addr) : Sp := fun vs H Q E => (∃ (x D : Addr) (e : Ea), vs = [.ref x] ∧ EarAt C H x e D true ∧ E (.ref X) none H) ∨ ∃ (x D : Addr) (e : Ea), vs = [.ref x] ∧ EarAt C H x e D false ∧ (∃ m P T, Sh e m P T) ∧
  ∀ (L D' : Addr) (H' : Hp), Kp x D H H' → EarAt C H' x (settledBy e none).1 D' true → H' L = some (.lst ((closeE e).map V.int)) → L ≠ D' → (L = D ∨ H L = none) → (D' = D ∨ H D' = none) → Q (.ref L) H'
theorem ok_Ear_close {P : Program} {w : World} {K : PySem.W.Frag} {mg : Str → Option Value} {base : Heap} {t : Adr} (T : Txt K w mg t) : FnOk P w K mg base (CX1 P w) (0 + 3) t.f_Ear_close t.d_Ear_close ["self"] (sp_Ear_close t.C_Ear t.C_Closed) := by
  have G_Ear_refuse_where_closed := ok_Ear_refuse_where_closed (P := P) (w := w) (base := base) T
  have G_Ear_settled_by := ok_Ear_settled_by (P := P) (w := w) (base := base) T
  refine T.F_Ear_close.okX sc_Ear_close (fun vs H Q E h => ?_) (fun cdv A outer s H vs Q E hr h => ?_)
  · rcases h with ⟨_, _, _, rfl, _⟩ | ⟨_, _, _, rfl, _⟩ <;> rfl
  · rcases h with ⟨x, D, e, rfl, hE, q⟩ | ⟨x, D, e, rfl, hE, hS, q⟩
    · obtain ⟨dx, hx⟩ := hE.1
      refine bodyOk (pss_cons (ps_expr (pe_methX0 (X := (cxOf (CX1 P w) P w K mg base ["self"] "Ear.close" (defScope s_Ear_close) t.f_Ear_close cdv A outer s H E)) (pv 0) T.cl_Ear T.me_Ear_refuse_where_closed G_Ear_refuse_where_closed (hr.mono (by decide)) T.b_Ear_refuse_where_closed .nil (fun _ _ z => Or.inl z))) (pss_cons (ps_fld (pv 0) pe_bl rfl) (pss_one (ps_ret (pe_meth (pv 0) T.cl_Ear T.me_Ear_settled_by G_Ear_settled_by (hr.mono (by decide)) T.b_Ear_settled_by .nil pass0 (pa_cons (pe_glob (v := .str "") rfl T.c_NOTHING_MORE ⟨_, rfl⟩) pa_nil)))))) ?_
      refine ⟨_, rfl, x, dx, _, rfl, hx, eaF_no_refuse_where_closed _ _ _, ?_⟩
      exact ⟨x, D, e, true, rfl, hE, (fun z => nomatch z), fun _ => q⟩
    obtain ⟨dx, hx⟩ := hE.1
    refine bodyOk (pss_cons (ps_expr (pe_methX0 (X := (cxOf (CX1 P w) P w K mg base ["self"] "Ear.close" (defScope s_Ear_close) t.f_Ear_close cdv A outer s H E)) (pv 0) T.cl_Ear T.me_Ear_refuse_where_closed G_Ear_refuse_where_closed (hr.mono (by decide)) T.b_Ear_refuse_where_closed .nil (fun _ _ z => Or.inl z))) (pss_cons (ps_fld (pv 0) pe_bl rfl) (pss_one (ps_ret (pe_meth (pv 0) T.cl_Ear T.me_Ear_settled_by G_Ear_settled_by (hr.mono (by decide)) T.b_Ear_settled_by .nil pass0 (pa_cons (pe_glob (v := .str "") rfl T.c_NOTHING_MORE ⟨_, rfl⟩) pa_nil)))))) ?_
    refine ⟨_, rfl, x, dx, _, rfl, hx, eaF_no_refuse_where_closed _ _ _, ?_⟩
    refine ⟨x, D, e, false, rfl, hE, fun _ => ?_, fun z => nomatch z⟩
    refine ⟨_, rfl, x, _, dx, _, rfl, hx, T.cl_Ear, T.na_Ear_is_closed, by show 7 < 1000; decide, ?_⟩
    rw [show putF "is_closed" (V.bl true) (eaF e D false) = eaF e D true from eaF_put_is_closed _ _ _ _]
    have nx := hE.ne
    have hE1 : EarAt t.C_Ear (upd H x (.ins t.C_Ear dx (eaF e D true))) x e D true := ⟨⟨dx, upd_same⟩, by rw [upd_ne (Ne.symm nx)]; exact hE.2⟩
    have back : ∀ y, upd H x (.ins t.C_Ear dx (eaF e D true)) y = none → H y = none := fun y hy => by
      unfold upd at hy
      split at hy
      · cases hy
      · exact hy
    refine ⟨_, rfl, x, dx, _, rfl, upd_same, eaF_no_settled_by _ _ _, ?_⟩
    refine ⟨x, D, e, true, none, rfl, hE1, hS, fun L D' H' kp h1 h2 h3 h4 => ?_⟩
    exact q L D' H' (Kp.x.trans kp) h1 h2 h3 (h4.elim (fun z => .inl z.1) fun z => .inr (back L z.2)) (h4.elim (fun z => .inr (back D' z.2)) fun z => .inl z.1)

end Mine

namespace Mine
open PySem L2
def sp_l_many : Sp := fun vs H Q _ => ∃ c : Int, vs = [.int c] ∧ ∀ r : Nat, r ≤ 48 → Q (.int (r : Int)) H
theorem ok_l_many {P : Program} {w : World} {K : PySem.W.Frag} {mg : Str → Option Value} {base : Heap} {t : Adr} (T : Txt K w mg t) : FnOk P w K mg base CX0 (0 + 1) t.f_l_many t.d_l_many ["_law_cell"] sp_l_many := by
  refine T.F_l_many.ok sc_l_many (fun vs H Q E h => ?_) (fun cdv A outer s H vs Q E hr h => ?_)
  · obtain ⟨_, rfl, _⟩ := h
    rfl
  · obtain ⟨c, rfl, q⟩ := h
    have q' : ∀ r : Int, 0 ≤ r → r ≤ 48 → Q (.int r) H := fun r h0 h1 => by
      have := q r.toNat (by omega)
      rwa [show ((r.toNat : Nat) : Int) = r by omega] at this
    refine bodyOk (pss_cons (ps_if (pt_cmpR (op_eq.or (op_eqD (hu_of64 hr))) (pe_op op_mod (pe_op op_fdiv (pv 0) pe_int) pe_int) pe_int (nomark _)) (pss_one (ps_ret (pe_op op_mod (pe_op op_fdiv (pv 0) pe_int) pe_int))) pss_nil) (pss_one (ps_ret (pe_op op_mod (pv 0) pe_int)))) ?_
    (repeat array_get_dec)
    refine ite2 (fun _ => ?_) (fun _ => ?_)
    · (repeat array_get_dec)
      exact q' _ (by omega) (by omega)
    · (repeat array_get_dec)
      exact q' _ (by omega) (by omega)

end Mine

namespace Mine
open PySem L2
def sp_sets_measure : Sp := fun vs H Q _ => ∃ (p : Addr) (s : Sg), vs = [.ref p] ∧ H p = some (.tup [.str s.1.str, .int s.2]) ∧ Q (.bl s.1.meas) H
theorem k_meas (k : Kd) : inV (.str k.str) [.str "3", .str "2"] = k.meas := by cases k <;> decide +kernel
theorem ok_sets_measure {P : Program} {w : World} {K : PySem.W.Frag} {mg : Str → Option Value} {base : Heap} {t : Adr} (T : Txt K w mg t) : FnOk P w K mg base CX0 (0 + 1) t.f_sets_measure t.d_sets_measure ["sign"] sp_sets_measure := by
  refine T.F_sets_measure.ok sc_sets_measure (fun vs H Q E h => ?_) (fun cdv A outer s H vs Q E hr h => ?_)
  · obtain ⟨_, _, rfl, _⟩ := h
    rfl
  · obtain ⟨p, s, rfl, hp, q⟩ := h
    rw [← k_meas] at q
    refine bodyOk (pss_one (ps_ret (pe_cmpR (op_in_seq.or op_in_str) (pe_ix ix_seq (pv 0) pe_int (fun _ _ => rfl)) (pe_glob (v := .ref t.a_MEASURE_KINDS) rfl T.c_MEASURE_KINDS rfl) rfl))) ?_
    (repeat array_get_dec)
    exact .inl ⟨_, _, rfl, .inr (T.q_MEASURE_KINDS _), rfl, rfl, q⟩

end Mine

namespace Mine
open PySem L2
def sp_plain_worth : Sp := fun vs H Q _ => ∃ (k : Kd) (m : Int), vs = [.str k.str, .int m] ∧ Q (.int (pw k m)) H
theorem ok_plain_worth {P : Program} {w : World} {K : PySem.W.Frag} {mg : Str → Option Value} {base : Heap} {t : Adr} (T : Txt K w mg t) : FnOk P w K mg base CX0 (0 + 1) t.f_plain_worth t.d_plain_worth ["kind", "measure"] sp_plain_worth := by
  refine T.F_plain_worth.ok sc_plain_worth (fun vs H Q E h => ?_) (fun cdv A outer s H vs Q E hr h => ?_)
  · obtain ⟨_, _, rfl, _⟩ := h
    rfl
  · obtain ⟨k, m, rfl, q⟩ := h
    refine bodyOk (pss_cons (ps_if (pt_mid (PW.pt (pw_and (pt_cmpR (op_eq.or (op_eqD (hu_of64 hr))) (pv 1) pe_int (nomark _)) (pw_and1 (pt_cmpR op_in_kd (pv 0) (pe_glob (v := .ref t.a_TWOFOLD_WORTHS) rfl T.c_TWOFOLD_WORTHS rfl) rfl))))) (pss_one (ps_ret (pe_ix ix_kd (pe_glob (v := .ref t.a_TWOFOLD_WORTHS) rfl T.c_TWOFOLD_WORTHS rfl) (pv 0) (fun _ _ => rfl)))) pss_nil) (pss_one (ps_ret (pe_ix ix_kd (pe_glob (v := .ref t.a_PLAIN_WORTHS) rfl T.c_PLAIN_WORTHS rfl) (pv 0) (fun _ _ => rfl))))) ?_
    refine midB (decide (m = 2) && (decide (k = .G) || decide (k = .R))) ?_ ?_
    · (repeat array_get_dec)
      rw [dec_int']
      refine ite2 (fun h => ?_) (fun h => ?_)
      · (repeat array_get_dec)
        refine ⟨_, _, _, rfl, rfl, T.kd_TWOFOLD_WORTHS, _, rfl, endB ?_⟩
        rw [h]
        cases k <;> decide +kernel
      · exact endB (by rw [Bool.eq_false_iff.mpr h]; rfl)
    · refine ite2 (fun h => ?_) (fun h => ?_)
      · (repeat array_get_dec)
        obtain ⟨h1, h2⟩ := Bool.and_eq_true_iff.mp h
        have hm := of_decide_eq_true h1
        have e : [(Str.ofString "G", V.int 2), (Str.ofString "R", V.int 2)].lookup k.str = some (.int (pw k m)) := by
          rw [hm]
          cases k <;> first | decide +kernel | (exfalso; revert h2; decide)
        exact ⟨_, _, _, _, rfl, rfl, T.kd_TWOFOLD_WORTHS, e, q⟩
      · (repeat array_get_dec)
        have e : [(Str.ofString "G", V.int 3), (Str.ofString "D", V.int 2), (Str.ofString "R", V.int 3), (Str.ofString "s", V.int 1), (Str.ofString "d", V.int 1), (Str.ofString "r", V.int 1), (Str.ofString ".", V.int 0), (Str.ofString "3", V.int 0), (Str.ofString "2", V.int 0)].lookup k.str = some (.int (pw k m)) := by
          by_cases hm : m = 2
          · rw [hm] at h ⊢
            cases k <;> first | decide +kernel | (exfalso; revert h; decide)
          · cases k <;> first | decide +kernel | (simp only [pw, if_neg hm]; decide +kernel)
        exact ⟨_, _, _, _, rfl, rfl, T.kd_PLAIN_WORTHS, e, q⟩

end Mine

namespace Mine
open PySem L2
def sp_Ear_hold (C : Addr) : Sp := fun vs H Q _ => ∃ (x D : Addr) (e : Ea) (c : Bool) (k : Kd), vs = [.ref x, .str k.str] ∧ EarAt C H x e D c ∧ e.held.length ≤ 900 ∧
  ∀ H', Kp x D H H' → EarAt C H' x (holdE e k) D c → Q .non H'
theorem ok_Ear_hold {P : Program} {w : World} {K : PySem.W.Frag} {mg : Str → Option Value} {base : Heap} {t : Adr} (T : Txt K w mg t) : FnOk P w K mg base CX0 (0 + 2) t.f_Ear_hold t.d_Ear_hold ["self", "kind"] (sp_Ear_hold t.C_Ear) := by
  have G_plain_worth := ok_plain_worth (P := P) (w := w) (base := base) T
  refine T.F_Ear_hold.ok sc_Ear_hold (fun vs H Q E h => ?_) (fun cdv A outer s H vs Q E hr h => ?_)
  · obtain ⟨_, _, _, _, _, rfl, _⟩ := h
    rfl
  · obtain ⟨x, D, e, c, k, rfl, ⟨⟨dx, hx⟩, hD⟩, hl, q⟩ := h
    have nx : x ≠ D := ne_of hx hD (by intro z; cases z)
    have nD : D ≠ x := Ne.symm nx
    refine bodyOk (pss_cons (ps_expr (pe_bm PySem.F.plainAttrs_list PySem.F.slot_list_append PySem.F.type_list_append mt_append (pe_fld (pv 0) rfl) (pa_cons (pe_call G_plain_worth (hr.mono (by decide)) rfl T.mg_plain_worth T.F_plain_worth.kp T.b_plain_worth .nil pass0 (pa_cons (pv 1) (pa_cons (pe_fld (pv 0) rfl) pa_nil))) pa_nil))) (pss_cons (ps_fld (pv 0) (pv 1) rfl) (pss_cons (ps_mid (ps_if (pt_mid (PW.pt (pw_and (pt_cmpR (op_eq.or (op_eqD (hu_of64 hr))) (pe_fld (pv 0) rfl) pe_int (nomark _)) (pw_and1 (pt_cmpR (op_in_seq.or op_in_str) (pv 1) (pe_glob (v := .ref t.a_SMALL_KINDS) rfl T.c_SMALL_KINDS rfl) rfl))))) (pss_one (ps_fldaug (pv 0) pe_int in_add)) pss_nil)) (pss_one (ps_if (pt_mid (PW.pt (pw_and (pt_cmpR (op_eq.or (op_eqD (hu_of64 hr))) (pe_fld (pv 0) rfl) pe_int (nomark _)) (pw_and (pt_cmpR (op_eq.or (op_eqD (hu_of64 hr))) (pv 1) pe_str (nomark _)) (pw_and1 (pt_not (pt_val (pe_fld (pv 0) rfl)))))))) (pss_one (ps_fld (pv 0) pe_bl rfl)) pss_nil))))) ?_
    refine ⟨_, rfl, x, _, dx, _, _, rfl, hx, T.cl_Ear, T.na_Ear_held, eaF_held _ _ _, ?_⟩
    refine ⟨.inl ⟨rfl, _, SqL.of hD⟩, ?_⟩
    refine ⟨_, rfl, _, rfl, x, _, dx, _, _, rfl, hx, T.cl_Ear, T.na_Ear_measure, eaF_measure _ _ _, ?_⟩
    refine ⟨k, e.m, rfl, ?_⟩
    refine ⟨_, _, _, rfl, rfl, hD, by rw [List.length_map]; exact small1000 (by omega), ?_⟩
    have k1 : Kp x D H (upd H D (.lst (e.held.map V.int ++ [.int (pw k e.m)]))) := Kp.d
    have h1 : upd H D (.lst (e.held.map V.int ++ [.int (pw k e.m)])) x = some (.ins t.C_Ear dx (eaF e D c)) := by rw [upd_ne nx]; exact hx
    have d1 : upd H D (.lst (e.held.map V.int ++ [.int (pw k e.m)])) D = some (.lst ((e.held ++ [pw k e.m]).map V.int)) := by rw [upd_same, List.map_append]; rfl
    generalize upd H D (.lst (e.held.map V.int ++ [.int (pw k e.m)])) = H1 at k1 h1 d1
    refine ⟨_, rfl, _, rfl, x, _, dx, _, rfl, h1, T.cl_Ear, T.na_Ear_last, by show 7 < 1000; decide, ?_⟩
    rw [show putF "last" (V.str k.str) (eaF e D c) = eaF { e with last := some k } D c from eaF_put_last _ _ _ _]
    have k2 := k1.trans (Kp.x (o := .ins t.C_Ear dx (eaF { e with last := some k } D c)))
    have h2 : upd H1 x (.ins t.C_Ear dx (eaF { e with last := some k } D c)) x = some (.ins t.C_Ear dx (eaF { e with last := some k } D c)) := upd_same
    have d2 : upd H1 x (.ins t.C_Ear dx (eaF { e with last := some k } D c)) D = some (.lst ((e.held ++ [pw k e.m]).map V.int)) := by rw [upd_ne nD]; exact d1
    generalize upd H1 x (.ins t.C_Ear dx (eaF { e with last := some k } D c)) = H2 at k2 h2 d2
    refine ⟨fun σ3 H3 => σ3 = [some (.ref x), some (.str k.str)] ∧ Kp x D H H3 ∧ H3 x = some (.ins t.C_Ear dx (eaF { e with last := some k, cnt := if e.m = 3 ∧ k.small = true then e.cnt + 1 else e.cnt } D c)) ∧ H3 D = some (.lst ((e.held ++ [pw k e.m]).map V.int)), ?_, ?_⟩
    · refine midB (decide (e.m = 3) && k.small) ?_ ?_
      · refine ⟨_, rfl, x, _, dx, _, _, rfl, h2, T.cl_Ear, T.na_Ear_measure, eaF_measure _ _ _, ?_⟩
        (repeat array_get_dec)
        rw [dec_int']
        refine ite2 (fun h => ?_) (fun h => ?_)
        · (repeat array_get_dec)
          refine .inl ⟨_, _, rfl, .inr (T.q_SMALL_KINDS _), rfl, rfl, _, rfl, ?_⟩
          rw [show inV (.str k.str) [.str "s", .str "d", .str "r"] = k.small from okSmall (some k)]
          exact endB (by rw [show decide (e.m = 3) = true from h]; rfl)
        · exact endB (by rw [show decide (e.m = 3) = false from Bool.eq_false_iff.mpr h]; rfl)
      · refine ite2 (fun h => ?_) (fun h => ?_)
        · obtain ⟨a1, a2⟩ := Bool.and_eq_true_iff.mp h
          rw [if_pos ⟨of_decide_eq_true a1, a2⟩]
          refine ⟨_, rfl, x, _, dx, _, _, rfl, h2, T.cl_Ear, T.na_Ear_counted, eaF_counted _ _ _, ?_⟩
          refine ⟨_, _, rfl, rfl, dx, _, h2, by show 7 < 1000; decide, ?_⟩
          rw [show putF "counted" (V.int ((e.cnt : Int) + 1)) (eaF { e with last := some k } D c) = eaF { e with last := some k, cnt := e.cnt + 1 } D c from eaF_put_counted _ _ _ _]
          exact ⟨rfl, k2.trans Kp.x, upd_same, by rw [upd_ne nD]; exact d2⟩
        · rw [if_neg (fun z => h (by rw [decide_eq_true z.1, z.2]; rfl))]
          exact ⟨rfl, k2, h2, d2⟩
    · rintro σ3 H3 ⟨rfl, k3, h3, d3⟩
      refine midB (decide (e.m = 3) && (decide (k = .G) && !e.right)) ?_ ?_
      · refine ⟨_, rfl, x, _, dx, _, _, rfl, h3, T.cl_Ear, T.na_Ear_measure, eaF_measure _ _ _, ?_⟩
        (repeat array_get_dec)
        rw [dec_int']
        refine ite2 (fun h => ?_) (fun h => ?_)
        · (repeat array_get_dec)
          rw [k_G]
          refine ite2 (fun h4 => ?_) (fun h4 => ?_)
          · refine ⟨_, rfl, x, _, dx, _, _, rfl, h3, T.cl_Ear, T.na_Ear_right, eaF_right _ _ _, ?_⟩
            refine ⟨_, rfl, ?_⟩
            exact endB (by rw [show decide (e.m = 3) = true from h, h4]; rfl)
          · exact endB (by rw [show decide (e.m = 3) = true from h, Bool.eq_false_iff.mpr h4]; rfl)
        · exact endB (by rw [show decide (e.m = 3) = false from Bool.eq_false_iff.mpr h]; rfl)
      · refine ite2 (fun h => ?_) (fun h => ?_)
        · obtain ⟨a1, a2⟩ := Bool.and_eq_true_iff.mp h
          obtain ⟨a2, a3⟩ := Bool.and_eq_true_iff.mp a2
          refine ⟨_, rfl, x, _, dx, _, rfl, h3, T.cl_Ear, T.na_Ear_left, by show 7 < 1000; decide, ?_⟩
          rw [show putF "left" (V.bl true) (eaF { e with last := some k, cnt := if e.m = 3 ∧ k.small = true then e.cnt + 1 else e.cnt } D c) = eaF { e with last := some k, cnt := if e.m = 3 ∧ k.small = true then e.cnt + 1 else e.cnt, left := true } D c from eaF_put_left _ _ _ _]
          refine q _ (k3.trans Kp.x) ?_
          unfold holdE
          rw [if_pos (c := e.m = 3 ∧ k = .G ∧ e.right = false) ⟨of_decide_eq_true a1, of_decide_eq_true a2, by simpa using a3⟩]
          exact ⟨⟨dx, upd_same⟩, by rw [upd_ne nD]; exact d3⟩
        · refine q _ k3 ?_
          unfold holdE
          rw [if_neg (c := e.m = 3 ∧ k = .G ∧ e.right = false) (fun z => h (by rw [decide_eq_true z.1, decide_eq_true z.2.1, z.2.2]; rfl))]
          exact ⟨⟨dx, h3⟩, d3⟩

end Mine

namespace Mine
open PySem L2
def sp_Ear_hangs (C : Addr) : Sp := fun vs H Q _ => ∃ (x D : Addr) (e : Ea) (c : Bool), vs = [.ref x] ∧ EarAt C H x e D c ∧ Q (.bl (hangs e)) H
theorem ok_Ear_hangs {P : Program} {w : World} {K : PySem.W.Frag} {mg : Str → Option Value} {base : Heap} {t : Adr} (T : Txt K w mg t) : FnOk P w K mg base CX0 (0 + 1) t.f_Ear_hangs t.d_Ear_hangs ["self"] (sp_Ear_hangs t.C_Ear) := by
  refine T.F_Ear_hangs.ok sc_Ear_hangs (fun vs H Q E h => ?_) (fun cdv A outer s H vs Q E hr h => ?_)
  · obtain ⟨_, _, _, _, rfl, _⟩ := h
    rfl
  · obtain ⟨x, D, e, c, rfl, ⟨⟨dx, hx⟩, hD⟩, q⟩ := h
    unfold hangs at q
    refine bodyOk (pss_cons (ps_if (pt_cmpR (op_eq.or (op_eqD (hu_of64 hr))) (pe_fld (pv 0) rfl) pe_int (nomark _)) (pss_one (ps_ret (pe_cmpR (op_eq.or (op_eqD (hu_of64 hr))) (pe_fld (pv 0) rfl) pe_str (nomark _)))) pss_nil) (pss_cons (ps_set (i := 1) sc_Ear_hangs.nd rfl (Or.inl rfl) (pe_mid (pe_and (pe_cmpR (op_eq.or (op_eqD (hu_of64 hr))) (pe_fld (pv 0) rfl) pe_str (nomark _)) (pe_one (pe_cmpR (op_eq.or (op_eqD (hu_of64 hr))) (pe_op op_mod (pe_fld (pv 0) rfl) pe_int) pe_int (nomark _)))))) (pss_one (ps_ret (pe_mid (pe_or (pe_fld (pv 0) rfl) (pe_or (pe_fld (pv 0) rfl) (pe_one (pv 1))))))))) ?_
    refine ⟨_, rfl, x, _, dx, _, _, rfl, hx, T.cl_Ear, T.na_Ear_measure, eaF_measure _ _ _, ?_⟩
    (repeat array_get_dec)
    rw [dec_int']
    refine ite2 (fun h => ?_) (fun h => ?_)
    · rw [if_pos (of_decide_eq_true h)] at q
      refine ⟨_, rfl, x, _, dx, _, _, rfl, hx, T.cl_Ear, T.na_Ear_last, eaF_last _ _ _, ?_⟩
      (repeat array_get_dec)
      rw [o_G]
      exact q
    · rw [if_neg (fun z => h (decide_eq_true z))] at q
      refine midV (.bl (decide (e.last = some .s) && decide (e.cnt % 3 = 2))) ?_ ?_
      · refine ⟨_, rfl, x, _, dx, _, _, rfl, hx, T.cl_Ear, T.na_Ear_last, eaF_last _ _ _, ?_⟩
        (repeat array_get_dec)
        rw [o_s]
        refine ite2 (fun h => ?_) (fun h => ?_)
        · refine ⟨_, rfl, x, _, dx, _, _, rfl, hx, T.cl_Ear, T.na_Ear_counted, eaF_counted _ _ _, ?_⟩
          (repeat array_get_dec)
          rw [rest2]
          exact endV (by rw [h]; rfl)
        · exact endV (by rw [Bool.eq_false_iff.mpr h]; rfl)
      · refine midV (.bl (e.left || e.right || (decide (e.last = some .s) && decide (e.cnt % 3 = 2)))) ?_ q
        refine ⟨_, rfl, x, _, dx, _, _, rfl, hx, T.cl_Ear, T.na_Ear_left, eaF_left _ _ _, ?_⟩
        refine ⟨_, rfl, ?_⟩
        refine ite2 (fun h => ?_) (fun h => ?_)
        · exact endV (by rw [h]; rfl)
        · refine ⟨_, rfl, x, _, dx, _, _, rfl, hx, T.cl_Ear, T.na_Ear_right, eaF_right _ _ _, ?_⟩
          refine ⟨_, rfl, ?_⟩
          refine ite2 (fun h2 => ?_) (fun h2 => ?_)
          · exact endV (by rw [h2, Bool.or_true]; rfl)
          · (repeat array_get_dec)
            exact endV (by rw [Bool.eq_false_iff.mpr h, Bool.eq_false_iff.mpr h2]; rfl)

end Mine

namespace Mine
open PySem L2
def sp_Ear_hear (C X : Addr) : Sp := fun vs H Q E => (∃ (x D p : Addr) (e : Ea), vs = [.ref x, .ref p] ∧ EarAt C H x e D true ∧ E (.ref X) none H) ∨ ∃ (x D p : Addr) (e : Ea) (s : Sg), vs = [.ref x, .ref p] ∧ EarAt C H x e D false ∧ (∃ m P T, Sh e m P T) ∧ H p = some (.tup [.str s.1.str, .int s.2]) ∧ e.held.length ≤ 800 ∧
  ∀ (L D' : Addr) (H' : Hp), Kp x D H H' → EarAt C H' x (hearE e s.1).1 D' false → H' L = some (.lst ((hearE e s.1).2.map V.int)) → L ≠ D' → (L = D ∨ H L = none) → (D' = D ∨ H D' = none) → Q (.ref L) H'
theorem settled_len (e : Ea) (k : Option Kd) : (settledBy e k).1.held.length + (settledBy e k).2.length = e.held.length := by
  have h : (settleE e k).held.length = e.held.length := by
    unfold settleE settleDot settleRight closeRun setLast
    repeat' split
    all_goals simp
  unfold settledBy
  split
  · simp [h]
  · simp [h]
theorem e_int {k : Kd} (h : k.meas = true) (m : Int) : intText? k.str = some (nm m k) ∧ k.str.length ≤ 640 := by
  cases k <;> first | (cases h; done) | exact ⟨by first | exact (show intText? Kd.three.str = some 3 by decide +kernel) | exact (show intText? Kd.two.str = some 2 by decide +kernel), by decide +kernel⟩
theorem e_nm {k : Kd} (h : ¬ k.meas = true) (m : Int) : nm m k = m := by
  cases k <;> first | rfl | exact absurd rfl h
theorem ok_Ear_hear {P : Program} {w : World} {K : PySem.W.Frag} {mg : Str → Option Value} {base : Heap} {t : Adr} (T : Txt K w mg t) : FnOk P w K mg base (CX1 P w) (0 + 3) t.f_Ear_hear t.d_Ear_hear ["self", "sign"] (sp_Ear_hear t.C_Ear t.C_Closed) := by
  have G_Ear_refuse_where_closed := ok_Ear_refuse_where_closed (P := P) (w := w) (base := base) T
  have G_Ear_settled_by := ok_Ear_settled_by (P := P) (w := w) (base := base) T
  have G_sets_measure := ok_sets_measure (P := P) (w := w) (base := base) T
  have G_Ear_hold := ok_Ear_hold (P := P) (w := w) (base := base) T
  have G_Ear_hangs := ok_Ear_hangs (P := P) (w := w) (base := base) T
  have G_Ear_let_go := ok_Ear_let_go (P := P) (w := w) (base := base) T
  refine T.F_Ear_hear.okX sc_Ear_hear (fun vs H Q E h => ?_) (fun cdv A outer s H vs Q E hr h => ?_)
  · rcases h with ⟨_, _, _, _, rfl, _⟩ | ⟨_, _, _, _, _, rfl, _⟩ <;> rfl
  · rcases h with ⟨x, D, p, e, rfl, hE, q⟩ | ⟨x, D, p, e, sg, rfl, hE, hS, hp, hl, q⟩
    · obtain ⟨dx, hx⟩ := hE.1
      refine bodyOk (pss_cons (ps_expr (pe_methX0 (X := (cxOf (CX1 P w) P w K mg base ["self", "sign", "settled"] "Ear.hear" (defScope s_Ear_hear) t.f_Ear_hear cdv A outer s H E)) (pv 0) T.cl_Ear T.me_Ear_refuse_where_closed G_Ear_refuse_where_closed (hr.mono (by decide)) T.b_Ear_refuse_where_closed .nil (fun _ _ z => Or.inl z))) (pss_cons (ps_set (i := 2) sc_Ear_hear.nd rfl (Or.inl rfl) (pe_meth (pv 0) T.cl_Ear T.me_Ear_settled_by G_Ear_settled_by (hr.mono (by decide)) T.b_Ear_settled_by .nil pass0 (pa_cons (pe_ix ix_seq (pv 1) pe_int (fun _ _ => rfl)) pa_nil))) (pss_cons (ps_mid (ps_if (pt_val (pe_call G_sets_measure (hr.mono (by decide)) rfl T.mg_sets_measure T.F_sets_measure.kp T.b_sets_measure .nil pass0 (pa_cons (pv 1) pa_nil))) (pss_one (ps_fld (pv 0) (pe_callTy (call_int1.or call_int_text) rfl T.nb_int bt_int (pa_cons (pe_ix ix_seq (pv 1) pe_int (fun _ _ => rfl)) pa_nil)) rfl)) pss_nil)) (pss_cons (ps_expr (pe_meth (pv 0) T.cl_Ear T.me_Ear_hold G_Ear_hold (hr.mono (by decide)) T.b_Ear_hold .nil pass0 (pa_cons (pe_ix ix_seq (pv 1) pe_int (fun _ _ => rfl)) pa_nil))) (pss_cons (ps_if (pt_val (pe_meth0 (pv 0) T.cl_Ear T.me_Ear_hangs G_Ear_hangs (hr.mono (by decide)) T.b_Ear_hangs .nil pass0)) (pss_one (ps_ret (pv 2))) pss_nil) (pss_one (ps_ret (pe_op (op_add.or (op_add_str.or op_cat)) (pv 2) (pe_meth0 (pv 0) T.cl_Ear T.me_Ear_let_go G_Ear_let_go (hr.mono (by decide)) T.b_Ear_let_go .nil pass0))))))))) ?_
      refine ⟨_, rfl, x, dx, _, rfl, hx, eaF_no_refuse_where_closed _ _ _, ?_⟩
      exact ⟨x, D, e, true, rfl, hE, (fun z => nomatch z), fun _ => q⟩
    obtain ⟨dx, hx⟩ := hE.1
    have px : p ≠ x := ne_of hp hx (by intro z; cases z)
    have pD : p ≠ D := ne_of hp hE.2 (by intro z; cases z)
    refine bodyOk (pss_cons (ps_expr (pe_methX0 (X := (cxOf (CX1 P w) P w K mg base ["self", "sign", "settled"] "Ear.hear" (defScope s_Ear_hear) t.f_Ear_hear cdv A outer s H E)) (pv 0) T.cl_Ear T.me_Ear_refuse_where_closed G_Ear_refuse_where_closed (hr.mono (by decide)) T.b_Ear_refuse_where_closed .nil (fun _ _ z => Or.inl z))) (pss_cons (ps_set (i := 2) sc_Ear_hear.nd rfl (Or.inl rfl) (pe_meth (pv 0) T.cl_Ear T.me_Ear_settled_by G_Ear_settled_by (hr.mono (by decide)) T.b_Ear_settled_by .nil pass0 (pa_cons (pe_ix ix_seq (pv 1) pe_int (fun _ _ => rfl)) pa_nil))) (pss_cons (ps_mid (ps_if (pt_val (pe_call G_sets_measure (hr.mono (by decide)) rfl T.mg_sets_measure T.F_sets_measure.kp T.b_sets_measure .nil pass0 (pa_cons (pv 1) pa_nil))) (pss_one (ps_fld (pv 0) (pe_callTy (call_int1.or call_int_text) rfl T.nb_int bt_int (pa_cons (pe_ix ix_seq (pv 1) pe_int (fun _ _ => rfl)) pa_nil)) rfl)) pss_nil)) (pss_cons (ps_expr (pe_meth (pv 0) T.cl_Ear T.me_Ear_hold G_Ear_hold (hr.mono (by decide)) T.b_Ear_hold .nil pass0 (pa_cons (pe_ix ix_seq (pv 1) pe_int (fun _ _ => rfl)) pa_nil))) (pss_cons (ps_if (pt_val (pe_meth0 (pv 0) T.cl_Ear T.me_Ear_hangs G_Ear_hangs (hr.mono (by decide)) T.b_Ear_hangs .nil pass0)) (pss_one (ps_ret (pv 2))) pss_nil) (pss_one (ps_ret (pe_op (op_add.or (op_add_str.or op_cat)) (pv 2) (pe_meth0 (pv 0) T.cl_Ear T.me_Ear_let_go G_Ear_let_go (hr.mono (by decide)) T.b_Ear_let_go .nil pass0))))))))) ?_
    refine ⟨_, rfl, x, dx, _, rfl, hx, eaF_no_refuse_where_closed _ _ _, ?_⟩
    refine ⟨x, D, e, false, rfl, hE, fun _ => ?_, fun z => nomatch z⟩
    refine ⟨_, rfl, x, dx, _, rfl, hx, eaF_no_settled_by _ _ _, ?_⟩
    (repeat array_get_dec)
    refine ⟨x, D, e, false, some sg.1, rfl, hE, hS, fun L D1 H1 kp1 hE1 hL1 nLD hLD => ?_⟩
    have hLo : L = D ∨ H L = none := hLD.elim (fun z => .inl z.1) fun z => .inr z.2
    have hDo : D1 = D ∨ H D1 = none := hLD.elim (fun z => .inr z.2) fun z => .inl z.1
    have hp1 := kp1 _ _ hp px pD
    obtain ⟨dx1, hx1⟩ := hE1.1
    have lenS := settled_len e (some sg.1)
    have hq : hearE e sg.1 = ((tailE (settledBy e (some sg.1)).1 sg.1).1, (settledBy e (some sg.1)).2 ++ (tailE (settledBy e (some sg.1)).1 sg.1).2) := rfl
    rw [hq] at q
    generalize hse : settledBy e (some sg.1) = se at hE1 hx1 lenS q hL1
    obtain ⟨e1, out⟩ := se
    dsimp only at hE1 hx1 lenS q hL1
    have nxD1 := hE1.ne
    have pD1 : p ≠ D1 := ne_of hp1 hE1.2 (by intro z; cases z)
    have Lx : L ≠ x := fun z => by rw [z, hx1] at hL1; cases hL1
    refine ⟨fun σ2 H2 => σ2 = [some (.ref x), some (.ref p), some (.ref L)] ∧ (∀ b o, H1 b = some o → b ≠ x → H2 b = some o) ∧ (∀ b, H2 b = none → H1 b = none) ∧ H2 x = some (.ins t.C_Ear dx1 (eaF { e1 with m := nm e1.m sg.1 } D1 false)), ?_, ?_⟩
    · (repeat array_get_dec)
      refine ⟨p, sg, rfl, hp1, _, rfl, ?_⟩
      refine ite2 (fun h => ?_) (fun h => ?_)
      · obtain ⟨i1, i2⟩ := e_int h e1.m
        (repeat array_get_dec)
        refine .inr ⟨_, _, rfl, i1, i2, ?_⟩
        refine ⟨_, rfl, x, _, dx1, _, rfl, hx1, T.cl_Ear, T.na_Ear_measure, by show 7 < 1000; decide, ?_⟩
        rw [show putF "measure" (V.int (nm e1.m sg.1)) (eaF e1 D1 false) = eaF { e1 with m := nm e1.m sg.1 } D1 false from eaF_put_measure _ _ _ _]
        refine ⟨rfl, fun b o hb nb => by rw [upd_ne nb]; exact hb, fun b hb => ?_, upd_same⟩
        unfold upd at hb
        split at hb
        · cases hb
        · exact hb
      · rw [e_nm h]
        exact ⟨rfl, fun b o hb _ => hb, fun b hb => hb, hx1⟩
    · rintro σ2 H2 ⟨rfl, kp2, back2, hx2⟩
      have hp2 := kp2 _ _ hp1 px
      have hE2 : EarAt t.C_Ear H2 x { e1 with m := nm e1.m sg.1 } D1 false := ⟨⟨dx1, hx2⟩, kp2 _ _ hE1.2 (Ne.symm nxD1)⟩
      have hL2 := kp2 _ _ hL1 Lx
      refine ⟨_, rfl, x, dx1, _, rfl, hx2, eaF_no_hold _ _ _, ?_⟩
      (repeat array_get_dec)
      refine ⟨x, D1, { e1 with m := nm e1.m sg.1 }, false, sg.1, rfl, hE2, by show e1.held.length ≤ 900; omega, fun H3 kp3 hE3 => ?_⟩
      have hL3 := kp3 _ _ hL2 Lx nLD
      obtain ⟨dx3, hx3⟩ := hE3.1
      have KP3 : Kp x D H H3 := fun b o hb h1 h2 => by
        have hb1 := kp1 b o hb h1 h2
        have : b ≠ D1 := fun z => by
          rcases hDo with w | w
          · exact h2 (z.trans w)
          · rw [z, w] at hb; cases hb
        exact kp3 b o (kp2 b o hb1 h1) h1 this
      refine ⟨_, rfl, x, dx3, _, rfl, hx3, eaF_no_hangs _ _ _, ?_⟩
      refine ⟨x, D1, holdE { e1 with m := nm e1.m sg.1 } sg.1, false, rfl, hE3, _, rfl, ?_⟩
      unfold tailE at q
      refine ite2 (fun h => ?_) (fun h => ?_)
      · rw [if_pos h] at q
        refine ⟨_, rfl, ?_⟩
        refine q L D1 H3 KP3 hE3 ?_ nLD hLo hDo
        rw [List.append_nil]
        exact hL3
      · rw [if_neg h] at q
        have hLfree : ∀ b, H3 b = none → H b = none := fun b hb => by
          cases z : H b with
          | none => rfl
          | some o =>
            by_cases b1 : b = x
            · rw [b1, hx3] at hb; cases hb
            · by_cases b2 : b = D
              · subst b2
                by_cases b3 : b = D1
                · rw [b3, hE3.2] at hb; cases hb
                · by_cases b4 : b = L
                  · rw [b4, hL3] at hb; cases hb
                  · exact absurd (hLD.elim (fun z => b4 z.1.symm) fun z => b3 z.1.symm) id
              · rw [KP3 b o z b1 b2] at hb; cases hb
        refine ⟨_, rfl, _, rfl, x, dx3, _, rfl, hx3, eaF_no_let_go _ _ _, ?_⟩
        refine ⟨x, D1, holdE { e1 with m := nm e1.m sg.1 } sg.1, false, rfl, hE3, fun D4 H4 hD4 kp4 hE4 => ?_⟩
        have hL4 := kp4 _ _ hL3 Lx
        have hD1' := kp4 _ _ hE3.2 (Ne.symm nxD1)
        have hx4 := hE4.1
        have free4 : ∀ b, H4 b = none → H b = none := fun b hb => hLfree b (by
          cases z : H3 b with
          | none => rfl
          | some o =>
            by_cases b1 : b = x
            · obtain ⟨d4, h4⟩ := hx4
              rw [b1, h4] at hb; cases hb
            · rw [kp4 b o z b1] at hb; cases hb)
        have hlen : ((holdE { e1 with m := nm e1.m sg.1 } sg.1).held).length = e1.held.length + 1 := by
          unfold holdE
          simp
        refine .inr (.inr ⟨L, D1, _, _, rfl, rfl, hL4, hD1', ?_, fun z hz => ?_⟩)
        · rw [List.length_map, List.length_map, hlen]
          exact big (by omega)
        · rw [← List.map_append]
          have nD4 : D4 ≠ z := fun w => by rw [← w, hE4.2] at hz; cases hz
          exact q z D4 _ (KP3.trans (fun b o hb h1 _ => by rw [upd_ne (ne_of_none (kp4 b o hb h1) hz)]; exact kp4 b o hb h1)) (hE4.same (Same.upd hz)) upd_same (Ne.symm nD4) (.inr (free4 z hz)) (.inr (hLfree D4 hD4))

end Mine

namespace Mine
open PySem L2
def sp_l_whole : Sp := fun vs H Q _ => ∃ n : Int, vs = [.int n] ∧ Q (.bl true) H
theorem ok_l_whole {P : Program} {w : World} {K : PySem.W.Frag} {mg : Str → Option Value} {base : Heap} {t : Adr} (T : Txt K w mg t) : FnOk P w K mg base CX0 (0 + 1) t.f_l_whole t.d_l_whole ["_law_found"] sp_l_whole := by
  refine T.F_l_whole.ok sc_l_whole (fun vs H Q E h => ?_) (fun cdv A outer s H vs Q E hr h => ?_)
  · obtain ⟨_, rfl, _⟩ := h
    rfl
  · obtain ⟨n, rfl, q⟩ := h
    refine bodyOk (pss_one (ps_ret (pe_mid (pe_and (pe_callB call_isT rfl T.nb_isinstance bt_isinstance (pa_cons (pv 0) (pa_cons (pe_bltn (v := .ty "int") rfl T.nb_int bt_int rfl) pa_nil))) (pe_one (pe_not (pe_callB call_isT rfl T.nb_isinstance bt_isinstance (pa_cons (pv 0) (pa_cons (pe_bltn (v := .ty "bool") rfl T.nb_bool bt_bool rfl) pa_nil))))))))) ?_
    refine midV (.bl true) ?_ q
    exact ⟨_, rfl, _, _, _, _, rfl, TyOf.int _, rfl, _, rfl, iteT ⟨_, rfl, _, _, _, _, rfl, TyOf.int _, rfl, _, rfl, endV rfl⟩⟩

end Mine

namespace Mine
open PySem L2
def sp_l_nums (K : PySem.W.Frag) : Sp := fun vs H Q _ => ∃ (f d : Addr) (fs ds : List Int), vs = [.ref f, .ref d] ∧ H f = some (.lst (fs.map V.int)) ∧ SqL K H d (ds.map V.int) ∧ ds.length ≤ 1000 ∧ Q (.bl (decide (fs = ds))) H
theorem ok_l_nums {P : Program} {w : World} {K : PySem.W.Frag} {mg : Str → Option Value} {base : Heap} {t : Adr} (T : Txt K w mg t) : FnOk P w K mg base CX0 (0 + 2) t.f_l_nums t.d_l_nums ["_law_found", "_law_due"] (sp_l_nums K) := by
  have G_l_whole := ok_l_whole (P := P) (w := w) (base := base) T
  refine T.F_l_nums.ok sc_l_nums (fun vs H Q E h => ?_) (fun cdv A outer s H vs Q E hr h => ?_)
  · obtain ⟨_, _, _, _, rfl, _⟩ := h
    rfl
  · obtain ⟨f, d, fs, ds, rfl, hf, hd, hn, q⟩ := h
    refine bodyOk (pss_cons (ps_if (pt_mid (PW.pt (pw_or (pt_not (pt_val (pe_callB call_isT rfl T.nb_isinstance bt_isinstance (pa_cons (pv 0) (pa_cons (pe_bltn (v := .ty "list") rfl T.nb_list bt_list rfl) pa_nil))))) (pw_or1 (pt_cmpR (op_ne.or (op_neD (hu_of64 hr))) (pe_callB (call_len_seq.or call_len_str) rfl T.nb_len bt_len (pa_cons (pv 0) pa_nil)) (pe_callB (call_len_seq.or call_len_str) rfl T.nb_len bt_len (pa_cons (pv 1) pa_nil)) (nomark _)))))) (pss_one (ps_ret pe_bl)) pss_nil) (pss_cons (ps_for PassesOwn.never rfl (pi_range1 rfl T.nb_range (pa_cons (pe_callB (call_len_seq.or call_len_str) rfl T.nb_len bt_len (pa_cons (pv 1) pa_nil)) pa_nil)) (pg_name (i := 2) sc_l_nums.nd rfl (Or.inl rfl)) (pss_one (ps_if (pt_mid (PW.pt (pw_or (pt_not (pt_val (pe_call G_l_whole (hr.mono (by decide)) rfl T.mg_l_whole T.F_l_whole.kp T.b_l_whole .nil pass0 (pa_cons (pe_ix ix_seq (pv 0) (pv 2) (fun _ _ => rfl)) pa_nil)))) (pw_or1 (pt_cmpR (op_ne.or (op_neD (hu_of64 hr))) (pe_ix ix_seq (pv 0) (pv 2) (fun _ _ => rfl)) (pe_ix ix_seq (pv 1) (pv 2) (fun _ _ => rfl)) (nomark _)))))) (pss_one (ps_ret pe_bl)) pss_nil))) (pss_one (ps_ret pe_bl)))) ?_
    refine midB (decide (fs.length ≠ ds.length)) ?_ ?_
    · (repeat array_get_dec)
      refine ⟨_, _, _, _, rfl, TyOf.lst hf, rfl, _, rfl, ?_⟩
      refine iteF ?_
      (repeat array_get_dec)
      refine .inl ⟨_, _, rfl, .inl (SqL.of hf), ?_⟩
      (repeat array_get_dec)
      refine .inl ⟨_, _, rfl, .inl hd, ?_⟩
      (repeat array_get_dec)
      rw [List.length_map, List.length_map]
      refine endB ?_
      rw [dec_int']
      by_cases e : fs.length = ds.length
      · simp [e]
      · have : ¬ ((fs.length : Int) = (ds.length : Int)) := by omega
        simp [e, this]
    · refine ite2 (fun h => ?_) (fun h => ?_)
      · have e : fs ≠ ds := fun z => by
          have := of_decide_eq_true h
          rw [z] at this
          exact this rfl
        rw [decide_eq_false e] at q
        exact q
      · have el : fs.length = ds.length := by
          by_cases e : fs.length = ds.length
          · exact e
          · exact absurd (decide_eq_true e) h
        (repeat array_get_dec)
        refine .inl ⟨_, _, rfl, .inl hd, ?_⟩
        rw [List.length_map]
        have p62 : (2 : Int) ^ 62 = 4611686018427387904 := by decide
        refine ⟨(ds.length : Int), rfl, by rw [p62]; omega, by rw [p62]; omega, ?_⟩
        refine for_range (n := ((ds.length : Int)).toNat) (fun i σ H' => ∃ v, σ = [some (.ref f), some (.ref d), v] ∧ H' = H ∧ fs.take i = ds.take i) ⟨none, rfl, rfl, rfl⟩ ?_ ?_
        · rintro i σ H' hi ⟨v, rfl, rfl, ht⟩
          have hid : i < ds.length := by omega
          have hif : i < fs.length := by omega
          refine midB (decide (fs[i] ≠ ds[i])) ?_ ?_
          · (repeat array_get_dec)
            refine ixN' (SqL.of hf) (n := i) (by omega) (List.getElem?_eq_getElem hif) ?_
            (repeat array_get_dec)
            refine ixN' (SqL.of hf) (n := i) (by omega) (List.getElem?_eq_getElem hif) ?_
            (repeat array_get_dec)
            refine ixN' hd (n := i) (by omega) (List.getElem?_eq_getElem hid) ?_
            (repeat array_get_dec)
            refine endB ?_
            rw [dec_int']
            simp
          · refine ite2 (fun h => ?_) (fun h => ?_)
            · have e : fs ≠ ds := fun z => by
                subst z
                exact (of_decide_eq_true h) rfl
              rw [decide_eq_false e] at q
              exact q
            · have e : fs[i] = ds[i] := by
                by_cases z : fs[i] = ds[i]
                · exact z
                · exact absurd (decide_eq_true z) h
              refine ⟨_, rfl, rfl, ?_⟩
              rw [List.take_succ_eq_append_getElem hif, List.take_succ_eq_append_getElem hid, ht, e]
        · rintro σ H' ⟨v, rfl, rfl, ht⟩
          have e : fs = ds := by
            have h1 : ((ds.length : Int)).toNat = ds.length := by omega
            rw [h1, List.take_length, ← el, List.take_length] at ht
            exact ht
          rw [decide_eq_true e] at q
          exact q

end Mine

namespace Mine
open PySem L2
def sp_l_close_refused (C : Addr) : Sp := fun vs H Q _ => ∃ (x D : Addr) (e : Ea), vs = [.ref x] ∧ EarAt C H x e D true ∧ ∀ H', Same H H' → Q (.bl true) H'
theorem ok_l_close_refused {P : Program} {w : World} {K : PySem.W.Frag} {mg : Str → Option Value} {base : Heap} {t : Adr} (T : Txt K w mg t) : FnOk P w K mg base CX0 (0 + 4) t.f_l_close_refused t.d_l_close_refused ["_law_hark"] (sp_l_close_refused t.C_Ear) := by
  have G_Ear_close := ok_Ear_close (P := P) (w := w) (base := base) T
  refine T.F_l_close_refused.ok sc_l_close_refused (fun vs H Q E h => ?_) (fun cdv A outer s H vs Q E hr h => ?_)
  · obtain ⟨_, _, _, rfl, _⟩ := h
    rfl
  · obtain ⟨x, D, e, rfl, hE, q⟩ := h
    obtain ⟨dx, hx⟩ := hE.1
    refine bodyOk (pss_cons (ps_tryAs (CT := t.C_NoteError) (i := 1) (fun pn XS => (pss_one (ps_expr (pe_methX0 (X := Cx.pnd (cxOf CX0 P w K mg base ["_law_hark", "e"] "_law_close_refused" (defScope s_l_close_refused) t.f_l_close_refused cdv A outer s H E).nox pn) (XS := XS) (pv 0) T.cl_Ear T.me_Ear_close G_Ear_close (hr.mono (by decide)) T.b_Ear_close .nil (fun _ _ z => z))))) (fun pn a => (pss_one (ps_ret (pe_mid (pe_and (pe_callB (call_isX (K := K) rfl) rfl T.nb_isinstance bt_isinstance (pa_cons (pv 1) (pa_cons (pe_glob (v := .ref t.C_Closed) rfl T.mg_Closed rfl) pa_nil))) (pe_and (pe_callB (call_isX (K := K) rfl) rfl T.nb_isinstance bt_isinstance (pa_cons (pv 1) (pa_cons (pe_bltn (v := .ty "ValueError") rfl T.nb_ValueError bt_ValueError rfl) pa_nil))) (pe_one (pe_not (pe_callB (call_isX (K := K) rfl) rfl T.nb_isinstance bt_isinstance (pa_cons (pv 1) (pa_cons (pe_tup (pa_cons (pe_glob (v := .ref t.C_BadSign) rfl T.mg_BadSign rfl) (pa_cons (pe_glob (v := .ref t.C_NoMore) rfl T.mg_NoMore rfl) pa_nil))) pa_nil))))))))))) sc_l_close_refused.nd rfl rfl rfl rfl rfl T.mg_NoteError) (pss_one (ps_ret pe_bl))) ?_
    refine ⟨_, rfl, x, dx, _, rfl, hx, eaF_no_close _ _ _, ?_⟩
    refine .inl ⟨x, D, e, rfl, hE, T.xm_Closed_NoteError, fun z hz => ?_⟩
    have sz := Same.upd (o := excO z (.ref t.C_Closed)) hz
    refine ⟨fun v H' => v = .bl true ∧ Same H H', ?_, ?_⟩
    · refine ⟨_, rfl, .inr (.inr (.inl ⟨z, _, _, _, rfl, upd_same, T.xa_Closed, T.ki_Closed_Closed, _, rfl, iteT ?_⟩))⟩
      refine ⟨_, rfl, .inr (.inl ⟨z, _, _, _, rfl, upd_same, T.xa_Closed, T.kb_Closed_ValueError, _, rfl, iteT ?_⟩)⟩
      refine ⟨_, rfl, by show 2 ≤ sizeLine; decide, fun p2 hp2 => ?_⟩
      have s2 := Same.upd (o := .tup [V.ref t.C_BadSign, V.ref t.C_NoMore]) hp2
      exact .inr (.inr (.inr ⟨z, _, p2, [t.C_BadSign, t.C_NoMore], _, rfl, s2 _ _ upd_same, T.xa_Closed, upd_same, T.kt_Closed_BadSign_NoMore, _, rfl, rfl, sz.trans s2⟩))
    · rintro _ H' ⟨rfl, s'⟩
      exact q _ s'

end Mine

namespace Mine
open PySem L2
def sp_l_hear_refused (C : Addr) : Sp := fun vs H Q _ => ∃ (x D p : Addr) (e : Ea), vs = [.ref x, .ref p] ∧ EarAt C H x e D true ∧ ∀ H', Same H H' → Q (.bl true) H'
theorem ok_l_hear_refused {P : Program} {w : World} {K : PySem.W.Frag} {mg : Str → Option Value} {base : Heap} {t : Adr} (T : Txt K w mg t) : FnOk P w K mg base CX0 (0 + 4) t.f_l_hear_refused t.d_l_hear_refused ["_law_hark", "_law_sign"] (sp_l_hear_refused t.C_Ear) := by
  have G_Ear_hear := ok_Ear_hear (P := P) (w := w) (base := base) T
  refine T.F_l_hear_refused.ok sc_l_hear_refused (fun vs H Q E h => ?_) (fun cdv A outer s H vs Q E hr h => ?_)
  · obtain ⟨_, _, _, _, rfl, _⟩ := h
    rfl
  · obtain ⟨x, D, p, e, rfl, hE, q⟩ := h
    obtain ⟨dx, hx⟩ := hE.1
    refine bodyOk (pss_cons (ps_tryAs (CT := t.C_NoteError) (i := 2) (fun pn XS => (pss_one (ps_expr (pe_methX (X := Cx.pnd (cxOf CX0 P w K mg base ["_law_hark", "_law_sign", "e"] "_law_hear_refused" (defScope s_l_hear_refused) t.f_l_hear_refused cdv A outer s H E).nox pn) (XS := XS) (pv 0) T.cl_Ear T.me_Ear_hear G_Ear_hear (hr.mono (by decide)) T.b_Ear_hear .nil (fun _ _ z => z) (pa_cons (pv 1) pa_nil))))) (fun pn a => (pss_one (ps_ret (pe_mid (pe_and (pe_callB (call_isX (K := K) rfl) rfl T.nb_isinstance bt_isinstance (pa_cons (pv 2) (pa_cons (pe_glob (v := .ref t.C_Closed) rfl T.mg_Closed rfl) pa_nil))) (pe_and (pe_callB (call_isX (K := K) rfl) rfl T.nb_isinstance bt_isinstance (pa_cons (pv 2) (pa_cons (pe_bltn (v := .ty "ValueError") rfl T.nb_ValueError bt_ValueError rfl) pa_nil))) (pe_one (pe_not (pe_callB (call_isX (K := K) rfl) rfl T.nb_isinstance bt_isinstance (pa_cons (pv 2) (pa_cons (pe_tup (pa_cons (pe_glob (v := .ref t.C_BadSign) rfl T.mg_BadSign rfl) (pa_cons (pe_glob (v := .ref t.C_NoMore) rfl T.mg_NoMore rfl) pa_nil))) pa_nil))))))))))) sc_l_hear_refused.nd rfl rfl rfl rfl rfl T.mg_NoteError) (pss_one (ps_ret pe_bl))) ?_
    refine ⟨_, rfl, x, dx, _, rfl, hx, eaF_no_hear _ _ _, ?_⟩
    refine ⟨_, rfl, ?_⟩
    refine .inl ⟨x, D, p, e, rfl, hE, T.xm_Closed_NoteError, fun z hz => ?_⟩
    have sz := Same.upd (o := excO z (.ref t.C_Closed)) hz
    refine ⟨fun v H' => v = .bl true ∧ Same H H', ?_, ?_⟩
    · refine ⟨_, rfl, .inr (.inr (.inl ⟨z, _, _, _, rfl, upd_same, T.xa_Closed, T.ki_Closed_Closed, _, rfl, iteT ?_⟩))⟩
      refine ⟨_, rfl, .inr (.inl ⟨z, _, _, _, rfl, upd_same, T.xa_Closed, T.kb_Closed_ValueError, _, rfl, iteT ?_⟩)⟩
      refine ⟨_, rfl, by show 2 ≤ sizeLine; decide, fun p2 hp2 => ?_⟩
      have s2 := Same.upd (o := .tup [V.ref t.C_BadSign, V.ref t.C_NoMore]) hp2
      exact .inr (.inr (.inr ⟨z, _, p2, [t.C_BadSign, t.C_NoMore], _, rfl, s2 _ _ upd_same, T.xa_Closed, upd_same, T.kt_Closed_BadSign_NoMore, _, rfl, rfl, sz.trans s2⟩))
    · rintro _ H' ⟨rfl, s'⟩
      exact q _ s'

end Mine

namespace Mine
open PySem L2
def sp_Ear_waiting (C : Addr) : Sp := fun vs H Q _ => ∃ (x D : Addr) (e : Ea) (c : Bool), vs = [.ref x] ∧ EarAt C H x e D c ∧ Q (.int e.held.length) H
theorem ok_Ear_waiting {P : Program} {w : World} {K : PySem.W.Frag} {mg : Str → Option Value} {base : Heap} {t : Adr} (T : Txt K w mg t) : FnOk P w K mg base CX0 (0 + 1) t.f_Ear_waiting t.d_Ear_waiting ["self"] (sp_Ear_waiting t.C_Ear) := by
  refine T.F_Ear_waiting.ok sc_Ear_waiting (fun vs H Q E h => ?_) (fun cdv A outer s H vs Q E hr h => ?_)
  · obtain ⟨_, _, _, _, rfl, _⟩ := h
    rfl
  · obtain ⟨x, D, e, c, rfl, ⟨⟨dx, hx⟩, hD⟩, q⟩ := h
    refine bodyOk (pss_one (ps_ret (pe_callB (call_len_seq.or call_len_str) rfl T.nb_len bt_len (pa_cons (pe_fld (pv 0) rfl) pa_nil)))) ?_
    refine ⟨_, rfl, x, _, dx, _, _, rfl, hx, T.cl_Ear, T.na_Ear_held, eaF_held _ _ _, ?_⟩
    exact lenN (SqL.of hD) q

end Mine

namespace Mine
open PySem L2
theorem l_int' {k : Kd} (h : k.meas = true) (m : Int) : intText? k.str = some (nm m k) ∧ k.str.length ≤ 640 := by
  cases k <;> first | (cases h; done) | exact ⟨by first | exact (show intText? Kd.three.str = some 3 by decide +kernel) | exact (show intText? Kd.two.str = some 2 by decide +kernel), by decide +kernel⟩
theorem l_nm' {k : Kd} (h : ¬ k.meas = true) (m : Int) : nm m k = m := by
  cases k <;> first | rfl | exact absurd rfl h
theorem meas_or' (k : Kd) : k.meas = (decide (k = .three) || decide (k = .two)) := by cases k <;> rfl
theorem in_part (k : Kd) : inS k.str ".32" = k.parting := by cases k <;> decide +kernel
theorem in_small (k : Kd) : inS k.str "sdr" = k.small := by cases k <;> decide +kernel
theorem bw_part {k : Kd} (h : k.parting = true) (m : Int) (n : Option Kd) : bw m k n = 0 := by cases k <;> first | (cases h; done) | (unfold bw; rw [if_neg (by rintro ⟨_, z, _⟩; cases z)]; rfl)
theorem bw_small {k : Kd} (h : k.small = true) (m : Int) (n : Option Kd) : bw m k n = 1 := by cases k <;> first | (cases h; done) | (unfold bw; rw [if_neg (by rintro ⟨_, z, _⟩; cases z)]; rfl)
theorem bw_D (m : Int) (n : Option Kd) : bw m .D n = 2 := by unfold bw; rw [if_neg (by rintro ⟨_, z, _⟩; cases z)]; rfl
theorem bw_else {k : Kd} {m : Int} {n : Option Kd} (hm : Ms m) (h1 : k.parting = false) (h2 : k.small = false) (h3 : k ≠ .D) (h4 : ¬ (m = 2 ∧ k = .G ∧ n = some .dot)) : bw m k n = m := by
  unfold bw
  rw [if_neg h4]
  rcases hm with rfl | rfl <;> cases k <;> first | (cases h1; done) | (cases h2; done) | rfl | exact absurd rfl h3
def sp_l_base (K : PySem.W.Frag) : Sp := fun vs H Q _ => ∃ (l : Addr) (b : Int) (xs : List V) (ss : List Sg), vs = [.ref l, .int b] ∧ Ms b ∧ SqL K H l xs ∧ Sgs H xs ss ∧ ss.length ≤ 400 ∧
  ∀ (f : Addr) (H' : Hp), Same H H' → H f = none → H' f = some (.lst ((baseL b (kds ss)).map V.int)) → Q (.ref f) H'
theorem ok_l_base {P : Program} {w : World} {K : PySem.W.Frag} {mg : Str → Option Value} {base : Heap} {t : Adr} (T : Txt K w mg t) : FnOk P w K mg base CX0 (0 + 1) t.f_l_base t.d_l_base ["_law_line_here", "_law_begin_here"] (sp_l_base K) := by
  refine T.F_l_base.ok sc_l_base (fun vs H Q E h => ?_) (fun cdv A outer s H vs Q E hr h => ?_)
  · obtain ⟨_, _, _, _, rfl, _⟩ := h
    rfl
  · obtain ⟨l, b, xs, ss, rfl, hMs, hS, hg, hn, q⟩ := h
    have p62 : (2 : Int) ^ 62 = 4611686018427387904 := by decide
    refine bodyOk (pss_cons (ps_set (i := 2) sc_l_base.nd rfl (Or.inl rfl) (pe_lst pa_nil)) (pss_cons (ps_set (i := 3) sc_l_base.nd rfl (Or.inl rfl) (pv 1)) (pss_cons (ps_for PassesOwn.never rfl (pi_range1 rfl T.nb_range (pa_cons (pe_callB (call_len_seq.or call_len_str) rfl T.nb_len bt_len (pa_cons (pv 0) pa_nil)) pa_nil)) (pg_name (i := 4) sc_l_base.nd rfl (Or.inl rfl)) (pss_cons (ps_set (i := 5) sc_l_base.nd rfl (Or.inl rfl) (pe_ix ix_seq (pe_ix ix_seq (pv 0) (pv 4) (fun _ _ => rfl)) pe_int (fun _ _ => rfl))) (pss_cons (ps_mid (ps_if (pt_mid (PW.pt (pw_or (pt_cmpR (op_eq.or (op_eqD (hu_of64 hr))) (pv 5) pe_str (nomark _)) (pw_or1 (pt_cmpR (op_eq.or (op_eqD (hu_of64 hr))) (pv 5) pe_str (nomark _)))))) (pss_one (ps_set (i := 3) sc_l_base.nd rfl (Or.inl rfl) (pe_callTy (call_int1.or call_int_text) rfl T.nb_int bt_int (pa_cons (pv 5) pa_nil)))) pss_nil)) (pss_one (ps_if (pt_cmpR (op_in_seq.or op_in_str) (pv 5) pe_str rfl) (pss_one (ps_expr (pe_bm PySem.F.plainAttrs_list PySem.F.slot_list_append PySem.F.type_list_append mt_append (pv 2) (pa_cons pe_int pa_nil)))) (pss_one (ps_if (pt_cmpR (op_in_seq.or op_in_str) (pv 5) pe_str rfl) (pss_one (ps_expr (pe_bm PySem.F.plainAttrs_list PySem.F.slot_list_append PySem.F.type_list_append mt_append (pv 2) (pa_cons pe_int pa_nil)))) (pss_one (ps_if (pt_cmpR (op_eq.or (op_eqD (hu_of64 hr))) (pv 5) pe_str (nomark _)) (pss_one (ps_expr (pe_bm PySem.F.plainAttrs_list PySem.F.slot_list_append PySem.F.type_list_append mt_append (pv 2) (pa_cons pe_int pa_nil)))) (pss_one (ps_if (pt_mid (PW.pt (pw_and (pt_cmpR (op_eq.or (op_eqD (hu_of64 hr))) (pv 3) pe_int (nomark _)) (pw_and (pt_cmpR (op_eq.or (op_eqD (hu_of64 hr))) (pv 5) pe_str (nomark _)) (pw_and (pt_cmpR op_lt (pe_op (op_add.or (op_add_str.or op_cat)) (pv 4) pe_int) (pe_callB (call_len_seq.or call_len_str) rfl T.nb_len bt_len (pa_cons (pv 0) pa_nil)) (nomark _)) (pw_and1 (pt_cmpR (op_eq.or (op_eqD (hu_of64 hr))) (pe_ix ix_seq (pe_ix ix_seq (pv 0) (pe_op (op_add.or (op_add_str.or op_cat)) (pv 4) pe_int) (fun _ _ => rfl)) pe_int (fun _ _ => rfl)) pe_str (nomark _)))))))) (pss_one (ps_expr (pe_bm PySem.F.plainAttrs_list PySem.F.slot_list_append PySem.F.type_list_append mt_append (pv 2) (pa_cons pe_int pa_nil)))) (pss_one (ps_expr (pe_bm PySem.F.plainAttrs_list PySem.F.slot_list_append PySem.F.type_list_append mt_append (pv 2) (pa_cons (pv 3) pa_nil))))))))))))))) (pss_one (ps_ret (pv 2)))))) ?_
    refine ⟨big (by show 0 ≤ 1000; omega), fun f hf => ?_⟩
    (repeat array_get_dec)
    refine .inl ⟨_, _, rfl, .inl (seq_upd hS hf), ?_⟩
    rw [plen hg]
    refine ⟨(ss.length : Int), rfl, by rw [p62]; omega, by rw [p62]; omega, ?_⟩
    refine for_range (n := ((ss.length : Int)).toNat) (fun i σ H' => ∃ (m : Int) (v w : Option V) (fs : List Int), σ = [some (.ref l), some (.int b), some (.ref f), some (.int m), v, w] ∧ Ms m ∧ H' = upd H f (.lst (fs.map V.int)) ∧ fs ++ baseL m ((kds ss).drop i) = baseL b (kds ss))
      ⟨b, none, none, [], rfl, hMs, rfl, rfl⟩ ?_ ?_
    · rintro i σ H' hi ⟨m, v, w, fs, rfl, hm3, rfl, hm⟩
      have hil : i < ss.length := by omega
      have hd := drop_at (map_at (f := Prod.fst) (List.getElem?_eq_getElem hil))
      rw [hd] at hm
      have hS' : SqL K (upd H f (.lst (fs.map V.int))) l xs := seq_upd hS hf
      have hg' : Sgs (upd H f (.lst (fs.map V.int))) xs ss := hg.same (Same.upd hf)
      have hl := congrArg List.length hm
      simp only [List.length_append, baseL, List.length_cons, baseL_len, List.length_map] at hl
      simp only [baseL, head_drop] at hm
      (repeat array_get_dec)
      refine ixSg hS' hg' (n := i) (by omega) (List.getElem?_eq_getElem hil) fun p hp => ?_
      generalize hk : (ss[i]).1 = k at hm hp
      (repeat array_get_dec)
      refine midS [some (.ref l), some (.int b), some (.ref f), some (.int (nm m k)), some (.int (0 + (i : Int))), some (.str k.str)] (upd H f (.lst (fs.map V.int))) ?_ ?_
      · refine midB k.meas ?_ ?_
        · (repeat array_get_dec)
          rw [k_three]
          refine ite2 (fun h => ?_) (fun h => ?_)
          · exact endB (by rw [meas_or', h]; rfl)
          · (repeat array_get_dec)
            rw [k_two]
            exact endB (by rw [meas_or', Bool.eq_false_iff.mpr h]; rfl)
        refine ite2 (fun h => ?_) (fun h => ?_)
        · obtain ⟨e1, e2⟩ := l_int' h m
          (repeat array_get_dec)
          exact .inr ⟨_, _, rfl, e1, e2, rfl, rfl⟩
        · rw [l_nm' h]
          exact ⟨rfl, rfl⟩
      have hm4 := hm3.nm k
      have fin : ∀ (z : Int), z = bw (nm m k) k (kds ss)[i + 1]? → ∃ (m' : Int) (v w : Option V) (fs' : List Int), [some (V.ref l), some (V.int b), some (V.ref f), some (V.int (nm m k)), some (V.int (0 + (i : Int))), some (V.str k.str)] = [some (.ref l), some (.int b), some (.ref f), some (.int m'), v, w] ∧ Ms m' ∧ upd (upd H f (.lst (fs.map V.int))) f (.lst (fs.map V.int ++ [V.int z])) = upd H f (.lst (fs'.map V.int)) ∧ fs' ++ baseL m' ((kds ss).drop (i + 1)) = baseL b (kds ss) := by
        intro z hz
        exact ⟨nm m k, _, _, fs ++ [z], rfl, hm4, by rw [upd_upd, List.map_append]; rfl, by rw [List.append_assoc, hz]; exact hm⟩
      (repeat array_get_dec)
      refine ite2 (fun h => ?_) (fun h => ?_)
      · have h' : k.parting = true := by rw [← in_part]; exact h
        (repeat array_get_dec)
        refine ⟨.inl ⟨rfl, _, SqL.of upd_same⟩, ?_⟩
        refine ⟨_, _, _, rfl, rfl, upd_same, by rw [List.length_map]; exact small1000 (by omega), fin 0 (bw_part h' ..).symm⟩
      · have h1 : k.parting = false := by rw [← in_part]; exact Bool.eq_false_iff.mpr h
        (repeat array_get_dec)
        refine ite2 (fun h => ?_) (fun h => ?_)
        · have h' : k.small = true := by rw [← in_small]; exact h
          (repeat array_get_dec)
          refine ⟨.inl ⟨rfl, _, SqL.of upd_same⟩, ?_⟩
          refine ⟨_, _, _, rfl, rfl, upd_same, by rw [List.length_map]; exact small1000 (by omega), fin 1 (bw_small h' ..).symm⟩
        · have h2 : k.small = false := by rw [← in_small]; exact Bool.eq_false_iff.mpr h
          (repeat array_get_dec)
          rw [k_D]
          refine ite2 (fun h => ?_) (fun h => ?_)
          · have h' : k = .D := of_decide_eq_true h
            (repeat array_get_dec)
            refine ⟨.inl ⟨rfl, _, SqL.of upd_same⟩, ?_⟩
            refine ⟨_, _, _, rfl, rfl, upd_same, by rw [List.length_map]; exact small1000 (by omega), fin 2 (by rw [h']; exact (bw_D ..).symm)⟩
          · have h3 : k ≠ .D := fun z => h (decide_eq_true z)
            refine midB (decide (nm m k = 2 ∧ k = .G ∧ (kds ss)[i + 1]? = some .dot)) ?_ ?_
            · (repeat array_get_dec)
              rw [dec_int']
              refine ite2 (fun h => ?_) (fun h => ?_)
              · have e1 := of_decide_eq_true h
                (repeat array_get_dec)
                rw [k_G]
                refine ite2 (fun h => ?_) (fun h => ?_)
                · have e2 := of_decide_eq_true h
                  (repeat array_get_dec)
                  refine .inl ⟨_, _, rfl, .inl hS', ?_⟩
                  rw [plen hg]
                  (repeat array_get_dec)
                  refine ite2 (fun h => ?_) (fun h => ?_)
                  · have hlt : i + 1 < ss.length := by have := of_decide_eq_true h; omega
                    (repeat array_get_dec)
                    refine ixSg hS' hg' (n := i + 1) (by omega) (List.getElem?_eq_getElem hlt) fun p2 hp2 => ?_
                    (repeat array_get_dec)
                    rw [k_dot]
                    refine endB ?_
                    have e3 : (kds ss)[i + 1]? = some (ss[i + 1]).1 := map_at (List.getElem?_eq_getElem hlt)
                    rw [e3]
                    subst e2
                    simp [e1]
                  · refine endB ?_
                    have e3 : (kds ss)[i + 1]? = none := List.getElem?_eq_none (by rw [List.length_map]; have : ¬ (0 + (i : Int) + 1 < ss.length) := fun z => h (decide_eq_true z); omega)
                    rw [e3]
                    simp
                · refine endB ?_
                  have e2 : k ≠ .G := fun z => h (decide_eq_true z)
                  simp [e2]
              · refine endB ?_
                have e1 : nm m k ≠ 2 := fun z => h (decide_eq_true z)
                simp [e1]
            · refine ite2 (fun h => ?_) (fun h => ?_)
              · have h' := of_decide_eq_true h
                (repeat array_get_dec)
                refine ⟨.inl ⟨rfl, _, SqL.of upd_same⟩, ?_⟩
                refine ⟨_, _, _, rfl, rfl, upd_same, by rw [List.length_map]; exact small1000 (by omega), fin 3 (by unfold bw; rw [if_pos h'])⟩
              · have h' : ¬ (nm m k = 2 ∧ k = .G ∧ (kds ss)[i + 1]? = some .dot) := fun z => h (decide_eq_true z)
                (repeat array_get_dec)
                refine ⟨.inl ⟨rfl, _, SqL.of upd_same⟩, ?_⟩
                (repeat array_get_dec)
                refine ⟨_, _, _, rfl, rfl, upd_same, by rw [List.length_map]; exact small1000 (by omega), fin _ (bw_else hm4 h1 h2 h3 h').symm⟩
    · rintro σ H' ⟨m, v, w, fs, rfl, _, rfl, hm⟩
      have e0 : ((ss.length : Int)).toNat = ss.length := by omega
      rw [e0, List.drop_eq_nil_of_le (by rw [List.length_map]; exact Nat.le_refl _)] at hm
      (repeat array_get_dec)
      have e : fs = baseL b (kds ss) := by rw [← hm]; simp [baseL]
      subst e
      exact q f _ (Same.upd hf) hf upd_same

end Mine

namespace Mine
open PySem L2
def sp_l_three (K : PySem.W.Frag) : Sp := fun vs H Q _ => ∃ (l : Addr) (b : Int) (xs : List V) (ss : List Sg), vs = [.ref l, .int b] ∧ SqL K H l xs ∧ Sgs H xs ss ∧ ss.length ≤ 400 ∧
  ∀ (f : Addr) (H' : Hp), Same H H' → H f = none → H' f = some (.lst ((threeL b (kds ss)).map V.bl)) → Q (.ref f) H'
theorem l_int {k : Kd} (h : k.meas = true) (m : Int) : intText? k.str = some (nm m k) ∧ k.str.length ≤ 640 := by
  cases k <;> first | (cases h; done) | exact ⟨by first | exact (show intText? Kd.three.str = some 3 by decide +kernel) | exact (show intText? Kd.two.str = some 2 by decide +kernel), by decide +kernel⟩
theorem l_nm {k : Kd} (h : ¬ k.meas = true) (m : Int) : nm m k = m := by
  cases k <;> first | rfl | exact absurd rfl h
theorem meas_or (k : Kd) : k.meas = (decide (k = .three) || decide (k = .two)) := by cases k <;> rfl
theorem ok_l_three {P : Program} {w : World} {K : PySem.W.Frag} {mg : Str → Option Value} {base : Heap} {t : Adr} (T : Txt K w mg t) : FnOk P w K mg base CX0 (0 + 1) t.f_l_three t.d_l_three ["_law_line_here", "_law_begin_here"] (sp_l_three K) := by
  refine T.F_l_three.ok sc_l_three (fun vs H Q E h => ?_) (fun cdv A outer s H vs Q E hr h => ?_)
  · obtain ⟨_, _, _, _, rfl, _⟩ := h
    rfl
  · obtain ⟨l, b, xs, ss, rfl, hS, hg, hn, q⟩ := h
    refine bodyOk (pss_cons (ps_set (i := 2) sc_l_three.nd rfl (Or.inl rfl) (pe_lst pa_nil)) (pss_cons (ps_set (i := 3) sc_l_three.nd rfl (Or.inl rfl) (pv 1)) (pss_cons (ps_for PassesOwn.never rfl (pi_list (pv 0)) (pg_name (i := 4) sc_l_three.nd rfl (Or.inl rfl)) (pss_cons (ps_mid (ps_if (pt_mid (PW.pt (pw_or (pt_cmpR (op_eq.or (op_eqD (hu_of64 hr))) (pe_ix ix_seq (pv 4) pe_int (fun _ _ => rfl)) pe_str (nomark _)) (pw_or1 (pt_cmpR (op_eq.or (op_eqD (hu_of64 hr))) (pe_ix ix_seq (pv 4) pe_int (fun _ _ => rfl)) pe_str (nomark _)))))) (pss_one (ps_set (i := 3) sc_l_three.nd rfl (Or.inl rfl) (pe_callTy (call_int1.or call_int_text) rfl T.nb_int bt_int (pa_cons (pe_ix ix_seq (pv 4) pe_int (fun _ _ => rfl)) pa_nil)))) pss_nil)) (pss_one (ps_expr (pe_bm PySem.F.plainAttrs_list PySem.F.slot_list_append PySem.F.type_list_append mt_append (pv 2) (pa_cons (pe_cmpR (op_eq.or (op_eqD (hu_of64 hr))) (pv 3) pe_int (nomark _)) pa_nil)))))) (pss_one (ps_ret (pv 2)))))) ?_
    refine ⟨big (by show 0 ≤ 1000; omega), fun f hf => ?_⟩
    (repeat array_get_dec)
    refine ⟨⟨xs, seq_upd hS hf⟩, for_list (K := K) (xs := xs) (fun i σ H' => ∃ (m : Int) (v : Option V) (fs : List Bool), σ = [some (.ref l), some (.int b), some (.ref f), some (.int m), v] ∧ H' = upd H f (.lst (fs.map V.bl)) ∧ fs ++ threeL m ((kds ss).drop i) = threeL b (kds ss))
      ⟨b, none, [], rfl, rfl, rfl⟩ ?_ ?_ ?_⟩
    · rintro i σ H' _ ⟨m, v, fs, rfl, rfl, _⟩
      exact seq_upd hS hf
    · rintro i x σ H' hx ⟨m, v, fs, rfl, rfl, hm⟩
      obtain ⟨s, hs, p, rfl, hp⟩ := pget hg hx
      have hd := drop_at (map_at (f := Prod.fst) hs)
      rw [hd] at hm
      have hp' : upd H f (.lst (fs.map V.bl)) p = some (.tup [.str s.1.str, .int s.2]) := by rw [upd_ne (ne_of_none hp hf)]; exact hp
      have hl := congrArg List.length hm
      simp only [List.length_append, threeL, List.length_cons, threeL_len, List.length_map] at hl
      refine midS [some (.ref l), some (.int b), some (.ref f), some (.int (nm m s.1)), some (.ref p)] (upd H f (.lst (fs.map V.bl))) ?_ ?_
      · refine midB s.1.meas ?_ ?_
        · (repeat array_get_dec)
          rw [k_three]
          refine ite2 (fun h => ?_) (fun h => ?_)
          · exact endB (by rw [meas_or, h]; rfl)
          · (repeat array_get_dec)
            rw [k_two]
            exact endB (by rw [meas_or, Bool.eq_false_iff.mpr h]; rfl)
        refine ite2 (fun h => ?_) (fun h => ?_)
        · obtain ⟨e1, e2⟩ := l_int h m
          (repeat array_get_dec)
          exact .inr ⟨_, _, rfl, e1, e2, rfl, rfl⟩
        · rw [l_nm h]
          exact ⟨rfl, rfl⟩
      · (repeat array_get_dec)
        refine ⟨.inl ⟨rfl, _, SqL.of upd_same⟩, ?_⟩
        (repeat array_get_dec)
        rw [dec_int']
        refine ⟨_, _, _, rfl, rfl, upd_same, by rw [List.length_map]; exact small1000 (by omega), ?_⟩
        exact ⟨_, _, fs ++ [decide (nm m s.1 = 3)], rfl, by rw [upd_upd, List.map_append]; rfl, by rw [List.append_assoc]; exact hm⟩
    · rintro σ H' ⟨m, v, fs, rfl, rfl, hm⟩
      rw [List.drop_eq_nil_of_le (by rw [List.length_map, plen hg]; exact Nat.le_refl _)] at hm
      (repeat array_get_dec)
      have e : fs = threeL b (kds ss) := by rw [← hm]; simp [threeL]
      subst e
      exact q f _ (Same.upd hf) hf upd_same

end Mine

namespace Mine
open PySem L2
def lwSp (K : PySem.W.Frag) (g : List Kd → List Int → Nat → Nat → Bool × List Int) : Sp := fun vs H Q _ => ∃ (l f : Addr) (a z : Nat) (xs : List V) (ss : List Sg) (fs : List Int), vs = [.ref l, .ref f, .int (a : Int), .int (z : Int)] ∧ SqL K H l xs ∧ Sgs H xs ss ∧ l ≠ f ∧ H f = some (.lst (fs.map V.int)) ∧ fs.length = ss.length ∧ a < z ∧ z ≤ ss.length ∧
  Q (.bl (g (kds ss) fs a z).1) (upd H f (.lst ((g (kds ss) fs a z).2.map V.int)))
theorem in_great (k : Kd) : inS k.str "GDR" = k.great := by cases k <;> decide +kernel
theorem great_dot (o : Option Kd) : (o.getD .dot).great = greatO o := by cases o <;> rfl
theorem dotG (o : Option Kd) : decide (o.getD .dot = .G) = decide (o = some .G) := by
  cases o with
  | none => decide
  | some k => simp
theorem settle_by {ks : List Kd} {f : List Int} {a z : Nat} {r : Nat} (hr : (z - a) % 3 = r) (hr3 : r < 3) :
    settle ks f a z = if decide (r = 2) && (greatO ks[z]? && decide (ks[z - 1]? = some .s)) then (true, f.set (z - 1) 2) else
      (decide (r = 0) || ((decide (r = 1) && (leftN ks f a || rightN ks z)) || (decide (r = 2) && (leftN ks f a && rightN ks z))),
        let g := if (decide (r = 1) && leftN ks f a) || (decide (r = 2) && (leftN ks f a && rightN ks z)) then f.set (a - 1) 2 else f
        if (decide (r = 1) && (rightN ks z && !leftN ks f a)) || (decide (r = 2) && (leftN ks f a && rightN ks z)) then g.set z 2 else g) := by
  unfold settle settle1 settle2
  rw [hr]
  have : r = 0 ∨ r = 1 ∨ r = 2 := by omega
  rcases this with rfl | rfl | rfl <;> cases leftN ks f a <;> cases rightN ks z <;> cases greatO ks[z]? <;> cases decide (ks[z - 1]? = some .s) <;> rfl
theorem ok_l_run {P : Program} {w : World} {K : PySem.W.Frag} {mg : Str → Option Value} {base : Heap} {t : Adr} (T : Txt K w mg t) : FnOk P w K mg base CX0 (0 + 1) t.f_l_run t.d_l_run ["_law_line_here", "_law_told", "_law_low", "_law_high"] (lwSp K settle) := by
  refine T.F_l_run.ok sc_l_run (fun vs H Q E h => ?_) (fun cdv A outer s H vs Q E hr h => ?_)
  · obtain ⟨_, _, _, _, _, _, _, rfl, _⟩ := h
    rfl
  · obtain ⟨l, f, a, z, xs, ss, fs, rfl, hS, hg, hlf, hf, hl, haz, hz, q⟩ := h
    obtain ⟨r, hrr⟩ : ∃ r : Nat, (z - a) % 3 = r := ⟨_, rfl⟩
    have hr3 : r < 3 := by omega
    rw [settle_by hrr hr3] at q
    have hri : ((z : Int) - (a : Int)) % 3 = (r : Int) := by omega
    have dI : ∀ n : Nat, decide (V.int (((z : Int) - (a : Int)) % 3) = V.int (n : Int)) = decide (r = n) := fun n => by
      rw [hri, dec_int']
      by_cases e : r = n
      · simp [e]
      · have : ¬ ((r : Int) = (n : Int)) := by omega
        simp [e, this]
    have d0 : decide (V.int (((z : Int) - (a : Int)) % 3) = V.int 0) = decide (r = 0) := dI 0
    have d1 : decide (V.int (((z : Int) - (a : Int)) % 3) = V.int 1) = decide (r = 1) := dI 1
    have d2 : decide (V.int (((z : Int) - (a : Int)) % 3) = V.int 2) = decide (r = 2) := dI 2
    refine bodyOk (pss_cons (ps_set (i := 4) sc_l_run.nd rfl (Or.inl rfl) (pe_op op_mod (pe_op op_sub (pv 3) (pv 2)) pe_int)) (pss_cons (ps_set (i := 5) sc_l_run.nd rfl (Or.inl rfl) (pe_mid (pe_ifExp (pt_cmpR op_lt (pv 3) (pe_callB (call_len_seq.or call_len_str) rfl T.nb_len bt_len (pa_cons (pv 0) pa_nil)) (nomark _)) (pe_ix ix_seq (pe_ix ix_seq (pv 0) (pv 3) (fun _ _ => rfl)) pe_int (fun _ _ => rfl)) pe_str))) (pss_cons (ps_set (i := 6) sc_l_run.nd rfl (Or.inl rfl) (pe_mid (pe_ifExp (pt_cmpR op_lt (pe_op (op_add.or (op_add_str.or op_cat)) (pv 3) pe_int) (pe_callB (call_len_seq.or call_len_str) rfl T.nb_len bt_len (pa_cons (pv 0) pa_nil)) (nomark _)) (pe_ix ix_seq (pe_ix ix_seq (pv 0) (pe_op (op_add.or (op_add_str.or op_cat)) (pv 3) pe_int) (fun _ _ => rfl)) pe_int (fun _ _ => rfl)) pe_str))) (pss_cons (ps_set (i := 7) sc_l_run.nd rfl (Or.inl rfl) (pe_mid (pe_and (pe_cmpR op_gt (pv 2) pe_int (nomark _)) (pe_and (pe_cmpR (op_eq.or (op_eqD (hu_of64 hr))) (pe_ix ix_seq (pe_ix ix_seq (pv 0) (pe_op op_sub (pv 2) pe_int) (fun _ _ => rfl)) pe_int (fun _ _ => rfl)) pe_str (nomark _)) (pe_one (pe_cmpR (op_eq.or (op_eqD (hu_of64 hr))) (pe_ix ix_seq (pv 1) (pe_op op_sub (pv 2) pe_int) (fun _ _ => rfl)) pe_int (nomark _))))))) (pss_cons (ps_set (i := 8) sc_l_run.nd rfl (Or.inl rfl) (pe_mid (pe_and (pe_cmpR (op_eq.or (op_eqD (hu_of64 hr))) (pv 5) pe_str (nomark _)) (pe_one (pe_cmpR (op_notIn_seq.or op_notIn_str) (pv 6) pe_str rfl))))) (pss_cons (ps_if (pt_mid (PW.pt (pw_and (pt_cmpR (op_eq.or (op_eqD (hu_of64 hr))) (pv 4) pe_int (nomark _)) (pw_and (pt_cmpR (op_in_seq.or op_in_str) (pv 5) pe_str rfl) (pw_and1 (pt_cmpR (op_eq.or (op_eqD (hu_of64 hr))) (pe_ix ix_seq (pe_ix ix_seq (pv 0) (pe_op op_sub (pv 3) pe_int) (fun _ _ => rfl)) pe_int (fun _ _ => rfl)) pe_str (nomark _))))))) (pss_cons (ps_asg pe_int (pg_sub (pv 1) (pe_op op_sub (pv 3) pe_int) set_list)) (pss_one (ps_ret pe_bl))) pss_nil) (pss_cons (ps_mid (ps_if (pt_mid (PW.pt (pw_or (pt_mid (PW.pt (pw_and (pt_cmpR (op_eq.or (op_eqD (hu_of64 hr))) (pv 4) pe_int (nomark _)) (pw_and1 (pt_val (pv 7)))))) (pw_or1 (pt_mid (PW.pt (pw_and (pt_cmpR (op_eq.or (op_eqD (hu_of64 hr))) (pv 4) pe_int (nomark _)) (pw_and (pt_val (pv 7)) (pw_and1 (pt_val (pv 8))))))))))) (pss_one (ps_asg pe_int (pg_sub (pv 1) (pe_op op_sub (pv 2) pe_int) set_list))) pss_nil)) (pss_cons (ps_mid (ps_if (pt_mid (PW.pt (pw_or (pt_mid (PW.pt (pw_and (pt_cmpR (op_eq.or (op_eqD (hu_of64 hr))) (pv 4) pe_int (nomark _)) (pw_and (pt_val (pv 8)) (pw_and1 (pt_not (pt_val (pv 7)))))))) (pw_or1 (pt_mid (PW.pt (pw_and (pt_cmpR (op_eq.or (op_eqD (hu_of64 hr))) (pv 4) pe_int (nomark _)) (pw_and (pt_val (pv 7)) (pw_and1 (pt_val (pv 8))))))))))) (pss_one (ps_asg pe_int (pg_sub (pv 1) (pv 3) set_list))) pss_nil)) (pss_one (ps_ret (pe_mid (pe_or (pe_cmpR (op_eq.or (op_eqD (hu_of64 hr))) (pv 4) pe_int (nomark _)) (pe_or (pe_mid (pe_and (pe_cmpR (op_eq.or (op_eqD (hu_of64 hr))) (pv 4) pe_int (nomark _)) (pe_one (pe_mid (pe_or (pv 7) (pe_one (pv 8))))))) (pe_one (pe_mid (pe_and (pe_cmpR (op_eq.or (op_eqD (hu_of64 hr))) (pv 4) pe_int (nomark _)) (pe_and (pv 7) (pe_one (pv 8))))))))))))))))))) ?_
    (repeat array_get_dec)
    refine midV (.str ((kds ss)[z]?.getD .dot).str) ?_ ?_
    · (repeat array_get_dec)
      refine .inl ⟨_, _, rfl, .inl hS, ?_⟩
      rw [plen hg]
      (repeat array_get_dec)
      refine ite2 (fun h => ?_) (fun h => ?_)
      · have hlt : z < ss.length := by have := of_decide_eq_true h; omega
        (repeat array_get_dec)
        refine ixSg hS hg (n := z) rfl (List.getElem?_eq_getElem hlt) fun p hp => ?_
        (repeat array_get_dec)
        refine endV ?_
        rw [List.getElem?_map, List.getElem?_eq_getElem hlt]
        rfl
      · refine endV ?_
        have hge : ¬ z < ss.length := fun c => h (decide_eq_true (by omega))
        rw [List.getElem?_eq_none (by rw [List.length_map]; omega)]
        rfl
    refine midV (.str ((kds ss)[z + 1]?.getD .dot).str) ?_ ?_
    · (repeat array_get_dec)
      refine .inl ⟨_, _, rfl, .inl hS, ?_⟩
      rw [plen hg]
      (repeat array_get_dec)
      refine ite2 (fun h => ?_) (fun h => ?_)
      · have hlt : z + 1 < ss.length := by have := of_decide_eq_true h; omega
        (repeat array_get_dec)
        refine ixSg hS hg (n := z + 1) (by omega) (List.getElem?_eq_getElem hlt) fun p hp => ?_
        (repeat array_get_dec)
        refine endV ?_
        rw [List.getElem?_map, List.getElem?_eq_getElem hlt]
        rfl
      · refine endV ?_
        have hge : ¬ z + 1 < ss.length := fun c => h (decide_eq_true (by omega))
        rw [List.getElem?_eq_none (by rw [List.length_map]; omega)]
        rfl
    refine midV (.bl (leftN (kds ss) fs a)) ?_ ?_
    · (repeat array_get_dec)
      refine ite2 (fun h => ?_) (fun h => ?_)
      · have hp : 0 < a := by have := of_decide_eq_true h; omega
        have hlt : a - 1 < ss.length := by omega
        have ek : kAt (kds ss) ((a : Int) - 1) = some (ss[a - 1]).1 := by
          have : (a : Int) - 1 = ((a - 1 : Nat) : Int) := by omega
          rw [this, kAt_nat, List.getElem?_map, List.getElem?_eq_getElem hlt]
          rfl
        (repeat array_get_dec)
        refine ixSg hS hg (n := a - 1) (by omega) (List.getElem?_eq_getElem hlt) fun p hp => ?_
        (repeat array_get_dec)
        rw [k_G]
        refine ite2 (fun h2 => ?_) (fun h2 => ?_)
        · (repeat array_get_dec)
          refine ixN' (SqL.of hf) (n := a - 1) (by omega) (List.getElem?_eq_getElem (by omega)) ?_
          (repeat array_get_dec)
          rw [dec_int']
          refine endV ?_
          unfold leftN
          rw [ek, of_decide_eq_true h2, List.getD_eq_getElem?_getD, List.getElem?_eq_getElem (by omega)]
          simp
        · refine endV ?_
          unfold leftN
          rw [ek]
          have : (ss[a - 1]).1 ≠ .G := fun c => h2 (decide_eq_true c)
          simp [this]
      · refine endV ?_
        have hp : a = 0 := by
          have : ¬ 0 < a := fun c => h (decide_eq_true (by omega))
          omega
        subst hp
        unfold leftN kAt
        simp
    refine midV (.bl (rightN (kds ss) z)) ?_ ?_
    · (repeat array_get_dec)
      rw [k_G, dotG]
      refine ite2 (fun h => ?_) (fun h => ?_)
      · (repeat array_get_dec)
        refine endV ?_
        unfold rightN
        rw [h]
        show V.bl (!inS _ _) = _
        rw [in_great, great_dot]
        rfl
      · refine endV ?_
        unfold rightN
        rw [Bool.eq_false_iff.mpr h]
        rfl
    generalize hL : leftN (kds ss) fs a = L at q
    generalize hR : rightN (kds ss) z = R at q
    refine midB (decide (r = 2) && (greatO (kds ss)[z]? && decide ((kds ss)[z - 1]? = some .s))) ?_ ?_
    · (repeat array_get_dec)
      rw [d2]
      refine ite2 (fun h => ?_) (fun h => ?_)
      · rw [h]
        (repeat array_get_dec)
        refine ite2 (fun h2 => ?_) (fun h2 => ?_)
        · have h2' : greatO (kds ss)[z]? = true := by
            have : inS ((kds ss)[z]?.getD .dot).str "GDR" = true := h2
            rwa [in_great, great_dot] at this
          rw [h2']
          (repeat array_get_dec)
          have hlt : z - 1 < ss.length := by omega
          refine ixSg hS hg (n := z - 1) (by omega) (List.getElem?_eq_getElem hlt) fun p hp => ?_
          (repeat array_get_dec)
          rw [k_s]
          refine endB ?_
          rw [List.getElem?_map, List.getElem?_eq_getElem hlt]
          simp
        · have h2' : greatO (kds ss)[z]? = false := by
            have : inS ((kds ss)[z]?.getD .dot).str "GDR" = false := Bool.eq_false_iff.mpr h2
            rwa [in_great, great_dot] at this
          rw [h2']
          exact endB rfl
      · exact endB (by rw [Bool.eq_false_iff.mpr h]; rfl)
    refine ite2 (fun h => ?_) (fun h => ?_)
    · rw [if_pos h] at q
      (repeat array_get_dec)
      refine ⟨_, _, _, _, rfl, rfl, hf, ixN_nat (j := z - 1) (by omega) (by rw [List.length_map]; omega), ?_⟩
      rw [set_map]
      exact q
    · rw [if_neg h] at q
      dsimp only at q
      have hLp : L = true → 1 ≤ a ∧ a - 1 < ss.length := fun e => by
        have := leftN_pos (hL.trans e)
        rwa [List.length_map] at this
      have hRp : R = true → z < ss.length := fun e => by
        have := rightN_pos (hR.trans e)
        rwa [List.length_map] at this
      generalize hg1 : (if (decide (r = 1) && L || decide (r = 2) && (L && R)) = true then fs.set (a - 1) 2 else fs) = g1 at q
      have g1l : g1.length = ss.length := by rw [← hg1]; split <;> simp [hl]
      refine midS [some (.ref l), some (.ref f), some (.int (a : Int)), some (.int (z : Int)), some (.int (((z : Int) - (a : Int)) % 3)), some (.str ((kds ss)[z]?.getD .dot).str), some (.str ((kds ss)[z + 1]?.getD .dot).str), some (.bl L), some (.bl R)] (upd H f (.lst (g1.map V.int))) ?_ ?_
      · refine midB (decide (r = 1) && L || decide (r = 2) && (L && R)) ?_ ?_
        · refine midB (decide (r = 1) && L) ?_ ?_
          · (repeat array_get_dec)
            rw [d1]
            refine ite2 (fun h => ?_) (fun h => ?_)
            · (repeat array_get_dec)
              exact endB (by rw [h]; rfl)
            · exact endB (by rw [Bool.eq_false_iff.mpr h]; rfl)
          · refine ite2 (fun h => endB (by rw [h]; rfl)) (fun h => ?_)
            rw [Bool.eq_false_iff.mpr h, Bool.false_or]
            refine midB (decide (r = 2) && (L && R)) ?_ (endB rfl)
            (repeat array_get_dec)
            rw [d2]
            refine ite2 (fun h => ?_) (fun h => ?_)
            · (repeat array_get_dec)
              refine ite2 (fun h2 => ?_) (fun h2 => ?_)
              · (repeat array_get_dec)
                exact endB (by rw [h, h2]; rfl)
              · exact endB (by rw [h, Bool.eq_false_iff.mpr h2]; rfl)
            · exact endB (by rw [Bool.eq_false_iff.mpr h]; rfl)
        · refine ite2 (fun h => ?_) (fun h => ?_)
          · rw [if_pos h] at hg1
            have hp := hLp (by cases L <;> simp_all)
            (repeat array_get_dec)
            refine ⟨_, _, _, _, rfl, rfl, hf, ixN_nat (j := a - 1) (by omega) (by rw [List.length_map]; omega), ?_⟩
            rw [set_map, hg1]
            exact ⟨rfl, rfl⟩
          · rw [if_neg h] at hg1
            subst hg1
            rw [upd_self hf]
            exact ⟨rfl, rfl⟩
      generalize hg2 : (if (decide (r = 1) && (R && !L) || decide (r = 2) && (L && R)) = true then g1.set z 2 else g1) = g2 at q
      refine midS [some (.ref l), some (.ref f), some (.int (a : Int)), some (.int (z : Int)), some (.int (((z : Int) - (a : Int)) % 3)), some (.str ((kds ss)[z]?.getD .dot).str), some (.str ((kds ss)[z + 1]?.getD .dot).str), some (.bl L), some (.bl R)] (upd H f (.lst (g2.map V.int))) ?_ ?_
      · refine midB (decide (r = 1) && (R && !L) || decide (r = 2) && (L && R)) ?_ ?_
        · refine midB (decide (r = 1) && (R && !L)) ?_ ?_
          · (repeat array_get_dec)
            rw [d1]
            refine ite2 (fun h => ?_) (fun h => ?_)
            · (repeat array_get_dec)
              refine ite2 (fun h2 => ?_) (fun h2 => ?_)
              · (repeat array_get_dec)
                exact endB (by rw [h, h2]; rfl)
              · exact endB (by rw [h, Bool.eq_false_iff.mpr h2]; rfl)
            · exact endB (by rw [Bool.eq_false_iff.mpr h]; rfl)
          · refine ite2 (fun h => endB (by rw [h]; rfl)) (fun h => ?_)
            rw [Bool.eq_false_iff.mpr h, Bool.false_or]
            refine midB (decide (r = 2) && (L && R)) ?_ (endB rfl)
            (repeat array_get_dec)
            rw [d2]
            refine ite2 (fun h => ?_) (fun h => ?_)
            · (repeat array_get_dec)
              refine ite2 (fun h2 => ?_) (fun h2 => ?_)
              · (repeat array_get_dec)
                exact endB (by rw [h, h2]; rfl)
              · exact endB (by rw [h, Bool.eq_false_iff.mpr h2]; rfl)
            · exact endB (by rw [Bool.eq_false_iff.mpr h]; rfl)
        · refine ite2 (fun h => ?_) (fun h => ?_)
          · rw [if_pos h] at hg2
            have hp := hRp (by cases R <;> simp_all)
            (repeat array_get_dec)
            refine ⟨_, _, _, _, rfl, rfl, upd_same, ixN_nat (j := z) rfl (by rw [List.length_map]; omega), ?_⟩
            rw [set_map, hg2, upd_upd]
            exact ⟨rfl, rfl⟩
          · rw [if_neg h] at hg2
            subst hg2
            exact ⟨rfl, rfl⟩
      refine midV (.bl (decide (r = 0) || (decide (r = 1) && (L || R) || decide (r = 2) && (L && R)))) ?_ q
      (repeat array_get_dec)
      rw [d0]
      refine ite2 (fun h => endV (by rw [h]; rfl)) (fun h => ?_)
      rw [Bool.eq_false_iff.mpr h, Bool.false_or]
      refine midV (.bl (decide (r = 1) && (L || R))) ?_ ?_
      · (repeat array_get_dec)
        rw [d1]
        refine ite2 (fun h => ?_) (fun h => endV (by rw [Bool.eq_false_iff.mpr h]; rfl))
        refine midV (.bl (L || R)) ?_ (endV (by rw [h]; rfl))
        (repeat array_get_dec)
        refine ite2 (fun h => endV (by rw [h]; rfl)) (fun h => ?_)
        (repeat array_get_dec)
        exact endV (by rw [Bool.eq_false_iff.mpr h]; rfl)
      · refine ⟨_, rfl, ?_⟩
        refine ite2 (fun h => endV (by rw [h]; rfl)) (fun h => ?_)
        rw [Bool.eq_false_iff.mpr h, Bool.false_or]
        refine midV (.bl (decide (r = 2) && (L && R))) ?_ (endV rfl)
        (repeat array_get_dec)
        rw [d2]
        refine ite2 (fun h => ?_) (fun h => endV (by rw [Bool.eq_false_iff.mpr h]; rfl))
        (repeat array_get_dec)
        refine ite2 (fun h2 => ?_) (fun h2 => ?_)
        · (repeat array_get_dec)
          exact endV (by rw [h, h2]; rfl)
        · exact endV (by rw [h, Bool.eq_false_iff.mpr h2]; rfl)

end Mine

namespace Mine
open PySem L2
def sp_l_read (K : PySem.W.Frag) : Sp := fun vs H Q _ => ∃ (l : Addr) (b : Int) (xs : List V) (ss : List Sg), vs = [.ref l, .int b] ∧ Ms b ∧ H l = some (.lst xs) ∧ Sgs H xs ss ∧ ss.length ≤ 400 ∧
  ∀ (p f lo : Addr) (ys : List V) (H' : Hp), Same H H' → H f = none → H lo = none → f ≠ lo → H' p = some (.tup [.ref f, .ref lo]) → H' f = some (.lst ((readL b (kds ss)).1.map V.int)) → H' lo = some (.lst ys) → Prs H' ys (readL b (kds ss)).2 → Q (.ref p) H'
theorem ok_l_read {P : Program} {w : World} {K : PySem.W.Frag} {mg : Str → Option Value} {base : Heap} {t : Adr} (T : Txt K w mg t) : FnOk P w K mg base CX0 (0 + 2) t.f_l_read t.d_l_read ["_law_line_here", "_law_begin_here"] (sp_l_read K) := by
  have G_l_base := ok_l_base (P := P) (w := w) (base := base) T
  have G_l_three := ok_l_three (P := P) (w := w) (base := base) T
  have G_l_run := ok_l_run (P := P) (w := w) (base := base) T
  refine T.F_l_read.ok sc_l_read (fun vs H Q E h => ?_) (fun cdv A outer s H vs Q E hr h => ?_)
  · obtain ⟨_, _, _, _, rfl, _⟩ := h
    rfl
  · obtain ⟨l, b, xs, ss, rfl, hMs, hS, hg, hn, q⟩ := h
    refine bodyOk (pss_cons (ps_set (i := 2) sc_l_read.nd rfl (Or.inl rfl) (pe_call G_l_base (hr.mono (by decide)) rfl T.mg_l_base T.F_l_base.kp T.b_l_base .nil pass0 (pa_cons (pv 0) (pa_cons (pv 1) pa_nil)))) (pss_cons (ps_set (i := 3) sc_l_read.nd rfl (Or.inl rfl) (pe_call G_l_three (hr.mono (by decide)) rfl T.mg_l_three T.F_l_three.kp T.b_l_three .nil pass0 (pa_cons (pv 0) (pa_cons (pv 1) pa_nil)))) (pss_cons (ps_set (i := 4) sc_l_read.nd rfl (Or.inl rfl) (pe_lst pa_nil)) (pss_cons (ps_set (i := 5) sc_l_read.nd rfl (Or.inl rfl) pe_int) (pss_cons (ps_while PassesOwn.never (pt_cmpR op_lt (pv 5) (pe_callB (call_len_seq.or call_len_str) rfl T.nb_len bt_len (pa_cons (pv 0) pa_nil)) (nomark _)) (pss_cons (ps_set (i := 6) sc_l_read.nd rfl (Or.inl rfl) (pv 5)) (pss_cons (ps_while PassesOwn.never (pt_mid (PW.pt (pw_and (pt_cmpR op_lt (pv 6) (pe_callB (call_len_seq.or call_len_str) rfl T.nb_len bt_len (pa_cons (pv 0) pa_nil)) (nomark _)) (pw_and (pt_cmpR (op_in_seq.or op_in_str) (pe_ix ix_seq (pe_ix ix_seq (pv 0) (pv 6) (fun _ _ => rfl)) pe_int (fun _ _ => rfl)) pe_str rfl) (pw_and1 (pt_val (pe_ix ix_seq (pv 3) (pv 6) (fun _ _ => rfl)))))))) (pss_one (ps_set (i := 6) sc_l_read.nd rfl (Or.inl rfl) (pe_op (op_add.or (op_add_str.or op_cat)) (pv 6) pe_int)))) (pss_cons (ps_mid (ps_if (pt_mid (PW.pt (pw_and (pt_cmpR op_gt (pv 6) (pv 5) (nomark _)) (pw_and1 (pt_not (pt_val (pe_call G_l_run (hr.mono (by decide)) rfl T.mg_l_run T.F_l_run.kp T.b_l_run .nil pass0 (pa_cons (pv 0) (pa_cons (pv 2) (pa_cons (pv 5) (pa_cons (pv 6) pa_nil))))))))))) (pss_one (ps_expr (pe_bm PySem.F.plainAttrs_list PySem.F.slot_list_append PySem.F.type_list_append mt_append (pv 4) (pa_cons (pe_tup (pa_cons (pv 5) (pa_cons (pv 6) pa_nil))) pa_nil)))) pss_nil)) (pss_one (ps_set (i := 5) sc_l_read.nd rfl (Or.inl rfl) (pe_callB (call_max2 rfl) rfl T.nb_max bt_max (pa_cons (pv 6) (pa_cons (pe_op (op_add.or (op_add_str.or op_cat)) (pv 5) pe_int) pa_nil))))))))) (pss_one (ps_ret (pe_tup (pa_cons (pv 2) (pa_cons (pv 4) pa_nil)))))))))) ?_
    (repeat array_get_dec)
    refine ⟨l, b, xs, ss, rfl, hMs, SqL.of hS, hg, hn, fun f H1 s1 n1 h1 => ?_⟩
    (repeat array_get_dec)
    refine ⟨l, b, xs, ss, rfl, SqL.of (s1 _ _ hS), hg.same s1, hn, fun th H2 s2 n2 h2 => ?_⟩
    refine ⟨big (by show 0 ≤ 1000; omega), fun lo hlo => ?_⟩
    have s3 := s2.trans (Same.upd (o := .lst []) hlo)
    have hlo0 : H lo = none := s1.free (s2.free hlo)
    have nfl : f ≠ lo := ne_of_none (s2 _ _ h1) hlo
    have ntl : th ≠ lo := ne_of_none h2 hlo
    have ntf : th ≠ f := fun e => by rw [e, h1] at n2; cases n2
    have nlf : l ≠ f := ne_of_none hS n1
    have bl : (baseL b (kds ss)).length = ss.length := by rw [baseL_len, List.length_map]
    have cnt : (runsL b (kds ss)).length ≤ 401 := by
      have := runsF_count (insL b (kds ss)) 0 0
      rw [insL_len, List.length_map] at this
      exact Nat.le_trans this (by omega)
    (repeat array_get_dec)
    refine ⟨fun mm σ H' => ∃ (low : Nat) (v : Option V) (c : RdS) (ys : List V), mm = ss.length - low ∧ low ≤ ss.length ∧ σ = [some (.ref l), some (.int b), some (.ref f), some (.ref th), some (.ref lo), some (.int (low : Int)), v] ∧ Same H H' ∧ H' f = some (.lst (c.1.map V.int)) ∧ H' lo = some (.lst ys) ∧ Prs H' ys c.2 ∧ H' th = some (.lst ((threeL b (kds ss)).map V.bl)) ∧ c.1.length = ss.length ∧ c.2.length + (runsF low low ((insL b (kds ss)).drop low)).length ≤ 401 ∧ (runsF low low ((insL b (kds ss)).drop low)).foldl (rdStep (kds ss)) c = readL b (kds ss),
      ⟨_, 0, none, (baseL b (kds ss), []), [], rfl, Nat.zero_le _, rfl, s1.trans s3, s3 _ _ h1, upd_same, .nil, by rw [upd_ne ntl]; exact h2, bl, by show 0 + (runsL b (kds ss)).length ≤ 401; omega, rfl⟩, ?_⟩
    rintro mm σ H' ⟨low, v, c, ys, rfl, hlow, rfl, s4, hf4, hlo4, hys, hth, hcl, hcnt, hfold⟩
    have hl4 := s4 _ _ hS
    have hg4 := hg.same s4
    (repeat array_get_dec)
    refine .inl ⟨_, _, rfl, .inl (SqL.of hl4), ?_⟩
    rw [plen hg]
    (repeat array_get_dec)
    refine ite2 (fun h => ?_) (fun h => ?_)
    · have hlt : low < ss.length := by have := of_decide_eq_true h; omega
      refine ⟨fun σ' H'' => ∃ m', m' < ss.length - low ∧ ∃ (low : Nat) (v : Option V) (c : RdS) (ys : List V), m' = ss.length - low ∧ low ≤ ss.length ∧ σ' = [some (.ref l), some (.int b), some (.ref f), some (.ref th), some (.ref lo), some (.int (low : Int)), v] ∧ Same H H'' ∧ H'' f = some (.lst (c.1.map V.int)) ∧ H'' lo = some (.lst ys) ∧ Prs H'' ys c.2 ∧ H'' th = some (.lst ((threeL b (kds ss)).map V.bl)) ∧ c.1.length = ss.length ∧ c.2.length + (runsF low low ((insL b (kds ss)).drop low)).length ≤ 401 ∧ (runsF low low ((insL b (kds ss)).drop low)).foldl (rdStep (kds ss)) c = readL b (kds ss), fun _ _ h => h, ?_⟩
      generalize hn' : lead ((insL b (kds ss)).drop low) = n
      have hnle : n ≤ ss.length - low := by
        have := lead_le ((insL b (kds ss)).drop low)
        rw [List.length_drop, insL_len, List.length_map, hn'] at this
        exact this
      (repeat array_get_dec)
      refine ⟨fun mm σ H'' => ∃ j : Nat, mm = n - j ∧ j ≤ n ∧ σ = [some (.ref l), some (.int b), some (.ref f), some (.ref th), some (.ref lo), some (.int (low : Int)), some (.int ((low + j : Nat) : Int))] ∧ H'' = H', ⟨n, 0, rfl, Nat.zero_le _, rfl, rfl⟩, ?_⟩
      rintro mm σ H'' ⟨j, rfl, hj, rfl, rfl⟩
      have hla := lead_at ((insL b (kds ss)).drop low) j (by rw [hn']; exact hj)
      rw [hn', ins_at] at hla
      refine midB (decide (j < n)) ?_ ?_
      · (repeat array_get_dec)
        refine .inl ⟨_, _, rfl, .inl (SqL.of hl4), ?_⟩
        rw [plen hg]
        (repeat array_get_dec)
        refine ite2 (fun h => ?_) (fun h => ?_)
        · have hjl : low + j < ss.length := by have := of_decide_eq_true h; omega
          have hk : (kds ss)[low + j]? = some (ss[low + j]).1 := map_at (List.getElem?_eq_getElem hjl)
          obtain ⟨tb, ht1, ht2⟩ := threeIn hMs (kds ss) (low + j) _ hk
          rw [ht2] at hla
          (repeat array_get_dec)
          refine ixSg (SqL.of hl4) hg4 (n := low + j) rfl (List.getElem?_eq_getElem hjl) fun p hp => ?_
          (repeat array_get_dec)
          refine ite2 (fun h => ?_) (fun h => ?_)
          · have h' : (ss[low + j]).1.small = true := by rw [← in_small]; exact h
            rw [h', Bool.true_and] at hla
            (repeat array_get_dec)
            refine ixL (SqL.of hth) (n := low + j) rfl (map_at ht1) ?_
            (repeat array_get_dec)
            refine endB ?_
            cases tb with
            | true => exact (decide_eq_true (hla.mpr rfl)).symm
            | false => exact (decide_eq_false (fun z => by have := hla.mp z; cases this)).symm
          · have h' : (ss[low + j]).1.small = false := by rw [← in_small]; exact Bool.eq_false_iff.mpr h
            rw [h', Bool.false_and] at hla
            exact endB (decide_eq_false (fun z => by have := hla.mp z; cases this)).symm
        · have hjl : ¬ low + j < ss.length := fun z => h (decide_eq_true (by omega))
          exact endB (decide_eq_false (by omega)).symm
      refine ite2 (fun h => ?_) (fun h => ?_)
      · have hjn := of_decide_eq_true h
        refine ⟨fun σ' Hx => ∃ m', m' < n - j ∧ ∃ j : Nat, m' = n - j ∧ j ≤ n ∧ σ' = [some (.ref l), some (.int b), some (.ref f), some (.ref th), some (.ref lo), some (.int (low : Int)), some (.int ((low + j : Nat) : Int))] ∧ Hx = H'', fun _ _ h => h, ?_⟩
        (repeat array_get_dec)
        exact ⟨n - (j + 1), by omega, j + 1, rfl, by omega, rfl, rfl⟩
      · have hjn : j = n := by
          have : ¬ j < n := fun z => h (decide_eq_true z)
          omega
        subst hjn
        have hrf := runsF_lead ((insL b (kds ss)).drop low) low low (by rw [hn']; omega) (Nat.le_refl _)
        rw [hn', List.drop_drop] at hrf
        refine ⟨fun σ1 H1 => σ1 = [some (.ref l), some (.int b), some (.ref f), some (.ref th), some (.ref lo), some (.int (low : Int)), some (.int ((low + j : Nat) : Int))] ∧ ∃ (c : RdS) (ys : List V), Same H H1 ∧ H1 f = some (.lst (c.1.map V.int)) ∧ H1 lo = some (.lst ys) ∧ Prs H1 ys c.2 ∧ H1 th = some (.lst ((threeL b (kds ss)).map V.bl)) ∧ c.1.length = ss.length ∧ c.2.length + (runsF (low + j) (low + j) ((insL b (kds ss)).drop (low + j))).length ≤ 401 ∧ (runsF (low + j) (low + j) ((insL b (kds ss)).drop (low + j))).foldl (rdStep (kds ss)) c = readL b (kds ss), ?_, ?_⟩
        · by_cases hj0 : j = 0
          · subst hj0
            refine midB false ?_ ?_
            · (repeat array_get_dec)
              rw [decide_eq_false (show ¬ ((low : Int) < ((low + 0 : Nat) : Int)) by omega)]
              exact endB rfl
            · exact iteF ⟨rfl, c, ys, s4, hf4, hlo4, hys, hth, hcl, hcnt, hfold⟩
          · have hlt2 : low < low + j := by omega
            rw [if_pos hlt2, List.singleton_append] at hrf
            rw [hrf, List.foldl_cons] at hfold
            rw [hrf, List.length_cons] at hcnt
            have s5 : Same H (upd H'' f (.lst ((settle (kds ss) c.1 low (low + j)).2.map V.int))) := sameOwn s4 n1
            have hlo5 : upd H'' f (.lst ((settle (kds ss) c.1 low (low + j)).2.map V.int)) lo = some (.lst ys) := by rw [upd_ne nfl.symm]; exact hlo4
            have hth5 : upd H'' f (.lst ((settle (kds ss) c.1 low (low + j)).2.map V.int)) th = some (.lst ((threeL b (kds ss)).map V.bl)) := by rw [upd_ne ntf]; exact hth
            have len5 : (settle (kds ss) c.1 low (low + j)).2.length = ss.length := by rw [settle_len]; exact hcl
            refine ⟨fun bb H3 => bb = !(settle (kds ss) c.1 low (low + j)).1 ∧ H3 = upd H'' f (.lst ((settle (kds ss) c.1 low (low + j)).2.map V.int)), ?_, ?_⟩
            · (repeat array_get_dec)
              rw [decide_eq_true (show ((low : Int) < ((low + j : Nat) : Int)) by omega)]
              refine iteT ?_
              (repeat array_get_dec)
              refine ⟨l, f, low, low + j, xs, ss, c.1, rfl, SqL.of hl4, hg4, nlf, hf4, hcl, hlt2, by omega, ?_⟩
              (repeat array_get_dec)
              exact ⟨rfl, rfl⟩
            · rintro bb H3 ⟨rfl, rfl⟩
              refine ite2 (fun h => ?_) (fun h => ?_)
              · have hst : (settle (kds ss) c.1 low (low + j)).1 = false := by
                  cases e : (settle (kds ss) c.1 low (low + j)).1
                  · rfl
                  · rw [e] at h; cases h
                (repeat array_get_dec)
                refine ⟨.inl ⟨rfl, _, SqL.of hlo5⟩, ?_⟩
                (repeat array_get_dec)
                refine ⟨by show 2 ≤ sizeLine; decide, fun z hz => ?_⟩
                have sz := Same.upd (o := .tup [.int (low : Int), .int ((low + j : Nat) : Int)]) hz
                have hlo6 := sz _ _ hlo5
                refine ⟨_, _, _, rfl, rfl, hlo6, by rw [plen hys]; exact small1000 (by omega), ?_⟩
                refine ⟨rfl, ((settle (kds ss) c.1 low (low + j)).2, c.2 ++ [(low, low + j)]), _, sameOwn (s5.trans sz) hlo0, by rw [upd_ne nfl]; exact sz _ _ upd_same, upd_same, psnoc (prsUpd hlo6 (prsSame sz (prsUpd hf4 hys))) (prUpd hlo6 ⟨z, rfl, upd_same⟩),
                  by rw [upd_ne ntl]; exact sz _ _ hth5, len5, by simp only [List.length_append, List.length_singleton]; omega, ?_⟩
                rw [← hfold]
                unfold rdStep
                rw [hst]
                rfl
              · have hst : (settle (kds ss) c.1 low (low + j)).1 = true := by
                  cases e : (settle (kds ss) c.1 low (low + j)).1
                  · rw [e] at h; exact absurd rfl h
                  · rfl
                refine ⟨rfl, ((settle (kds ss) c.1 low (low + j)).2, c.2), ys, s5, upd_same, hlo5, prsUpd hf4 hys, hth5, len5, by show c.2.length + _ ≤ 401; omega, ?_⟩
                rw [← hfold]
                unfold rdStep
                rw [hst]
                rfl
        · rintro σ1 H1 ⟨rfl, c', ys', s6, hf6, hlo6, hys6, hth6, hcl6, hcnt6, hfold6⟩
          (repeat array_get_dec)
          refine ⟨_, _, rfl, ?_⟩
          by_cases hj0 : j = 0
          · subst hj0
            have hbl : (insL b (kds ss))[low]? = some false := by
              have h1 : low < (insL b (kds ss)).length := by rw [insL_len, List.length_map]; exact hlt
              have h2 : ¬ (insL b (kds ss))[low + 0]? = some true := fun z => Nat.lt_irrefl _ (hla.mpr z)
              rw [Nat.add_zero, List.getElem?_eq_getElem h1] at h2
              rw [List.getElem?_eq_getElem h1]
              cases e : (insL b (kds ss))[low]
              · rfl
              · rw [e] at h2; exact absurd rfl h2
            rw [Nat.add_zero, drop_at hbl] at hfold6 hcnt6
            have er : runsF low low (false :: (insL b (kds ss)).drop (low + 1)) = runsF (low + 1) (low + 1) ((insL b (kds ss)).drop (low + 1)) := by
              show (if low < low then [(low, low)] else []) ++ runsF (low + 1) (low + 1) ((insL b (kds ss)).drop (low + 1)) = _
              rw [if_neg (Nat.lt_irrefl _), List.nil_append]
            rw [er] at hfold6 hcnt6
            have em : (if (low : Int) + 1 > ((low + 0 : Nat) : Int) then (low : Int) + 1 else ((low + 0 : Nat) : Int)) = ((low + 1 : Nat) : Int) := by rw [if_pos (by omega)]; rfl
            rw [em]
            exact ⟨ss.length - (low + 1), by omega, low + 1, _, c', ys', rfl, by omega, rfl, s6, hf6, hlo6, hys6, hth6, hcl6, hcnt6, hfold6⟩
          · have em : (if (low : Int) + 1 > ((low + j : Nat) : Int) then (low : Int) + 1 else ((low + j : Nat) : Int)) = ((low + j : Nat) : Int) := by
              split <;> omega
            rw [em]
            exact ⟨ss.length - (low + j), by omega, low + j, _, c', ys', rfl, by omega, rfl, s6, hf6, hlo6, hys6, hth6, hcl6, hcnt6, hfold6⟩
    · have hlt : low = ss.length := by
        have : ¬ low < ss.length := fun z => h (decide_eq_true (by omega))
        omega
      subst hlt
      rw [List.drop_eq_nil_of_le (by rw [insL_len, List.length_map]; exact Nat.le_refl _)] at hfold
      have e : c = readL b (kds ss) := by
        have : runsF ss.length ss.length [] = [] := by unfold runsF; rw [if_neg (Nat.lt_irrefl _)]
        rw [this] at hfold
        exact hfold
      subst e
      (repeat array_get_dec)
      refine ⟨by show 2 ≤ sizeLine; decide, fun z hz => ?_⟩
      have sz := Same.upd (o := .tup [.ref f, .ref lo]) hz
      exact q z f lo ys _ (s4.trans sz) n1 hlo0 nfl upd_same (sz _ _ hf4) (sz _ _ hlo4) (prsSame sz hys)

end Mine

namespace Mine
open PySem L2
theorem mkSame {H H' : Hp} {x dx C : Addr} (hx : H x = none) (hdx : H dx = none) (kp : ∀ y o, (upd (upd H dx (.own x)) x (.ins C dx [])) y = some o → y ≠ x → H' y = some o) : Same H H' := fun y o hy =>
  kp y o (by rw [upd_ne (ne_of_none hy hx), upd_ne (ne_of_none hy hdx)]; exact hy) (ne_of_none hy hx)
theorem mkFree {H : Hp} {x dx D : Addr} {o1 o2 : HO} (h : upd (upd H dx o1) x o2 D = none) : H D = none := by
  unfold upd at h
  split at h
  · cases h
  · split at h
    · cases h
    · exact h
theorem ok_law {P : Program} {w : World} {K : PySem.W.Frag} {mg : Str → Option Value} {base : Heap} {t : Adr} (T : Txt K w mg t) : FnOk P w K mg base CX0 (0 + 5) t.f_law t.d_law ["_law_script"] (sp_law K) := by
  have G_l_line := ok_l_line (P := P) (w := w) (base := base) T
  have G_l_begin := ok_l_begin (P := P) (w := w) (base := base) T
  have G_Ear___init__ := ok_Ear___init__ (P := P) (w := w) (base := base) T
  have G_Ear_close := ok_Ear_close (P := P) (w := w) (base := base) T
  have G_l_many := ok_l_many (P := P) (w := w) (base := base) T
  have G_l_cell_at := ok_l_cell_at (P := P) (w := w) (base := base) T
  have G_Ear_hear := ok_Ear_hear (P := P) (w := w) (base := base) T
  have G_l_nums := ok_l_nums (P := P) (w := w) (base := base) T
  have G_l_close_refused := ok_l_close_refused (P := P) (w := w) (base := base) T
  have G_l_hear_refused := ok_l_hear_refused (P := P) (w := w) (base := base) T
  have G_Ear_waiting := ok_Ear_waiting (P := P) (w := w) (base := base) T
  have G_l_read := ok_l_read (P := P) (w := w) (base := base) T
  refine T.F_law.ok sc_law (fun vs H Q E h => ?_) (fun cdv A outer s H vs Q E hr h => ?_)
  · obtain ⟨a, ns, rfl, _⟩ := h
    rfl
  · obtain ⟨a, ns, rfl, hS, hl, q⟩ := h
    refine bodyOk (pss_cons (ps_set (i := 1) sc_law.nd rfl (Or.inl rfl) (pe_call G_l_line (hr.mono (by decide)) rfl T.mg_l_line T.F_l_line.kp T.b_l_line .nil pass0 (pa_cons (pv 0) (pa_cons pe_int (pa_cons (pe_call G_l_many (hr.mono (by decide)) rfl T.mg_l_many T.F_l_many.kp T.b_l_many .nil pass0 (pa_cons (pe_call G_l_cell_at (hr.mono (by decide)) rfl T.mg_l_cell_at T.F_l_cell_at.kp T.b_l_cell_at .nil pass0 (pa_cons (pv 0) (pa_cons pe_int pa_nil))) pa_nil)) pa_nil))))) (pss_cons (ps_set (i := 2) sc_law.nd rfl (Or.inl rfl) (pe_call G_l_begin (hr.mono (by decide)) rfl T.mg_l_begin T.F_l_begin.kp T.b_l_begin .nil pass0 (pa_cons (pe_call G_l_cell_at (hr.mono (by decide)) rfl T.mg_l_cell_at T.F_l_cell_at.kp T.b_l_cell_at .nil pass0 (pa_cons (pv 0) (pa_cons pe_int pa_nil))) pa_nil))) (pss_cons (ps_set (i := 3) sc_law.nd rfl (Or.inl rfl) (pe_op op_mod (pe_call G_l_cell_at (hr.mono (by decide)) rfl T.mg_l_cell_at T.F_l_cell_at.kp T.b_l_cell_at .nil pass0 (pa_cons (pv 0) (pa_cons pe_int pa_nil))) (pe_op (op_add.or (op_add_str.or op_cat)) (pe_callB (call_len_seq.or call_len_str) rfl T.nb_len bt_len (pa_cons (pv 1) pa_nil)) pe_int))) (pss_cons (ps_set (i := 4) sc_law.nd rfl (Or.inl rfl) (pe_make T.mk_Ear G_Ear___init__ (hr.mono (by decide)) rfl T.mg_Ear T.b_Ear___init__ .nil pass0 (pa_cons (pv 2) pa_nil))) (pss_cons (ps_set (i := 5) sc_law.nd rfl (Or.inl rfl) (pe_make T.mk_Ear G_Ear___init__ (hr.mono (by decide)) rfl T.mg_Ear T.b_Ear___init__ .nil pass0 (pa_cons (pv 2) pa_nil))) (pss_cons (ps_set (i := 6) sc_law.nd rfl (Or.inl rfl) (pe_lst pa_nil)) (pss_cons (ps_for PassesOwn.never rfl (pi_list (pe_slice (sl_list.or (sl_tup.or sl_str)) (pv 1) po_none (po_some (pv 3)))) (pg_name (i := 7) sc_law.nd rfl (Or.inl rfl)) (pss_cons (ps_expr (pe_meth (pv 4) T.cl_Ear T.me_Ear_hear G_Ear_hear (hr.mono (by decide)) T.b_Ear_hear .nil pass1 (pa_cons (pv 7) pa_nil))) (pss_one (ps_set (i := 6) sc_law.nd rfl (Or.inl rfl) (pe_op (op_add.or (op_add_str.or op_cat)) (pv 6) (pe_meth (pv 5) T.cl_Ear T.me_Ear_hear G_Ear_hear (hr.mono (by decide)) T.b_Ear_hear .nil pass1 (pa_cons (pv 7) pa_nil))))))) (pss_cons (ps_expr (pe_meth0 (pv 4) T.cl_Ear T.me_Ear_close G_Ear_close (hr.mono (by decide)) T.b_Ear_close .nil pass1)) (pss_cons (ps_for PassesOwn.never rfl (pi_range1 rfl T.nb_range (pa_cons pe_int pa_nil)) (pg_name (i := 8) sc_law.nd rfl (Or.inl rfl)) (pss_one (ps_if (pt_mid (PW.pt (pw_or (pt_not (pt_val (pe_call G_l_hear_refused (hr.mono (by decide)) rfl T.mg_l_hear_refused T.F_l_hear_refused.kp T.b_l_hear_refused .nil pass0 (pa_cons (pv 4) (pa_cons (pe_tup (pa_cons pe_str (pa_cons pe_int pa_nil))) pa_nil))))) (pw_or (pt_not (pt_val (pe_call G_l_close_refused (hr.mono (by decide)) rfl T.mg_l_close_refused T.F_l_close_refused.kp T.b_l_close_refused .nil pass0 (pa_cons (pv 4) pa_nil)))) (pw_or1 (pt_cmpR (op_ne.or (op_neD (hu_of64 hr))) (pe_meth0 (pv 4) T.cl_Ear T.me_Ear_waiting G_Ear_waiting (hr.mono (by decide)) T.b_Ear_waiting .nil pass0) pe_int (nomark _))))))) (pss_one (ps_ret pe_bl)) pss_nil))) (pss_cons (ps_for PassesOwn.never rfl (pi_list (pe_slice (sl_list.or (sl_tup.or sl_str)) (pv 1) (po_some (pv 3)) po_none)) (pg_name (i := 7) sc_law.nd rfl (Or.inl rfl)) (pss_cons (ps_set (i := 6) sc_law.nd rfl (Or.inl rfl) (pe_op (op_add.or (op_add_str.or op_cat)) (pv 6) (pe_meth (pv 5) T.cl_Ear T.me_Ear_hear G_Ear_hear (hr.mono (by decide)) T.b_Ear_hear .nil pass1 (pa_cons (pv 7) pa_nil)))) (pss_one (ps_if (pt_not (pt_val (pe_call G_l_hear_refused (hr.mono (by decide)) rfl T.mg_l_hear_refused T.F_l_hear_refused.kp T.b_l_hear_refused .nil pass0 (pa_cons (pv 4) (pa_cons (pv 7) pa_nil))))) (pss_one (ps_ret pe_bl)) pss_nil)))) (pss_one (ps_ret (pe_mid (pe_and (pe_call G_l_nums (hr.mono (by decide)) rfl T.mg_l_nums T.F_l_nums.kp T.b_l_nums .nil pass0 (pa_cons (pe_op (op_add.or (op_add_str.or op_cat)) (pv 6) (pe_meth0 (pv 5) T.cl_Ear T.me_Ear_close G_Ear_close (hr.mono (by decide)) T.b_Ear_close .nil pass1)) (pa_cons (pe_ix ix_seq (pe_call G_l_read (hr.mono (by decide)) rfl T.mg_l_read T.F_l_read.kp T.b_l_read .nil pass0 (pa_cons (pv 1) (pa_cons (pv 2) pa_nil))) pe_int (fun _ _ => rfl)) pa_nil))) (pe_one (pe_call G_l_close_refused (hr.mono (by decide)) rfl T.mg_l_close_refused T.F_l_close_refused.kp T.b_l_close_refused .nil pass0 (pa_cons (pv 5) pa_nil))))))))))))))))) ?_
    (repeat array_get_dec)
    refine ⟨a, ns, 2, rfl, hS, hl, ?_⟩
    (repeat array_get_dec)
    refine fun r hr48 => ?_
    refine ⟨a, ns, 3, r, rfl, hS, hl, hr48, fun l xs ss H1 s1 n1 h1 g1 gt1 len1 => ?_⟩
    (repeat array_get_dec)
    refine ⟨a, ns, 0, rfl, s1.seq hS, hl, ?_⟩
    (repeat array_get_dec)
    refine fun b hb => ?_
    have L1 : LineAt H H1 l xs ss := ⟨s1, n1, h1, g1⟩
    have xl : xs.length = ss.length := plen g1
    (repeat array_get_dec)
    refine ⟨a, ns, 1, rfl, s1.seq hS, hl, ?_⟩
    refine ⟨_, rfl, .inl ⟨l, xs, rfl, .inl (SqL.of h1), .inl ⟨_, _, rfl, rfl, _, _, rfl, rfl, (by omega), ?_⟩⟩⟩
    obtain ⟨c, hcI, hc⟩ : ∃ c : Nat, cellN ns 1 % ((xs.length : Int) + 1) = (c : Int) ∧ c ≤ xs.length := by
      have z1 := Int.emod_nonneg (cellN ns 1) (show ((xs.length : Int) + 1) ≠ 0 by omega)
      have z2 := Int.emod_lt_of_pos (cellN ns 1) (show (0 : Int) < (xs.length : Int) + 1 by omega)
      exact ⟨(cellN ns 1 % ((xs.length : Int) + 1)).toNat, by omega, by omega⟩
    have hcI' : (fun i j : Int => V.int (i % j)) (cellN ns 1) ((xs.length : Int) + 1) = V.int (c : Int) := congrArg V.int hcI
    rw [hcI']
    refine ⟨_, rfl, ?_⟩
    intro x1 dy1 nx1 ndy1 ny1
    refine ⟨x1, dy1, b, rfl, upd_same, fun D1 H2 kp2 hD1 hE1 => ⟨rfl, ?_⟩⟩
    have s2 := mkSame nx1 ndy1 kp2
    have nD1 := mkFree hD1
    refine ⟨_, rfl, ?_⟩
    intro x2 dy2 nx2 ndy2 ny2
    refine ⟨x2, dy2, b, rfl, upd_same, fun D2 H3 kp3 hD2 hE2 => ⟨rfl, ?_⟩⟩
    have s3 := mkSame nx2 ndy2 kp3
    have nD2 := mkFree hD2
    have s13 := s2.trans s3
    have n1x2 : H1 x2 = none := s2.free nx2
    have n1D2 : H1 D2 = none := s2.free nD2
    have nx12 : x1 ≠ x2 := fun z => by rw [← z, hE1.1.choose_spec] at nx2; cases nx2
    have n12 : D1 ≠ D2 := ne_of_none hE1.2 nD2
    have hE1' := hE1.same s3
    refine ⟨big (by show 0 ≤ 1000; omega), fun tl0 htl0 => ?_⟩
    have s4 := s13.trans (Same.upd (o := .lst []) htl0)
    have hE1a := hE1'.same (Same.upd (o := .lst []) htl0)
    have hE2a := hE2.same (Same.upd (o := .lst []) htl0)
    have htl4 := upd_same (H := H3) (a := tl0) (o := .lst [])
    have n1t : D1 ≠ tl0 := ne_of_none hE1'.2 htl0
    have n2t : D2 ≠ tl0 := ne_of_none hE2.2 htl0
    generalize upd H3 tl0 (.lst []) = H4 at s4 hE1a hE2a htl4
    refine ⟨_, rfl, _, rfl, c, rfl, .inl ⟨l, xs, rfl, SqL.of (s4 _ _ h1), fun cl hcl => ?_⟩⟩
    rw [cutTo]
    have s5 := s4.trans (Same.upd (o := .lst (xs.take c)) hcl)
    have hE1b := hE1a.same (Same.upd (o := .lst (xs.take c)) hcl)
    have hE2b := hE2a.same (Same.upd (o := .lst (xs.take c)) hcl)
    have htl5 := Same.upd (o := .lst (xs.take c)) hcl _ _ htl4
    have hcl5 := upd_same (H := H4) (a := cl) (o := .lst (xs.take c))
    have n1c : D1 ≠ cl := ne_of_none hE1a.2 hcl
    have n2c : D2 ≠ cl := ne_of_none hE2a.2 hcl
    generalize upd H4 cl (.lst (xs.take c)) = H5 at s5 hE1b hE2b htl5 hcl5
    generalize hks : kds ss = ks
    have ksl : ks.length = ss.length := by rw [← hks, List.length_map]
    refine ⟨cl, rfl, ⟨_, SqL.of hcl5⟩, for_list (K := K) (xs := xs.take c) (fun i σ H' => ∃ (u : Option V) (tl D1 D2 : Addr) (e1 e2 : Ea) (tv1 tv : List Int), σ = [some (.ref a), some (.ref l), some (.int b), some (.int (c : Int)), some (.ref x1), some (.ref x2), some (.ref tl), u, none] ∧ Same H1 H' ∧
        EarAt t.C_Ear H' x1 e1 D1 false ∧ EarAt t.C_Ear H' x2 e2 D2 false ∧ H' tl = some (.lst (tv.map V.int)) ∧ H' cl = some (.lst (xs.take c)) ∧ H1 D1 = none ∧ H1 D2 = none ∧ D1 ≠ D2 ∧ D1 ≠ tl ∧ D2 ≠ tl ∧ D1 ≠ cl ∧ D2 ≠ cl ∧ Told b ks i e1 tv1 ∧ Told b ks i e2 tv)
      ⟨none, tl0, D1, D2, initE b, initE b, [], [], rfl, s5, hE1b, hE2b, htl5, hcl5, nD1, n1D2, n12, n1t, n2t, n1c, n2c, told_init hb ks, told_init hb ks⟩ ?_ ?_ ?_⟩
    · rintro i σ H6 _ ⟨u, tl, D1, D2, e1, e2, tv1, tv, rfl, s6, hE1, hE2, htl6, hcl6, _⟩
      exact SqL.of hcl6
    · rintro i y σ H6 hy ⟨u, tl, D1, D2, e1, e2, tv1, tv, rfl, s6, hE1, hE2, htl6, hcl6, f1, f2, n12, n1t, n2t, n1c, n2c, T1, T2⟩
      have hic : i < c := by
        have := (List.getElem?_eq_some_iff.mp hy).1
        rw [List.length_take] at this
        omega
      have hy' : xs[i]? = some y := by rw [List.getElem?_take_of_lt hic] at hy; exact hy
      obtain ⟨sg, hsg, p, rfl, hp⟩ := pget (g1.same s6) hy'
      have hk : ks[i]? = some sg.1 := by rw [← hks]; exact map_at (f := Prod.fst) hsg
      obtain ⟨dx1, hx1⟩ := hE1.1
      obtain ⟨dx2, hx2⟩ := hE2.1
      have tl1 := T1.2
      have tl2 := T2.2
      refine ⟨_, rfl, x1, dx1, _, rfl, hx1, eaF_no_hear _ _ _, ?_⟩
      refine ⟨_, rfl, ?_⟩
      refine .inr ⟨x1, D1, p, e1, sg, rfl, hE1, T1.sh, hp, by omega, fun L D1' H7 kp7 hE1' hL7 nL7 hLo hDo => ?_⟩
      have T1' := (told_step T1 hk).1
      have s7 := Same.kp s6 kp7 nx1 f1
      have ntx : ∀ {y zs}, H6 y = some (.lst zs) → y ≠ x1 := fun h z => by rw [z, hx1] at h; cases h
      have htl7 := kp7 _ _ htl6 (ntx htl6) (Ne.symm n1t)
      have hcl7 := kp7 _ _ hcl6 (ntx hcl6) (Ne.symm n1c)
      have x2D1 : x2 ≠ D1 := fun z => by rw [z, hE1.2] at hx2; cases hx2
      have hE2' := hE2.kp kp7 (Ne.symm nx12) x2D1 (ntx hE2.2) (Ne.symm n12)
      have hp7 := kp7 _ _ hp (ne_of hp hx1 (by intro z; cases z)) (ne_of hp hE1.2 (by intro z; cases z))
      have out : ∀ {y o}, H6 y = some o → D1 ≠ y → D1' ≠ y := fun {y o} hy hn => by
        rcases hDo with z | z
        · rw [z]; exact hn
        · exact fun w => by rw [w, hy] at z; cases z
      have f1' : H1 D1' = none := by
        rcases hDo with z | z
        · rw [z]; exact f1
        · exact s6.free z
      obtain ⟨dx2', hx2'⟩ := hE2'.1
      obtain ⟨dx1', hx1'⟩ := hE1'.1
      refine ⟨_, rfl, ?_⟩
      refine ⟨_, rfl, x2, dx2', _, rfl, hx2', eaF_no_hear _ _ _, ?_⟩
      refine ⟨_, rfl, ?_⟩
      refine .inr ⟨x2, D2, p, e2, sg, rfl, hE2', T2.sh, hp7, by omega, fun M D2' H8 kp8 hE2c hM8 nM8 hMo hD2o => ?_⟩
      obtain ⟨T2', rest, hrest⟩ := told_step T2 hk
      generalize hearE e2 sg.1 = ho at hE2c hM8 T2' hrest
      obtain ⟨e2', out2⟩ := ho
      dsimp only at hE2c hM8 T2' hrest
      have s8 := Same.kp s7 kp8 n1x2 f2
      have ntx2 : ∀ {y zs}, H7 y = some (.lst zs) → y ≠ x2 := fun h z => by rw [z, hx2'] at h; cases h
      have htl8 := kp8 _ _ htl7 (ntx2 htl7) (Ne.symm n2t)
      have hcl8 := kp8 _ _ hcl7 (ntx2 hcl7) (Ne.symm n2c)
      have x1D2 : x1 ≠ D2 := fun z => by rw [z, hE2'.2] at hx1'; cases hx1'
      have hE1c := hE1'.kp kp8 nx12 x1D2 (ntx2 hE1'.2) (out hE2.2 n12)
      have out' : ∀ {y o}, H7 y = some o → D2 ≠ y → D2' ≠ y := fun {y o} hy hn => by
        rcases hD2o with z | z
        · rw [z]; exact hn
        · exact fun w => by rw [w, hy] at z; cases z
      have f2' : H1 D2' = none := by
        rcases hD2o with z | z
        · rw [z]; exact f2
        · exact s7.free z
      have ol : tv.length + out2.length ≤ 60 := by
        have := congrArg List.length hrest
        rw [rd_len, ksl, List.length_append, List.length_append] at this
        omega
      refine .inr (.inr ⟨tl, M, _, _, rfl, rfl, htl8, hM8, by rw [List.length_map, List.length_map]; exact big (by omega), fun tl' htl' => ?_⟩)
      rw [← List.map_append]
      have sb := Same.upd (o := .lst ((tv ++ out2).map V.int)) htl'
      exact ⟨_, tl', D1', D2', _, e2', _, tv ++ out2, rfl, s8.trans sb, hE1c.same sb, hE2c.same sb, upd_same, sb _ _ hcl8, f1', f2', Ne.symm (out' hE1'.2 (Ne.symm (out hE2.2 n12))), ne_of_none hE1c.2 htl', ne_of_none hE2c.2 htl', out hcl6 n1c, out' hcl7 n2c, T1', T2'⟩
    rintro σ H6 ⟨u, tl, D1, D2, e1, e2, tv1, tv, rfl, s6, hE1, hE2, htl6, hcl6, f1, f2, n12, n1t, n2t, n1c, n2c, T1, T2⟩
    have hn : (xs.take c).length = c := by rw [List.length_take]; omega
    rw [hn] at T1 T2
    obtain ⟨dx1, hx1⟩ := hE1.1
    obtain ⟨dx2, hx2⟩ := hE2.1
    obtain ⟨m1, P1, TT1, hSh1⟩ := T1.sh
    refine ⟨_, rfl, x1, dx1, _, rfl, hx1, eaF_no_close _ _ _, ?_⟩
    refine .inr ⟨x1, D1, e1, rfl, hE1, T1.sh, fun L D1' H7 kp7 hE1' hL7 nL7 hLo hDo => ?_⟩
    have heldc := close_held hSh1
    generalize (settledBy e1 none).1 = ec at hE1' heldc
    have s7 := Same.kp s6 kp7 nx1 f1
    have ntx : ∀ {y zs}, H6 y = some (.lst zs) → y ≠ x1 := fun h z => by rw [z, hx1] at h; cases h
    have htl7 := kp7 _ _ htl6 (ntx htl6) (Ne.symm n1t)
    have x2D1 : x2 ≠ D1 := fun z => by rw [z, hE1.2] at hx2; cases hx2
    have hE2' := hE2.kp kp7 (Ne.symm nx12) x2D1 (ntx hE2.2) (Ne.symm n12)
    have m12 : D1' ≠ D2 := by
      rcases hDo with z | z
      · rw [z]; exact n12
      · exact fun w => by rw [w, hE2.2] at z; cases z
    have p62 : (2 : Int) ^ 62 = 4611686018427387904 := by decide
    (repeat array_get_dec)
    refine ⟨by decide, by decide, for_range (n := 2) (fun i σ H' => ∃ v : Option V, σ = [some (.ref a), some (.ref l), some (.int b), some (.int (c : Int)), some (.ref x1), some (.ref x2), some (.ref tl), u, v] ∧ Same H7 H') ⟨none, rfl, Same.refl _⟩ ?_ ?_⟩
    · rintro i σ H8 hi ⟨v, rfl, s8⟩
      refine ⟨fun bb H9 => bb = false ∧ Same H8 H9, ?_, ?_⟩
      · refine ⟨_, rfl, by show 2 ≤ sizeLine; decide, fun p hp => ?_⟩
        have sp := Same.upd (o := .tup [V.str "s", V.int 4]) hp
        have hEp := (hE1'.same s8).same sp
        refine ⟨x1, D1', p, ec, rfl, hEp, fun H9 s9 => ⟨_, rfl, iteF ?_⟩⟩
        refine ⟨_, rfl, ?_⟩
        refine ⟨x1, D1', ec, rfl, hEp.same s9, fun H10 s10 => ⟨_, rfl, iteF ?_⟩⟩
        have hE10 := (hEp.same s9).same s10
        obtain ⟨dx10, hx10⟩ := hE10.1
        refine ⟨_, rfl, x1, dx10, _, rfl, hx10, eaF_no_waiting _ _ _, ?_⟩
        refine ⟨x1, D1', ec, true, rfl, hE10, ?_⟩
        rw [heldc]
        (repeat array_get_dec)
        exact ⟨by simp, (sp.trans s9).trans s10⟩
      rintro bb H9 ⟨rfl, s9⟩
      refine iteF ?_
      exact ⟨_, rfl, s8.trans s9⟩
    rintro σ H8 ⟨v, rfl, s8⟩
    have hE1d := hE1'.same s8
    have hE2d := hE2'.same s8
    have htl8 := s8 _ _ htl7
    have S8 := s7.trans s8
    have n2t' : D2 ≠ tl := n2t
    refine ⟨_, rfl, _, rfl, c, rfl, .inl ⟨l, xs, rfl, SqL.of (S8 _ _ h1), fun cr hcr => ?_⟩⟩
    rw [cutFrom xs c hc]
    have sc := Same.upd (o := .lst (xs.drop c)) hcr
    have S9 := S8.trans sc
    have hE1e := hE1d.same sc
    have hE2e := hE2d.same sc
    have htl9 := sc _ _ htl8
    have hcr9 := upd_same (H := H8) (a := cr) (o := .lst (xs.drop c))
    have n2r : D2 ≠ cr := ne_of_none hE2d.2 hcr
    generalize upd H8 cr (.lst (xs.drop c)) = H9 at sc S9 hE1e hE2e htl9 hcr9
    refine ⟨cr, rfl, ⟨_, SqL.of hcr9⟩, for_list (K := K) (xs := xs.drop c) (fun i σ H' => ∃ (u' v' : Option V) (tl D2 : Addr) (e2 : Ea) (tv : List Int), σ = [some (.ref a), some (.ref l), some (.int b), some (.int (c : Int)), some (.ref x1), some (.ref x2), some (.ref tl), u', v'] ∧ Same H1 H' ∧
        EarAt t.C_Ear H' x1 ec D1' true ∧ EarAt t.C_Ear H' x2 e2 D2 false ∧ H' tl = some (.lst (tv.map V.int)) ∧ H' cr = some (.lst (xs.drop c)) ∧ H1 D2 = none ∧ D1' ≠ D2 ∧ D2 ≠ tl ∧ D2 ≠ cr ∧ Told b ks (c + i) e2 tv)
      ⟨u, v, tl, D2, e2, tv, rfl, S9, hE1e, hE2e, htl9, hcr9, f2, m12, n2t', n2r, T2⟩ ?_ ?_ ?_⟩
    · rintro i σ H10 _ ⟨u', v', tl, D2, e2, tv, rfl, s10, hE1, hE2, htl10, hcr10, _⟩
      exact SqL.of hcr10
    · rintro i y σ H10 hy ⟨u', v', tl, D2, e2, tv, rfl, s10, hE1, hE2, htl10, hcr10, f2, m12, n2t, n2r, T2⟩
      have hy' : xs[c + i]? = some y := by rw [List.getElem?_drop] at hy; exact hy
      obtain ⟨sg, hsg, p, rfl, hp⟩ := pget (g1.same s10) hy'
      have hk : ks[c + i]? = some sg.1 := by rw [← hks]; exact map_at (f := Prod.fst) hsg
      have hci : c + i < ks.length := (List.getElem?_eq_some_iff.mp hk).1
      obtain ⟨dx1, hx1⟩ := hE1.1
      obtain ⟨dx2, hx2⟩ := hE2.1
      have tl2 := T2.2
      refine ⟨_, rfl, ?_⟩
      refine ⟨_, rfl, x2, dx2, _, rfl, hx2, eaF_no_hear _ _ _, ?_⟩
      refine ⟨_, rfl, ?_⟩
      refine .inr ⟨x2, D2, p, e2, sg, rfl, hE2, T2.sh, hp, by omega, fun M D2' H11 kp11 hE2c hM11 nM11 hMo hD2o => ?_⟩
      obtain ⟨T2', rest, hrest⟩ := told_step T2 hk
      generalize hearE e2 sg.1 = ho at hE2c hM11 T2' hrest
      obtain ⟨e2', out2⟩ := ho
      dsimp only at hE2c hM11 T2' hrest
      have s11 := Same.kp s10 kp11 n1x2 f2
      have ntx2 : ∀ {y zs}, H10 y = some (.lst zs) → y ≠ x2 := fun h z => by rw [z, hx2] at h; cases h
      have htl11 := kp11 _ _ htl10 (ntx2 htl10) (Ne.symm n2t)
      have hcr11 := kp11 _ _ hcr10 (ntx2 hcr10) (Ne.symm n2r)
      have x1D2 : x1 ≠ D2 := fun z => by rw [z, hE2.2] at hx1; cases hx1
      have hE1c := hE1.kp kp11 nx12 x1D2 (ntx2 hE1.2) m12
      have hp11 := kp11 _ _ hp (ne_of hp hx2 (by intro z; cases z)) (ne_of hp hE2.2 (by intro z; cases z))
      have out' : ∀ {y o}, H10 y = some o → D2 ≠ y → D2' ≠ y := fun {y o} hy hn => by
        rcases hD2o with z | z
        · rw [z]; exact hn
        · exact fun w => by rw [w, hy] at z; cases z
      have f2' : H1 D2' = none := by
        rcases hD2o with z | z
        · rw [z]; exact f2
        · exact s10.free z
      have ol : tv.length + out2.length ≤ 60 := by
        have := congrArg List.length hrest
        rw [rd_len, ksl, List.length_append, List.length_append] at this
        omega
      refine .inr (.inr ⟨tl, M, _, _, rfl, rfl, htl11, hM11, by rw [List.length_map, List.length_map]; exact big (by omega), fun tl' htl' => ?_⟩)
      rw [← List.map_append]
      have sb := Same.upd (o := .lst ((tv ++ out2).map V.int)) htl'
      have S12 := s11.trans sb
      have hE1f := hE1c.same sb
      have hE2f := hE2c.same sb
      have htl12 := upd_same (H := H11) (a := tl') (o := .lst ((tv ++ out2).map V.int))
      have hcr12 := sb _ _ hcr11
      have n2t2 : D2' ≠ tl' := ne_of_none hE2c.2 htl'
      generalize upd H11 tl' (.lst ((tv ++ out2).map V.int)) = H12 at sb S12 hE1f hE2f htl12 hcr12
      refine ⟨_, rfl, _, rfl, ?_⟩
      refine ⟨x1, D1', p, ec, rfl, hE1f, fun H13 s13 => ⟨_, rfl, iteF ?_⟩⟩
      exact ⟨_, _, tl', D2', e2', tv ++ out2, rfl, S12.trans s13, hE1f.same s13, hE2f.same s13, s13 _ _ htl12, s13 _ _ hcr12, f2', Ne.symm (out' hE1.2 (Ne.symm m12)), n2t2, out' hcr10 n2r, by rw [← Nat.add_assoc]; exact T2'⟩
    · rintro σ H10 ⟨u', v', tl, D2, e2, tv, rfl, s10, hE1, hE2, htl10, hcr10, f2, m12, n2t, n2r, T2⟩
      have hn2 : c + (xs.drop c).length = ks.length := by rw [List.length_drop]; omega
      rw [hn2] at T2
      have hend := told_end T2
      have le2 := congrArg List.length hend
      rw [List.length_append, rd_len, ksl] at le2
      obtain ⟨dx2, hx2⟩ := hE2.1
      refine ⟨fun v H' => v = .bl true, ?_, ?_⟩
      · refine ⟨_, rfl, ?_⟩
        refine ⟨_, rfl, x2, dx2, _, rfl, hx2, eaF_no_close _ _ _, ?_⟩
        refine .inr ⟨x2, D2, e2, rfl, hE2, T2.sh, fun L D2' H11 kp11 hE2c hL11 nL11 hLo hDo => ?_⟩
        have s11 := Same.kp s10 kp11 n1x2 f2
        have ntx2 : ∀ {y zs}, H10 y = some (.lst zs) → y ≠ x2 := fun h z => by rw [z, hx2] at h; cases h
        have htl11 := kp11 _ _ htl10 (ntx2 htl10) (Ne.symm n2t)
        refine .inr (.inr ⟨tl, L, _, _, rfl, rfl, htl11, hL11, by rw [List.length_map, List.length_map]; exact big (by omega), fun z hz => ?_⟩)
        rw [← List.map_append, hend]
        have sz := Same.upd (o := .lst ((rd b ks).map V.int)) hz
        have S12 := s11.trans sz
        have hE2z := hE2c.same sz
        have hz12 := upd_same (H := H11) (a := z) (o := .lst ((rd b ks).map V.int))
        generalize upd H11 z (.lst ((rd b ks).map V.int)) = H12 at sz S12 hE2z hz12
        refine ⟨_, rfl, _, rfl, ?_⟩
        refine ⟨l, b, xs, ss, rfl, hb, S12 _ _ h1, g1.same S12, by omega, fun pp du lo ys H13 s13 nd _ _ hp13 hd13 _ _ => ?_⟩
        rw [hks] at hd13
        (repeat array_get_dec)
        refine ⟨z, du, _, rd b ks, rfl, s13 _ _ hz12, SqL.of hd13, by rw [rd_len]; omega, ?_⟩
        rw [decide_eq_true rfl]
        refine ⟨_, rfl, iteT ?_⟩
        refine ⟨_, rfl, ?_⟩
        exact ⟨x2, D2', _, rfl, hE2z.same s13, fun H14 s14 => rfl⟩
      · rintro _ H' rfl
        exact q _

end Mine

namespace Mine
open PySem L2
theorem all_mk {l : PySem.W.OpenLaw} {w : World} {K : PySem.W.Frag} {h : Heap} {mg : Str → Option Value} {fa C_Ear f_l_sign_by f_l_cell_at f_l_mixed f_l_numbers f_l_line f_l_begin f_Ear___init__ df_Ear___init__ f_Ear_refuse_where_closed f_Ear_let_go f_Ear_settle_dotted f_Ear_settle_right f_Ear_close_run f_Ear_settled_by f_Ear_close f_l_many f_sets_measure f_plain_worth f_Ear_hold f_Ear_hangs f_Ear_hear f_l_whole f_l_nums f_l_close_refused f_l_hear_refused f_Ear_waiting f_l_base f_l_three f_l_run f_l_read f_law a_GREAT_KINDS a_SMALL_KINDS a_MEASURE_KINDS a_PLAIN_WORTHS a_TWOFOLD_WORTHS C_Closed C_NoteError C_BadSign C_NoMore : Addr} (X : K.In h) (G : h.Ns mainGlobals mg) (hfa : mg "law" = some (.ref fa))
    {od_l_sign_by an_l_sign_by od_l_cell_at an_l_cell_at od_l_mixed an_l_mixed od_l_numbers an_l_numbers od_l_line an_l_line od_l_begin an_l_begin od_Ear___init__ an_Ear___init__ ddo_Ear___init__ od_Ear_refuse_where_closed an_Ear_refuse_where_closed od_Ear_let_go an_Ear_let_go od_Ear_settle_dotted an_Ear_settle_dotted od_Ear_settle_right an_Ear_settle_right od_Ear_close_run an_Ear_close_run od_Ear_settled_by an_Ear_settled_by od_Ear_close an_Ear_close od_l_many an_l_many od_sets_measure an_sets_measure od_plain_worth an_plain_worth od_Ear_hold an_Ear_hold od_Ear_hangs an_Ear_hangs od_Ear_hear an_Ear_hear od_l_whole an_l_whole od_l_nums an_l_nums od_l_close_refused an_l_close_refused od_l_hear_refused an_l_hear_refused od_Ear_waiting an_Ear_waiting od_l_base an_l_base od_l_three an_l_three od_l_run an_l_run od_l_read an_l_read od_law an_law od_GREAT_KINDS od_SMALL_KINDS od_MEASURE_KINDS : Option Addr} {sl_l_sign_by sl_l_cell_at sl_l_mixed sl_l_numbers sl_l_line sl_l_begin sl_Ear___init__ dds_Ear___init__ sl_Ear_refuse_where_closed sl_Ear_let_go sl_Ear_settle_dotted sl_Ear_settle_right sl_Ear_close_run sl_Ear_settled_by sl_Ear_close sl_l_many sl_sets_measure sl_plain_worth sl_Ear_hold sl_Ear_hangs sl_Ear_hear sl_l_whole sl_l_nums sl_l_close_refused sl_l_hear_refused sl_Ear_waiting sl_l_base sl_l_three sl_l_run sl_l_read sl_law sl_GREAT_KINDS sl_SMALL_KINDS sl_MEASURE_KINDS : Array (Option Value)} {oc_l_sign_by kV_l_sign_by dc_l_sign_by pm_l_sign_by cd_l_sign_by ct_l_sign_by oc_l_cell_at kV_l_cell_at dc_l_cell_at pm_l_cell_at cd_l_cell_at ct_l_cell_at oc_l_mixed kV_l_mixed dc_l_mixed pm_l_mixed cd_l_mixed ct_l_mixed oc_l_numbers kV_l_numbers dc_l_numbers pm_l_numbers cd_l_numbers ct_l_numbers oc_l_line kV_l_line dc_l_line pm_l_line cd_l_line ct_l_line oc_l_begin kV_l_begin dc_l_begin pm_l_begin cd_l_begin ct_l_begin oc_Ear___init__ kV_Ear___init__ dc_Ear___init__ pm_Ear___init__ cd_Ear___init__ ct_Ear___init__ ddc_Ear___init__ oc_Ear_refuse_where_closed kV_Ear_refuse_where_closed dc_Ear_refuse_where_closed pm_Ear_refuse_where_closed cd_Ear_refuse_where_closed ct_Ear_refuse_where_closed oc_Ear_let_go kV_Ear_let_go dc_Ear_let_go pm_Ear_let_go cd_Ear_let_go ct_Ear_let_go oc_Ear_settle_dotted kV_Ear_settle_dotted dc_Ear_settle_dotted pm_Ear_settle_dotted cd_Ear_settle_dotted ct_Ear_settle_dotted oc_Ear_settle_right kV_Ear_settle_right dc_Ear_settle_right pm_Ear_settle_right cd_Ear_settle_right ct_Ear_settle_right oc_Ear_close_run kV_Ear_close_run dc_Ear_close_run pm_Ear_close_run cd_Ear_close_run ct_Ear_close_run oc_Ear_settled_by kV_Ear_settled_by dc_Ear_settled_by pm_Ear_settled_by cd_Ear_settled_by ct_Ear_settled_by oc_Ear_close kV_Ear_close dc_Ear_close pm_Ear_close cd_Ear_close ct_Ear_close oc_l_many kV_l_many dc_l_many pm_l_many cd_l_many ct_l_many oc_sets_measure kV_sets_measure dc_sets_measure pm_sets_measure cd_sets_measure ct_sets_measure oc_plain_worth kV_plain_worth dc_plain_worth pm_plain_worth cd_plain_worth ct_plain_worth oc_Ear_hold kV_Ear_hold dc_Ear_hold pm_Ear_hold cd_Ear_hold ct_Ear_hold oc_Ear_hangs kV_Ear_hangs dc_Ear_hangs pm_Ear_hangs cd_Ear_hangs ct_Ear_hangs oc_Ear_hear kV_Ear_hear dc_Ear_hear pm_Ear_hear cd_Ear_hear ct_Ear_hear oc_l_whole kV_l_whole dc_l_whole pm_l_whole cd_l_whole ct_l_whole oc_l_nums kV_l_nums dc_l_nums pm_l_nums cd_l_nums ct_l_nums oc_l_close_refused kV_l_close_refused dc_l_close_refused pm_l_close_refused cd_l_close_refused ct_l_close_refused oc_l_hear_refused kV_l_hear_refused dc_l_hear_refused pm_l_hear_refused cd_l_hear_refused ct_l_hear_refused oc_Ear_waiting kV_Ear_waiting dc_Ear_waiting pm_Ear_waiting cd_Ear_waiting ct_Ear_waiting oc_l_base kV_l_base dc_l_base pm_l_base cd_l_base ct_l_base oc_l_three kV_l_three dc_l_three pm_l_three cd_l_three ct_l_three oc_l_run kV_l_run dc_l_run pm_l_run cd_l_run ct_l_run oc_l_read kV_l_read dc_l_read pm_l_read cd_l_read ct_l_read oc_law kV_law dc_law pm_law cd_law ct_law : Value}
    {dt0_Ear___init__ t0_GREAT_KINDS t1_GREAT_KINDS t2_GREAT_KINDS t0_SMALL_KINDS t1_SMALL_KINDS t2_SMALL_KINDS t0_MEASURE_KINDS t1_MEASURE_KINDS tv0_PLAIN_WORTHS tv1_PLAIN_WORTHS tv2_PLAIN_WORTHS tv3_PLAIN_WORTHS tv4_PLAIN_WORTHS tv5_PLAIN_WORTHS tv6_PLAIN_WORTHS tv7_PLAIN_WORTHS tv8_PLAIN_WORTHS tk0_PLAIN_WORTHS tk1_PLAIN_WORTHS tk2_PLAIN_WORTHS tk3_PLAIN_WORTHS tk4_PLAIN_WORTHS tk5_PLAIN_WORTHS tk6_PLAIN_WORTHS tk7_PLAIN_WORTHS tk8_PLAIN_WORTHS tv0_TWOFOLD_WORTHS tv1_TWOFOLD_WORTHS tk0_TWOFOLD_WORTHS tk1_TWOFOLD_WORTHS t_SHORTENED_WORTH t_DOUBLED_WORTH t_DOTTED_WORTH t_NOTHING_MORE : Tok}
    {ddn_Ear___init__ n_GREAT_KINDS n_SMALL_KINDS n_MEASURE_KINDS n_PLAIN_WORTHS n_TWOFOLD_WORTHS : Nat}
    (aC_Ear : PySem.W.nsIn K mainGlobals "Ear" = some (some (.ref C_Ear)))
    (a_l_sign_by : PySem.W.nsIn K mainGlobals "_law_sign_by" = some (some (.ref f_l_sign_by)))
    (l_l_sign_by : K.lookup f_l_sign_by = some ⟨oc_l_sign_by, od_l_sign_by, .func (PySem.W.fnOf "_law_sign_by" "_law_sign_by" (defArgs s_l_sign_by) (defBody s_l_sign_by) (defScope s_l_sign_by) .none kV_l_sign_by dc_l_sign_by pm_l_sign_by an_l_sign_by cd_l_sign_by ct_l_sign_by), sl_l_sign_by⟩)
    (c_l_sign_by : PySem.W.codeIn K cd_l_sign_by "_law_sign_by" = true)
    (k_l_sign_by : PySem.W.keepIn K (.ref f_l_sign_by) = true)
    (a_l_cell_at : PySem.W.nsIn K mainGlobals "_law_cell_at" = some (some (.ref f_l_cell_at)))
    (l_l_cell_at : K.lookup f_l_cell_at = some ⟨oc_l_cell_at, od_l_cell_at, .func (PySem.W.fnOf "_law_cell_at" "_law_cell_at" (defArgs s_l_cell_at) (defBody s_l_cell_at) (defScope s_l_cell_at) .none kV_l_cell_at dc_l_cell_at pm_l_cell_at an_l_cell_at cd_l_cell_at ct_l_cell_at), sl_l_cell_at⟩)
    (c_l_cell_at : PySem.W.codeIn K cd_l_cell_at "_law_cell_at" = true)
    (k_l_cell_at : PySem.W.keepIn K (.ref f_l_cell_at) = true)
    (a_l_mixed : PySem.W.nsIn K mainGlobals "_law_mixed" = some (some (.ref f_l_mixed)))
    (l_l_mixed : K.lookup f_l_mixed = some ⟨oc_l_mixed, od_l_mixed, .func (PySem.W.fnOf "_law_mixed" "_law_mixed" (defArgs s_l_mixed) (defBody s_l_mixed) (defScope s_l_mixed) .none kV_l_mixed dc_l_mixed pm_l_mixed an_l_mixed cd_l_mixed ct_l_mixed), sl_l_mixed⟩)
    (c_l_mixed : PySem.W.codeIn K cd_l_mixed "_law_mixed" = true)
    (k_l_mixed : PySem.W.keepIn K (.ref f_l_mixed) = true)
    (a_l_numbers : PySem.W.nsIn K mainGlobals "_law_numbers" = some (some (.ref f_l_numbers)))
    (l_l_numbers : K.lookup f_l_numbers = some ⟨oc_l_numbers, od_l_numbers, .func (PySem.W.fnOf "_law_numbers" "_law_numbers" (defArgs s_l_numbers) (defBody s_l_numbers) (defScope s_l_numbers) .none kV_l_numbers dc_l_numbers pm_l_numbers an_l_numbers cd_l_numbers ct_l_numbers), sl_l_numbers⟩)
    (c_l_numbers : PySem.W.codeIn K cd_l_numbers "_law_numbers" = true)
    (k_l_numbers : PySem.W.keepIn K (.ref f_l_numbers) = true)
    (a_l_line : PySem.W.nsIn K mainGlobals "_law_line" = some (some (.ref f_l_line)))
    (l_l_line : K.lookup f_l_line = some ⟨oc_l_line, od_l_line, .func (PySem.W.fnOf "_law_line" "_law_line" (defArgs s_l_line) (defBody s_l_line) (defScope s_l_line) .none kV_l_line dc_l_line pm_l_line an_l_line cd_l_line ct_l_line), sl_l_line⟩)
    (c_l_line : PySem.W.codeIn K cd_l_line "_law_line" = true)
    (k_l_line : PySem.W.keepIn K (.ref f_l_line) = true)
    (a_l_begin : PySem.W.nsIn K mainGlobals "_law_begin" = some (some (.ref f_l_begin)))
    (l_l_begin : K.lookup f_l_begin = some ⟨oc_l_begin, od_l_begin, .func (PySem.W.fnOf "_law_begin" "_law_begin" (defArgs s_l_begin) (defBody s_l_begin) (defScope s_l_begin) .none kV_l_begin dc_l_begin pm_l_begin an_l_begin cd_l_begin ct_l_begin), sl_l_begin⟩)
    (c_l_begin : PySem.W.codeIn K cd_l_begin "_law_begin" = true)
    (k_l_begin : PySem.W.keepIn K (.ref f_l_begin) = true)
    (a_Ear___init__ : PySem.W.findIn K (.ref C_Ear) "__init__" = some (some (.ref f_Ear___init__)))
    (l_Ear___init__ : K.lookup f_Ear___init__ = some ⟨oc_Ear___init__, od_Ear___init__, .func (PySem.W.fnOf "__init__" "Ear.__init__" (defArgs s_Ear___init__) (defBody s_Ear___init__) (defScope s_Ear___init__) (.ref df_Ear___init__) kV_Ear___init__ dc_Ear___init__ pm_Ear___init__ an_Ear___init__ cd_Ear___init__ ct_Ear___init__), sl_Ear___init__⟩)
    (c_Ear___init__ : PySem.W.codeIn K cd_Ear___init__ "Ear.__init__" = true)
    (k_Ear___init__ : PySem.W.keepIn K (.ref f_Ear___init__) = true)
    (fn_Ear___init__ : PySem.W.isFn K (.ref f_Ear___init__) = true)
    (dl_Ear___init__ : K.lookup df_Ear___init__ = some ⟨ddc_Ear___init__, ddo_Ear___init__, .seq #[.int 3 dt0_Ear___init__] ddn_Ear___init__, dds_Ear___init__⟩)
    (a_Ear_refuse_where_closed : PySem.W.findIn K (.ref C_Ear) "refuse_where_closed" = some (some (.ref f_Ear_refuse_where_closed)))
    (l_Ear_refuse_where_closed : K.lookup f_Ear_refuse_where_closed = some ⟨oc_Ear_refuse_where_closed, od_Ear_refuse_where_closed, .func (PySem.W.fnOf "refuse_where_closed" "Ear.refuse_where_closed" (defArgs s_Ear_refuse_where_closed) (defBody s_Ear_refuse_where_closed) (defScope s_Ear_refuse_where_closed) .none kV_Ear_refuse_where_closed dc_Ear_refuse_where_closed pm_Ear_refuse_where_closed an_Ear_refuse_where_closed cd_Ear_refuse_where_closed ct_Ear_refuse_where_closed), sl_Ear_refuse_where_closed⟩)
    (c_Ear_refuse_where_closed : PySem.W.codeIn K cd_Ear_refuse_where_closed "Ear.refuse_where_closed" = true)
    (k_Ear_refuse_where_closed : PySem.W.keepIn K (.ref f_Ear_refuse_where_closed) = true)
    (fn_Ear_refuse_where_closed : PySem.W.isFn K (.ref f_Ear_refuse_where_closed) = true)
    (a_Ear_let_go : PySem.W.findIn K (.ref C_Ear) "let_go" = some (some (.ref f_Ear_let_go)))
    (l_Ear_let_go : K.lookup f_Ear_let_go = some ⟨oc_Ear_let_go, od_Ear_let_go, .func (PySem.W.fnOf "let_go" "Ear.let_go" (defArgs s_Ear_let_go) (defBody s_Ear_let_go) (defScope s_Ear_let_go) .none kV_Ear_let_go dc_Ear_let_go pm_Ear_let_go an_Ear_let_go cd_Ear_let_go ct_Ear_let_go), sl_Ear_let_go⟩)
    (c_Ear_let_go : PySem.W.codeIn K cd_Ear_let_go "Ear.let_go" = true)
    (k_Ear_let_go : PySem.W.keepIn K (.ref f_Ear_let_go) = true)
    (fn_Ear_let_go : PySem.W.isFn K (.ref f_Ear_let_go) = true)
    (a_Ear_settle_dotted : PySem.W.findIn K (.ref C_Ear) "settle_dotted" = some (some (.ref f_Ear_settle_dotted)))
    (l_Ear_settle_dotted : K.lookup f_Ear_settle_dotted = some ⟨oc_Ear_settle_dotted, od_Ear_settle_dotted, .func (PySem.W.fnOf "settle_dotted" "Ear.settle_dotted" (defArgs s_Ear_settle_dotted) (defBody s_Ear_settle_dotted) (defScope s_Ear_settle_dotted) .none kV_Ear_settle_dotted dc_Ear_settle_dotted pm_Ear_settle_dotted an_Ear_settle_dotted cd_Ear_settle_dotted ct_Ear_settle_dotted), sl_Ear_settle_dotted⟩)
    (c_Ear_settle_dotted : PySem.W.codeIn K cd_Ear_settle_dotted "Ear.settle_dotted" = true)
    (k_Ear_settle_dotted : PySem.W.keepIn K (.ref f_Ear_settle_dotted) = true)
    (fn_Ear_settle_dotted : PySem.W.isFn K (.ref f_Ear_settle_dotted) = true)
    (a_Ear_settle_right : PySem.W.findIn K (.ref C_Ear) "settle_right" = some (some (.ref f_Ear_settle_right)))
    (l_Ear_settle_right : K.lookup f_Ear_settle_right = some ⟨oc_Ear_settle_right, od_Ear_settle_right, .func (PySem.W.fnOf "settle_right" "Ear.settle_right" (defArgs s_Ear_settle_right) (defBody s_Ear_settle_right) (defScope s_Ear_settle_right) .none kV_Ear_settle_right dc_Ear_settle_right pm_Ear_settle_right an_Ear_settle_right cd_Ear_settle_right ct_Ear_settle_right), sl_Ear_settle_right⟩)
    (c_Ear_settle_right : PySem.W.codeIn K cd_Ear_settle_right "Ear.settle_right" = true)
    (k_Ear_settle_right : PySem.W.keepIn K (.ref f_Ear_settle_right) = true)
    (fn_Ear_settle_right : PySem.W.isFn K (.ref f_Ear_settle_right) = true)
    (a_Ear_close_run : PySem.W.findIn K (.ref C_Ear) "close_run" = some (some (.ref f_Ear_close_run)))
    (l_Ear_close_run : K.lookup f_Ear_close_run = some ⟨oc_Ear_close_run, od_Ear_close_run, .func (PySem.W.fnOf "close_run" "Ear.close_run" (defArgs s_Ear_close_run) (defBody s_Ear_close_run) (defScope s_Ear_close_run) .none kV_Ear_close_run dc_Ear_close_run pm_Ear_close_run an_Ear_close_run cd_Ear_close_run ct_Ear_close_run), sl_Ear_close_run⟩)
    (c_Ear_close_run : PySem.W.codeIn K cd_Ear_close_run "Ear.close_run" = true)
    (k_Ear_close_run : PySem.W.keepIn K (.ref f_Ear_close_run) = true)
    (fn_Ear_close_run : PySem.W.isFn K (.ref f_Ear_close_run) = true)
    (a_Ear_settled_by : PySem.W.findIn K (.ref C_Ear) "settled_by" = some (some (.ref f_Ear_settled_by)))
    (l_Ear_settled_by : K.lookup f_Ear_settled_by = some ⟨oc_Ear_settled_by, od_Ear_settled_by, .func (PySem.W.fnOf "settled_by" "Ear.settled_by" (defArgs s_Ear_settled_by) (defBody s_Ear_settled_by) (defScope s_Ear_settled_by) .none kV_Ear_settled_by dc_Ear_settled_by pm_Ear_settled_by an_Ear_settled_by cd_Ear_settled_by ct_Ear_settled_by), sl_Ear_settled_by⟩)
    (c_Ear_settled_by : PySem.W.codeIn K cd_Ear_settled_by "Ear.settled_by" = true)
    (k_Ear_settled_by : PySem.W.keepIn K (.ref f_Ear_settled_by) = true)
    (fn_Ear_settled_by : PySem.W.isFn K (.ref f_Ear_settled_by) = true)
    (a_Ear_close : PySem.W.findIn K (.ref C_Ear) "close" = some (some (.ref f_Ear_close)))
    (l_Ear_close : K.lookup f_Ear_close = some ⟨oc_Ear_close, od_Ear_close, .func (PySem.W.fnOf "close" "Ear.close" (defArgs s_Ear_close) (defBody s_Ear_close) (defScope s_Ear_close) .none kV_Ear_close dc_Ear_close pm_Ear_close an_Ear_close cd_Ear_close ct_Ear_close), sl_Ear_close⟩)
    (c_Ear_close : PySem.W.codeIn K cd_Ear_close "Ear.close" = true)
    (k_Ear_close : PySem.W.keepIn K (.ref f_Ear_close) = true)
    (fn_Ear_close : PySem.W.isFn K (.ref f_Ear_close) = true)
    (a_l_many : PySem.W.nsIn K mainGlobals "_law_many" = some (some (.ref f_l_many)))
    (l_l_many : K.lookup f_l_many = some ⟨oc_l_many, od_l_many, .func (PySem.W.fnOf "_law_many" "_law_many" (defArgs s_l_many) (defBody s_l_many) (defScope s_l_many) .none kV_l_many dc_l_many pm_l_many an_l_many cd_l_many ct_l_many), sl_l_many⟩)
    (c_l_many : PySem.W.codeIn K cd_l_many "_law_many" = true)
    (k_l_many : PySem.W.keepIn K (.ref f_l_many) = true)
    (a_sets_measure : PySem.W.nsIn K mainGlobals "sets_measure" = some (some (.ref f_sets_measure)))
    (l_sets_measure : K.lookup f_sets_measure = some ⟨oc_sets_measure, od_sets_measure, .func (PySem.W.fnOf "sets_measure" "sets_measure" (defArgs s_sets_measure) (defBody s_sets_measure) (defScope s_sets_measure) .none kV_sets_measure dc_sets_measure pm_sets_measure an_sets_measure cd_sets_measure ct_sets_measure), sl_sets_measure⟩)
    (c_sets_measure : PySem.W.codeIn K cd_sets_measure "sets_measure" = true)
    (k_sets_measure : PySem.W.keepIn K (.ref f_sets_measure) = true)
    (a_plain_worth : PySem.W.nsIn K mainGlobals "plain_worth" = some (some (.ref f_plain_worth)))
    (l_plain_worth : K.lookup f_plain_worth = some ⟨oc_plain_worth, od_plain_worth, .func (PySem.W.fnOf "plain_worth" "plain_worth" (defArgs s_plain_worth) (defBody s_plain_worth) (defScope s_plain_worth) .none kV_plain_worth dc_plain_worth pm_plain_worth an_plain_worth cd_plain_worth ct_plain_worth), sl_plain_worth⟩)
    (c_plain_worth : PySem.W.codeIn K cd_plain_worth "plain_worth" = true)
    (k_plain_worth : PySem.W.keepIn K (.ref f_plain_worth) = true)
    (a_Ear_hold : PySem.W.findIn K (.ref C_Ear) "hold" = some (some (.ref f_Ear_hold)))
    (l_Ear_hold : K.lookup f_Ear_hold = some ⟨oc_Ear_hold, od_Ear_hold, .func (PySem.W.fnOf "hold" "Ear.hold" (defArgs s_Ear_hold) (defBody s_Ear_hold) (defScope s_Ear_hold) .none kV_Ear_hold dc_Ear_hold pm_Ear_hold an_Ear_hold cd_Ear_hold ct_Ear_hold), sl_Ear_hold⟩)
    (c_Ear_hold : PySem.W.codeIn K cd_Ear_hold "Ear.hold" = true)
    (k_Ear_hold : PySem.W.keepIn K (.ref f_Ear_hold) = true)
    (fn_Ear_hold : PySem.W.isFn K (.ref f_Ear_hold) = true)
    (a_Ear_hangs : PySem.W.findIn K (.ref C_Ear) "hangs" = some (some (.ref f_Ear_hangs)))
    (l_Ear_hangs : K.lookup f_Ear_hangs = some ⟨oc_Ear_hangs, od_Ear_hangs, .func (PySem.W.fnOf "hangs" "Ear.hangs" (defArgs s_Ear_hangs) (defBody s_Ear_hangs) (defScope s_Ear_hangs) .none kV_Ear_hangs dc_Ear_hangs pm_Ear_hangs an_Ear_hangs cd_Ear_hangs ct_Ear_hangs), sl_Ear_hangs⟩)
    (c_Ear_hangs : PySem.W.codeIn K cd_Ear_hangs "Ear.hangs" = true)
    (k_Ear_hangs : PySem.W.keepIn K (.ref f_Ear_hangs) = true)
    (fn_Ear_hangs : PySem.W.isFn K (.ref f_Ear_hangs) = true)
    (a_Ear_hear : PySem.W.findIn K (.ref C_Ear) "hear" = some (some (.ref f_Ear_hear)))
    (l_Ear_hear : K.lookup f_Ear_hear = some ⟨oc_Ear_hear, od_Ear_hear, .func (PySem.W.fnOf "hear" "Ear.hear" (defArgs s_Ear_hear) (defBody s_Ear_hear) (defScope s_Ear_hear) .none kV_Ear_hear dc_Ear_hear pm_Ear_hear an_Ear_hear cd_Ear_hear ct_Ear_hear), sl_Ear_hear⟩)
    (c_Ear_hear : PySem.W.codeIn K cd_Ear_hear "Ear.hear" = true)
    (k_Ear_hear : PySem.W.keepIn K (.ref f_Ear_hear) = true)
    (fn_Ear_hear : PySem.W.isFn K (.ref f_Ear_hear) = true)
    (a_l_whole : PySem.W.nsIn K mainGlobals "_law_whole" = some (some (.ref f_l_whole)))
    (l_l_whole : K.lookup f_l_whole = some ⟨oc_l_whole, od_l_whole, .func (PySem.W.fnOf "_law_whole" "_law_whole" (defArgs s_l_whole) (defBody s_l_whole) (defScope s_l_whole) .none kV_l_whole dc_l_whole pm_l_whole an_l_whole cd_l_whole ct_l_whole), sl_l_whole⟩)
    (c_l_whole : PySem.W.codeIn K cd_l_whole "_law_whole" = true)
    (k_l_whole : PySem.W.keepIn K (.ref f_l_whole) = true)
    (a_l_nums : PySem.W.nsIn K mainGlobals "_law_nums" = some (some (.ref f_l_nums)))
    (l_l_nums : K.lookup f_l_nums = some ⟨oc_l_nums, od_l_nums, .func (PySem.W.fnOf "_law_nums" "_law_nums" (defArgs s_l_nums) (defBody s_l_nums) (defScope s_l_nums) .none kV_l_nums dc_l_nums pm_l_nums an_l_nums cd_l_nums ct_l_nums), sl_l_nums⟩)
    (c_l_nums : PySem.W.codeIn K cd_l_nums "_law_nums" = true)
    (k_l_nums : PySem.W.keepIn K (.ref f_l_nums) = true)
    (a_l_close_refused : PySem.W.nsIn K mainGlobals "_law_close_refused" = some (some (.ref f_l_close_refused)))
    (l_l_close_refused : K.lookup f_l_close_refused = some ⟨oc_l_close_refused, od_l_close_refused, .func (PySem.W.fnOf "_law_close_refused" "_law_close_refused" (defArgs s_l_close_refused) (defBody s_l_close_refused) (defScope s_l_close_refused) .none kV_l_close_refused dc_l_close_refused pm_l_close_refused an_l_close_refused cd_l_close_refused ct_l_close_refused), sl_l_close_refused⟩)
    (c_l_close_refused : PySem.W.codeIn K cd_l_close_refused "_law_close_refused" = true)
    (k_l_close_refused : PySem.W.keepIn K (.ref f_l_close_refused) = true)
    (a_l_hear_refused : PySem.W.nsIn K mainGlobals "_law_hear_refused" = some (some (.ref f_l_hear_refused)))
    (l_l_hear_refused : K.lookup f_l_hear_refused = some ⟨oc_l_hear_refused, od_l_hear_refused, .func (PySem.W.fnOf "_law_hear_refused" "_law_hear_refused" (defArgs s_l_hear_refused) (defBody s_l_hear_refused) (defScope s_l_hear_refused) .none kV_l_hear_refused dc_l_hear_refused pm_l_hear_refused an_l_hear_refused cd_l_hear_refused ct_l_hear_refused), sl_l_hear_refused⟩)
    (c_l_hear_refused : PySem.W.codeIn K cd_l_hear_refused "_law_hear_refused" = true)
    (k_l_hear_refused : PySem.W.keepIn K (.ref f_l_hear_refused) = true)
    (a_Ear_waiting : PySem.W.findIn K (.ref C_Ear) "waiting" = some (some (.ref f_Ear_waiting)))
    (l_Ear_waiting : K.lookup f_Ear_waiting = some ⟨oc_Ear_waiting, od_Ear_waiting, .func (PySem.W.fnOf "waiting" "Ear.waiting" (defArgs s_Ear_waiting) (defBody s_Ear_waiting) (defScope s_Ear_waiting) .none kV_Ear_waiting dc_Ear_waiting pm_Ear_waiting an_Ear_waiting cd_Ear_waiting ct_Ear_waiting), sl_Ear_waiting⟩)
    (c_Ear_waiting : PySem.W.codeIn K cd_Ear_waiting "Ear.waiting" = true)
    (k_Ear_waiting : PySem.W.keepIn K (.ref f_Ear_waiting) = true)
    (fn_Ear_waiting : PySem.W.isFn K (.ref f_Ear_waiting) = true)
    (a_l_base : PySem.W.nsIn K mainGlobals "_law_base" = some (some (.ref f_l_base)))
    (l_l_base : K.lookup f_l_base = some ⟨oc_l_base, od_l_base, .func (PySem.W.fnOf "_law_base" "_law_base" (defArgs s_l_base) (defBody s_l_base) (defScope s_l_base) .none kV_l_base dc_l_base pm_l_base an_l_base cd_l_base ct_l_base), sl_l_base⟩)
    (c_l_base : PySem.W.codeIn K cd_l_base "_law_base" = true)
    (k_l_base : PySem.W.keepIn K (.ref f_l_base) = true)
    (a_l_three : PySem.W.nsIn K mainGlobals "_law_three" = some (some (.ref f_l_three)))
    (l_l_three : K.lookup f_l_three = some ⟨oc_l_three, od_l_three, .func (PySem.W.fnOf "_law_three" "_law_three" (defArgs s_l_three) (defBody s_l_three) (defScope s_l_three) .none kV_l_three dc_l_three pm_l_three an_l_three cd_l_three ct_l_three), sl_l_three⟩)
    (c_l_three : PySem.W.codeIn K cd_l_three "_law_three" = true)
    (k_l_three : PySem.W.keepIn K (.ref f_l_three) = true)
    (a_l_run : PySem.W.nsIn K mainGlobals "_law_run" = some (some (.ref f_l_run)))
    (l_l_run : K.lookup f_l_run = some ⟨oc_l_run, od_l_run, .func (PySem.W.fnOf "_law_run" "_law_run" (defArgs s_l_run) (defBody s_l_run) (defScope s_l_run) .none kV_l_run dc_l_run pm_l_run an_l_run cd_l_run ct_l_run), sl_l_run⟩)
    (c_l_run : PySem.W.codeIn K cd_l_run "_law_run" = true)
    (k_l_run : PySem.W.keepIn K (.ref f_l_run) = true)
    (a_l_read : PySem.W.nsIn K mainGlobals "_law_read" = some (some (.ref f_l_read)))
    (l_l_read : K.lookup f_l_read = some ⟨oc_l_read, od_l_read, .func (PySem.W.fnOf "_law_read" "_law_read" (defArgs s_l_read) (defBody s_l_read) (defScope s_l_read) .none kV_l_read dc_l_read pm_l_read an_l_read cd_l_read ct_l_read), sl_l_read⟩)
    (c_l_read : PySem.W.codeIn K cd_l_read "_law_read" = true)
    (k_l_read : PySem.W.keepIn K (.ref f_l_read) = true)
    (a_law : PySem.W.nsIn K mainGlobals "law" = some (some (.ref f_law)))
    (l_law : K.lookup f_law = some ⟨oc_law, od_law, .func (PySem.W.fnOf "law" "law" (defArgs s_law) (defBody s_law) (defScope s_law) .none kV_law dc_law pm_law an_law cd_law ct_law), sl_law⟩)
    (c_law : PySem.W.codeIn K cd_law "law" = true)
    (k_law : PySem.W.keepIn K (.ref f_law) = true)
    (z_ValueError : PySem.W.nsIn K mainGlobals "ValueError" = some none)
    (z_bool : PySem.W.nsIn K mainGlobals "bool" = some none)
    (z_int : PySem.W.nsIn K mainGlobals "int" = some none)
    (z_isinstance : PySem.W.nsIn K mainGlobals "isinstance" = some none)
    (z_len : PySem.W.nsIn K mainGlobals "len" = some none)
    (z_list : PySem.W.nsIn K mainGlobals "list" = some none)
    (z_max : PySem.W.nsIn K mainGlobals "max" = some none)
    (z_min : PySem.W.nsIn K mainGlobals "min" = some none)
    (z_range : PySem.W.nsIn K mainGlobals "range" = some none)
    (a_GREAT_KINDS_ : PySem.W.nsIn K mainGlobals "GREAT_KINDS" = some (some (.ref a_GREAT_KINDS)))
    (l_GREAT_KINDS_ : K.lookup a_GREAT_KINDS = some ⟨.type "tuple", od_GREAT_KINDS, .seq #[.str (Str.ofString "G") t0_GREAT_KINDS, .str (Str.ofString "D") t1_GREAT_KINDS, .str (Str.ofString "R") t2_GREAT_KINDS] n_GREAT_KINDS, sl_GREAT_KINDS⟩)
    (a_SMALL_KINDS_ : PySem.W.nsIn K mainGlobals "SMALL_KINDS" = some (some (.ref a_SMALL_KINDS)))
    (l_SMALL_KINDS_ : K.lookup a_SMALL_KINDS = some ⟨.type "tuple", od_SMALL_KINDS, .seq #[.str (Str.ofString "s") t0_SMALL_KINDS, .str (Str.ofString "d") t1_SMALL_KINDS, .str (Str.ofString "r") t2_SMALL_KINDS] n_SMALL_KINDS, sl_SMALL_KINDS⟩)
    (a_MEASURE_KINDS_ : PySem.W.nsIn K mainGlobals "MEASURE_KINDS" = some (some (.ref a_MEASURE_KINDS)))
    (l_MEASURE_KINDS_ : K.lookup a_MEASURE_KINDS = some ⟨.type "tuple", od_MEASURE_KINDS, .seq #[.str (Str.ofString "3") t0_MEASURE_KINDS, .str (Str.ofString "2") t1_MEASURE_KINDS] n_MEASURE_KINDS, sl_MEASURE_KINDS⟩)
    (a_PLAIN_WORTHS_ : PySem.W.nsIn K mainGlobals "PLAIN_WORTHS" = some (some (.ref a_PLAIN_WORTHS)))
    (l_PLAIN_WORTHS_ : K.lookup a_PLAIN_WORTHS = some ⟨.type "dict", none, .dict #[⟨PyData.keyHash w.params (Str.ofString "G"), .str (Str.ofString "G") tk0_PLAIN_WORTHS, .int 3 tv0_PLAIN_WORTHS⟩, ⟨PyData.keyHash w.params (Str.ofString "D"), .str (Str.ofString "D") tk1_PLAIN_WORTHS, .int 2 tv1_PLAIN_WORTHS⟩, ⟨PyData.keyHash w.params (Str.ofString "R"), .str (Str.ofString "R") tk2_PLAIN_WORTHS, .int 3 tv2_PLAIN_WORTHS⟩, ⟨PyData.keyHash w.params (Str.ofString "s"), .str (Str.ofString "s") tk3_PLAIN_WORTHS, .int 1 tv3_PLAIN_WORTHS⟩, ⟨PyData.keyHash w.params (Str.ofString "d"), .str (Str.ofString "d") tk4_PLAIN_WORTHS, .int 1 tv4_PLAIN_WORTHS⟩, ⟨PyData.keyHash w.params (Str.ofString "r"), .str (Str.ofString "r") tk5_PLAIN_WORTHS, .int 1 tv5_PLAIN_WORTHS⟩, ⟨PyData.keyHash w.params (Str.ofString "."), .str (Str.ofString ".") tk6_PLAIN_WORTHS, .int 0 tv6_PLAIN_WORTHS⟩, ⟨PyData.keyHash w.params (Str.ofString "3"), .str (Str.ofString "3") tk7_PLAIN_WORTHS, .int 0 tv7_PLAIN_WORTHS⟩, ⟨PyData.keyHash w.params (Str.ofString "2"), .str (Str.ofString "2") tk8_PLAIN_WORTHS, .int 0 tv8_PLAIN_WORTHS⟩] n_PLAIN_WORTHS, #[]⟩)
    (y_PLAIN_WORTHS_ : (a_PLAIN_WORTHS == sysModules) = false)
    (a_TWOFOLD_WORTHS_ : PySem.W.nsIn K mainGlobals "TWOFOLD_WORTHS" = some (some (.ref a_TWOFOLD_WORTHS)))
    (l_TWOFOLD_WORTHS_ : K.lookup a_TWOFOLD_WORTHS = some ⟨.type "dict", none, .dict #[⟨PyData.keyHash w.params (Str.ofString "G"), .str (Str.ofString "G") tk0_TWOFOLD_WORTHS, .int 2 tv0_TWOFOLD_WORTHS⟩, ⟨PyData.keyHash w.params (Str.ofString "R"), .str (Str.ofString "R") tk1_TWOFOLD_WORTHS, .int 2 tv1_TWOFOLD_WORTHS⟩] n_TWOFOLD_WORTHS, #[]⟩)
    (y_TWOFOLD_WORTHS_ : (a_TWOFOLD_WORTHS == sysModules) = false)
    (a_SHORTENED_WORTH_ : PySem.W.nsIn K mainGlobals "SHORTENED_WORTH" = some (some (.int 2 t_SHORTENED_WORTH)))
    (a_DOUBLED_WORTH_ : PySem.W.nsIn K mainGlobals "DOUBLED_WORTH" = some (some (.int 2 t_DOUBLED_WORTH)))
    (a_DOTTED_WORTH_ : PySem.W.nsIn K mainGlobals "DOTTED_WORTH" = some (some (.int 3 t_DOTTED_WORTH)))
    (a_NOTHING_MORE_ : PySem.W.nsIn K mainGlobals "NOTHING_MORE" = some (some (.str (Str.ofString "") t_NOTHING_MORE)))
    (mkm_Ear : PySem.W.makesIn K C_Ear = true)
    (mkk_Ear : PySem.W.keepIn K (.ref C_Ear) = true)
    (pg_Ear : PySem.W.plainGet K C_Ear Str.empty = true)
    (hd_Ear : PySem.W.hasDictIn K C_Ear = true)
    (po_Ear : PySem.W.plainOver K C_Ear = true)
    (sa_Ear : PySem.W.findIn K (.ref C_Ear) "__setattr__" = some (some (.builtin "object.__setattr__")))
    (na_Ear_measure : PySem.W.findIn K (.ref C_Ear) "measure" = some none)
    (na_Ear_held : PySem.W.findIn K (.ref C_Ear) "held" = some none)
    (na_Ear_left : PySem.W.findIn K (.ref C_Ear) "left" = some none)
    (na_Ear_right : PySem.W.findIn K (.ref C_Ear) "right" = some none)
    (na_Ear_counted : PySem.W.findIn K (.ref C_Ear) "counted" = some none)
    (na_Ear_last : PySem.W.findIn K (.ref C_Ear) "last" = some none)
    (na_Ear_is_closed : PySem.W.findIn K (.ref C_Ear) "is_closed" = some none)
    (aX_Closed : PySem.W.nsIn K mainGlobals "Closed" = some (some (.ref C_Closed)))
    (aX_NoteError : PySem.W.nsIn K mainGlobals "NoteError" = some (some (.ref C_NoteError)))
    (aX_BadSign : PySem.W.nsIn K mainGlobals "BadSign" = some (some (.ref C_BadSign)))
    (aX_NoMore : PySem.W.nsIn K mainGlobals "NoMore" = some (some (.ref C_NoMore)))
    (xe_Closed : PySem.W.excIn K C_Closed veMro "ValueError.__new__" = true)
    (xg_Closed : PySem.W.findIn K (.ref C_Closed) "__getattribute__" = some (some (.builtin "BaseException.__getattribute__")))
    (xn_Closed : PySem.W.findIn K (.ref C_Closed) "__getattr__" = some none)
    (xc_Closed : PySem.W.findIn K (.ref C_Closed) "__class__" = some (some (.builtin "object.__class__")))
    (xm_Closed_NoteError : PySem.W.exmOne K (.ref C_Closed) (.ref C_NoteError) = some true)
    (ki_Closed_Closed : PySem.W.kitOne K (.ref C_Closed) (.ref C_Closed) = some true)
    (kb_Closed_ValueError : PySem.W.kitOne K (.ref C_Closed) (.type "ValueError") = some true)
    (kt_Closed_BadSign_NoMore : PySem.W.kitAny K (.ref C_Closed) [.ref C_BadSign, .ref C_NoMore] = some false) :
    ∃ fd : FuncData, (∀ (s : Shared) (v : Value), BindsTo s fd ⟨[v], []⟩ [("_law_script", v)]) ∧ ∀ base : Heap, K.In base → base.Ns mainGlobals mg → FnOk l.prog w K mg base CX0 5 fa fd ["_law_script"] (sp_law K) := by
  have e := hfa.symm.trans (PySem.W.mg_of X G a_law)
  cases e
  have F_l_sign_by := fun_mk (st := s_l_sign_by) l_l_sign_by c_l_sign_by k_l_sign_by
  have b_l_sign_by := F_l_sign_by.binds (ps := ["_law_number"]) fun _ _ _ _ _ _ us hl => match us, hl with | [_], _ => rfl
  have F_l_cell_at := fun_mk (st := s_l_cell_at) l_l_cell_at c_l_cell_at k_l_cell_at
  have b_l_cell_at := F_l_cell_at.binds (ps := ["_law_script", "_law_k"]) fun _ _ _ _ _ _ us hl => match us, hl with | [_, _], _ => rfl
  have F_l_mixed := fun_mk (st := s_l_mixed) l_l_mixed c_l_mixed k_l_mixed
  have b_l_mixed := F_l_mixed.binds (ps := ["_law_seed", "_law_k"]) fun _ _ _ _ _ _ us hl => match us, hl with | [_, _], _ => rfl
  have F_l_numbers := fun_mk (st := s_l_numbers) l_l_numbers c_l_numbers k_l_numbers
  have b_l_numbers := F_l_numbers.binds (ps := ["_law_script", "_law_at", "_law_many_here"]) fun _ _ _ _ _ _ us hl => match us, hl with | [_, _, _], _ => rfl
  have F_l_line := fun_mk (st := s_l_line) l_l_line c_l_line k_l_line
  have b_l_line := F_l_line.binds (ps := ["_law_script", "_law_at", "_law_many_here"]) fun _ _ _ _ _ _ us hl => match us, hl with | [_, _, _], _ => rfl
  have F_l_begin := fun_mk (st := s_l_begin) l_l_begin c_l_begin k_l_begin
  have b_l_begin := F_l_begin.binds (ps := ["_law_cell"]) fun _ _ _ _ _ _ us hl => match us, hl with | [_], _ => rfl
  have F_Ear___init__ := funD_mk (st := s_Ear___init__) l_Ear___init__ c_Ear___init__ k_Ear___init__
  have b_Ear___init__ : Binds K _ ["self", "begin"] [] := F_Ear___init__.binds (ds := []) dl_Ear___init__ rfl fun _ _ _ _ _ _ us hl => match us, hl with | [_, _], _ => ⟨_, rfl, rfl⟩
  have bd_Ear___init__ : Binds K _ ["self", "begin"] [.int 3 dt0_Ear___init__] := F_Ear___init__.binds dl_Ear___init__ rfl fun _ _ _ _ _ _ us hl => match us, (show us.length = 1 by simpa using hl) with | [_], _ => ⟨_, rfl, rfl⟩
  have F_Ear_refuse_where_closed := fun_mk (st := s_Ear_refuse_where_closed) l_Ear_refuse_where_closed c_Ear_refuse_where_closed k_Ear_refuse_where_closed
  have b_Ear_refuse_where_closed := F_Ear_refuse_where_closed.binds (ps := ["self"]) fun _ _ _ _ _ _ us hl => match us, hl with | [_], _ => rfl
  have F_Ear_let_go := fun_mk (st := s_Ear_let_go) l_Ear_let_go c_Ear_let_go k_Ear_let_go
  have b_Ear_let_go := F_Ear_let_go.binds (ps := ["self"]) fun _ _ _ _ _ _ us hl => match us, hl with | [_], _ => rfl
  have F_Ear_settle_dotted := fun_mk (st := s_Ear_settle_dotted) l_Ear_settle_dotted c_Ear_settle_dotted k_Ear_settle_dotted
  have b_Ear_settle_dotted := F_Ear_settle_dotted.binds (ps := ["self", "kind"]) fun _ _ _ _ _ _ us hl => match us, hl with | [_, _], _ => rfl
  have F_Ear_settle_right := fun_mk (st := s_Ear_settle_right) l_Ear_settle_right c_Ear_settle_right k_Ear_settle_right
  have b_Ear_settle_right := F_Ear_settle_right.binds (ps := ["self", "kind"]) fun _ _ _ _ _ _ us hl => match us, hl with | [_, _], _ => rfl
  have F_Ear_close_run := fun_mk (st := s_Ear_close_run) l_Ear_close_run c_Ear_close_run k_Ear_close_run
  have b_Ear_close_run := F_Ear_close_run.binds (ps := ["self", "kind"]) fun _ _ _ _ _ _ us hl => match us, hl with | [_, _], _ => rfl
  have F_Ear_settled_by := fun_mk (st := s_Ear_settled_by) l_Ear_settled_by c_Ear_settled_by k_Ear_settled_by
  have b_Ear_settled_by := F_Ear_settled_by.binds (ps := ["self", "kind"]) fun _ _ _ _ _ _ us hl => match us, hl with | [_, _], _ => rfl
  have F_Ear_close := fun_mk (st := s_Ear_close) l_Ear_close c_Ear_close k_Ear_close
  have b_Ear_close := F_Ear_close.binds (ps := ["self"]) fun _ _ _ _ _ _ us hl => match us, hl with | [_], _ => rfl
  have F_l_many := fun_mk (st := s_l_many) l_l_many c_l_many k_l_many
  have b_l_many := F_l_many.binds (ps := ["_law_cell"]) fun _ _ _ _ _ _ us hl => match us, hl with | [_], _ => rfl
  have F_sets_measure := fun_mk (st := s_sets_measure) l_sets_measure c_sets_measure k_sets_measure
  have b_sets_measure := F_sets_measure.binds (ps := ["sign"]) fun _ _ _ _ _ _ us hl => match us, hl with | [_], _ => rfl
  have F_plain_worth := fun_mk (st := s_plain_worth) l_plain_worth c_plain_worth k_plain_worth
  have b_plain_worth := F_plain_worth.binds (ps := ["kind", "measure"]) fun _ _ _ _ _ _ us hl => match us, hl with | [_, _], _ => rfl
  have F_Ear_hold := fun_mk (st := s_Ear_hold) l_Ear_hold c_Ear_hold k_Ear_hold
  have b_Ear_hold := F_Ear_hold.binds (ps := ["self", "kind"]) fun _ _ _ _ _ _ us hl => match us, hl with | [_, _], _ => rfl
  have F_Ear_hangs := fun_mk (st := s_Ear_hangs) l_Ear_hangs c_Ear_hangs k_Ear_hangs
  have b_Ear_hangs := F_Ear_hangs.binds (ps := ["self"]) fun _ _ _ _ _ _ us hl => match us, hl with | [_], _ => rfl
  have F_Ear_hear := fun_mk (st := s_Ear_hear) l_Ear_hear c_Ear_hear k_Ear_hear
  have b_Ear_hear := F_Ear_hear.binds (ps := ["self", "sign"]) fun _ _ _ _ _ _ us hl => match us, hl with | [_, _], _ => rfl
  have F_l_whole := fun_mk (st := s_l_whole) l_l_whole c_l_whole k_l_whole
  have b_l_whole := F_l_whole.binds (ps := ["_law_found"]) fun _ _ _ _ _ _ us hl => match us, hl with | [_], _ => rfl
  have F_l_nums := fun_mk (st := s_l_nums) l_l_nums c_l_nums k_l_nums
  have b_l_nums := F_l_nums.binds (ps := ["_law_found", "_law_due"]) fun _ _ _ _ _ _ us hl => match us, hl with | [_, _], _ => rfl
  have F_l_close_refused := fun_mk (st := s_l_close_refused) l_l_close_refused c_l_close_refused k_l_close_refused
  have b_l_close_refused := F_l_close_refused.binds (ps := ["_law_hark"]) fun _ _ _ _ _ _ us hl => match us, hl with | [_], _ => rfl
  have F_l_hear_refused := fun_mk (st := s_l_hear_refused) l_l_hear_refused c_l_hear_refused k_l_hear_refused
  have b_l_hear_refused := F_l_hear_refused.binds (ps := ["_law_hark", "_law_sign"]) fun _ _ _ _ _ _ us hl => match us, hl with | [_, _], _ => rfl
  have F_Ear_waiting := fun_mk (st := s_Ear_waiting) l_Ear_waiting c_Ear_waiting k_Ear_waiting
  have b_Ear_waiting := F_Ear_waiting.binds (ps := ["self"]) fun _ _ _ _ _ _ us hl => match us, hl with | [_], _ => rfl
  have F_l_base := fun_mk (st := s_l_base) l_l_base c_l_base k_l_base
  have b_l_base := F_l_base.binds (ps := ["_law_line_here", "_law_begin_here"]) fun _ _ _ _ _ _ us hl => match us, hl with | [_, _], _ => rfl
  have F_l_three := fun_mk (st := s_l_three) l_l_three c_l_three k_l_three
  have b_l_three := F_l_three.binds (ps := ["_law_line_here", "_law_begin_here"]) fun _ _ _ _ _ _ us hl => match us, hl with | [_, _], _ => rfl
  have F_l_run := fun_mk (st := s_l_run) l_l_run c_l_run k_l_run
  have b_l_run := F_l_run.binds (ps := ["_law_line_here", "_law_told", "_law_low", "_law_high"]) fun _ _ _ _ _ _ us hl => match us, hl with | [_, _, _, _], _ => rfl
  have F_l_read := fun_mk (st := s_l_read) l_l_read c_l_read k_l_read
  have b_l_read := F_l_read.binds (ps := ["_law_line_here", "_law_begin_here"]) fun _ _ _ _ _ _ us hl => match us, hl with | [_, _], _ => rfl
  have F_law := fun_mk (st := s_law) l_law c_law k_law
  have b_law := F_law.binds (ps := ["_law_script"]) fun _ _ _ _ _ _ us hl => match us, hl with | [_], _ => rfl
  have T : Txt K w mg ⟨_, _, _, _, _, _, _, _, _, _, _, _, _, _, _, dt0_Ear___init__, _, _, _, _, _, _, _, _, _, _, _, _, _, _, _, _, _, _, _, _, _, _, _, _, _, _, _, _, _, _, _, _, _, _, _, _, _, _, _, _, _, _, _, _, _, _, a_GREAT_KINDS, a_SMALL_KINDS, a_MEASURE_KINDS, a_PLAIN_WORTHS, a_TWOFOLD_WORTHS, t_SHORTENED_WORTH, t_DOUBLED_WORTH, t_DOTTED_WORTH, t_NOTHING_MORE, C_Ear, C_Closed, C_NoteError, C_BadSign, C_NoMore⟩ := ⟨F_l_sign_by, b_l_sign_by, PySem.W.mg_of X G a_l_sign_by, F_l_cell_at, b_l_cell_at, PySem.W.mg_of X G a_l_cell_at, F_l_mixed, b_l_mixed, PySem.W.mg_of X G a_l_mixed, F_l_numbers, b_l_numbers, PySem.W.mg_of X G a_l_numbers, F_l_line, b_l_line, PySem.W.mg_of X G a_l_line, F_l_begin, b_l_begin, PySem.W.mg_of X G a_l_begin, F_Ear___init__, bd_Ear___init__, b_Ear___init__, F_Ear_refuse_where_closed, b_Ear_refuse_where_closed, ⟨a_Ear_refuse_where_closed, fn_Ear_refuse_where_closed, k_Ear_refuse_where_closed⟩, F_Ear_let_go, b_Ear_let_go, ⟨a_Ear_let_go, fn_Ear_let_go, k_Ear_let_go⟩, F_Ear_settle_dotted, b_Ear_settle_dotted, ⟨a_Ear_settle_dotted, fn_Ear_settle_dotted, k_Ear_settle_dotted⟩, F_Ear_settle_right, b_Ear_settle_right, ⟨a_Ear_settle_right, fn_Ear_settle_right, k_Ear_settle_right⟩, F_Ear_close_run, b_Ear_close_run, ⟨a_Ear_close_run, fn_Ear_close_run, k_Ear_close_run⟩, F_Ear_settled_by, b_Ear_settled_by, ⟨a_Ear_settled_by, fn_Ear_settled_by, k_Ear_settled_by⟩, F_Ear_close, b_Ear_close, ⟨a_Ear_close, fn_Ear_close, k_Ear_close⟩, F_l_many, b_l_many, PySem.W.mg_of X G a_l_many, F_sets_measure, b_sets_measure, PySem.W.mg_of X G a_sets_measure, F_plain_worth, b_plain_worth, PySem.W.mg_of X G a_plain_worth, F_Ear_hold, b_Ear_hold, ⟨a_Ear_hold, fn_Ear_hold, k_Ear_hold⟩, F_Ear_hangs, b_Ear_hangs, ⟨a_Ear_hangs, fn_Ear_hangs, k_Ear_hangs⟩, F_Ear_hear, b_Ear_hear, ⟨a_Ear_hear, fn_Ear_hear, k_Ear_hear⟩, F_l_whole, b_l_whole, PySem.W.mg_of X G a_l_whole, F_l_nums, b_l_nums, PySem.W.mg_of X G a_l_nums, F_l_close_refused, b_l_close_refused, PySem.W.mg_of X G a_l_close_refused, F_l_hear_refused, b_l_hear_refused, PySem.W.mg_of X G a_l_hear_refused, F_Ear_waiting, b_Ear_waiting, ⟨a_Ear_waiting, fn_Ear_waiting, k_Ear_waiting⟩, F_l_base, b_l_base, PySem.W.mg_of X G a_l_base, F_l_three, b_l_three, PySem.W.mg_of X G a_l_three, F_l_run, b_l_run, PySem.W.mg_of X G a_l_run, F_l_read, b_l_read, PySem.W.mg_of X G a_l_read, F_law, b_law, PySem.W.mg_of X G a_law, PySem.W.mg_none_of X G z_ValueError, PySem.W.mg_none_of X G z_bool, PySem.W.mg_none_of X G z_int, PySem.W.mg_none_of X G z_isinstance, PySem.W.mg_none_of X G z_len, PySem.W.mg_none_of X G z_list, PySem.W.mg_none_of X G z_max, PySem.W.mg_none_of X G z_min, PySem.W.mg_none_of X G z_range, PySem.W.mg_of X G a_GREAT_KINDS_, (fun H => .inr ⟨_, _, _, l_GREAT_KINDS_, rfl, rfl, (by show 3 ≤ sizeLine; decide), (.cons ⟨_, rfl⟩ (.cons ⟨_, rfl⟩ (.cons ⟨_, rfl⟩ .nil)))⟩), PySem.W.mg_of X G a_SMALL_KINDS_, (fun H => .inr ⟨_, _, _, l_SMALL_KINDS_, rfl, rfl, (by show 3 ≤ sizeLine; decide), (.cons ⟨_, rfl⟩ (.cons ⟨_, rfl⟩ (.cons ⟨_, rfl⟩ .nil)))⟩), PySem.W.mg_of X G a_MEASURE_KINDS_, (fun H => .inr ⟨_, _, _, l_MEASURE_KINDS_, rfl, rfl, (by show 2 ≤ sizeLine; decide), (.cons ⟨_, rfl⟩ (.cons ⟨_, rfl⟩ .nil))⟩), PySem.W.mg_of X G a_PLAIN_WORTHS_, ⟨y_PLAIN_WORTHS_, _, _, l_PLAIN_WORTHS_, (.cons ⟨_, rfl⟩ (.cons ⟨_, rfl⟩ (.cons ⟨_, rfl⟩ (.cons ⟨_, rfl⟩ (.cons ⟨_, rfl⟩ (.cons ⟨_, rfl⟩ (.cons ⟨_, rfl⟩ (.cons ⟨_, rfl⟩ (.cons ⟨_, rfl⟩ .nil))))))))), by decide +kernel⟩, PySem.W.mg_of X G a_TWOFOLD_WORTHS_, ⟨y_TWOFOLD_WORTHS_, _, _, l_TWOFOLD_WORTHS_, (.cons ⟨_, rfl⟩ (.cons ⟨_, rfl⟩ .nil)), by decide +kernel⟩, PySem.W.mg_of X G a_SHORTENED_WORTH_, PySem.W.mg_of X G a_DOUBLED_WORTH_, PySem.W.mg_of X G a_DOTTED_WORTH_, PySem.W.mg_of X G a_NOTHING_MORE_, PySem.W.mg_of X G aC_Ear, ⟨mkm_Ear, a_Ear___init__, fn_Ear___init__, mkk_Ear⟩, ⟨pg_Ear, hd_Ear, po_Ear, sa_Ear⟩, na_Ear_measure, na_Ear_held, na_Ear_left, na_Ear_right, na_Ear_counted, na_Ear_last, na_Ear_is_closed, PySem.W.mg_of X G aX_Closed, PySem.W.mg_of X G aX_NoteError, PySem.W.mg_of X G aX_BadSign, PySem.W.mg_of X G aX_NoMore, ⟨xe_Closed, xg_Closed, xn_Closed, xc_Closed⟩, xm_Closed_NoteError, ki_Closed_Closed, kb_Closed_ValueError, kt_Closed_BadSign_NoMore⟩
  exact ⟨_, fun s v => .of_eq rfl, fun base _ _ => ok_law T⟩
theorem walk {l : PySem.W.OpenLaw} {q : Program} {loose : List Str} {XP : (Str → Option Value) → Heap → Prop} {YP : World → Heap → Prop} {d : DefRec} {K : Params → PySem.W.Frag} (hn : l.most = some 63) (hdf : d.params.defaults = [])
    (hY : ∀ (w : World) (h : Heap), YP w h → (K w.params).In h)
    (F : ∀ (w : World) (mg : Str → Option Value) (fa : Addr) (h : Heap), (K w.params).In h → h.Ns mainGlobals mg → mg d.name = some (.ref fa) →
      ∃ fd : FuncData, (∀ (s : Shared) (u : Value), BindsTo s fd ⟨[u], []⟩ [("_law_script", u)]) ∧ ∀ base : Heap, (K w.params).In base → base.Ns mainGlobals mg → FnOk l.prog w (K w.params) mg base CX0 5 fa fd ["_law_script"] (sp_law (K w.params))) :
    PySem.W.WalkO q loose XP YP l.row.toRowW d [] (fun f vs => PySem.call f vs) :=
  L2.walk_of (n := 63) (k := 5) (x := "_law_script") (CX := fun _ => CX0) (sp := fun w => sp_law (K w.params)) hn (by decide) hdf ⟨rfl, by decide, by decide⟩ hY F (fun _ H a ns hl hO hS => law_start hl hO hS) fun _ _ _ _ _ z => z
end Mine
open PySem PySem.W PyProof.Rows
set_option maxRecDepth 100000 in
set_option maxHeartbeats 0 in
theorem PySem.Challenge.cw_noteworth_k20_closed_ears_holds : PySem.Challenge.rw_noteworth_k20_closed_ears.Holds := by
  w_on; o_law; k_head; (case hw => w_witness2)
  k_fill
  refine Mine.walk (l := PySem.Challenge.rw_noteworth_k20_closed_ears) rfl rfl (fun w h Y => PySem.W.kIn_of Y) ?F
  case F =>
    intro w mg fa h KX G hmg
    refine' Mine.all_mk KX G hmg ?aC_Ear ?a_l_sign_by ?l_l_sign_by ?c_l_sign_by ?k_l_sign_by ?a_l_cell_at ?l_l_cell_at ?c_l_cell_at ?k_l_cell_at ?a_l_mixed ?l_l_mixed ?c_l_mixed ?k_l_mixed ?a_l_numbers ?l_l_numbers ?c_l_numbers ?k_l_numbers ?a_l_line ?l_l_line ?c_l_line ?k_l_line ?a_l_begin ?l_l_begin ?c_l_begin ?k_l_begin ?a_Ear___init__ ?l_Ear___init__ ?c_Ear___init__ ?k_Ear___init__ ?fn_Ear___init__ ?dl_Ear___init__ ?a_Ear_refuse_where_closed ?l_Ear_refuse_where_closed ?c_Ear_refuse_where_closed ?k_Ear_refuse_where_closed ?fn_Ear_refuse_where_closed ?a_Ear_let_go ?l_Ear_let_go ?c_Ear_let_go ?k_Ear_let_go ?fn_Ear_let_go ?a_Ear_settle_dotted ?l_Ear_settle_dotted ?c_Ear_settle_dotted ?k_Ear_settle_dotted ?fn_Ear_settle_dotted ?a_Ear_settle_right ?l_Ear_settle_right ?c_Ear_settle_right ?k_Ear_settle_right ?fn_Ear_settle_right ?a_Ear_close_run ?l_Ear_close_run ?c_Ear_close_run ?k_Ear_close_run ?fn_Ear_close_run ?a_Ear_settled_by ?l_Ear_settled_by ?c_Ear_settled_by ?k_Ear_settled_by ?fn_Ear_settled_by ?a_Ear_close ?l_Ear_close ?c_Ear_close ?k_Ear_close ?fn_Ear_close ?a_l_many ?l_l_many ?c_l_many ?k_l_many ?a_sets_measure ?l_sets_measure ?c_sets_measure ?k_sets_measure ?a_plain_worth ?l_plain_worth ?c_plain_worth ?k_plain_worth ?a_Ear_hold ?l_Ear_hold ?c_Ear_hold ?k_Ear_hold ?fn_Ear_hold ?a_Ear_hangs ?l_Ear_hangs ?c_Ear_hangs ?k_Ear_hangs ?fn_Ear_hangs ?a_Ear_hear ?l_Ear_hear ?c_Ear_hear ?k_Ear_hear ?fn_Ear_hear ?a_l_whole ?l_l_whole ?c_l_whole ?k_l_whole ?a_l_nums ?l_l_nums ?c_l_nums ?k_l_nums ?a_l_close_refused ?l_l_close_refused ?c_l_close_refused ?k_l_close_refused ?a_l_hear_refused ?l_l_hear_refused ?c_l_hear_refused ?k_l_hear_refused ?a_Ear_waiting ?l_Ear_waiting ?c_Ear_waiting ?k_Ear_waiting ?fn_Ear_waiting ?a_l_base ?l_l_base ?c_l_base ?k_l_base ?a_l_three ?l_l_three ?c_l_three ?k_l_three ?a_l_run ?l_l_run ?c_l_run ?k_l_run ?a_l_read ?l_l_read ?c_l_read ?k_l_read ?a_law ?l_law ?c_law ?k_law ?z_ValueError ?z_bool ?z_int ?z_isinstance ?z_len ?z_list ?z_max ?z_min ?z_range ?a_GREAT_KINDS_ ?l_GREAT_KINDS_ ?a_SMALL_KINDS_ ?l_SMALL_KINDS_ ?a_MEASURE_KINDS_ ?l_MEASURE_KINDS_ ?a_PLAIN_WORTHS_ ?l_PLAIN_WORTHS_ ?y_PLAIN_WORTHS_ ?a_TWOFOLD_WORTHS_ ?l_TWOFOLD_WORTHS_ ?y_TWOFOLD_WORTHS_ ?a_SHORTENED_WORTH_ ?a_DOUBLED_WORTH_ ?a_DOTTED_WORTH_ ?a_NOTHING_MORE_ ?mkm_Ear ?mkk_Ear ?pg_Ear ?hd_Ear ?po_Ear ?sa_Ear ?na_Ear_measure ?na_Ear_held ?na_Ear_left ?na_Ear_right ?na_Ear_counted ?na_Ear_last ?na_Ear_is_closed ?aX_Closed ?aX_NoteError ?aX_BadSign ?aX_NoMore ?xe_Closed ?xg_Closed ?xn_Closed ?xc_Closed ?xm_Closed_NoteError ?ki_Closed_Closed ?kb_Closed_ValueError ?kt_Closed_BadSign_NoMore
    (case aC_Ear => k_is)
    (case a_l_sign_by => k_is)
    (case l_l_sign_by => k_is)
    (case c_l_sign_by => k_is)
    (case k_l_sign_by => k_is)
    (case a_l_cell_at => k_is)
    (case l_l_cell_at => k_is)
    (case c_l_cell_at => k_is)
    (case k_l_cell_at => k_is)
    (case a_l_mixed => k_is)
    (case l_l_mixed => k_is)
    (case c_l_mixed => k_is)
    (case k_l_mixed => k_is)
    (case a_l_numbers => k_is)
    (case l_l_numbers => k_is)
    (case c_l_numbers => k_is)
    (case k_l_numbers => k_is)
    (case a_l_line => k_is)
    (case l_l_line => k_is)
    (case c_l_line => k_is)
    (case k_l_line => k_is)
    (case a_l_begin => k_is)
    (case l_l_begin => k_is)
    (case c_l_begin => k_is)
    (case k_l_begin => k_is)
    (case a_Ear___init__ => k_is)
    (case l_Ear___init__ => k_is)
    (case c_Ear___init__ => k_is)
    (case k_Ear___init__ => k_is)
    (case fn_Ear___init__ => k_is)
    (case dl_Ear___init__ => k_is)
    (case a_Ear_refuse_where_closed => k_is)
    (case l_Ear_refuse_where_closed => k_is)
    (case c_Ear_refuse_where_closed => k_is)
    (case k_Ear_refuse_where_closed => k_is)
    (case fn_Ear_refuse_where_closed => k_is)
    (case a_Ear_let_go => k_is)
    (case l_Ear_let_go => k_is)
    (case c_Ear_let_go => k_is)
    (case k_Ear_let_go => k_is)
    (case fn_Ear_let_go => k_is)
    (case a_Ear_settle_dotted => k_is)
    (case l_Ear_settle_dotted => k_is)
    (case c_Ear_settle_dotted => k_is)
    (case k_Ear_settle_dotted => k_is)
    (case fn_Ear_settle_dotted => k_is)
    (case a_Ear_settle_right => k_is)
    (case l_Ear_settle_right => k_is)
    (case c_Ear_settle_right => k_is)
    (case k_Ear_settle_right => k_is)
    (case fn_Ear_settle_right => k_is)
    (case a_Ear_close_run => k_is)
    (case l_Ear_close_run => k_is)
    (case c_Ear_close_run => k_is)
    (case k_Ear_close_run => k_is)
    (case fn_Ear_close_run => k_is)
    (case a_Ear_settled_by => k_is)
    (case l_Ear_settled_by => k_is)
    (case c_Ear_settled_by => k_is)
    (case k_Ear_settled_by => k_is)
    (case fn_Ear_settled_by => k_is)
    (case a_Ear_close => k_is)
    (case l_Ear_close => k_is)
    (case c_Ear_close => k_is)
    (case k_Ear_close => k_is)
    (case fn_Ear_close => k_is)
    (case a_l_many => k_is)
    (case l_l_many => k_is)
    (case c_l_many => k_is)
    (case k_l_many => k_is)
    (case a_sets_measure => k_is)
    (case l_sets_measure => k_is)
    (case c_sets_measure => k_is)
    (case k_sets_measure => k_is)
    (case a_plain_worth => k_is)
    (case l_plain_worth => k_is)
    (case c_plain_worth => k_is)
    (case k_plain_worth => k_is)
    (case a_Ear_hold => k_is)
    (case l_Ear_hold => k_is)
    (case c_Ear_hold => k_is)
    (case k_Ear_hold => k_is)
    (case fn_Ear_hold => k_is)
    (case a_Ear_hangs => k_is)
    (case l_Ear_hangs => k_is)
    (case c_Ear_hangs => k_is)
    (case k_Ear_hangs => k_is)
    (case fn_Ear_hangs => k_is)
    (case a_Ear_hear => k_is)
    (case l_Ear_hear => k_is)
    (case c_Ear_hear => k_is)
    (case k_Ear_hear => k_is)
    (case fn_Ear_hear => k_is)
    (case a_l_whole => k_is)
    (case l_l_whole => k_is)
    (case c_l_whole => k_is)
    (case k_l_whole => k_is)
    (case a_l_nums => k_is)
    (case l_l_nums => k_is)
    (case c_l_nums => k_is)
    (case k_l_nums => k_is)
    (case a_l_close_refused => k_is)
    (case l_l_close_refused => k_is)
    (case c_l_close_refused => k_is)
    (case k_l_close_refused => k_is)
    (case a_l_hear_refused => k_is)
    (case l_l_hear_refused => k_is)
    (case c_l_hear_refused => k_is)
    (case k_l_hear_refused => k_is)
    (case a_Ear_waiting => k_is)
    (case l_Ear_waiting => k_is)
    (case c_Ear_waiting => k_is)
    (case k_Ear_waiting => k_is)
    (case fn_Ear_waiting => k_is)
    (case a_l_base => k_is)
    (case l_l_base => k_is)
    (case c_l_base => k_is)
    (case k_l_base => k_is)
    (case a_l_three => k_is)
    (case l_l_three => k_is)
    (case c_l_three => k_is)
    (case k_l_three => k_is)
    (case a_l_run => k_is)
    (case l_l_run => k_is)
    (case c_l_run => k_is)
    (case k_l_run => k_is)
    (case a_l_read => k_is)
    (case l_l_read => k_is)
    (case c_l_read => k_is)
    (case k_l_read => k_is)
    (case a_law => k_is)
    (case l_law => k_is)
    (case c_law => k_is)
    (case k_law => k_is)
    (case z_ValueError => k_is)
    (case z_bool => k_is)
    (case z_int => k_is)
    (case z_isinstance => k_is)
    (case z_len => k_is)
    (case z_list => k_is)
    (case z_max => k_is)
    (case z_min => k_is)
    (case z_range => k_is)
    (case a_GREAT_KINDS_ => k_is)
    (case l_GREAT_KINDS_ => k_is)
    (case a_SMALL_KINDS_ => k_is)
    (case l_SMALL_KINDS_ => k_is)
    (case a_MEASURE_KINDS_ => k_is)
    (case l_MEASURE_KINDS_ => k_is)
    (case a_PLAIN_WORTHS_ => k_is)
    (case l_PLAIN_WORTHS_ => k_is)
    (case y_PLAIN_WORTHS_ => rfl)
    (case a_TWOFOLD_WORTHS_ => k_is)
    (case l_TWOFOLD_WORTHS_ => k_is)
    (case y_TWOFOLD_WORTHS_ => rfl)
    (case a_SHORTENED_WORTH_ => k_is)
    (case a_DOUBLED_WORTH_ => k_is)
    (case a_DOTTED_WORTH_ => k_is)
    (case a_NOTHING_MORE_ => k_is)
    (case mkm_Ear => k_is)
    (case mkk_Ear => k_is)
    (case pg_Ear => k_is)
    (case hd_Ear => k_is)
    (case po_Ear => k_is)
    (case sa_Ear => k_is)
    (case na_Ear_measure => k_is)
    (case na_Ear_held => k_is)
    (case na_Ear_left => k_is)
    (case na_Ear_right => k_is)
    (case na_Ear_counted => k_is)
    (case na_Ear_last => k_is)
    (case na_Ear_is_closed => k_is)
    (case aX_Closed => k_is)
    (case aX_NoteError => k_is)
    (case aX_BadSign => k_is)
    (case aX_NoMore => k_is)
    (case xe_Closed => k_exc)
    (case xg_Closed => k_is)
    (case xn_Closed => k_is)
    (case xc_Closed => k_is)
    (case xm_Closed_NoteError => kts_exm)
    (case ki_Closed_Closed => kit_is)
    (case kb_Closed_ValueError => kit_is)
    (case kt_Closed_BadSign_NoMore => kit_is)
