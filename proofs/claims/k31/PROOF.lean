import PyProof.Rows.All
import Wide.All
import OpenK.AllK
import Wide.FinOn
import Lean
import PyProof.EqAt
import PyProof.EqKinds
import PyProof.TupleCall
import PySem.Challenge.RW_noteworth_k31_deeds_in_a_line
set_option Elab.async false
set_option linter.all false
set_option maxRecDepth 100000
/-! THE HAND LAYER, for ints, bools, texts, own classes, LISTS and tuples (index, slices, in, append, pop ..), calls, loops. Paste it whole ahead of your own text; what your proof does not reach may be deleted. -/
namespace L2
open PySem PySem.Spec PyProof.Rows

/-- a key: an int or a str -/
abbrev Key := Sum Int Str
def keyIs : Key → Value → Bool
  | .inl k, v => Value.isInt k v
  | .inr x, v => Value.isStrOf x v
def keyH (w : World) : Key → Int
  | .inl k => hashInt k
  | .inr x => hashStr w x
theorem keyIs_shape : ∀ {k : Key} {v : Value}, keyIs k v = true → (∃ i t, k = Sum.inl i ∧ v = Value.int i t) ∨ (∃ x t, k = Sum.inr x ∧ v = Value.str x t)
  | .inl i, v, h => by
    obtain ⟨t, e⟩ := Value.isInt_shape (k := i) (v := v) h
    exact .inl ⟨i, t, rfl, e⟩
  | .inr x, v, h => by
    obtain ⟨t, e⟩ := Value.isStrOf_shape (x := x) (v := v) h
    exact .inr ⟨x, t, rfl, e⟩
theorem keyIs_str (x : Str) (t : Tok) : keyIs (.inr x) (.str x t) = true := by simp [keyIs, Value.isStrOf]
theorem key_ll (a b : Int) : decide ((Sum.inl a : Key) = Sum.inl b) = (a == b) := by
  by_cases e : a = b
  · subst e; simp
  · have h : ¬ (Sum.inl a : Key) = Sum.inl b := fun q => e (Sum.inl.inj q)
    rw [decide_eq_false h]
    exact (beq_eq_false_iff_ne.mpr e).symm
theorem key_rr (a b : Str) : decide ((Sum.inr a : Key) = Sum.inr b) = decide (a = b) := by
  by_cases e : a = b
  · subst e; simp
  · have h : ¬ (Sum.inr a : Key) = Sum.inr b := fun q => e (Sum.inr.inj q)
    rw [decide_eq_false h, decide_eq_false e]
theorem key_lr (a : Int) (b : Str) : decide ((Sum.inl a : Key) = Sum.inr b) = false := decide_eq_false (fun q => nomatch q)
theorem key_rl (a : Str) (b : Int) : decide ((Sum.inr a : Key) = Sum.inl b) = false := decide_eq_false (fun q => nomatch q)

def mixKind (prog : Program) (w : World) : PySem.KeyKind prog w Key where
  is := keyIs
  hash := keyH w
  inj := fun v a b ha hb => by
    rcases keyIs_shape ha with ⟨i, t, rfl, rfl⟩ | ⟨x, t, rfl, rfl⟩
    · rcases keyIs_shape hb with ⟨j, u, rfl, e⟩ | ⟨y, u, rfl, e⟩
      · injection e with e1 _; rw [e1]
      · exact nomatch e
    · rcases keyIs_shape hb with ⟨j, u, rfl, e⟩ | ⟨y, u, rfl, e⟩
      · exact nomatch e
      · injection e with e1 _; rw [e1]
  byValue := fun k v h => by
    rcases keyIs_shape h with ⟨i, t, rfl, rfl⟩ | ⟨x, t, rfl, rfl⟩ <;> rfl
  pyHash := fun hv h => by
    rcases keyIs_shape hv with ⟨i, t, rfl, rfl⟩ | ⟨x, t, rfl, rfl⟩
    · exact wpAny_pyHash_int h
    · exact wpAny_pyHash_str h
  eqBool := fun hu hv h => by
    rcases keyIs_shape hu with ⟨i, t, rfl, rfl⟩ | ⟨x, t, rfl, rfl⟩
    · rcases keyIs_shape hv with ⟨j, u, rfl, rfl⟩ | ⟨y, u, rfl, rfl⟩
      · rw [key_ll] at h; exact wpAny_eqBool_int h
      · rw [key_lr] at h; exact SeqAt.EqAt.int_str i t y u _ _ _ _ h
    · rcases keyIs_shape hv with ⟨j, u, rfl, rfl⟩ | ⟨y, u, rfl, rfl⟩
      · rw [key_rl] at h; exact SeqAt.EqAt.str_int x t j u _ _ _ _ h
      · rw [key_rr] at h; exact wpAny_eqBool_str h
  «strs» := fun k x t v h => by
    rcases keyIs_shape h with ⟨i, u, rfl, e⟩ | ⟨y, u, rfl, e⟩
    · exact nomatch e
    · injection e with e1 _
      subst e1
      cases v <;> rfl

theorem mixKind_str (prog : Program) (w : World) (x : Str) (t : Tok) : (mixKind prog w).is (.inr x) (.str x t) = true := keyIs_str x t
end L2

namespace L2
open PySem PySem.Spec PyProof.Rows

/-- a value, without the heap -/
inductive V where
  | non | bl (b : Bool) | int (i : Int) | str (x : Str) | byt (b : Array UInt8) | flt (b : UInt64) | ref (a : Addr) | ty (n : String)
  deriving DecidableEq

def RelV : V → Value → Prop
  | .non, u => u = Value.none
  | .bl b, u => u = Value.bool b
  | .int i, u => ∃ t, u = Value.int i t
  | .str x, u => ∃ t, u = Value.str x t
  | .byt b, u => ∃ t, u = Value.bytes b t
  | .flt b, u => ∃ t, u = Value.float b t
  | .ref a, u => u = Value.ref a
  | .ty n, u => u = Value.type n

abbrev Vals : List V → List Value → Prop := Paired RelV
theorem Vals.length {xs : List V} {us : List Value} (r : Vals xs us) : xs.length = us.length := Paired.length r
theorem Vals.get : ∀ {xs : List V} {us : List Value} {i : Nat} {x : V}, Vals xs us → xs[i]? = some x → ∃ u, us[i]? = some u ∧ RelV x u
  | _, _, _, _, .nil, e => by simp at e
  | _, _, 0, _, .cons r _, e => by simp at e; subst e; exact ⟨_, rfl, r⟩
  | _, _, i + 1, x, .cons _ t, e => by
    obtain ⟨u, h1, h2⟩ := Vals.get (i := i) (x := x) t (by simpa using e)
    exact ⟨u, by simpa using h1, h2⟩
theorem Vals.append : ∀ {xs ys : List V} {us ws : List Value}, Vals xs us → Vals ys ws → Vals (xs ++ ys) (us ++ ws)
  | _, _, _, _, .nil, s => s
  | _, _, _, _, .cons r t, s => .cons r (Vals.append t s)
theorem Vals.take : ∀ {xs : List V} {us : List Value} (n : Nat), Vals xs us → Vals (xs.take n) (us.take n)
  | _, _, 0, _ => .nil
  | _, _, _ + 1, .nil => .nil
  | _, _, n + 1, .cons r t => .cons r (Vals.take n t)
theorem Vals.drop : ∀ {xs : List V} {us : List Value} (n : Nat), Vals xs us → Vals (xs.drop n) (us.drop n)
  | _, _, 0, r => r
  | _, _, _ + 1, .nil => .nil
  | _, _, n + 1, .cons _ t => Vals.drop n t
def RelO : Option V → Option Value → Prop
  | some v, some u => RelV v u
  | none, none => True
  | _, _ => False
def KV {κ : Type} : List (κ × V) → List (κ × Value) → Prop := Paired fun (p : κ × V) (q : κ × Value) => p.1 = q.1 ∧ RelV p.2 q.2

/-- a key of a dict (00_mix): an int or a text -/
def kV : Key → V
  | .inl i => .int i
  | .inr x => .str x

/-- what stands at a tracked address -/
inductive HO where
  /-- a list -/
  | lst (xs : List V)
  /-- a tuple (never changes) -/
  | tup (xs : List V)
  /-- a dict whose keys are ints and texts; one whose keys are tuples of ints and texts (the empty one is both) -/
  | dK (kvs : List (Key × V)) | dT (kvs : List (List Key × V))
  /-- a set of ints: its members, its size -/
  | set (S : Int → Bool) (n : Nat)
  /-- an instance of the class at C, its dict at dx, its attributes -/
  | ins (C dx : Addr) (fs : List (Str × V))
  /-- the dict of the instance at x -/
  | own (x : Addr)
  /-- the dict of an exception -/
  | xd (fs : List (Str × V))
  /-- a bound method, f of x -/
  | met (f x : Addr)
  /-- a range object lo, lo + 1, .. below hi -/
  | rng (lo hi : Int)
  /-- a thing that is known to the object (the script; a dict while a loop walks it): read, never written while it is so -/
  | frz (o : Obj) (u : HO)
  /-- a code object's table -/
  | tbl (ps : Array Value)
  /-- any other thing, by what is true of its one object (a def of one's own: SetO a S n := HO.ext fun h => ..) -/
  | ext (φ : Heap → Prop)

abbrev Hp := Addr → Option HO
def upd (H : Hp) (a : Addr) (o : HO) : Hp := fun b => if b = a then some o else H b
theorem upd_same {H : Hp} {a : Addr} {o : HO} : upd H a o a = some o := by unfold upd; rw [if_pos rfl]
theorem upd_ne {H : Hp} {a b : Addr} {o : HO} (h : b ≠ a) : upd H a o b = H b := by unfold upd; rw [if_neg h]
theorem upd_upd {H : Hp} {a : Addr} {o u : HO} : upd (upd H a o) a u = upd H a u := by
  funext b; unfold upd; split <;> rfl
/-- two objects of different content stand apart -/
theorem ne_of {H : Hp} {a b : Addr} {o u : HO} (h : H a = some o) (h' : H b = some u) (d : o ≠ u) : a ≠ b := by
  intro e; subst e; rw [h] at h'; exact d (Option.some.inj h')
theorem ne_of_none {H : Hp} {a b : Addr} {o : HO} (h : H a = some o) (h' : H b = none) : a ≠ b := by
  intro e; subst e; rw [h] at h'; cases h'

section
variable (P : Program) (w : World)
def ObjOk (H : Hp) (h : Heap) (a : Addr) : HO → Prop
  | .lst xs => xs.length ≤ sizeLine ∧ ∃ (its : List Value) (n : Nat), Vals xs its ∧ h.get? a = some { cls := .type "list", data := .seq its.toArray n }
  | .tup xs => xs.length ≤ sizeLine ∧ ∃ its : List Value, Vals xs its ∧ IsTup h a its.toArray
  | .dK kvs => kvs.length ≤ sizeLine ∧ (a == sysModules) = false ∧ ∃ vs, KV kvs vs ∧ h.DictOf (mixKind P w) a vs
  | .dT kvs => kvs.length ≤ sizeLine ∧ (a == sysModules) = false ∧ ∃ xs : List (List Key × Addr × Value),
      Paired (fun (p : List Key × V) (q : List Key × Addr × Value) => p.1 = q.1 ∧ H q.2.1 = some (.tup (p.1.map kV)) ∧ RelV p.2 q.2.2) kvs xs ∧
      ∃ o es ep, h.get? a = some o ∧ o.ExactDict ∧ o.data = .dict es ep ∧ es.toList = xs.map (entryOfKey (tupleKind (mixKind P w))) ∧ (xs.map (·.1)).Nodup
  | .set S n => h.SetOf (intKind P w) a S n
  | .ins C dx fs => H dx = some (.own a) ∧ fs.length ≤ 1000 ∧ dx ≠ a ∧ h.get? a = some (PySem.W.instObj C dx) ∧
      ∃ mA, h.Ns1 dx mA ∧ (∀ f, RelO (fs.lookup f) (mA f)) ∧ PySem.Within mA (fs.map (·.1))
  | .own _ => ∃ o, h.get? a = some o
  | .xd fs => ∃ mA, h.Ns1 a mA ∧ ∀ f, RelO (fs.lookup f) (mA f)
  | .rng lo hi => ∃ t u v, h.get? a = some { cls := .type "range", data := .fields #[.int lo t, .int hi u, .int 1 v] }
  | .frz o u => h.get? a = some o ∧ ObjOk H h a u
  | .tbl ps => h.get? a = some { cls := .none, data := .fields ps }
  | .met f x => h.get? a = some (PySem.W.methodObj (.ref f) (.ref x))
  | .ext φ => φ h ∧ (∃ o, h.get? a = some o) ∧ ∀ h1 h2 : Heap, φ h1 → (∀ o, h1.get? a = some o → h2.get? a = some o) → φ h2
/-- the abstract heap is held -/
def HOk (H : Hp) (h : Heap) : Prop := ∀ a o, H a = some o → ObjOk P w H h a o
end

section
variable {P : Program} {w : World} {H H' : Hp} {h h' : Heap} {a : Addr} {o : HO}
theorem ObjOk.lt (x : ObjOk P w H h a o) : a < h.objs.size := by
  cases o with
  | lst xs => obtain ⟨_, _, _, _, e⟩ := x; exact Heap.lt_size e
  | tup xs => obtain ⟨_, _, _, p⟩ := x; exact p.lt
  | dK kvs => obtain ⟨_, _, _, _, o, _, _, e, _⟩ := x; exact Heap.lt_size e
  | dT kvs => obtain ⟨_, _, _, _, o, _, _, e, _⟩ := x; exact Heap.lt_size e
  | set S n => obtain ⟨o, _, _, _, e, _⟩ := x; exact Heap.lt_size e
  | ins C dx fs => obtain ⟨_, _, _, e, _⟩ := x; exact Heap.lt_size e
  | own y => obtain ⟨_, e⟩ := x; exact Heap.lt_size e
  | xd fs => obtain ⟨_, ⟨_, _, _, e, _⟩, _⟩ := x; exact Heap.lt_size e
  | rng lo hi => obtain ⟨_, _, _, e⟩ := x; exact Heap.lt_size e
  | frz ob u => obtain ⟨e, _⟩ := x; exact Heap.lt_size e
  | tbl ps => exact Heap.lt_size (show h.get? a = some _ from x)
  | met f y => exact Heap.lt_size (show h.get? a = some _ from x)
  | ext φ => obtain ⟨_, ⟨_, e⟩, _⟩ := x; exact Heap.lt_size e
theorem Paired.mapP {α β : Type} {F G : α → β → Prop} : ∀ {l₁ : List α} {l₂ : List β}, Paired F l₁ l₂ → (∀ a b, F a b → G a b) → Paired G l₁ l₂
  | _, _, .nil, _ => .nil
  | _, _, .cons r t, f => .cons (f _ _ r) (Paired.mapP t f)
/-- what an object's description leans on: its own object, its own dict, the tuples -/
theorem ObjOk.stay (x : ObjOk P w H h a o) (k : ∀ b u, (b = a ∨ H b = some (.own a)) → h.get? b = some u → h'.get? b = some u)
    (ho : ∀ b, H b = some (.own a) → H' b = some (.own a)) (ht : ∀ b xs, H b = some (.tup xs) → H' b = some (.tup xs)) : ObjOk P w H' h' a o := by
  induction o with
  | lst xs => obtain ⟨z, its, n, r, e⟩ := x; exact ⟨z, its, n, r, k _ _ (.inl rfl) e⟩
  | tup xs => obtain ⟨z, its, r, ob, e, c⟩ := x; exact ⟨z, its, r, ob, k _ _ (.inl rfl) e, c⟩
  | dK kvs => obtain ⟨z, y, vs, r, ob, es, ep, e, c⟩ := x; exact ⟨z, y, vs, r, ob, es, ep, k _ _ (.inl rfl) e, c⟩
  | dT kvs =>
    obtain ⟨z, y, xs, r, ob, es, ep, e, c⟩ := x
    exact ⟨z, y, xs, Paired.mapP r fun p q z => ⟨z.1, ht _ _ z.2.1, z.2.2⟩, ob, es, ep, k _ _ (.inl rfl) e, c⟩
  | set S n => obtain ⟨ob, es, ep, t, e, c⟩ := x; exact ⟨ob, es, ep, t, k _ _ (.inl rfl) e, c⟩
  | ins C dx fs =>
    obtain ⟨d, z, ne, e, mA, ⟨od, es, ep, e2, c⟩, r⟩ := x
    exact ⟨ho _ d, z, ne, k _ _ (.inl rfl) e, mA, ⟨od, es, ep, k _ _ (.inr d) e2, c⟩, r⟩
  | own y => obtain ⟨ob, e⟩ := x; exact ⟨ob, k _ _ (.inl rfl) e⟩
  | xd fs => obtain ⟨mA, ⟨od, es, ep, e, c⟩, r⟩ := x; exact ⟨mA, ⟨od, es, ep, k _ _ (.inl rfl) e, c⟩, r⟩
  | rng lo hi => obtain ⟨t, u, v, e⟩ := x; exact ⟨t, u, v, k _ _ (.inl rfl) e⟩
  | frz ob u ih => obtain ⟨e, q⟩ := x; exact ⟨k _ _ (.inl rfl) e, ih q⟩
  | tbl ps =>
    have e : h.get? a = some { cls := .none, data := .fields ps } := x
    show h'.get? a = some { cls := .none, data := .fields ps }
    exact k a _ (.inl rfl) e
  | met f y =>
    have e : h.get? a = some (PySem.W.methodObj (.ref f) (.ref y)) := x
    show h'.get? a = some (PySem.W.methodObj (.ref f) (.ref y))
    exact k a _ (.inl rfl) e
  | ext φ => obtain ⟨p, ⟨o, e⟩, st⟩ := x; exact ⟨st _ _ p fun o q => k _ _ (.inl rfl) q, ⟨o, k _ _ (.inl rfl) e⟩, st⟩
theorem HOk.lt (x : HOk P w H h) (e : H a = some o) : a < h.objs.size := (x a o e).lt
theorem HOk.fresh (x : HOk P w H h) (e : h.objs.size ≤ a) : H a = none := by
  cases q : H a with
  | none => rfl
  | some u => exact absurd (Nat.lt_of_lt_of_le (x.lt q) e) (Nat.lt_irrefl _)
/-- every object of the heap is kept -/
theorem HOk.kept (x : HOk P w H h) (k : ∀ b u, h.get? b = some u → h'.get? b = some u) : HOk P w H h' := fun a o e =>
  (x a o e).stay (fun b u _ q => k b u q) (fun _ q => q) fun _ _ q => q
/-- a new object is laid and tracked -/
theorem HOk.laid (x : HOk P w H h) (k : ∀ b u, h.get? b = some u → h'.get? b = some u) (hp : h.objs.size ≤ a) (new : ObjOk P w (upd H a o) h' a o) : HOk P w (upd H a o) h' := fun b u e => by
  have hn := x.fresh hp
  by_cases hb : b = a
  · subst hb; rw [upd_same] at e; cases e; exact new
  · rw [upd_ne hb] at e
    exact (x b u e).stay (fun c v _ q => k c v q) (fun c q => by rw [upd_ne (ne_of_none q hn)]; exact q) fun c xs q => by rw [upd_ne (ne_of_none q hn)]; exact q
end

/-- what may be read as u: it is u, or a known u -/
def Rd (H : Hp) (a : Addr) (u : HO) : Prop := H a = some u ∨ ∃ o, H a = some (.frz o u)
theorem Rd.ok {P : Program} {w : World} {H : Hp} {h : Heap} {a : Addr} {u : HO} (r : Rd H a u) (x : HOk P w H h) : ObjOk P w H h a u := by
  rcases r with r | ⟨o, r⟩
  · exact x a u r
  · obtain ⟨_, q⟩ := x a _ r
    exact q
/-- what may be written -/
def Mut : Option HO → Prop
  | some (.lst _) => True
  | some (.dK _) => True
  | some (.dT _) => True
  | some (.set _ _) => True
  | some (.ins _ _ _) => True
  | some (.ext _) => True
  | _ => False
section
variable {P : Program} {w : World} {H : Hp} {h h' : Heap} {x e : Addr} {o' : HO}
/-- the object at e is changed: x itself, or the dict of the instance x -/
theorem HOk.write (ok : HOk P w H h) (mu : Mut (H x)) (he : e = x ∨ H e = some (.own x)) (k : ∀ b u, b ≠ e → h.get? b = some u → h'.get? b = some u) (heo : ∃ u, h'.get? e = some u)
    (new : ObjOk P w (upd H x o') h' x o') : HOk P w (upd H x o') h' := fun b u q => by
  have nown : ∀ c y, H c = some (.own y) → c ≠ x := fun c y r z => by subst z; rw [r] at mu; exact mu
  have ntup : ∀ c xs, H c = some (.tup xs) → c ≠ x := fun c xs r z => by subst z; rw [r] at mu; exact mu
  by_cases hb : b = x
  · subst hb; rw [upd_same] at q; cases q; exact new
  · rw [upd_ne hb] at q
    by_cases hbe : b = e
    · have q' : H b = some (.own x) := by
        rcases he with z | z
        · exact absurd (hbe.trans z) hb
        · rw [hbe]; exact z
      rw [q] at q'; cases q'
      obtain ⟨v, hv⟩ := heo
      exact ⟨v, by rw [hbe]; exact hv⟩
    · refine (ok b u q).stay (fun c v hc r => k c v ?_ r) (fun c r => by rw [upd_ne (nown c b r)]; exact r) fun c xs r => by rw [upd_ne (ntup c xs r)]; exact r
      rcases hc with rfl | hc
      · exact hbe
      · rintro rfl
        rcases he with z | z
        · exact nown c b hc z
        · rw [hc] at z; cases z; exact hb rfl
end

/-! ### kept unless tracked; of the frames at fs (the callers') the slots may change (an exception that passes writes there); of the records at ex (iterators) nothing is said -/
structure Un (fs ex : List Addr) (H H' : Hp) (h h' : Heap) : Prop where
  keep : ∀ b o, h.get? b = some o → H b = none → b ∉ fs → b ∉ ex → h'.get? b = some o
  slot : ∀ b o, h.get? b = some o → H b = none → b ∈ fs → b ∉ ex → ∃ sl, h'.get? b = some { o with slots := sl }
  free : ∀ b o, h.get? b = some o → H b = none → b ∉ ex → H' b = none
  there : ∀ b o, h.get? b = some o → b ∉ ex → ∃ o', h'.get? b = some o'
  tups : ∀ b xs, H b = some (.tup xs) → H' b = some (.tup xs)
  frzs : ∀ b o u, H b = some (.frz o u) → H' b = some (.frz o u)
  tbls : ∀ b ps, H b = some (.tbl ps) → ∃ more, H' b = some (.tbl (ps ++ more))
section
variable {fs fs' ex ex' : List Addr} {H H1 H2 : Hp} {h h1 h2 h' : Heap} {a x e : Addr} {o : HO}
theorem Un.any (u : Un fs ex H H1 h h1) {b : Addr} {ob : Obj} (q : h.get? b = some ob) (n : H b = none) (hx : b ∉ ex) : ∃ sl, h1.get? b = some { ob with slots := sl } := by
  by_cases hb : b ∈ fs
  · exact u.slot b ob q n hb hx
  · exact ⟨ob.slots, u.keep b ob q n hb hx⟩
theorem Un.kept (k : ∀ b u, h.get? b = some u → h'.get? b = some u) : Un fs ex H H h h' :=
  ⟨fun b ob q _ _ _ => k b ob q, fun b ob q _ _ _ => ⟨ob.slots, k b ob q⟩, fun _ _ _ n _ => n, fun b ob q _ => ⟨ob, k b ob q⟩, fun _ _ q => q, fun _ _ _ q => q, fun _ ps q => ⟨#[], by rw [q]; simp⟩⟩
theorem Un.refl : Un fs ex H H h h := Un.kept fun _ _ q => q
theorem Un.laid (k : ∀ b u, h.get? b = some u → h'.get? b = some u) (hp : h.objs.size ≤ a) (hn : H a = none) : Un fs ex H (upd H a o) h h' where
  keep := fun b u q _ _ _ => k b u q
  slot := fun b u q _ _ _ => ⟨u.slots, k b u q⟩
  free := fun b u q n _ => by rw [upd_ne (Nat.ne_of_lt (Nat.lt_of_lt_of_le (Heap.lt_size q) hp))]; exact n
  there := fun b u q _ => ⟨u, k b u q⟩
  tups := fun b xs q => by rw [upd_ne (ne_of_none q hn)]; exact q
  frzs := fun b u xs q => by rw [upd_ne (ne_of_none q hn)]; exact q
  tbls := fun b ps q => ⟨#[], by rw [upd_ne (ne_of_none q hn), q]; simp⟩
theorem Un.write (mu : Mut (H x)) (he : e = x ∨ H e = some (.own x)) (k : ∀ b u, b ≠ e → h.get? b = some u → h'.get? b = some u) (heo : ∃ u, h'.get? e = some u) : Un fs ex H (upd H x o) h h' := by
  have hx : ∀ b, H b = none → b ≠ x := fun b n z => by subst z; rw [n] at mu; exact mu
  have hb : ∀ b, H b = none → b ≠ e := fun b n z => by
    subst z
    rcases he with r | r
    · exact hx b n r
    · rw [n] at r; cases r
  have hm : ∀ b u, H b = some u → ¬ Mut (some u) → b ≠ x := fun b u q nm z => by subst z; rw [q] at mu; exact nm mu
  refine ⟨fun b u q n _ _ => k b u (hb b n) q, fun b u q n _ _ => ⟨u.slots, k b u (hb b n) q⟩, fun b u q n _ => by rw [upd_ne (hx b n)]; exact n, fun b u q _ => ?_,
    fun b xs q => by rw [upd_ne (hm b _ q fun z => z)]; exact q, fun b u xs q => by rw [upd_ne (hm b _ q fun z => z)]; exact q, fun b ps q => ⟨#[], by rw [upd_ne (hm b _ q fun z => z), q]; simp⟩⟩
  by_cases hbe : b = e
  · subst hbe; exact heo
  · exact ⟨u, k b u hbe q⟩
end

/-! ### the heap without what is tracked -/
def trk (h : Heap) (H : Hp) : List Addr := (List.range h.objs.size).filter fun a => (H a).isSome
def hidT (h : Heap) (H : Hp) : Heap := PySem.W.hideAll h (trk h H)
theorem hidT_size (h : Heap) (H : Hp) : (hidT h H).objs.size = h.objs.size := PySem.W.hideAll_size _ _
theorem hidT_get {h : Heap} {H : Hp} {b : Addr} {o : Obj} (e : h.get? b = some o) (n : H b = none) : (hidT h H).get? b = some o :=
  PySem.W.hideAll_get _ e fun hm => by
    have q : (H b).isSome = true := (List.mem_filter.mp hm).2
    rw [n] at q; simp at q
theorem of_hidT {h : Heap} {H : Hp} {b : Addr} {o : Obj} (e : (hidT h H).get? b = some o) : h.get? b = some o ∧ H b = none := by
  have e' : h.get? b = some o := PySem.W.of_hideAll (trk h H) e
  refine ⟨e', ?_⟩
  cases q : H b with
  | none => rfl
  | some x =>
    have hm : b ∈ trk h H := List.mem_filter.mpr ⟨List.mem_range.mpr (Heap.lt_size e'), by simp [q]⟩
    have z : (hidT h H).get? b = none := PySem.W.hideAll_none (trk h H) hm
    rw [z] at e; cases e

/-! ### OpenK's ledger, filled with every new object but one -/
def allNews (g h : Heap) (L : Addr) : List (Addr × Obj) := (List.range h.objs.size).filterMap fun a => if a = L ∨ (g.get? a).isSome = true then none else (h.get? a).map fun o => (a, o)
def rest (g h : Heap) (L d : Addr) : List (Addr × Obj) := (allNews g h L).filter fun p => decide (p.1 ≠ d)
end L2

namespace L2
open PySem PySem.Spec PyProof.Rows

/-- the module's facts, over the base: the heap at the law's entry without what is tracked there -/
structure Mod (K : PySem.W.Frag) (mg : Str → Option Value) (base : Heap) : Prop where
  kin : K.In base
  glob : base.Ns mainGlobals mg
  blt : ∃ mb, base.Ns builtinsNs mb ∧ ∀ x : Str, x ≠ "__name__" → mb x = bootBuiltins x
  nolimit : base.NoLimit

/-- the context: a def's body (or a comprehension's block) running. base: fixed through the whole law; s₀, H₀: the entry; outer: the frames whose slots others may change (a def's callers); stack: all frames that run;
   ex: iterators that were made ahead of the entry and are walked here (a comprehension's); fn: the names whose cells were made at the entry (a def: all; a comprehension's block: its own); calm: not within an except suite; pn: pins that every state bears; xe: what is wanted of an exception that leaves the code -/
structure Cx where
  prog : Program
  w : World
  K : PySem.W.Frag
  mg : Str → Option Value
  base : Heap
  A : Around
  N : List Str
  s₀ : Shared
  H₀ : Hp
  env : Env
  outer : List Env
  stack : List Env
  ex : List Addr
  fn : Str → Bool
  calm : Bool
  pn : List (Addr × Obj)
  xe : Value → Shared → Prop
/-- the callers' frames -/
def frs (l : List Env) : List Addr := l.filterMap (·.frame)
abbrev Cx.fs (X : Cx) : List Addr := frs X.outer

def Vis (sc : Scope) (x : Str) : Prop := sc.names.lookup x = some .local ∨ sc.names.lookup x = some .cell ∨ sc.names.lookup x = some .free
def Loc (sc : Scope) (x : Str) : Prop := sc.names.lookup x = some .local ∨ sc.names.lookup x = some .cell
def Look (env : Env) (h : Heap) (m : Str → Option Value) (x : Str) (u : Value) : Prop :=
  (env.kindOf x = some .local ∧ m x = some u) ∨ ((env.kindOf x = some .cell ∨ env.kindOf x = some .free) ∧ ∃ c, env.cells.lookup x = some c ∧ h.IsCell c (some u))

structure Cx.Ok (X : Cx) : Prop where
  mod : Mod X.K X.mg X.base
  kind : X.env.scope.kind = .function
  glob : X.env.globals = mainGlobals
  blt : X.env.builtins = builtinsNs
  above : X.s₀.heap.objs.size ≤ X.env.locals
  inj : ∀ x y c, X.env.cells.lookup x = some c → X.env.cells.lookup y = some c → x = y
  has : ∀ x, (X.env.kindOf x = some .cell ∨ X.env.kindOf x = some .free) → ∃ c, X.env.cells.lookup x = some c
  cab : ∀ x c, X.fn x = true → X.env.cells.lookup x = some c → X.s₀.heap.objs.size ≤ c
  hd : X.calm = true → X.A.handled = none
  frames : X.A.frames = some X.stack
  stk : X.stack = X.outer ∨ (X.stack = X.env :: X.outer ∧ X.env.frame = some X.env.locals)
  exf : ∀ b ∈ X.ex, b ≠ X.env.locals ∧ ∀ x c, X.env.cells.lookup x = some c → c ≠ b
  bs : ∀ b o, X.base.get? b = some o → X.s₀.heap.get? b = some o ∧ X.H₀ b = none
  bsz : X.base.objs.size ≤ X.s₀.heap.objs.size
  noex : ∀ b o, X.base.get? b = some o → b ∉ X.ex
  exfs : ∀ b ∈ X.ex, b ∉ X.fs
  funs : X.s₀.heap.FunFrames X.base X.outer
  frf : ∀ b ∈ X.fs, X.H₀ b = none

structure Inv (X : Cx) (pins : List (Addr × Obj)) (σ : List (Option V)) (H : Hp) (s : Shared) : Prop where
  ok : X.Ok
  os : s.os = X.s₀.os
  bare : AllBare s.gens
  base : Un X.fs X.ex X.H₀ H X.s₀.heap s.heap
  loc : ∃ m, s.heap.Ns X.env.locals m ∧ ∀ (i : Nat) (x : Str) (v : V), X.N[i]? = some x → σ[i]? = some (some v) → Vis X.env.scope x → ∃ u, RelV v u ∧ Look X.env s.heap m x u
  cell : ∀ x c, X.env.cells.lookup x = some c → ∃ v, s.heap.IsCell c v
  free : H X.env.locals = none
  freeC : ∀ x c, X.env.cells.lookup x = some c → H c = none
  pin : ∀ p ∈ X.pn ++ pins, s.heap.get? p.1 = some p.2 ∧ H p.1 = none ∧ p.1 ≠ X.env.locals ∧ p.1 ∉ X.fs ∧ ∀ v, p.2.data ≠ .cell v
  hok : HOk X.prog X.w H s.heap
  len : σ.length = X.N.length

section
variable {X : Cx} {pins : List (Addr × Obj)} {σ : List (Option V)} {H H' : Hp} {s : Shared} {h' : Heap}

theorem Cx.Ok.nofr (ok : X.Ok) {b : Addr} {o : Obj} (e : X.base.get? b = some o) : b ∉ X.fs := fun hb => by
  have := (ok.funs.mem hb).1
  rw [e] at this; cases this
theorem Inv.bs (I : Inv X pins σ H s) : ∀ b o, X.base.get? b = some o → s.heap.get? b = some o ∧ H b = none := fun b o e =>
  ⟨I.base.keep b o (I.ok.bs b o e).1 (I.ok.bs b o e).2 (I.ok.nofr e) (I.ok.noex b o e), I.base.free b o (I.ok.bs b o e).1 (I.ok.bs b o e).2 (I.ok.noex b o e)⟩
theorem Inv.bk (I : Inv X pins σ H s) : ∀ b o, X.base.get? b = some o → s.heap.get? b = some o := fun b o e => (I.bs b o e).1
theorem Inv.mod (I : Inv X pins σ H s) : Mod X.K X.mg X.base := I.ok.mod
theorem Inv.kIn (I : Inv X pins σ H s) : X.K.In s.heap := I.ok.mod.kin.keeps I.bk
theorem Inv.lt (I : Inv X pins σ H s) : X.env.locals < s.heap.objs.size := let ⟨_, hn, _⟩ := I.loc; hn.lt
theorem Inv.sz (I : Inv X pins σ H s) : X.s₀.heap.objs.size ≤ s.heap.objs.size := Nat.le_trans I.ok.above (Nat.le_of_lt I.lt)
theorem Inv.nofs (I : Inv X pins σ H s) {a : Addr} (h : s.heap.objs.size ≤ a) : a ∉ X.fs := fun hb => by
  obtain ⟨_, o, ho, _⟩ := I.ok.funs.mem hb
  exact absurd (Nat.lt_of_lt_of_le (Heap.lt_size ho) (Nat.le_trans I.sz h)) (Nat.lt_irrefl _)
theorem Inv.cne (I : Inv X pins σ H s) : ∀ x c, X.env.cells.lookup x = some c → c ≠ X.env.locals := fun x c e z => by
  obtain ⟨v, o, ho, hd⟩ := I.cell x c e
  obtain ⟨m, ⟨o', es, ep, ho', hd', _⟩, _⟩ := I.loc
  rw [z, ho'] at ho; cases ho; rw [hd'] at hd; cases hd
theorem Inv.funs (I : Inv X pins σ H s) : s.heap.FunFrames X.base X.outer := by
  have all : ∀ (l : List Env), (∀ b ∈ frs l, b ∈ X.fs) → X.s₀.heap.FunFrames X.base l → s.heap.FunFrames X.base l := by
    intro l
    induction l with
    | nil => intro _ _; trivial
    | cons env r ih =>
      intro hs hl
      obtain ⟨hk, ⟨L, o, hf, hn, ho, hd⟩, hr⟩ := hl
      have hL : L ∈ X.fs := hs L (by unfold frs; rw [List.filterMap_cons, hf]; exact List.mem_cons_self)
      obtain ⟨sl, e⟩ := I.base.slot L o ho (I.ok.frf L hL) hL fun z => I.ok.exfs L z hL
      exact ⟨hk, ⟨L, _, hf, hn, e, hd⟩, ih (fun b hb => hs b (by unfold frs; rw [List.filterMap_cons, hf]; exact List.mem_cons_of_mem _ hb)) hr⟩
  exact all X.outer (fun _ hb => hb) I.ok.funs

/-- the frames that run, for a call -/
theorem Inv.stack (I : Inv X pins σ H s) : s.heap.FunFrames X.base X.stack := by
  rcases I.ok.stk with e | ⟨e, hf⟩
  · rw [e]; exact I.funs
  · rw [e]
    obtain ⟨m, hn, _⟩ := I.loc
    refine .cons (by rw [I.ok.kind]; decide) hf hn ?_ I.funs
    exact Heap.get?_none_of_le (Nat.le_trans I.ok.bsz I.ok.above)
theorem Inv.stkSub (I : Inv X pins σ H s) : ∀ b ∈ frs X.stack, b ∈ X.env.locals :: X.fs := fun b hb => by
  rcases I.ok.stk with e | ⟨e, hf⟩
  · rw [e] at hb; exact List.mem_cons_of_mem _ hb
  · rw [e] at hb
    unfold frs at hb
    rw [List.filterMap_cons, hf] at hb
    exact hb
theorem Inv.stkFree (I : Inv X pins σ H s) : ∀ b ∈ frs X.stack, H b = none := fun b hb => by
  rcases List.mem_cons.mp (I.stkSub b hb) with e | hb
  · rw [e]; exact I.free
  · obtain ⟨_, o, ho, _⟩ := I.ok.funs.mem hb
    exact I.base.free b o ho (I.ok.frf b hb) fun z => I.ok.exfs b z hb

/-- THE STEP: the untracked objects but the frame and the records at ch are kept (the callers' frames up to slots), the frame's map is kept, the new abstract heap is held -/
theorem Inv.step {g' : Array GenState} {t' : Nat} {d' : Drawn} {ch : List Addr} (I : Inv X pins σ H s)
    (hch : ∀ b ∈ ch, (b ∈ X.ex ∨ X.s₀.heap.objs.size ≤ b) ∧ b ≠ X.env.locals ∧ (∀ x c, X.env.cells.lookup x = some c → c ≠ b) ∧ ∀ p ∈ X.pn ++ pins, p.1 ≠ b)
    (keep : ∀ b o, b ≠ X.env.locals → b ∉ X.fs → b ∉ ch → s.heap.get? b = some o → H b = none → h'.get? b = some o)
    (slot : ∀ b o, b ≠ X.env.locals → b ∈ X.fs → b ∉ ch → s.heap.get? b = some o → H b = none → ∃ sl, h'.get? b = some { o with slots := sl }) (free : ∀ b o, b ∉ ch → s.heap.get? b = some o → H b = none → H' b = none)
    (there : ∀ b o, b ∉ ch → s.heap.get? b = some o → ∃ o', h'.get? b = some o')
    (tups : ∀ b xs, H b = some (.tup xs) → H' b = some (.tup xs)) (frzs : ∀ b o u, H b = some (.frz o u) → H' b = some (.frz o u)) (tbls : ∀ b ps, H b = some (.tbl ps) → ∃ more, H' b = some (.tbl (ps ++ more)))
    (ns : ∀ m, s.heap.Ns X.env.locals m → h'.Ns X.env.locals m) (hok : HOk X.prog X.w H' h') (hg : AllBare g') :
    Inv X pins σ H' { s with heap := h', gens := g', drawn := d', toks := t' } := by
  have neL : ∀ b o, X.s₀.heap.get? b = some o → b ≠ X.env.locals := fun b o e => Nat.ne_of_lt (Nat.lt_of_lt_of_le (Heap.lt_size e) I.ok.above)
  have neC : ∀ b o, X.s₀.heap.get? b = some o → b ∉ X.ex → b ∉ ch := fun b o e hx hb => by
    rcases (hch b hb).1 with z | z
    · exact hx z
    · exact absurd (Nat.lt_of_lt_of_le (Heap.lt_size e) z) (Nat.lt_irrefl _)
  have cellK : ∀ x c, X.env.cells.lookup x = some c → ∀ v, s.heap.IsCell c v → h'.IsCell c v := fun x c e v ⟨o, ho, hd⟩ => by
    have nch : c ∉ ch := fun z => (hch c z).2.2.1 x c e rfl
    by_cases hc : c ∈ X.fs
    · obtain ⟨sl, q⟩ := slot c o (I.cne x c e) hc nch ho (I.freeC x c e)
      exact ⟨_, q, hd⟩
    · exact ⟨o, keep c o (I.cne x c e) hc nch ho (I.freeC x c e), hd⟩
  refine ⟨I.ok, I.os, hg, ⟨fun b o e n hb hx => ?_, fun b o e n hb hx => ?_, fun b o e n hx => ?_, fun b o e hx => ?_, fun b xs e => tups b xs (I.base.tups b xs e), fun b o xs e => frzs b o xs (I.base.frzs b o xs e), fun b ps e => ?_⟩, ?_, fun x c e => ?_, ?_, fun x c e => ?_, fun p hp => ?_, hok, I.len⟩
  · exact keep b o (neL b o e) hb (neC b o e hx) (I.base.keep b o e n hb hx) (I.base.free b o e n hx)
  · obtain ⟨sl, e1⟩ := I.base.slot b o e n hb hx
    obtain ⟨sl', e2⟩ := slot b _ (neL b o e) hb (neC b o e hx) e1 (I.base.free b o e n hx)
    exact ⟨sl', e2⟩
  · obtain ⟨o', e1⟩ := I.base.there b o e hx
    exact free b o' (neC b o e hx) e1 (I.base.free b o e n hx)
  · obtain ⟨o', e1⟩ := I.base.there b o e hx
    exact there b o' (neC b o e hx) e1
  · obtain ⟨m1, e1⟩ := I.base.tbls b ps e
    obtain ⟨m2, e2⟩ := tbls b _ e1
    exact ⟨m1 ++ m2, by rw [e2, Array.append_assoc]⟩
  · obtain ⟨m, hn, hl⟩ := I.loc
    refine ⟨m, ns m hn, fun i x v e1 e2 e3 => ?_⟩
    obtain ⟨u, r, l⟩ := hl i x v e1 e2 e3
    refine ⟨u, r, ?_⟩
    rcases l with l | ⟨k, c, e, z⟩
    · exact .inl l
    · exact .inr ⟨k, c, e, cellK x c e _ z⟩
  · obtain ⟨v, z⟩ := I.cell x c e
    exact ⟨v, cellK x c e v z⟩
  · obtain ⟨m, ⟨o, _, _, ho, _⟩, _⟩ := I.loc
    exact free _ o (fun z => (hch _ z).2.1 rfl) ho I.free
  · obtain ⟨v, o, ho, hd⟩ := I.cell x c e
    exact free c o (fun z => (hch c z).2.2.1 x c e rfl) ho (I.freeC x c e)
  · obtain ⟨e, n, ne, nf, d⟩ := I.pin p hp
    have nch : p.1 ∉ ch := fun z => (hch p.1 z).2.2.2 p hp rfl
    exact ⟨keep p.1 p.2 ne nf nch e n, free p.1 p.2 nch e n, ne, nf, d⟩
/-- .. where the frame's own object is kept too -/
theorem Inv.un {t' : Nat} (I : Inv X pins σ H s) (u : Un X.fs [] H H' s.heap h') (hok : HOk X.prog X.w H' h') : Inv X pins σ H' { s with heap := h', toks := t' } := by
  obtain ⟨m, ⟨o, es, ep, ho, r⟩, _⟩ := id I.loc
  obtain ⟨sl, hL⟩ := u.any ho I.free (by simp)
  exact I.step (g' := s.gens) (d' := s.drawn) (ch := []) (fun _ z => nomatch z) (fun b o _ hb _ e n => u.keep b o e n hb (by simp)) (fun b o _ hb _ e n => u.slot b o e n hb (by simp)) (fun b o _ e n => u.free b o e n (by simp)) (fun b o _ e => u.there b o e (by simp)) u.tups u.frzs u.tbls (fun m' hm => by
    obtain ⟨o', es', ep', ho', r'⟩ := hm
    rw [ho] at ho'; cases ho'
    exact ⟨_, es', ep', hL, r'⟩) hok I.bare
/-- behind a call (or a comprehension's block): the slots of this frame may have changed too, the records at ch may have turned -/
theorem Inv.call {g' : Array GenState} {t' : Nat} {d' : Drawn} {ch : List Addr} (I : Inv X pins σ H s) (u : Un (frs X.stack) ch H H' s.heap h') (hok : HOk X.prog X.w H' h') (hg : AllBare g')
    (hch : ∀ b ∈ ch, (b ∈ X.ex ∨ X.s₀.heap.objs.size ≤ b) ∧ b ≠ X.env.locals ∧ (∀ x c, X.env.cells.lookup x = some c → c ≠ b) ∧ ∀ p ∈ X.pn ++ pins, p.1 ≠ b) :
    Inv X pins σ H' { s with heap := h', gens := g', drawn := d', toks := t' } := by
  obtain ⟨m, ⟨o, es, ep, ho, r⟩, _⟩ := id I.loc
  obtain ⟨sl, hL⟩ := u.any ho I.free fun z => (hch _ z).2.1 rfl
  exact I.step (ch := ch) hch (fun b o hL hb hc e n => u.keep b o e n (fun z => (List.mem_cons.mp (I.stkSub b z)).elim hL hb) hc) (fun b o _ _ hc e n => u.any e n hc) (fun b o hc e n => u.free b o e n hc) (fun b o hc e => u.there b o e hc) u.tups u.frzs u.tbls (fun m' hm => by
    obtain ⟨o', es', ep', ho', r'⟩ := hm
    rw [ho] at ho'; cases ho'
    exact ⟨_, es', ep', hL, r'⟩) hok hg
/-- an untracked record of ours (an iterator) has turned -/
theorem Inv.turned {t' : Nat} {it : Addr} (I : Inv X pins σ H s) (k : ∀ b o, b ≠ it → s.heap.get? b = some o → h'.get? b = some o) (hn : H it = none) (hL : it ≠ X.env.locals)
    (h1 : it ∈ X.ex ∨ X.s₀.heap.objs.size ≤ it) (h2 : ∀ x c, X.env.cells.lookup x = some c → c ≠ it) (h3 : ∀ p ∈ X.pn ++ pins, p.1 ≠ it) : Inv X pins σ H { s with heap := h', toks := t' } := by
  have nit : ∀ b u, H b = some u → b ≠ it := fun b u e z => by rw [z, hn] at e; cases e
  refine I.step (g' := s.gens) (d' := s.drawn) (ch := [it]) (fun b hb => ?_) (fun b o _ _ hc e _ => k b o (fun z => hc (by simp [z])) e) (fun b o _ _ hc e _ => ⟨o.slots, k b o (fun z => hc (by simp [z])) e⟩) (fun _ _ _ _ n => n)
    (fun b o hc e => ⟨o, k b o (fun z => hc (by simp [z])) e⟩) (fun _ _ e => e) (fun _ _ _ e => e) (fun b ps e => ⟨#[], by rw [e]; simp⟩) (fun m hm => ?_) (fun b u e => ?_) I.bare
  · have e : b = it := by simpa using hb
    subst e
    exact ⟨h1, hL, h2, h3⟩
  · obtain ⟨o, es, ep, ho, r⟩ := hm
    exact ⟨o, es, ep, k _ o (Ne.symm hL) ho, r⟩
  · refine (I.hok b u e).stay (fun c v hc q => k c v ?_ q) (fun _ q => q) fun _ _ q => q
    rcases hc with z | z
    · rw [z]; exact nit b u e
    · exact nit c _ z
theorem Inv.tok (I : Inv X pins σ H s) (t : Nat) : Inv X pins σ H { s with toks := t } := I.un (h' := s.heap) (t' := t) Un.refl I.hok
/-- all objects kept -/
theorem Inv.kept {t' : Nat} (I : Inv X pins σ H s) (k : ∀ b u, s.heap.get? b = some u → h'.get? b = some u) : Inv X pins σ H { s with heap := h', toks := t' } := I.un (Un.kept k) (I.hok.kept k)
/-- a new object laid and tracked -/
theorem Inv.laid {a : Addr} {o : HO} {t' : Nat} (I : Inv X pins σ H s) (k : ∀ b u, s.heap.get? b = some u → h'.get? b = some u) (hp : s.heap.objs.size ≤ a) (new : ObjOk X.prog X.w (upd H a o) h' a o) :
    Inv X pins σ (upd H a o) { s with heap := h', toks := t' } := I.un (Un.laid k hp (I.hok.fresh hp)) (I.hok.laid k hp new)
/-- an object written -/
theorem Inv.write {x e : Addr} {o : HO} {t' : Nat} (I : Inv X pins σ H s) (mu : Mut (H x)) (he : e = x ∨ H e = some (.own x)) (k : ∀ b u, b ≠ e → s.heap.get? b = some u → h'.get? b = some u) (heo : ∃ u, h'.get? e = some u)
    (new : ObjOk X.prog X.w (upd H x o) h' x o) : Inv X pins σ (upd H x o) { s with heap := h', toks := t' } := I.un (Un.write mu he k heo) (I.hok.write mu he k heo new)
theorem Inv.pins_of {pins' : List (Addr × Obj)} (I : Inv X pins σ H s) (h : ∀ p ∈ pins', s.heap.get? p.1 = some p.2 ∧ H p.1 = none ∧ p.1 ≠ X.env.locals ∧ p.1 ∉ X.fs ∧ ∀ v, p.2.data ≠ .cell v) : Inv X pins' σ H s :=
  ⟨I.ok, I.os, I.bare, I.base, I.loc, I.cell, I.free, I.freeC, fun p hp => (List.mem_append.mp hp).elim (fun z => I.pin p (List.mem_append_left _ z)) (h p), I.hok, I.len⟩

theorem nodup_ix {N : List Str} (hN : N.Nodup) {i j : Nat} {x : Str} (a : N[i]? = some x) (b : N[j]? = some x) : i = j := by
  obtain ⟨h1, e1⟩ := List.getElem?_eq_some_iff.mp a
  obtain ⟨h2, e2⟩ := List.getElem?_eq_some_iff.mp b
  exact (List.getElem_inj hN).mp (e1.trans e2.symm)

/-- a name is stored; what changed -/
theorem store_ok2 {M : Model} {A : Around} {E : Value → Shared → Prop} {i : Nat} {x : Str} {v : V} {u : Value} {Q : Unit → Shared → Prop} (I : Inv X pins σ H s) (hN : X.N.Nodup) (hi : X.N[i]? = some x) (hx : Loc X.env.scope x) (r : RelV v u)
    (h : ∀ s', Inv X pins (σ.set i (some v)) H s' → (∃ a, Heap.SameBut a s.heap s'.heap ∧ (a = X.env.locals ∨ X.env.cells.lookup x = some a)) → Q () s') (hf : X.fn x = true ∨ X.env.scope.names.lookup x = some .local := by first | exact .inl rfl | exact .inr rfl | assumption) : wpAny M A (storeName X.env x u) Q E s := by
  obtain ⟨m, hn, hl⟩ := id I.loc
  have hcls : (X.env.scope.kind == .class || (X.env.scope.kind == .module && X.env.locals != X.env.globals)) = false := by rw [I.ok.kind]; rfl
  have hiσ : i < σ.length := by rw [I.len]; exact (List.getElem?_eq_some_iff.mp hi).1
  have cne := I.cne
  have tracked : ∀ {a : Addr} {h' : Heap}, (∃ o, s.heap.get? a = some o ∧ H a = none) → Heap.SameBut a s.heap h' → HOk X.prog X.w H h' := fun {a h'} ha hs b ob e => by
    obtain ⟨_, _, hfree⟩ := ha
    refine (I.hok b ob e).stay (fun c w' hc q => (hs.2 c ?_).trans q) (fun _ q => q) fun _ _ q => q
    rintro rfl
    rcases hc with rfl | hc
    · rw [hfree] at e; cases e
    · rw [hfree] at hc; cases hc
  rcases hx with hk | hk
  · refine wpAny_storeName_local hk hn (fun h' hn' hs => ?_) hcls
    obtain ⟨oL, _, _, hoL, _⟩ := id hn
    refine h _ ⟨I.ok, I.os, I.bare, ⟨fun b o e n hb hx => ?_, fun b o e n hb hx => ?_, I.base.free, fun b o e hx => ?_, I.base.tups, I.base.frzs, I.base.tbls⟩, ⟨_, hn', fun j y v' e1 e2 e3 => ?_⟩, fun y c e => ?_, I.free, I.freeC, fun p hp => ?_, tracked ⟨oL, hoL, I.free⟩ hs, by simpa using I.len⟩ ⟨_, hs, .inl rfl⟩
    · exact (hs.2 b (Nat.ne_of_lt (Nat.lt_of_lt_of_le (Heap.lt_size e) I.ok.above))).trans (I.base.keep b o e n hb hx)
    · obtain ⟨sl, e1⟩ := I.base.slot b o e n hb hx
      exact ⟨sl, (hs.2 b (Nat.ne_of_lt (Nat.lt_of_lt_of_le (Heap.lt_size e) I.ok.above))).trans e1⟩
    · obtain ⟨o', e1⟩ := I.base.there b o e hx
      exact ⟨o', (hs.2 b (Nat.ne_of_lt (Nat.lt_of_lt_of_le (Heap.lt_size e) I.ok.above))).trans e1⟩
    · by_cases hj : j = i
      · subst hj
        rw [hi] at e1; cases e1
        rw [List.getElem?_set_self hiσ] at e2
        cases e2
        exact ⟨u, r, .inl ⟨hk, by simp⟩⟩
      · rw [List.getElem?_set_ne (Ne.symm hj)] at e2
        obtain ⟨u', r', q⟩ := hl j y v' e1 e2 e3
        refine ⟨u', r', ?_⟩
        rcases q with ⟨k, e⟩ | ⟨k, c, e, z⟩
        · refine .inl ⟨k, ?_⟩
          have : y ≠ x := fun e => hj (nodup_ix hN e1 (e ▸ hi))
          simp [this, e]
        · exact .inr ⟨k, c, e, z.sameBut hs (cne y c e)⟩
    · obtain ⟨w', z⟩ := I.cell y c e
      exact ⟨w', z.sameBut hs (cne y c e)⟩
    · obtain ⟨e, n, ne, nf, d⟩ := I.pin p hp
      exact ⟨(hs.2 p.1 ne).trans e, n, ne, nf, d⟩
  · have hfn : X.fn x = true := by
      rcases hf with z | z
      · exact z
      · rw [z] at hk; cases hk
    obtain ⟨c, hc⟩ := I.ok.has x (.inl hk)
    obtain ⟨w', z⟩ := I.cell x c hc
    refine wpAny_storeName_cell I.ok.kind hk hc z (fun h' hc' hs => ?_)
    obtain ⟨oc, hoc, hocd⟩ := id z
    refine h { s with heap := h' } ⟨I.ok, I.os, I.bare, ⟨fun b o e n hb hx => ?_, fun b o e n hb hx => ?_, I.base.free, fun b o e hx => ?_, I.base.tups, I.base.frzs, I.base.tbls⟩, ⟨m, hn.sameBut hs (Ne.symm (cne x c hc)), fun j y v' e1 e2 e3 => ?_⟩, fun y c' e => ?_, I.free, I.freeC, fun p hp => ?_, tracked ⟨oc, hoc, I.freeC x c hc⟩ hs, by simpa using I.len⟩ ⟨c, hs, .inr hc⟩
    · exact (hs.2 b (Nat.ne_of_lt (Nat.lt_of_lt_of_le (Heap.lt_size e) (I.ok.cab x c hfn hc)))).trans (I.base.keep b o e n hb hx)
    · obtain ⟨sl, e1⟩ := I.base.slot b o e n hb hx
      exact ⟨sl, (hs.2 b (Nat.ne_of_lt (Nat.lt_of_lt_of_le (Heap.lt_size e) (I.ok.cab x c hfn hc)))).trans e1⟩
    · obtain ⟨o', e1⟩ := I.base.there b o e hx
      exact ⟨o', (hs.2 b (Nat.ne_of_lt (Nat.lt_of_lt_of_le (Heap.lt_size e) (I.ok.cab x c hfn hc)))).trans e1⟩
    · by_cases hj : j = i
      · subst hj
        rw [hi] at e1; cases e1
        rw [List.getElem?_set_self hiσ] at e2
        cases e2
        exact ⟨u, r, .inr ⟨.inl hk, c, hc, hc'⟩⟩
      · rw [List.getElem?_set_ne (Ne.symm hj)] at e2
        obtain ⟨u', r', q⟩ := hl j y v' e1 e2 e3
        refine ⟨u', r', ?_⟩
        rcases q with q | ⟨k, c', e, z'⟩
        · exact .inl q
        · refine .inr ⟨k, c', e, z'.sameBut hs ?_⟩
          rintro rfl
          exact hj (nodup_ix hN e1 (I.ok.inj _ _ _ e hc ▸ hi))
    · by_cases hcc : c' = c
      · subst hcc; exact ⟨_, hc'⟩
      · obtain ⟨w2, z2⟩ := I.cell y c' e
        exact ⟨w2, z2.sameBut hs hcc⟩
    · obtain ⟨e, n, ne, nf, d⟩ := I.pin p hp
      refine ⟨(hs.2 p.1 ?_).trans e, n, ne, nf, d⟩
      intro q
      rw [q, hoc] at e
      have q' : oc = p.2 := Option.some.inj e
      exact d w' (by rw [← q']; exact hocd)
theorem store_ok {M : Model} {A : Around} {E : Value → Shared → Prop} {i : Nat} {x : Str} {v : V} {u : Value} {Q : Unit → Shared → Prop} (I : Inv X pins σ H s) (hN : X.N.Nodup) (hi : X.N[i]? = some x) (hx : Loc X.env.scope x) (r : RelV v u)
    (h : ∀ s', Inv X pins (σ.set i (some v)) H s' → Q () s') (hf : X.fn x = true ∨ X.env.scope.names.lookup x = some .local := by first | exact .inl rfl | exact .inr rfl | assumption) : wpAny M A (storeName X.env x u) Q E s :=
  store_ok2 I hN hi hx r (fun s' I' _ => h s' I') hf
/-- behind a call or a block, the state as it is -/
theorem Inv.call' {s' : Shared} {ch : List Addr} (I : Inv X pins σ H s) (ho : s'.os = s.os) (u : Un (frs X.stack) ch H H' s.heap s'.heap) (hok : HOk X.prog X.w H' s'.heap) (hg : AllBare s'.gens)
    (hch : ∀ b ∈ ch, (b ∈ X.ex ∨ X.s₀.heap.objs.size ≤ b) ∧ b ≠ X.env.locals ∧ (∀ x c, X.env.cells.lookup x = some c → c ≠ b) ∧ ∀ p ∈ X.pn ++ pins, p.1 ≠ b) : Inv X pins σ H' s' := by
  obtain ⟨h', g', d', t', o'⟩ := s'
  have e : o' = s.os := ho
  subst e
  exact I.call (g' := g') (t' := t') (d' := d') u hok hg hch
end

/-! ### the judgements -/
/-- an exception: its class, its own dict's address (where it has one), the abstract heap behind it -/
abbrev XK := Value → Option Addr → Hp → Prop
abbrev St := List (Option V)
abbrev VK := V → Hp → Prop
/-- an expression's reading; a test's; an argument list's -/
abbrev TE := St → Hp → VK → Prop
abbrev TT := St → Hp → (Bool → Hp → Prop) → Prop
abbrev TA := St → Hp → (List V → Hp → Prop) → Prop
/-- what is wanted behind a statement -/
structure Ends where
  nx : St → Hp → Prop
  rt : VK
  bk : St → Hp → Prop := fun _ _ => False
  ct : St → Hp → Prop := fun _ _ => False
abbrev TS := Ends → St → Hp → Prop

def EP (X : Cx) (pins : List (Addr × Obj)) (σ : St) (Q : VK) (u : Value) (s' : Shared) : Prop := ∃ v H', Inv X pins σ H' s' ∧ RelV v u ∧ Q v H'
def TP (X : Cx) (pins : List (Addr × Obj)) (σ : St) (Q : Bool → Hp → Prop) (b : Bool) (s' : Shared) : Prop := ∃ H', Inv X pins σ H' s' ∧ Q b H'
def AP (X : Cx) (pins : List (Addr × Obj)) (σ : St) (Q : List V → Hp → Prop) (us : List Value) (s' : Shared) : Prop := ∃ vs H', Inv X pins σ H' s' ∧ Vals vs us ∧ Q vs H'
def SP (X : Cx) (pins : List (Addr × Obj)) (D : Ends) (f : Flow) (s' : Shared) : Prop :=
  match f with
  | .next => ∃ σ' H', Inv X pins σ' H' s' ∧ D.nx σ' H'
  | .brk => ∃ σ' H', Inv X pins σ' H' s' ∧ D.bk σ' H'
  | .cont => ∃ σ' H', Inv X pins σ' H' s' ∧ D.ct σ' H'
  | .ret u => ∃ v σ' H', Inv X pins σ' H' s' ∧ RelV v u ∧ D.rt v H'

def PE (X : Cx) (e : Expr) (t : TE) : Prop :=
  ∀ (pins : List (Addr × Obj)) (s : Shared) (σ : St) (H : Hp) (Q : VK), Inv X pins σ H s → t σ H Q → wpAny (model X.prog X.w) X.A (eval e X.env) (EP X pins σ Q) X.xe s
def PT (X : Cx) (e : Expr) (t : TT) : Prop :=
  ∀ (pins : List (Addr × Obj)) (s : Shared) (σ : St) (H : Hp) (Q : Bool → Hp → Prop), Inv X pins σ H s → t σ H Q → wpAny (model X.prog X.w) X.A (isTrue e X.env (eval e X.env)) (TP X pins σ Q) X.xe s
/-- a test whatever its 'whole' is (and, or) -/
def PW (X : Cx) (e : Expr) (t : TT) : Prop :=
  ∀ (whole : Sem Value) (pins : List (Addr × Obj)) (s : Shared) (σ : St) (H : Hp) (Q : Bool → Hp → Prop), Inv X pins σ H s → t σ H Q → wpAny (model X.prog X.w) X.A (isTrue e X.env whole) (TP X pins σ Q) X.xe s
theorem PW.pt {X : Cx} {e : Expr} {t : TT} (h : PW X e t) : PT X e t := h _
/-- an argument list (no star), from the left -/
def PA (X : Cx) (es : List Expr) (t : TA) : Prop :=
  ∀ (pos : Pos) (pins : List (Addr × Obj)) (s : Shared) (σ : St) (H : Hp) (Q : List V → Hp → Prop), Inv X pins σ H s → t σ H Q → wpAny (model X.prog X.w) X.A (spliced (backTo pos (starEach es X.env))) (AP X pins σ Q) X.xe s
def PS (X : Cx) (st : Stmt) (t : TS) : Prop :=
  ∀ (pins : List (Addr × Obj)) (s : Shared) (σ : St) (H : Hp) (D : Ends), Inv X pins σ H s → t D σ H → wpAny (model X.prog X.w) X.A (exec st X.env) (SP X pins D) X.xe s
def PSs (X : Cx) (st : List Stmt) (t : TS) : Prop :=
  ∀ (pins : List (Addr × Obj)) (s : Shared) (σ : St) (H : Hp) (D : Ends), Inv X pins σ H s → t D σ H → wpAny (model X.prog X.w) X.A (execs st X.env) (SP X pins D) X.xe s
/-- weaken the end -/
theorem thn {α : Type} {t : Sem α} {Q Q' : α → Shared → Prop} {M : Model} {A : Around} {E : Value → Shared → Prop} {s : Shared} (h : wpAny M A t Q E s) (hQ : ∀ a s, Q a s → Q' a s) : wpAny M A t Q' E s := wpAny_mono h hQ fun _ _ x => x
end L2

namespace L2
open PySem PySem.Spec PyProof.Rows
section
variable {X : Cx}

/-! ### names and constants -/
def tVar (i : Nat) : TE := fun σ H Q => ∃ v, σ[i]? = some (some v) ∧ Q v H
def tC (v : V) : TE := fun _ H Q => Q v H
theorem pe_var {i : Nat} {x : Str} {pos : Pos} (hN : X.N[i]? = some x) (hv : Vis X.env.scope x) (hd : (x == ("__debug__" : Str)) = false := by decide) (hcd : (x == ("__classdict__" : Str)) = false := by decide) : PE X (.Name x pos) (tVar i) := by
  intro pins s σ H Q I h
  obtain ⟨v, e, h⟩ := h
  obtain ⟨m, hn, hl⟩ := I.loc
  obtain ⟨u, r, l⟩ := hl i x v hN e hv
  have fin : EP X pins σ Q u s := ⟨v, H, I, r, h⟩
  rcases l with ⟨hk, hm⟩ | ⟨hk, c, hc, hcell⟩
  · exact wpAny_Name (wpAny_loadName_local I.ok.kind hk hn hm fin) hd
  · rcases hk with hk | hk
    · exact wpAny_Name (wpAny_loadName_cell I.ok.kind hk hc hcell fin) hd
    · exact wpAny_Name (wpAny_loadName_free I.ok.kind hk hc hcell fin hcd) hd
theorem pe_int {i j pos} : PE X (.Constant (.int i) j pos) (tC (.int i)) := fun _ _ _ H _ I h => wpAny_Constant_int ⟨.int i, H, I.tok _, ⟨_, rfl⟩, h⟩
theorem pe_bl {b j pos} : PE X (.Constant (.bool b) j pos) (tC (.bl b)) := fun _ _ _ H _ I h => Constant_bool ⟨.bl b, H, I, rfl, h⟩
theorem pe_non {j pos} : PE X (.Constant .none j pos) (tC .non) := fun _ _ _ H _ I h => Constant_none ⟨.non, H, I, rfl, h⟩
theorem pe_str {x j pos} : PE X (.Constant (.str x) j pos) (tC (.str x)) := fun _ _ _ H _ I h => Calls.Constant_str ⟨.str x, H, I.tok _, ⟨_, rfl⟩, h⟩

/-- a global name of the def -/
def Gl (X : Cx) (x : Str) : Prop := X.env.kindOf x = some .globalImplicit
theorem ld_glob {E : Value → Shared → Prop} {pins : List (Addr × Obj)} {s : Shared} {σ : St} {H : Hp} {x : Str} {u : Value} {pos : Pos} {Q : Value → Shared → Prop} (I : Inv X pins σ H s) (hg : Gl X x) (hm : X.mg x = some u) (h : Q u s)
    (hd : (x == ("__debug__" : Str)) = false := by decide) : wpAny (model X.prog X.w) X.A (eval (.Name x pos) X.env) Q E s :=
  Calls.Name_function_global I.ok.kind hg (Calls.loadGlobal_global (by rw [I.ok.glob]; exact I.mod.glob.keeps I.bk) hm h) hd
theorem ld_blt {E : Value → Shared → Prop} {pins : List (Addr × Obj)} {s : Shared} {σ : St} {H : Hp} {x : Str} {u : Value} {pos : Pos} {Q : Value → Shared → Prop} (I : Inv X pins σ H s) (hg : Gl X x) (hm : X.mg x = none) (hv : bootBuiltins x = some u) (h : Q u s)
    (hn : x ≠ "__name__" := by decide) (hd : (x == ("__debug__" : Str)) = false := by decide) : wpAny (model X.prog X.w) X.A (eval (.Name x pos) X.env) Q E s := by
  obtain ⟨mb, h1, h2⟩ := I.mod.blt
  exact Calls.Name_function_global I.ok.kind hg (Calls.loadGlobal_builtin (by rw [I.ok.glob]; exact I.mod.glob.keeps I.bk) hm (by rw [I.ok.blt]; exact h1.keeps I.bk) ((h2 x hn).trans hv) h) hd
/-- a module's constant, a class, a function, as a value -/
theorem pe_glob {x : Str} {v : V} {u : Value} {pos : Pos} (hg : Gl X x) (hm : X.mg x = some u) (r : RelV v u) (hd : (x == ("__debug__" : Str)) = false := by decide) : PE X (.Name x pos) (tC v) :=
  fun _ _ _ H _ I h => ld_glob I hg hm ⟨v, H, I, r, h⟩ hd
theorem pe_bltn {x : Str} {v : V} {u : Value} {pos : Pos} (hg : Gl X x) (hm : X.mg x = none) (hv : bootBuiltins x = some u) (r : RelV v u) (hn : x ≠ "__name__" := by decide) (hd : (x == ("__debug__" : Str)) = false := by decide) : PE X (.Name x pos) (tC v) :=
  fun _ _ _ H _ I h => ld_blt I hg hm hv ⟨v, H, I, r, h⟩ hn hd

/-! ### arithmetic -/
/-- two ints -/
def t2I (ta tb : TE) (k : Int → Int → Hp → Prop) : St → Hp → Prop := fun σ H => ta σ H fun x H1 => tb σ H1 fun y H2 => ∃ i j, x = .int i ∧ y = .int j ∧ k i j H2
def tAdd (ta tb : TE) : TE := fun σ H Q => t2I ta tb (fun i j H2 => Q (.int (i + j)) H2) σ H
def tSub (ta tb : TE) : TE := fun σ H Q => t2I ta tb (fun i j H2 => Q (.int (i - j)) H2) σ H
/-- the left factor below 2^64 -/
def tMul (ta tb : TE) : TE := fun σ H Q => t2I ta tb (fun i j H2 => (-(2 ^ 64) < i ∧ i < 2 ^ 64) ∧ Q (.int (i * j)) H2) σ H
variable {a b : Expr} {ta tb : TE} {pos : Pos}
/-! ### comparisons -/
def PC (X : Cx) (op : CmpOp) (a b : Expr) (t : TE) : Prop :=
  ∀ (pins : List (Addr × Obj)) (s : Shared) (σ : St) (H : Hp) (Q : VK), Inv X pins σ H s → t σ H Q →
    wpAny (model X.prog X.w) X.A (eval a X.env) (fun v s₁ => wpAny (model X.prog X.w) X.A (eval b X.env) (fun u s₂ => wpAny (model X.prog X.w) X.A (compareOp op v u) (EP X pins σ Q) X.xe s₂) X.xe s₁) X.xe s
def tCmp (p : Int → Int → Bool) (ta tb : TE) : TE := fun σ H Q => t2I ta tb (fun i j H2 => Q (.bl (p i j)) H2) σ H
abbrev tLt : TE → TE → TE := tCmp fun i j => decide (i < j)
abbrev tLe : TE → TE → TE := tCmp fun i j => decide (i ≤ j)
abbrev tGt : TE → TE → TE := tCmp fun i j => decide (j < i)
abbrev tGe : TE → TE → TE := tCmp fun i j => decide (j ≤ i)
abbrev tEqI : TE → TE → TE := tCmp fun i j => decide (i = j)
abbrev tNeI : TE → TE → TE := tCmp fun i j => !decide (i = j)
/-- is None -/
def tIsN (ta : TE) : TE := fun σ H Q => ta σ H fun x H1 => Q (.bl (decide (x = .non))) H1
def tNotN (ta : TE) : TE := fun σ H Q => ta σ H fun x H1 => Q (.bl (!decide (x = .non))) H1
/-- a comparison as a value, as a test -/
def tB (t : TE) : TT := fun σ H Q => t σ H fun x H1 => ∃ c, x = .bl c ∧ Q c H1
/-- an expression whose value is a bool, as a test -/
theorem pt_val {e : Expr} {t : TE} (h : PE X e t) (he : ∀ whole, isTrue e X.env whole = (do let v ← whole; standAt e.pos; holding [v] (truthy v)) := by intro _; rfl) : PT X e (tB t) := by
  intro pins s σ H Q I hw
  refine isTrue_plain (thn (h pins s σ H _ I hw) fun v s1 ⟨x, H1, I1, r1, q1⟩ => ?_) (he _)
  obtain ⟨d, rfl, q⟩ := q1
  cases r1
  exact wpAny_truthy_bool ⟨H1, I1, q⟩

/-! ### and, or, not -/
variable {tA tB' : TT} {rest : List Expr}
def tAnd (t u : TT) : TT := fun σ H Q => t σ H fun c H1 => if c = true then u σ H1 Q else Q false H1
def tOr (t u : TT) : TT := fun σ H Q => t σ H fun c H1 => if c = true then Q true H1 else u σ H1 Q
def tNot (t : TT) : TT := fun σ H Q => t σ H fun c H1 => Q (!c) H1
theorem pw_and1 (ha : PT X a tA) : PW X (.BoolOp .And [a] pos) tA := by
  intro wh pins s σ H Q I h
  refine isTrue_and (thn (ha pins s σ H Q I h) fun c s1 e => ?_)
  cases c with
  | true => exact isTrue_and_nil e
  | false => exact e
theorem pw_or1 (ha : PT X a tA) : PW X (.BoolOp .Or [a] pos) tA := by
  intro wh pins s σ H Q I h
  refine isTrue_or (thn (ha pins s σ H Q I h) fun c s1 e => ?_)
  cases c with
  | false => exact isTrue_or_nil e
  | true => exact e
theorem pw_and (ha : PT X a tA) (hb : PW X (.BoolOp .And (b :: rest) pos) tB') : PW X (.BoolOp .And (a :: b :: rest) pos) (tAnd tA tB') := by
  intro wh pins s σ H Q I h
  refine isTrue_and (thn (ha pins s σ H _ I h) fun c s1 ⟨H1, I1, q1⟩ => ?_)
  cases c with
  | true => exact hb wh pins s1 σ H1 Q I1 q1
  | false => exact ⟨H1, I1, q1⟩
theorem pw_or (ha : PT X a tA) (hb : PW X (.BoolOp .Or (b :: rest) pos) tB') : PW X (.BoolOp .Or (a :: b :: rest) pos) (tOr tA tB') := by
  intro wh pins s σ H Q I h
  refine isTrue_or (thn (ha pins s σ H _ I h) fun c s1 ⟨H1, I1, q1⟩ => ?_)
  cases c with
  | true => exact ⟨H1, I1, q1⟩
  | false => exact hb wh pins s1 σ H1 Q I1 q1
theorem pt_not (ha : PT X a tA) : PT X (.UnaryOp .Not a pos) (tNot tA) := by
  intro pins s σ H Q I h
  exact isTrue_not (ha pins s σ H (fun c H1 => Q (!c) H1) I h)
/-- .. as values (bools) -/
def tAndV (ta tb : TE) : TE := fun σ H Q => ta σ H fun x H1 => ∃ c, x = .bl c ∧ if c = true then tb σ H1 Q else Q (.bl false) H1
def tOrV (ta tb : TE) : TE := fun σ H Q => ta σ H fun x H1 => ∃ c, x = .bl c ∧ if c = true then Q (.bl true) H1 else tb σ H1 Q
def tNotV (ta : TE) : TE := fun σ H Q => ta σ H fun x H1 => ∃ c, x = .bl c ∧ Q (.bl (!c)) H1
theorem pe_one {op} {t : TE} (h : PE X a t) : PE X (.BoolOp op [a] pos) t := fun pins s σ H Q I hw => BoolOp_one (h pins s σ H Q I hw)
theorem pe_and (ha : PE X a ta) (hb : PE X (.BoolOp .And (b :: rest) pos) tb) : PE X (.BoolOp .And (a :: b :: rest) pos) (tAndV ta tb) := by
  intro pins s σ H Q I h
  refine BoolOp_and (thn (ha pins s σ H _ I h) fun v s1 ⟨x, H1, I1, r1, q1⟩ => ?_)
  obtain ⟨c, rfl, q1⟩ := q1
  cases r1
  refine wpAny_truthy_bool ?_
  cases c with
  | true => exact hb pins s1 σ H1 Q I1 q1
  | false => exact ⟨.bl false, H1, I1, rfl, q1⟩
theorem pe_not (ha : PE X a ta) : PE X (.UnaryOp .Not a pos) (tNotV ta) := by
  intro pins s σ H Q I h
  refine UnaryOp_ (thn (ha pins s σ H _ I h) fun v s1 ⟨x, H1, I1, r1, q1⟩ => ?_)
  obtain ⟨c, rfl, q1⟩ := q1
  cases r1
  exact not_of (wpAny_truthy_bool ⟨.bl (!c), H1, I1, rfl, q1⟩)
/-- a if t else b -/
def tIf (t : TT) (ta tb : TE) : TE := fun σ H Q => t σ H fun c H1 => if c = true then ta σ H1 Q else tb σ H1 Q
theorem pe_ifExp {c : Expr} (hc : PT X c tA) (ha : PE X a ta) (hb : PE X b tb) : PE X (.IfExp c a b pos) (tIf tA ta tb) := by
  intro pins s σ H Q I h
  refine wpAny_IfExp (thn (hc pins s σ H _ I h) fun d s1 ⟨H1, I1, q1⟩ => ?_)
  cases d with
  | true => exact ha pins s1 σ H1 Q I1 q1
  | false => exact hb pins s1 σ H1 Q I1 q1
end
end L2

namespace L2
open PySem PySem.Spec PyProof.Rows

/-! ### a list, a tuple that is read: tracked, frozen, or an object of the module -/
def SqL (K : PySem.W.Frag) (H : Hp) (a : Addr) (xs : List V) : Prop :=
  Rd H a (.lst xs) ∨
    ∃ (o : Obj) (its : Array Value) (n : Nat), K.lookup a = some o ∧ o.cls = .type "list" ∧ o.dict = none ∧ o.data = .seq its n ∧ its.size ≤ sizeLine ∧ Vals xs its.toList
def SqT (K : PySem.W.Frag) (H : Hp) (a : Addr) (xs : List V) : Prop :=
  Rd H a (.tup xs) ∨
    ∃ (o : Obj) (its : Array Value) (n : Nat), K.lookup a = some o ∧ o.cls = .type "tuple" ∧ o.data = .seq its n ∧ its.size ≤ sizeLine ∧ Vals xs its.toList
def absV : Value → Option V
  | .none => some .non
  | .bool b => some (.bl b)
  | .int i _ => some (.int i)
  | .str x _ => some (.str x)
  | .bytes b _ => some (.byt b)
  | .float b _ => some (.flt b)
  | .ref a => some (.ref a)
  | .type n => some (.ty n)
  | _ => none
theorem RelV.abs {x : V} {u : Value} (r : RelV x u) : absV u = some x := by
  cases x with
  | non => cases r; rfl
  | bl _ => cases r; rfl
  | int _ => obtain ⟨t, rfl⟩ := r; rfl
  | str _ => obtain ⟨t, rfl⟩ := r; rfl
  | byt _ => obtain ⟨t, rfl⟩ := r; rfl
  | flt _ => obtain ⟨t, rfl⟩ := r; rfl
  | ref _ => cases r; rfl
  | ty _ => cases r; rfl
theorem RelV.inj {x y : V} {u : Value} (r : RelV x u) (q : RelV y u) : x = y := Option.some.inj (r.abs.symm.trans q.abs)
theorem Vals.inj : ∀ {xs ys : List V} {us : List Value}, Vals xs us → Vals ys us → xs = ys
  | _, _, _, .nil, .nil => rfl
  | _, _, _, .cons r t, .cons r' t' => by rw [r.inj r', Vals.inj t t']
section
variable {X : Cx} {pins : List (Addr × Obj)} {σ : St} {H : Hp} {s : Shared} {a : Addr} {xs ys : List V}
theorem SqL.of {K : PySem.W.Frag} (h : H a = some (.lst xs)) : SqL K H a xs := .inl (.inl h)
theorem SqT.of {K : PySem.W.Frag} (h : H a = some (.tup xs)) : SqT K H a xs := .inl (.inl h)
theorem Inv.list (I : Inv X pins σ H s) (h : SqL X.K H a xs) : ∃ its : List Value, Vals xs its ∧ PlainL s.heap a its.toArray ∧ xs.length ≤ sizeLine := by
  rcases h with h | ⟨o, its, n, hk, hc, hd, hs, hz, r⟩
  · obtain ⟨z, its, n, r, e⟩ := h.ok I.hok
    exact ⟨its, r, ⟨_, n, e, rfl, rfl, rfl⟩, z⟩
  · refine ⟨its.toList, r, ⟨o, n, I.kIn a o hk, hc, hd, by simpa using hs⟩, ?_⟩
    have e := r.length
    simp only [Array.length_toList] at e
    omega
theorem Inv.tuple (I : Inv X pins σ H s) (h : SqT X.K H a xs) : ∃ its : List Value, Vals xs its ∧ IsTup s.heap a its.toArray ∧ xs.length ≤ sizeLine := by
  rcases h with h | ⟨o, its, n, hk, hc, hs, hz, r⟩
  · obtain ⟨z, its, r, p⟩ := h.ok I.hok
    exact ⟨its, r, p, z⟩
  · refine ⟨its.toList, r, ⟨o, I.kIn a o hk, hc, n, by simpa using hs⟩, ?_⟩
    have e := r.length
    simp only [Array.length_toList] at e
    omega
theorem Inv.list_inj (I : Inv X pins σ H s) (h : SqL X.K H a xs) (h' : SqL X.K H a ys) : xs = ys := by
  obtain ⟨its, r, ⟨o, n, e, _, _, d⟩, _⟩ := I.list h
  obtain ⟨its', r', ⟨o', n', e', _, _, d'⟩, _⟩ := I.list h'
  rw [e] at e'; cases e'
  rw [d] at d'
  injection d' with d1 _
  have : its = its' := by simpa using congrArg Array.toList d1
  subst this
  exact r.inj r'
end

/-! ### another wish about exceptions -/
abbrev Cx.wish (X : Cx) (E : Value → Shared → Prop) : Cx := { X with xe := E }
/-- no exception leaves -/
abbrev Cx.nox (X : Cx) : Cx := X.wish fun _ _ => False
theorem Cx.Ok.wish {X : Cx} (ok : X.Ok) (E : Value → Shared → Prop) : (X.wish E).Ok :=
  ⟨ok.mod, ok.kind, ok.glob, ok.blt, ok.above, ok.inj, ok.has, ok.cab, ok.hd, ok.frames, ok.stk, ok.exf, ok.bs, ok.bsz, ok.noex, ok.exfs, ok.funs, ok.frf⟩
theorem Cx.Ok.unwish {X : Cx} {E : Value → Shared → Prop} (ok : (X.wish E).Ok) : X.Ok :=
  ⟨ok.mod, ok.kind, ok.glob, ok.blt, ok.above, ok.inj, ok.has, ok.cab, ok.hd, ok.frames, ok.stk, ok.exf, ok.bs, ok.bsz, ok.noex, ok.exfs, ok.funs, ok.frf⟩
section
variable {X : Cx} {pins : List (Addr × Obj)} {σ : St} {H : Hp} {s : Shared} {E : Value → Shared → Prop}
theorem Inv.wish (I : Inv X pins σ H s) (E : Value → Shared → Prop) : Inv (X.wish E) pins σ H s := ⟨I.ok.wish E, I.os, I.bare, I.base, I.loc, I.cell, I.free, I.freeC, I.pin, I.hok, I.len⟩
theorem Inv.unwish (I : Inv (X.wish E) pins σ H s) : Inv X pins σ H s := ⟨I.ok.unwish, I.os, I.bare, I.base, I.loc, I.cell, I.free, I.freeC, I.pin, I.hok, I.len⟩
theorem SP.unwish {D : Ends} {f : Flow} {s' : Shared} (h : SP (X.wish E) pins D f s') : SP X pins D f s' := by
  cases f with
  | next => obtain ⟨σ', H', I, q⟩ := h; exact ⟨σ', H', I.unwish, q⟩
  | brk => obtain ⟨σ', H', I, q⟩ := h; exact ⟨σ', H', I.unwish, q⟩
  | cont => obtain ⟨σ', H', I, q⟩ := h; exact ⟨σ', H', I.unwish, q⟩
  | ret u => obtain ⟨v, σ', H', I, r, q⟩ := h; exact ⟨v, σ', H', I.unwish, r, q⟩
theorem PSs.nox {st : List Stmt} {t : TS} (h : PSs X.nox st t) : PSs X st t := fun pins s σ H D I hw =>
  wpAny_mono (h pins s σ H D (I.wish _) hw) (fun _ _ q => q.unwish) fun _ _ z => False.elim z
end

/-! ### blocks and small statements -/
section
variable {X : Cx} {st : Stmt} {rest : List Stmt} {t u : TS} {e : Expr} {te : TE} {pos : Pos}
def tNext : TS := fun D σ H => D.nx σ H
def tSeq (t u : TS) : TS := fun D σ H => t { D with nx := u D } σ H
theorem pss_nil : PSs X [] tNext := fun _ _ σ H _ I h => wpAny_execs_nil ⟨σ, H, I, h⟩
theorem pss_cons (h1 : PS X st t) (h2 : PSs X rest u) : PSs X (st :: rest) (tSeq t u) := by
  intro pins s σ H D I h
  refine wpAny_execs_cons (thn (h1 pins s σ H { D with nx := u D } I h) fun f s1 q => ?_)
  cases f with
  | next =>
    obtain ⟨σ', H', I', q⟩ := q
    exact h2 pins s1 σ' H' D I' q
  | ret v => exact q
  | brk => exact q
  | cont => exact q
theorem pss_one (h1 : PS X st t) : PSs X [st] t := by
  intro pins s σ H D I h
  refine wpAny_execs_cons (thn (h1 pins s σ H D I h) fun f s1 q => ?_)
  cases f with
  | next => exact wpAny_execs_nil q
  | ret v => exact q
  | brk => exact q
  | cont => exact q
def tBreak : TS := fun D σ H => D.bk σ H
def tCont : TS := fun D σ H => D.ct σ H
/-- in a def's body nothing is shown -/
theorem Inv.quiet {pins : List (Addr × Obj)} {σ : St} {H : Hp} {s : Shared} (I : Inv X pins σ H s) : interactive X.env = false := by simp [interactive, I.ok.kind]
/-- an expression whose value is dropped -/
def tDrop (te : TE) : TS := fun D σ H => te σ H fun _ H1 => D.nx σ H1
theorem ps_expr (he : PE X e te) (hs : swapsWith e none pos.line X.env = pure false := by rfl) : PS X (.Expr e pos) (tDrop te) := by
  intro pins s σ H D I h
  exact wpAny_Expr_any (thn (he pins s σ H _ I h) fun v s1 ⟨x, H1, I1, r1, q1⟩ => ⟨σ, H1, I1, q1⟩) I.quiet hs
def tRet (te : TE) : TS := fun D σ H => te σ H D.rt
theorem ps_ret (he : PE X e te) : PS X (.Return (some e) pos) (tRet te) := by
  intro pins s σ H D I h
  exact wpAny_Return_some (thn (he pins s σ H _ I h) fun v s1 ⟨x, H1, I1, r1, q1⟩ => ⟨x, σ, H1, I1, r1, q1⟩)
def tRetN : TS := fun D _ H => D.rt .non H
def tIfS (c : TT) (t u : TS) : TS := fun D σ H => c σ H fun b H1 => if b = true then t D σ H1 else u D σ H1
theorem ps_if {c : Expr} {a b : List Stmt} {tc : TT} (hc : PT X c tc) (ha : PSs X a t) (hb : PSs X b u) : PS X (.If c a b pos) (tIfS tc t u) := by
  intro pins s σ H D I h
  refine wpAny_If (thn (hc pins s σ H _ I h) fun d s1 ⟨H1, I1, q1⟩ => ?_)
  cases d with
  | true => exact ha pins s1 σ H1 D I1 q1
  | false => exact hb pins s1 σ H1 D I1 q1
/-- code that the proof never comes to -/
def tNever : TS := fun _ _ _ => False
theorem ps_never : PS X st tNever := fun _ _ _ _ _ _ h => h.elim
end

/-! ### targets -/
abbrev TG := V → St → Hp → (St → Hp → Prop) → Prop
abbrev TGs := List V → St → Hp → (St → Hp → Prop) → Prop
def PG (X : Cx) (target : Expr) (t : TG) : Prop :=
  ∀ (pins : List (Addr × Obj)) (s : Shared) (σ : St) (H : Hp) (v : V) (u : Value) (Q : St → Hp → Prop), Inv X pins σ H s → RelV v u → t v σ H Q →
    wpAny (model X.prog X.w) X.A (assign target X.env u) (fun _ s' => ∃ σ' H', Inv X pins σ' H' s' ∧ Q σ' H') X.xe s
/-- several targets, one after another -/
def PGs (X : Cx) (ts : List Expr) (t : TGs) : Prop :=
  ∀ (pins : List (Addr × Obj)) (s : Shared) (σ : St) (H : Hp) (vs : List V) (us : List Value) (Q : St → Hp → Prop), Inv X pins σ H s → Vals vs us → t vs σ H Q →
    wpAny (model X.prog X.w) X.A (assignInOrder ((assignEach ts X.env).map (·.2)) us) (fun _ s' => ∃ σ' H', Inv X pins σ' H' s' ∧ Q σ' H') X.xe s
/-- o[i] = v, by values -/
abbrev TSet := V → V → V → Hp → (Hp → Prop) → Prop
def PSet (X : Cx) (t : TSet) : Prop :=
  ∀ (pins : List (Addr × Obj)) (s : Shared) (σ : St) (H : Hp) (o i v : V) (ov iv u : Value) (Q : Hp → Prop), Inv X pins σ H s → RelV o ov → RelV i iv → RelV v u → t o i v H Q →
    wpAny (model X.prog X.w) X.A (setItem ov iv u) (fun _ s' => ∃ H', Inv X pins σ H' s' ∧ Q H') X.xe s
/-- a op= b, by values -/
abbrev TIp := V → V → Hp → VK → Prop
def PIp (X : Cx) (op : Operator) (t : TIp) : Prop :=
  ∀ (pins : List (Addr × Obj)) (s : Shared) (σ : St) (H : Hp) (x y : V) (v u : Value) (Q : VK), Inv X pins σ H s → RelV x v → RelV y u → t x y H Q →
    wpAny (model X.prog X.w) X.A (inplaceOp op v u) (EP X pins σ Q) X.xe s
section
variable {X : Cx} {pos : Pos}
def gName (i : Nat) : TG := fun v σ H Q => Q (σ.set i (some v)) H
theorem pg_name {i : Nat} {x : Str} (hN : X.N.Nodup) (hi : X.N[i]? = some x) (hx : Loc X.env.scope x) (hf : X.fn x = true ∨ X.env.scope.names.lookup x = some .local := by first | exact .inl rfl | exact .inr rfl | assumption) : PG X (.Name x pos) (gName i) := by
  intro pins s σ H v u Q I r h
  exact wpAny_assign_Name (store_ok I hN hi hx r (fun s' I' => ⟨_, H, I', h⟩) hf)
def gNil : TGs := fun vs σ H Q => vs = [] ∧ Q σ H
def gCons (t : TG) (u : TGs) : TGs := fun vs σ H Q => ∃ v r, vs = v :: r ∧ t v σ H fun σ' H' => u r σ' H' Q
theorem pgs_nil : PGs X [] gNil := by
  intro pins s σ H vs us Q I r h
  obtain ⟨e, h⟩ := h
  subst e
  cases r
  exact assignInOrder_nil ⟨σ, H, I, h⟩
theorem pgs_cons {e : Expr} {es : List Expr} {t : TG} {u : TGs} (h1 : PG X e t) (h2 : PGs X es u)
    (hs : (assignEach (e :: es) X.env).map (·.2) = assign e X.env :: (assignEach es X.env).map (·.2) := by rfl) : PGs X (e :: es) (gCons t u) := by
  intro pins s σ H vs us Q I r h
  obtain ⟨v, vr, e1, h⟩ := h
  subst e1
  cases r with
  | cons r rr =>
    rw [hs]
    refine assignInOrder_cons (thn (h1 pins s σ H _ _ _ I r h) fun _ s1 ⟨σ1, H1, I1, q1⟩ => ?_)
    exact h2 pins s1 σ1 H1 _ _ Q I1 rr q1
/-- (a, b, ..) = a tuple of that length -/
def gTup (K : PySem.W.Frag) (n : Nat) (t : TGs) : TG := fun v σ H Q => ∃ a xs, v = .ref a ∧ SqT K H a xs ∧ xs.length = n ∧ t xs σ H Q
theorem pg_tup {es : List Expr} {k : Nat} {t : TGs} {n : Nat} (hc : X.calm = true) (h : PGs X es t)
    (hn : (assignEach es X.env).length = n := by rfl) (hst : (assignEach es X.env).findIdx? (·.1) = none := by rfl) : PG X (.Tuple es k pos) (gTup X.K n t) := by
  intro pins s σ H v u Q I r hw
  obtain ⟨a, xs, e1, hq, hl, hw⟩ := hw
  subst e1
  cases r
  obtain ⟨its, rv, ht, hz⟩ := I.tuple hq
  refine assign_Tuple_tuple (I.ok.hd hc) ht (by simp [hn, ← hl, rv.length]) hst fun h' hx => ?_
  have I1 : Inv X pins σ H { s with heap := h' } := I.kept (t' := s.toks) fun b o e => hx b o (Nat.ne_of_lt (Heap.lt_size e)) e
  exact h pins _ σ H xs _ Q I1 (by simpa using rv) hw
/-- o[i] = .. -/
def gSub (to ti : TE) (t : TSet) : TG := fun v σ H Q => to σ H fun o H1 => ti σ H1 fun i H2 => t o i v H2 fun H3 => Q σ H3
/-- target = value -/
def tAsg (te : TE) (g : TG) : TS := fun D σ H => te σ H fun x H1 => g x σ H1 D.nx
theorem ps_asg {tg e : Expr} {te : TE} {g : TG} (he : PE X e te) (hg : PG X tg g) (hs : swapsWithSole [tg] e pos.line X.env = pure false := by rfl) (hw : swappedStores [tg] e X.env = pure none := by rfl)
    (h1 : (assignEach [tg] X.env).map (·.2) = [assign tg X.env] := by rfl) : PS X (.Assign [tg] e pos) (tAsg te g) := by
  intro pins s σ H D I h
  refine wpAny_Assign_stores (thn (he pins s σ H _ I h) fun v s1 ⟨x, H1, I1, r1, q1⟩ => ?_) hs hw
  rw [h1]
  exact thn (hg pins s1 σ H1 x v _ I1 r1 q1) fun _ s2 q => q
/-- name = value -/
theorem ps_set {i : Nat} {x : Str} {e : Expr} {te : TE} {pos' : Pos} (hN : X.N.Nodup) (hi : X.N[i]? = some x) (hx : Loc X.env.scope x) (he : PE X e te) (hs : swapsWith e (some (.Name x pos')) pos.line X.env = pure false := by rfl) (hf : X.fn x = true ∨ X.env.scope.names.lookup x = some .local := by first | exact .inl rfl | exact .inr rfl | assumption) :
    PS X (.Assign [.Name x pos'] e pos) (tAsg te (gName i)) := by
  intro pins s σ H D I h
  refine wpAny_Assign_Name (thn (he pins s σ H _ I h) fun v s1 ⟨y, H1, I1, r1, q1⟩ => ?_) hs
  exact store_ok I1 hN hi hx r1 (fun s2 I2 => ⟨_, H1, I2, q1⟩) hf
/-- a, b = x, y with plain local names: stored from the right; the pair itself is not tracked (the opening rows as in PyProof/Rows/TupAssign.lean:23) -/
def tPar (i j : Nat) (ta : TA) : TS := fun D σ H => ta σ H fun vs H1 => ∃ v w, vs = [v, w] ∧ D.nx ((σ.set i (some v)).set j (some w)) H1
/-- name op= e -/
def tAug (i : Nat) (te : TE) (ti : TIp) : TS := fun D σ H => ∃ x, σ[i]? = some (some x) ∧ te σ H fun y H1 => ti x y H1 fun z H2 => D.nx (σ.set i (some z)) H2
theorem ps_aug {i : Nat} {x : Str} {e : Expr} {te : TE} {op : Operator} {ti : TIp} {pos' : Pos} (hN : X.N.Nodup) (hi : X.N[i]? = some x) (hx : Loc X.env.scope x) (he : PE X e te) (ho : PIp X op ti) (hf : X.fn x = true ∨ X.env.scope.names.lookup x = some .local := by first | exact .inl rfl | exact .inr rfl | assumption) :
    PS X (.AugAssign (.Name x pos') op e pos) (tAug i te ti) := by
  intro pins s σ H D I h
  obtain ⟨v, e1, h⟩ := h
  obtain ⟨m, hn, hl⟩ := I.loc
  have vis : Vis X.env.scope x := by rcases hx with k | k; exact .inl k; exact .inr (.inl k)
  obtain ⟨u, r, l⟩ := hl i x v hi e1 vis
  refine wpAny_AugAssign_Name ?_
  have go : wpAny (model X.prog X.w) X.A (eval e X.env) (fun w s₂ => wpAny (model X.prog X.w) X.A (inplaceOp op u w) (fun r s₃ => wpAny (model X.prog X.w) X.A (storeName X.env x r) (fun _ => SP X pins D .next) X.xe s₃) X.xe s₂) X.xe s := by
    refine thn (he pins s σ H _ I h) fun w s1 ⟨y, H1, I1, r1, q1⟩ => ?_
    refine thn (ho pins s1 σ H1 v y u w _ I1 r r1 q1) fun z s2 ⟨zv, H2, I2, r2, q2⟩ => ?_
    exact store_ok I2 hN hi hx r2 (fun s3 I3 => ⟨_, H2, I3, q2⟩) hf
  rcases l with ⟨hk, hm⟩ | ⟨hk, c, hc, hcell⟩
  · exact wpAny_loadName_local I.ok.kind hk hn hm go
  · rcases hk with hk | hk
    · exact wpAny_loadName_cell I.ok.kind hk hc hcell go
    · rcases hx with k | k
      · have : X.env.scope.names.lookup x = some .free := hk
        rw [k] at this; cases this
      · have : X.env.scope.names.lookup x = some .free := hk
        rw [k] at this; cases this
/-- o[i] op= e -/
def tAugS (to ti te : TE) (tget : V → V → Hp → VK → Prop) (tip : TIp) (tset : TSet) : TS := fun D σ H => to σ H fun o H1 => ti σ H1 fun i H2 => tget o i H2 fun x H3 => te σ H3 fun y H4 => tip x y H4 fun z H5 => tset o i z H5 fun H6 => D.nx σ H6
/-- o[i], by values -/
def PGet (X : Cx) (t : V → V → Hp → VK → Prop) : Prop :=
  ∀ (pins : List (Addr × Obj)) (s : Shared) (σ : St) (H : Hp) (o i : V) (ov iv : Value) (Q : VK), Inv X pins σ H s → RelV o ov → RelV i iv → t o i H Q →
    wpAny (model X.prog X.w) X.A (getItem ov iv) (EP X pins σ Q) X.xe s
/-- ints -/
def ipI (f : Int → Int → Int) : TIp := fun x y H Q => ∃ i j, x = .int i ∧ y = .int j ∧ Q (.int (f i j)) H
theorem ip_add : PIp X .Add (ipI fun i j => i + j) := by
  intro pins s σ H x y v u Q I r1 r2 h
  obtain ⟨i, j, e1, e2, q⟩ := h
  subst e1; subst e2
  obtain ⟨t, rfl⟩ := r1
  obtain ⟨t', rfl⟩ := r2
  exact iadd_int ⟨.int _, H, I.tok _, ⟨_, rfl⟩, q⟩
end

/-! ### while -/
section
variable {X : Cx} {pos : Pos}
/-- the invariant W with its measure -/
def tWhile (c : TT) (tb : TS) : TS := fun D σ H => ∃ W : Nat → St → Hp → Prop, (∃ m, W m σ H) ∧ ∀ m σ H, W m σ H →
  c σ H fun b H1 => if b = true then ∃ N : St → Hp → Prop, (∀ σ' H', N σ' H' → ∃ m', m' < m ∧ W m' σ' H') ∧ tb { D with nx := N, ct := N, bk := D.nx } σ H1 else D.nx σ H1
theorem ps_while {c : Expr} {body : List Stmt} {tc : TT} {tb : TS} (hp : PassesOwn (model X.prog X.w) X.A X.env X.xe) (hc : PT X c tc) (hb : PSs X body tb) : PS X (.While c body [] pos) (tWhile tc tb) := by
  intro pins s σ H D I h
  obtain ⟨W, ⟨m0, w0⟩, turn⟩ := h
  refine wpAny_While (codeAny_whileLoop (fun n s' => ∃ σ' H', Inv X pins σ' H' s' ∧ W n σ' H') ?_ m0 ⟨σ, H, I, w0⟩)
  rintro n s1 ⟨σ1, H1, I1, w1⟩
  refine wpAny_passesOwn hp (thn (hc pins s1 σ1 H1 _ I1 (turn n σ1 H1 w1)) fun b s2 ⟨H2, I2, q2⟩ => ?_)
  cases b with
  | true =>
    obtain ⟨N, hN, q2⟩ := q2
    rw [if_pos rfl]
    refine wpAny_passesOwn hp (thn (hb pins s2 σ1 H2 _ I2 q2) fun f s3 q3 => ?_)
    cases f with
    | next =>
      obtain ⟨σ3, H3, I3, n3⟩ := q3
      obtain ⟨m', hm, w3⟩ := hN σ3 H3 n3
      exact ⟨m', hm, σ3, H3, I3, w3⟩
    | cont =>
      obtain ⟨σ3, H3, I3, n3⟩ := q3
      obtain ⟨m', hm, w3⟩ := hN σ3 H3 n3
      exact ⟨m', hm, σ3, H3, I3, w3⟩
    | brk => exact q3
    | ret v => exact q3
  | false =>
    rw [if_neg Bool.false_ne_true]
    exact wpAny_execs_nil ⟨σ1, H2, I2, q2⟩
end

/-! ### what a loop or a comprehension walks -/
/-- at turn i: it yields x (the heap may grow), or it stops -/
structure It where
  go : Nat → Hp → Prop
  yld : Nat → Hp → V → Hp → Prop
  stop : Nat → Hp → Prop
/-- the iterator's own objects may turn: they are not the frame's, not pinned, younger than the entry (or a comprehension's own) -/
def FpOk (X : Cx) (pins : List (Addr × Obj)) (H : Hp) (b : Addr) : Prop :=
  H b = none ∧ b ≠ X.env.locals ∧ b ∉ X.fs ∧ (b ∈ X.ex ∨ X.s₀.heap.objs.size ≤ b) ∧ (∀ x c, X.env.cells.lookup x = some c → c ≠ b) ∧ ∀ p ∈ X.pn ++ pins, p.1 ≠ b
theorem Inv.fpOk {X : Cx} {pins : List (Addr × Obj)} {σ : St} {H H' : Hp} {s : Shared} {b : Addr} (I : Inv X pins σ H s) (hb : s.heap.objs.size ≤ b) (hn : H' b = none) : FpOk X pins H' b := by
  refine ⟨hn, Nat.ne_of_gt (Nat.lt_of_lt_of_le I.lt hb), I.nofs hb, .inr (Nat.le_trans I.sz hb), fun x c e z => ?_, fun p hp z => ?_⟩
  · obtain ⟨v, q⟩ := I.cell x c e
    exact absurd (Nat.lt_of_lt_of_le q.lt (by rw [z]; exact hb)) (Nat.lt_irrefl _)
  · exact absurd (Nat.lt_of_lt_of_le (Heap.lt_size (I.pin p hp).1) (by rw [z]; exact hb)) (Nat.lt_irrefl _)
structure Turn (P : Program) (w : World) (K : PySem.W.Frag) (tg : Expr) (J : It) (fp : List Addr) (it : Addr) (tn : Nat → Heap → Prop) : Prop where
  mem : it ∈ fp
  obj : ∀ i h, tn i h → ∀ b ∈ fp, ∃ o, h.get? b = some o ∧ ∀ v, o.data ≠ .cell v
  keep : ∀ i h h', tn i h → (∀ b ∈ fp, ∀ o, h.get? b = some o → h'.get? b = some o) → tn i h'
  item : ∀ (X : Cx), X.prog = P → X.w = w → X.K = K → X.calm = true → ∀ (i : Nat) (pins : List (Addr × Obj)) (s : Shared) (σ : St) (H : Hp) (E : Value → Shared → Prop), Inv X pins σ H s → (∀ b ∈ fp, FpOk X pins H b) → tn i s.heap → J.go i H →
    wpAny (model P w) X.A (pyNext (.ref it)) (fun r s1 => ∃ u, r = some u ∧
      wpAny (model P w) X.A (letOwnedTupleGo tg (.ref it) u) (fun _ s2 => ∃ x H', Inv X pins σ H' s2 ∧ RelV x u ∧ J.yld i H x H' ∧ tn (i + 1) s2.heap ∧ ∀ b ∈ fp, H' b = none) E s1) E s
  done : ∀ (X : Cx), X.prog = P → X.w = w → X.K = K → X.calm = true → ∀ (i : Nat) (pins : List (Addr × Obj)) (s : Shared) (σ : St) (H : Hp) (E : Value → Shared → Prop), Inv X pins σ H s → (∀ b ∈ fp, FpOk X pins H b) → tn i s.heap → J.stop i H →
    wpAny (model P w) X.A (pyNext (.ref it)) (fun r s1 => r = none ∧ Inv X pins σ H s1) E s
  self : ∀ (A : Around) (i : Nat) (s : Shared) (Q : Value → Shared → Prop) (E : Value → Shared → Prop), tn i s.heap → Q (.ref it) s → wpAny (model P w) A (pyIter (.ref it)) Q E s
abbrev TI := St → Hp → (It → Hp → Prop) → Prop
/-- an iterator has come -/
def PIE (X : Cx) (pins : List (Addr × Obj)) (σ : St) (tg : Expr) (R : It → Hp → Prop) (itv : Value) (s2 : Shared) : Prop :=
  ∃ (it : Addr) (fp : List Addr) (tn : Nat → Heap → Prop) (J : It) (H' : Hp), itv = .ref it ∧ Inv X pins σ H' s2 ∧ Turn X.prog X.w X.K tg J fp it tn ∧ tn 0 s2.heap ∧ (∀ b ∈ fp, FpOk X pins H' b) ∧ R J H'
def PI (X : Cx) (tg iter : Expr) (wi : TI) : Prop :=
  ∀ (pins : List (Addr × Obj)) (s : Shared) (σ : St) (H : Hp) (R : It → Hp → Prop), Inv X pins σ H s → wi σ H R →
    wpAny (model X.prog X.w) X.A (eval iter X.env) (fun v s1 => wpAny (model X.prog X.w) X.A (pyIter v) (PIE X pins σ tg R) X.xe s1) X.xe s

/-- the step ahead of the store is nothing for an iterator that keeps no tuple -/
theorem go_of {M : Model} {A : Around} {E : Value → Shared → Prop} {s : Shared} {tg : Expr} {it : Addr} {u : Value} {o : Obj} {n : String} {vs : Array Value} {Q : Unit → Shared → Prop} (ho : s.heap.get? it = some o) (hc : o.cls = .type n) (hd : o.data = .fields vs)
    (hn : ["enumerate", "zip", "dict_itemiterator", "dict_reverseitemiterator", "odict_iterator", "itertools.zip_longest", "itertools.pairwise"].contains n = false) (hQ : Q () s) : wpAny M A (letOwnedTupleGo tg (.ref it) u) Q E s := by
  unfold letOwnedTupleGo
  cases tg <;> first
    | exact wpAny_pure hQ
    | (cases u <;> first
        | exact wpAny_pure hQ
        | (refine wpAny_bind (wpAny_load ho ?_)
           rw [hc, hd]
           show wpAny M A (if (["enumerate", "zip", "dict_itemiterator", "dict_reverseitemiterator", "odict_iterator", "itertools.zip_longest", "itertools.pairwise"].contains n && vs[0]? == some (rawInt _)) = true then _ else _) Q E s
           rw [if_neg (by intro h; rw [hn, Bool.false_and] at h; cases h)]
           exact wpAny_pure hQ))

/-- the list at a, as it stands at each turn (a loop may append to it) -/
def Itl (K : PySem.W.Frag) (a : Addr) : It :=
  ⟨fun i H => ∃ xs x, SqL K H a xs ∧ xs[i]? = some x, fun i H x H' => H' = H ∧ ∀ xs, SqL K H a xs → xs[i]? = some x, fun i H => ∃ xs, SqL K H a xs ∧ xs.length ≤ i⟩
def Itt (K : PySem.W.Frag) (a : Addr) : It :=
  ⟨fun i H => ∃ xs x, SqT K H a xs ∧ xs[i]? = some x, fun i H x H' => H' = H ∧ ∀ xs, SqT K H a xs → xs[i]? = some x, fun i H => ∃ xs, SqT K H a xs ∧ xs.length ≤ i⟩
/-- lo, lo + 1, .. (n of them) -/
def Itr (lo : Int) (n : Nat) : It := ⟨fun i _ => i < n, fun i H x H' => H' = H ∧ x = .int (lo + i), fun i _ => n ≤ i⟩
theorem turn_list {P : Program} {w : World} {K : PySem.W.Frag} {tg : Expr} (a it : Addr) : Turn P w K tg (Itl K a) [it] it (fun i h => h.IsListIter it a i) where
  mem := by simp
  obj := fun i h st b hb => by
    have e : b = it := by simpa using hb
    subst e
    obtain ⟨o, e, c, d⟩ := st
    exact ⟨o, e, fun v z => by rw [d] at z; cases z⟩
  keep := fun i h h' st k => st.at fun o e => k it (by simp) o e
  item := by
    intro X hP hw hK hc i pins s σ H E I hf st hg
    subst hP hw hK
    obtain ⟨xs, x, hq, hx⟩ := hg
    obtain ⟨its, rv, p, hz⟩ := I.list hq
    obtain ⟨u, hu, ru⟩ := rv.get hx
    obtain ⟨f0, f1, f2, f3, f4, f5⟩ := hf it (by simp)
    refine wpAny_pyNext_list_item st p.isList (x := u) (by simpa using hu) fun h' st' sb => ?_
    have I1 : Inv X pins σ H { s with heap := h' } := I.turned (t' := s.toks) (fun b o hb e => (sb.2 b hb).trans e) f0 f1 f3 f4 f5
    obtain ⟨o, e, c, d⟩ := id st'
    exact ⟨u, rfl, go_of (s := { s with heap := h' }) e c d (by decide) ⟨x, H, I1, ru, ⟨rfl, fun ys hy => by rw [I.list_inj hy hq]; exact hx⟩, st', fun b hb => (hf b hb).1⟩⟩
  done := by
    intro X hP hw hK hc i pins s σ H E I hf st hg
    subst hP hw hK
    obtain ⟨xs, hq, hx⟩ := hg
    obtain ⟨its, rv, p, hz⟩ := I.list hq
    obtain ⟨f0, f1, f2, f3, f4, f5⟩ := hf it (by simp)
    have hl := rv.length
    exact wpAny_pyNext_list_end (I.ok.hd hc) st p.isList (by simp; omega) fun h' eb => ⟨rfl, I.turned (t' := s.toks) (fun b o hb e => eb b o hb e) f0 f1 f3 f4 f5⟩
  self := fun _ _ _ _ _ st h => wpAny_pyIter_listiter st h
theorem turn_range {P : Program} {w : World} {K : PySem.W.Frag} {tg : Expr} (it : Addr) (lo : Int) (n : Nat) : Turn P w K tg (Itr lo n) [it] it (fun i h => IsRangeIter h it (lo + (i : Nat) * 1) ((n : Int) - (i : Nat)) 1) where
  mem := by simp
  obj := fun i h st b hb => by
    have e : b = it := by simpa using hb
    subst e
    exact ⟨_, st, fun v z => by
      have z' : Data.fields _ = Data.cell v := z
      cases z'⟩
  keep := fun i h h' st k => k it (by simp) _ st
  item := by
    intro X hP hw hK hc i pins s σ H E I hf st hg
    subst hP hw hK
    obtain ⟨f0, f1, f2, f3, f4, f5⟩ := hf it (by simp)
    have W := Walks.range (prog := X.prog) (w := X.w) (I.ok.hd hc) it lo 1 n
    refine W.item i s _ _ hg st fun v h' tk hv st' kk => ?_
    obtain ⟨t, rfl⟩ := hv
    have I1 : Inv X pins σ H { s with heap := h', toks := tk } := I.turned (fun b o hb e => kk b o (by simpa using hb) e) f0 f1 f3 f4 f5
    refine ⟨_, rfl, go_of (s := { s with heap := h', toks := tk }) (n := "range_iterator") st' rfl rfl (by decide) ⟨.int (lo + i), H, I1, ⟨t, ?_⟩, ⟨rfl, rfl⟩, st', fun b hb => (hf b hb).1⟩⟩
    rw [Int.mul_one]
  done := by
    intro X hP hw hK hc i pins s σ H E I hf st hg
    subst hP hw hK
    obtain ⟨f0, f1, f2, f3, f4, f5⟩ := hf it (by simp)
    exact wpAny_pyNext_range_end (I.ok.hd hc) st (by have : n ≤ i := hg; omega) fun h' eb => ⟨rfl, I.turned (t' := s.toks) (fun b o hb e => eb b o hb e) f0 f1 f3 f4 f5⟩
  self := fun _ _ _ _ _ st h => wpAny_pyIter_rangeiter st h
end L2

namespace L2
open PySem PySem.Spec PyProof.Rows
section
variable {X : Cx} {tg : Expr}
def iList (K : PySem.W.Frag) (tl : TE) : TI := fun σ H R => tl σ H fun x H1 => ∃ a, x = .ref a ∧ (∃ xs, SqL K H1 a xs) ∧ R (Itl K a) H1
def iTup (K : PySem.W.Frag) (tl : TE) : TI := fun σ H R => tl σ H fun x H1 => ∃ a, x = .ref a ∧ (∃ xs, SqT K H1 a xs) ∧ R (Itt K a) H1
theorem pi_list {l : Expr} {tl : TE} (hl : PE X l tl) : PI X tg l (iList X.K tl) := by
  intro pins s σ H R I h
  refine thn (hl pins s σ H _ I h) fun v s1 ⟨x, H1, I1, r1, q1⟩ => ?_
  obtain ⟨a, e, ⟨xs, hq⟩, q⟩ := q1
  subst e
  cases r1
  obtain ⟨its, rv, p, hz⟩ := I1.list hq
  refine wpAny_pyIter_list p.isList ?_
  refine ⟨s1.heap.objs.size, [s1.heap.objs.size], _, _, H1, rfl, I1.kept (t' := s1.toks) fun b o e => Heap.get?_push_of_some _ e, turn_list a _, ⟨_, Heap.get?_push_size _ rfl, rfl, rfl⟩, fun b hb => ?_, q⟩
  have e : b = s1.heap.objs.size := by simpa using hb
  subst e
  exact I1.fpOk (Nat.le_refl _) (I1.hok.fresh (Nat.le_refl _))
/-- a range object just made, walked -/
theorem range_it {pins : List (Addr × Obj)} {σ : St} {H : Hp} {s : Shared} {R : It → Hp → Prop} {E : Value → Shared → Prop} {lo hi : Int} {t u v : Tok} {tk : Nat} (I : Inv X pins σ H s) (h1 : -(2 ^ 62) ≤ lo) (h2 : lo < 2 ^ 62) (h3 : -(2 ^ 62) ≤ hi) (h4 : hi < 2 ^ 62)
    (q : R (Itr lo (hi - lo).toNat) H) : wpAny (model X.prog X.w) X.A (pyIter (.ref s.heap.objs.size)) (PIE X pins σ tg R) E { s with heap := s.heap.push { cls := .type "range", data := .fields #[.int lo t, .int hi u, .int 1 v] }, toks := tk } := by
  refine wpAny_pyIter_range (IsRange.new ..) (small_one h1 h2 h3 h4) ?_
  have I1 : Inv X pins σ H { s with heap := s.heap.push { cls := .type "range", data := .fields #[.int lo t, .int hi u, .int 1 v] }, toks := tk } := I.kept fun b o e => Heap.get?_push_of_some _ e
  refine ⟨(s.heap.push { cls := .type "range", data := .fields #[.int lo t, .int hi u, .int 1 v] }).objs.size, [(s.heap.push { cls := .type "range", data := .fields #[.int lo t, .int hi u, .int 1 v] }).objs.size], _, _, H, rfl,
    I1.kept (t' := tk) fun b o e => Heap.get?_push_of_some _ e, turn_range _ lo (hi - lo).toNat, ?_, fun b hb => ?_, q⟩
  · have e1 : lo + ((0 : Nat) : Int) * 1 = lo := by simp
    have e2 : (((hi - lo).toNat : Nat) : Int) - ((0 : Nat) : Int) = Builtin.Range.rangeSize lo hi 1 := by rw [rangeSize_one]; split <;> omega
    show IsRangeIter _ _ (lo + ((0 : Nat) : Int) * 1) ((((hi - lo).toNat : Nat) : Int) - ((0 : Nat) : Int)) 1
    rw [e1, e2]
    exact Heap.get?_push_size _ rfl
  · have e : b = (s.heap.push { cls := .type "range", data := .fields #[.int lo t, .int hi u, .int 1 v] }).objs.size := by simpa using hb
    subst e
    exact I1.fpOk (Nat.le_refl _) (I1.hok.fresh (Nat.le_refl _))
def iRng1 (ta : TA) : TI := fun σ H R => ta σ H fun vs H1 => ∃ j : Int, vs = [.int j] ∧ -(2 ^ 62) ≤ j ∧ j < 2 ^ 62 ∧ R (Itr 0 j.toNat) H1
def iRng2 (ta : TA) : TI := fun σ H R => ta σ H fun vs H1 => ∃ i j : Int, vs = [.int i, .int j] ∧ (-(2 ^ 62) ≤ i ∧ i < 2 ^ 62 ∧ -(2 ^ 62) ≤ j ∧ j < 2 ^ 62) ∧ R (Itr i (j - i).toNat) H1
theorem pi_range1 {a : Expr} {ta : TA} {p pos : Pos} (hg : Gl X "range") (hm : X.mg "range" = none) (ha : PA X [a] ta) (hs : starEach [a] X.env = [(false, eval a X.env)] := by rfl) : PI X tg (.Call (.Name "range" p) [a] [] pos) (iRng1 ta) := by
  intro pins s σ H R I h
  refine Call_ (ld_blt I hg hm boot_range (PyProof.Rows.callWith_type1 (thn (ha pos pins s σ H _ I h) fun us s1 ⟨vs, H1, I1, r1, q1⟩ => ?_) hs rfl))
  obtain ⟨j, e, q1, q2, q⟩ := q1
  subst e
  cases r1 with
  | cons r rr =>
    cases rr
    obtain ⟨t, rfl⟩ := r
    exact call_range_1 (range_it I1 (by omega) (by omega) q1 q2 (by simpa using q))
theorem pi_range2 {a b : Expr} {ta : TA} {p pos : Pos} (hg : Gl X "range") (hm : X.mg "range" = none) (ha : PA X [a, b] ta) (hs : starEach [a, b] X.env = [(false, eval a X.env), (false, eval b X.env)] := by rfl) (hs2 : starEach [b] X.env = [(false, eval b X.env)] := by rfl) :
    PI X tg (.Call (.Name "range" p) [a, b] [] pos) (iRng2 ta) := by
  intro pins s σ H R I h
  refine Call_ (ld_blt I hg hm boot_range (PyProof.Rows.callWith_type1 (thn (ha pos pins s σ H _ I h) fun us s1 ⟨vs, H1, I1, r1, q1⟩ => ?_) (by rw [hs, hs2]) (by rw [hs2]; rfl)))
  obtain ⟨i, j, e, ⟨q1, q2, q3, q4⟩, q⟩ := q1
  subst e
  cases r1 with
  | cons r rr =>
    cases rr with
    | cons r' rr =>
      cases rr
      obtain ⟨t, rfl⟩ := r
      obtain ⟨t', rfl⟩ := r'
      exact call_range_2 (range_it I1 q1 q2 q3 q4 q)

/-! ### for -/
/-- W: the invariant by the turn and a measure; N: what the body is to reach -/
def tFor (wi : TI) (g : TG) (tb : TS) : TS := fun D σ H => wi σ H fun J H1 => ∃ W : Nat → Nat → St → Hp → Prop, (∃ m, W 0 m σ H1) ∧ ∀ i m σ H, W i m σ H →
  (J.stop i H ∧ D.nx σ H) ∨ (J.go i H ∧ ∃ N : St → Hp → Prop, (∀ σ' H', N σ' H' → ∃ m', m' < m ∧ W (i + 1) m' σ' H') ∧ ∀ x H', J.yld i H x H' → g x σ H' fun σ2 H2 => tb { D with nx := N, ct := N, bk := D.nx } σ2 H2)
/-- the records at fp as they stand -/
def pinsAt (fp : List Addr) (h : Heap) : List (Addr × Obj) := fp.filterMap fun b => (h.get? b).map fun o => (b, o)
theorem mem_pinsAt {fp : List Addr} {h : Heap} {b : Addr} {o : Obj} (hb : b ∈ fp) (e : h.get? b = some o) : (b, o) ∈ pinsAt fp h := List.mem_filterMap.mpr ⟨b, hb, by rw [e]; rfl⟩
theorem of_pinsAt {fp : List Addr} {h : Heap} {p : Addr × Obj} (hp : p ∈ pinsAt fp h) : p.1 ∈ fp ∧ h.get? p.1 = some p.2 := by
  obtain ⟨b, hb, e⟩ := List.mem_filterMap.mp hp
  cases q : h.get? b with
  | none => rw [q] at e; cases e
  | some o =>
    rw [q] at e
    have e' : (b, o) = p := Option.some.inj e
    subst e'
    exact ⟨hb, q⟩
theorem Inv.pinned {pins : List (Addr × Obj)} {σ : St} {H : Hp} {s : Shared} {fp : List Addr} (I : Inv X pins σ H s) (hf : ∀ b ∈ fp, FpOk X pins H b) (ho : ∀ b ∈ fp, ∃ o, s.heap.get? b = some o ∧ ∀ v, o.data ≠ .cell v) : Inv X (pins ++ pinsAt fp s.heap) σ H s :=
  I.pins_of fun p hp => (List.mem_append.mp hp).elim (fun z => I.pin p (List.mem_append_right _ z)) fun z => by
    obtain ⟨hb, e⟩ := of_pinsAt z
    obtain ⟨f0, f1, f2, _⟩ := hf p.1 hb
    obtain ⟨o, e', d⟩ := ho p.1 hb
    rw [e] at e'; cases e'
    exact ⟨e, f0, f1, f2, d⟩
theorem Inv.unpinned {pins pl : List (Addr × Obj)} {σ : St} {H : Hp} {s : Shared} (I : Inv X (pins ++ pl) σ H s) : Inv X pins σ H s := I.pins_of fun p hp => I.pin p (List.mem_append_right _ (List.mem_append_left _ hp))
theorem ps_for {iter : Expr} {body : List Stmt} {wi : TI} {g : TG} {tb : TS} {pos : Pos} (hp : PassesOwn (model X.prog X.w) X.A X.env X.xe) (hc : X.calm = true) (hi : PI X tg iter wi) (hg : PG X tg g) (hb : PSs X body tb)
    (hs : ∀ x, foldedSetIterable iter X.env x = pure x := by intro _; rfl) : PS X (.For tg iter body [] pos) (tFor wi g tb) := by
  intro pins s σ H D I h
  refine wpAny_For (thn (hi pins s σ H _ I h) fun v s1 h1 => thn h1 fun itv s2 h2 => ?_) hs
  obtain ⟨it, fp, tn, J, H2, e, I2, T, st2, f2, W, ⟨m0, w0⟩, turn⟩ := h2
  subst e
  -- what stays true of the iterator's objects through the loop
  have stat : ∀ {H' : Hp}, (∀ b ∈ fp, H' b = none) → ∀ b ∈ fp, FpOk X pins H' b := fun hn b hb => ⟨hn b hb, (f2 b hb).2⟩
  refine codeAny_forLoop_any (fun n s' => ∃ i σ' H', Inv X pins σ' H' s' ∧ tn i s'.heap ∧ (∀ b ∈ fp, H' b = none) ∧ W i n σ' H') ?_ m0 ⟨0, σ, H2, I2, st2, fun b hb => (f2 b hb).1, w0⟩
  rintro n s3 ⟨i, σ3, H3, I3, st3, fr3, w3⟩
  rcases turn i n σ3 H3 w3 with ⟨stop, qn⟩ | ⟨go, N, hN, step⟩
  · refine wpAny_passesOwn hp (thn (T.done X rfl rfl rfl hc i pins s3 σ3 H3 X.xe I3 (stat fr3) st3 stop) fun r s4 ⟨hr, I4⟩ => ?_)
    subst hr
    exact wpAny_execs_nil ⟨σ3, H3, I4, qn⟩
  · refine wpAny_passesOwn hp (thn (T.item X rfl rfl rfl hc i pins s3 σ3 H3 X.xe I3 (stat fr3) st3 go) fun r s4 ⟨u, hr, h4⟩ => ?_)
    subst hr
    refine wpAny_passesOwn hp (thn h4 fun _ s5 ⟨x, H5, I5, r5, y5, st5, fr5⟩ => ?_)
    have I5' := I5.pinned (stat fr5) (T.obj _ _ st5)
    refine wpAny_passesOwn hp (thn (hg _ s5 σ3 H5 x u _ I5' r5 (step x H5 y5)) fun _ s6 ⟨σ6, H6, I6, q6⟩ => ?_)
    refine wpAny_passesOwn hp (thn (hb _ s6 σ6 H6 _ I6 q6) fun f s7 q7 => ?_)
    have again : ∀ {σ7 : St} {H7 : Hp}, Inv X (pins ++ pinsAt fp s5.heap) σ7 H7 s7 → N σ7 H7 → ∃ m, m < n ∧ ∃ i σ' H', Inv X pins σ' H' s7 ∧ tn i s7.heap ∧ (∀ b ∈ fp, H' b = none) ∧ W i m σ' H' := fun {σ7 H7} I7 n7 => by
      obtain ⟨m', hm, w7⟩ := hN σ7 H7 n7
      refine ⟨m', hm, i + 1, σ7, H7, I7.unpinned, T.keep _ _ _ st5 fun b hb o e => (I7.pin (b, o) (List.mem_append_right _ (List.mem_append_right _ (mem_pinsAt hb e)))).1, fun b hb => ?_, w7⟩
      obtain ⟨o, e, d⟩ := T.obj _ _ st5 b hb
      exact (I7.pin (b, o) (List.mem_append_right _ (List.mem_append_right _ (mem_pinsAt hb e)))).2.1
    cases f with
    | next => obtain ⟨σ7, H7, I7, n7⟩ := q7; exact again I7 n7
    | cont => obtain ⟨σ7, H7, I7, n7⟩ := q7; exact again I7 n7
    | brk => obtain ⟨σ7, H7, I7, q7⟩ := q7; exact ⟨σ7, H7, I7.unpinned, q7⟩
    | ret v => obtain ⟨x7, σ7, H7, I7, r7, q7⟩ := q7; exact ⟨x7, σ7, H7, I7.unpinned, r7, q7⟩
end

/-! ### the forms one uses -/
/-- over a list that the body leaves as it is -/
theorem for_list {K : PySem.W.Frag} {a : Addr} {xs : List V} {g : TG} {tb : TS} {D : Ends} {σ : St} {H : Hp} (Pv : Nat → St → Hp → Prop) (h0 : Pv 0 σ H) (hl : ∀ i σ H, i ≤ xs.length → Pv i σ H → SqL K H a xs)
    (hs : ∀ i x σ H, xs[i]? = some x → Pv i σ H → g x σ H fun σ2 H2 => tb { D with nx := Pv (i + 1), ct := Pv (i + 1), bk := D.nx } σ2 H2) (hd : ∀ σ H, Pv xs.length σ H → D.nx σ H) :
    ∃ W : Nat → Nat → St → Hp → Prop, (∃ m, W 0 m σ H) ∧ ∀ i m σ H, W i m σ H →
      ((Itl K a).stop i H ∧ D.nx σ H) ∨ ((Itl K a).go i H ∧ ∃ N : St → Hp → Prop, (∀ σ' H', N σ' H' → ∃ m', m' < m ∧ W (i + 1) m' σ' H') ∧ ∀ x H', (Itl K a).yld i H x H' → g x σ H' fun σ2 H2 => tb { D with nx := N, ct := N, bk := D.nx } σ2 H2) := by
  refine ⟨fun i m σ H => m = xs.length - i ∧ i ≤ xs.length ∧ Pv i σ H, ⟨xs.length, by simp, Nat.zero_le _, h0⟩, ?_⟩
  rintro i m σ H ⟨rfl, hi, p⟩
  have q := hl i σ H hi p
  by_cases hlt : i < xs.length
  · refine .inr ⟨⟨xs, xs[i], q, by simp [hlt]⟩, Pv (i + 1), fun σ' H' p' => ⟨xs.length - (i + 1), by omega, rfl, hlt, p'⟩, fun x H' y => ?_⟩
    obtain ⟨e, y⟩ := y
    subst e
    exact hs i x σ _ (y xs q) p
  · have e : i = xs.length := by omega
    subst e
    exact .inl ⟨⟨xs, q, Nat.le_refl _⟩, hd σ H p⟩
theorem for_range {lo : Int} {n : Nat} {g : TG} {tb : TS} {D : Ends} {σ : St} {H : Hp} (Pv : Nat → St → Hp → Prop) (h0 : Pv 0 σ H)
    (hs : ∀ i σ H, i < n → Pv i σ H → g (.int (lo + i)) σ H fun σ2 H2 => tb { D with nx := Pv (i + 1), ct := Pv (i + 1), bk := D.nx } σ2 H2) (hd : ∀ σ H, Pv n σ H → D.nx σ H) :
    ∃ W : Nat → Nat → St → Hp → Prop, (∃ m, W 0 m σ H) ∧ ∀ i m σ H, W i m σ H →
      ((Itr lo n).stop i H ∧ D.nx σ H) ∨ ((Itr lo n).go i H ∧ ∃ N : St → Hp → Prop, (∀ σ' H', N σ' H' → ∃ m', m' < m ∧ W (i + 1) m' σ' H') ∧ ∀ x H', (Itr lo n).yld i H x H' → g x σ H' fun σ2 H2 => tb { D with nx := N, ct := N, bk := D.nx } σ2 H2) := by
  refine ⟨fun i m σ H => m = n - i ∧ i ≤ n ∧ Pv i σ H, ⟨n, by simp, Nat.zero_le _, h0⟩, ?_⟩
  rintro i m σ H ⟨rfl, hi, p⟩
  by_cases hlt : i < n
  · refine .inr ⟨hlt, Pv (i + 1), fun σ' H' p' => ⟨n - (i + 1), by omega, rfl, hlt, p'⟩, fun x H' y => ?_⟩
    obtain ⟨e, y⟩ := y
    subst e y
    exact hs i σ _ hlt p
  · have e : i = n := by omega
    subst e
    exact .inl ⟨Nat.le_refl _, hd σ H p⟩
end L2

namespace L2
open PySem PySem.Spec PyProof.Rows

abbrev R2 := V → V → Hp → VK → Prop
/-- a two-place operation on values: f is binaryOp op, inplaceOp op or compareOp op -/
def OpR (X : Cx) (f : Value → Value → Sem Value) (r : R2) : Prop :=
  ∀ (pins : List (Addr × Obj)) (s : Shared) (σ : St) (H : Hp) (x y : V) (v u : Value) (Q : VK), Inv X pins σ H s → RelV x v → RelV y u → r x y H Q →
    wpAny (model X.prog X.w) X.A (f v u) (EP X pins σ Q) X.xe s
/-- a one-place operation -/
def UnR (X : Cx) (f : Value → Sem Value) (r : V → Hp → VK → Prop) : Prop :=
  ∀ (pins : List (Addr × Obj)) (s : Shared) (σ : St) (H : Hp) (x : V) (v : Value) (Q : VK), Inv X pins σ H s → RelV x v → r x H Q →
    wpAny (model X.prog X.w) X.A (f v) (EP X pins σ Q) X.xe s
/-- a call of a value that is known (a builtin, a type) with values -/
def CallR (X : Cx) (f : Value) (r : List V → Hp → VK → Prop) : Prop :=
  ∀ (pins : List (Addr × Obj)) (s : Shared) (σ : St) (H : Hp) (xs : List V) (us : List Value) (Q : VK), Inv X pins σ H s → Vals xs us → r xs H Q →
    wpAny (model X.prog X.w) X.A (call f us) (EP X pins σ Q) X.xe s
/-- a value's truth -/
def TruR (X : Cx) (r : V → Hp → (Bool → Hp → Prop) → Prop) : Prop :=
  ∀ (pins : List (Addr × Obj)) (s : Shared) (σ : St) (H : Hp) (x : V) (v : Value) (Q : Bool → Hp → Prop), Inv X pins σ H s → RelV x v → r x H Q →
    wpAny (model X.prog X.w) X.A (truthy v) (TP X pins σ Q) X.xe s

def tOp (r : R2) (ta tb : TE) : TE := fun σ H Q => ta σ H fun x H1 => tb σ H1 fun y H2 => r x y H2 Q
def tUn (r : V → Hp → VK → Prop) (ta : TE) : TE := fun σ H Q => ta σ H fun x H1 => r x H1 Q
/-- ints in, under C, and a value out -/
def rI (C : Int → Int → Prop) (g : Int → Int → V) : R2 := fun x y H Q => ∃ i j, x = .int i ∧ y = .int j ∧ C i j ∧ Q (g i j) H
def rI0 (g : Int → Int → V) : R2 := fun x y H Q => ∃ i j, x = .int i ∧ y = .int j ∧ Q (g i j) H
def rU (g : Int → V) : V → Hp → VK → Prop := fun x H Q => ∃ i, x = .int i ∧ Q (g i) H

section
variable {X : Cx} {a b c : Expr} {ta tb tc : TE} {pos : Pos}

theorem binT (ha : PE X a ta) (hb : PE X b tb) {pins : List (Addr × Obj)} {s : Shared} {σ : St} {H : Hp} {R : V → V → Hp → Prop} (I : Inv X pins σ H s)
    (h : ta σ H fun x H1 => tb σ H1 fun y H2 => R x y H2) {Q : Value → Shared → Prop} {f : Value → Value → Sem Value}
    (hf : ∀ v u s2 x y H2, Inv X pins σ H2 s2 → RelV x v → RelV y u → R x y H2 → wpAny (model X.prog X.w) X.A (f v u) Q X.xe s2) :
    wpAny (model X.prog X.w) X.A (eval a X.env) (fun v s₁ => wpAny (model X.prog X.w) X.A (eval b X.env) (fun u s₂ => wpAny (model X.prog X.w) X.A (f v u) Q X.xe s₂) X.xe s₁) X.xe s := by
  refine thn (ha pins s σ H _ I h) fun v s1 ⟨x, H1, I1, r1, q1⟩ => ?_
  refine thn (hb pins s1 σ H1 _ I1 q1) fun u s2 ⟨y, H2, I2, r2, q2⟩ => ?_
  exact hf v u s2 x y H2 I2 r1 r2 q2

theorem pe_op {op : Operator} {r : R2} (ho : OpR X (binaryOp op) r) (ha : PE X a ta) (hb : PE X b tb) : PE X (.BinOp a op b pos) (tOp r ta tb) := by
  intro pins s σ H Q I h
  exact wpAny_BinOp (binT ha hb I h fun v u s2 x y H2 I2 rx ry q => ho pins s2 σ H2 x y v u Q I2 rx ry q)
theorem pe_un {op : UnaryOp} {r : V → Hp → VK → Prop} (ho : UnR X (unaryOp op) r) (ha : PE X a ta) : PE X (.UnaryOp op a pos) (tUn r ta) := by
  intro pins s σ H Q I h
  exact UnaryOp_ (thn (ha pins s σ H _ I h) fun v s1 ⟨x, H1, I1, r1, q1⟩ => ho pins s1 σ H1 x v Q I1 r1 q1)
/-! ### ints -/
theorem opI {f : Value → Value → Sem Value} {C : Int → Int → Prop} {g : Int → Int → Int}
    (rule : ∀ (i j : Int) (t u : Tok) (s : Shared) (Q : Value → Shared → Prop) (E : Value → Shared → Prop), C i j → Q (.int (g i j) s.toks) { s with toks := s.toks + 1 } → wpAny (model X.prog X.w) X.A (f (.int i t) (.int j u)) Q E s) :
    OpR X f (rI C fun i j => .int (g i j)) := by
  intro pins s σ H x y v u Q I rx ry h
  obtain ⟨i, j, rfl, rfl, hc, q⟩ := h
  obtain ⟨t, rfl⟩ := rx
  obtain ⟨t', rfl⟩ := ry
  exact rule i j t t' s _ _ hc ⟨.int (g i j), H, I.tok _, ⟨_, rfl⟩, q⟩
theorem opI0 {f : Value → Value → Sem Value} {g : Int → Int → Int}
    (rule : ∀ (i j : Int) (t u : Tok) (s : Shared) (Q : Value → Shared → Prop) (E : Value → Shared → Prop), Q (.int (g i j) s.toks) { s with toks := s.toks + 1 } → wpAny (model X.prog X.w) X.A (f (.int i t) (.int j u)) Q E s) :
    OpR X f (rI0 fun i j => .int (g i j)) := by
  intro pins s σ H x y v u Q I rx ry h
  obtain ⟨i, j, rfl, rfl, q⟩ := h
  obtain ⟨t, rfl⟩ := rx
  obtain ⟨t', rfl⟩ := ry
  exact rule i j t t' s _ _ ⟨.int (g i j), H, I.tok _, ⟨_, rfl⟩, q⟩
theorem opB0 {f : Value → Value → Sem Value} {g : Int → Int → Bool}
    (rule : ∀ (i j : Int) (t u : Tok) (s : Shared) (Q : Value → Shared → Prop) (E : Value → Shared → Prop), Q (.bool (g i j)) s → wpAny (model X.prog X.w) X.A (f (.int i t) (.int j u)) Q E s) :
    OpR X f (rI0 fun i j => .bl (g i j)) := by
  intro pins s σ H x y v u Q I rx ry h
  obtain ⟨i, j, rfl, rfl, q⟩ := h
  obtain ⟨t, rfl⟩ := rx
  obtain ⟨t', rfl⟩ := ry
  exact rule i j t t' s _ _ ⟨.bl (g i j), H, I, rfl, q⟩

def CDiv (i j : Int) : Prop := 0 < j ∧ j < 1073741824
def CDivN (i j : Int) : Prop := j ≠ 0 ∧ j.natAbs < 1073741824
def CPow (i j : Int) : Prop := 0 ≤ j ∧ j ≤ 1000000 ∧ i.natAbs < 2 ^ 64
def CMul (i j : Int) : Prop := (-(2 ^ 64) < i ∧ i < 2 ^ 64) ∨ (-(2 ^ 64) < j ∧ j < 2 ^ 64)
theorem CMul.ok {i j : Int} (h : CMul i j) : IntMulOk i j := by
  rcases h with ⟨h1, h2⟩ | ⟨h1, h2⟩
  · exact .of_left (intBits_le_64 h1 h2)
  · exact .of_right (intBits_le_64 h1 h2)
theorem op_add : OpR X (binaryOp .Add) (rI0 fun i j => .int (i + j)) := opI0 fun _ _ _ _ _ _ _ q => add_int q
theorem op_sub : OpR X (binaryOp .Sub) (rI0 fun i j => .int (i - j)) := opI0 fun _ _ _ _ _ _ _ q => sub_int q
theorem op_mul : OpR X (binaryOp .Mult) (rI CMul fun i j => .int (i * j)) := opI fun _ _ _ _ _ _ _ hc q => mul_int q hc.ok
/-- // by a positive divisor -/
theorem op_fdiv : OpR X (binaryOp .FloorDiv) (rI CDiv fun i j => .int (i / j)) := opI fun i j _ _ _ _ _ hc q => by
  have h1 : (0 : Int) < j := hc.1
  have h2 : j < 1073741824 := hc.2
  exact floordiv_int (by omega) (by rw [Int.fdiv_eq_ediv_of_nonneg i (by omega)]; exact q) (.inl (PyProof.noPylong_small (by omega)))
/-- % by a positive divisor of any size -/
theorem op_mod : OpR X (binaryOp .Mod) (rI (fun _ j => 0 < j) fun i j => .int (i % j)) := opI fun i j _ _ _ _ _ hc q => by
  have h1 : (0 : Int) < j := hc
  exact mod_int' (by omega) (by rw [Int.fmod_eq_emod_of_nonneg i (by omega)]; exact q)
theorem op_pow : OpR X (binaryOp .Pow) (rI CPow fun i j => .int (i ^ j.toNat)) := opI fun _ _ _ _ _ _ _ hc q => pow_int_small hc.1 hc.2.1 hc.2.2 q
theorem unI {f : Value → Sem Value} {g : Int → Int}
    (rule : ∀ (i : Int) (t : Tok) (s : Shared) (Q : Value → Shared → Prop) (E : Value → Shared → Prop), Q (.int (g i) s.toks) { s with toks := s.toks + 1 } → wpAny (model X.prog X.w) X.A (f (.int i t)) Q E s) :
    UnR X f (rU fun i => .int (g i)) := by
  intro pins s σ H x v Q I rx h
  obtain ⟨i, rfl, q⟩ := h
  obtain ⟨t, rfl⟩ := rx
  exact rule i t s _ _ ⟨.int (g i), H, I.tok _, ⟨_, rfl⟩, q⟩
theorem un_neg : UnR X (unaryOp .USub) (rU fun i => .int (-i)) := unI fun _ _ _ _ _ q => neg_int q
/-! ### bools among ints: n += (a < b) -/
end

/-! ### comparisons -/
/-- the scalars that == tells apart as data does -/
def scal : V → V → Bool
  | .non, .non => true | .non, .int _ => true | .int _, .non => true | .non, .bl _ => true | .bl _, .non => true | .non, .str _ => true | .str _, .non => true
  | .int _, .int _ => true | .bl _, .bl _ => true | .str _, .str _ => true | .byt _, .byt _ => true
  | .int _, .str _ => true | .str _, .int _ => true | .bl _, .str _ => true | .str _, .bl _ => true
  | _, _ => false
def rEq : R2 := fun x y H Q => scal x y = true ∧ Q (.bl (decide (x = y))) H
def rNe : R2 := fun x y H Q => scal x y = true ∧ Q (.bl (!decide (x = y))) H

theorem dec_int {i j : Int} : decide (V.int i = V.int j) = (i == j) := by
  rw [Bool.eq_iff_iff]
  simp
theorem dec_bl {i j : Bool} : decide (V.bl i = V.bl j) = (i == j) := by
  rw [Bool.eq_iff_iff]
  simp
theorem dec_str {i j : Str} : decide (V.str i = V.str j) = (i == j) := by
  rw [Bool.eq_iff_iff]
  simp
theorem dec_byt {i j : Array UInt8} : decide (V.byt i = V.byt j) = (i.toList == j.toList) := by
  rw [Bool.eq_iff_iff]
  cases i
  cases j
  simp

section
variable {X : Cx} {a b c : Expr} {ta tb tc : TE} {pos : Pos}
theorem fin_bl {pins : List (Addr × Obj)} {σ : St} {H : Hp} {s : Shared} {Q : VK} {k k' : Bool} (I : Inv X pins σ H s) (q : Q (.bl k) H) (e : k = k') : EP X pins σ Q (.bool k') s := by
  subst e
  exact ⟨.bl k, H, I, rfl, q⟩
theorem op_eq : OpR X (compareOp .Eq) rEq := by
  intro pins s σ H x y v u Q I rx ry h
  obtain ⟨hs, q⟩ := h
  cases x with
  | non =>
    cases rx
    cases y with
    | non => cases ry; exact PySem.EqNone.eq_none_none (fin_bl I q (by simp))
    | bl j => cases ry; exact PySem.EqNone.eq_none_bool (fin_bl I q (by simp))
    | int j => obtain ⟨t', rfl⟩ := ry; exact PySem.EqNone.eq_none_int (fin_bl I q (by simp))
    | str j => obtain ⟨t', rfl⟩ := ry; exact PySem.EqNone.eq_none_str (fin_bl I q (by simp))
    | _ => exact absurd (show false = true from hs) Bool.false_ne_true
  | bl i =>
    cases rx
    cases y with
    | non => cases ry; exact PySem.EqNone.eq_bool_none (fin_bl I q (by simp))
    | bl j => cases ry; exact eq_bool (fin_bl I q dec_bl)
    | str j => obtain ⟨t', rfl⟩ := ry; exact PySem.EqMixed.eq_bool_str (fin_bl I q (by simp))
    | _ => exact absurd (show false = true from hs) Bool.false_ne_true
  | int i =>
    obtain ⟨t, rfl⟩ := rx
    cases y with
    | non => cases ry; exact PySem.EqNone.eq_int_none (fin_bl I q (by simp))
    | int j => obtain ⟨t', rfl⟩ := ry; exact eq_int (fin_bl I q dec_int)
    | str j => obtain ⟨t', rfl⟩ := ry; exact PySem.EqMixed.eq_int_str (fin_bl I q (by simp))
    | _ => exact absurd (show false = true from hs) Bool.false_ne_true
  | str i =>
    obtain ⟨t, rfl⟩ := rx
    cases y with
    | non => cases ry; exact PySem.EqNone.eq_str_none (fin_bl I q (by simp))
    | bl j => cases ry; exact PySem.EqMixed.eq_str_bool (fin_bl I q (by simp))
    | int j => obtain ⟨t', rfl⟩ := ry; exact PySem.EqMixed.eq_str_int (fin_bl I q (by simp))
    | str j => obtain ⟨t', rfl⟩ := ry; exact eq_str (fin_bl I q dec_str)
    | _ => exact absurd (show false = true from hs) Bool.false_ne_true
  | byt i =>
    obtain ⟨t, rfl⟩ := rx
    cases y with
    | byt j => obtain ⟨t', rfl⟩ := ry; exact PySem.W.eq_bytes (fin_bl I q dec_byt)
    | _ => exact absurd (show false = true from hs) Bool.false_ne_true
  | _ => cases y <;> exact absurd (show false = true from hs) Bool.false_ne_true
theorem op_ne : OpR X (compareOp .NotEq) rNe := by
  intro pins s σ H x y v u Q I rx ry h
  obtain ⟨hs, q⟩ := h
  cases x with
  | non =>
    cases rx
    cases y with
    | non => cases ry; exact PySem.EqNone.ne_none_none (fin_bl I q (by simp))
    | bl j => cases ry; exact PySem.EqNone.ne_none_bool (fin_bl I q (by simp))
    | int j => obtain ⟨t', rfl⟩ := ry; exact PySem.EqNone.ne_none_int (fin_bl I q (by simp))
    | str j => obtain ⟨t', rfl⟩ := ry; exact PySem.EqNone.ne_none_str (fin_bl I q (by simp))
    | _ => exact absurd (show false = true from hs) Bool.false_ne_true
  | bl i =>
    cases rx
    cases y with
    | non => cases ry; exact PySem.EqNone.ne_bool_none (fin_bl I q (by simp))
    | bl j => cases ry; exact ne_bool (fin_bl I q (congrArg not dec_bl))
    | str j => obtain ⟨t', rfl⟩ := ry; exact PySem.EqMixed.ne_bool_str (fin_bl I q (by simp))
    | _ => exact absurd (show false = true from hs) Bool.false_ne_true
  | int i =>
    obtain ⟨t, rfl⟩ := rx
    cases y with
    | non => cases ry; exact PySem.EqNone.ne_int_none (fin_bl I q (by simp))
    | int j => obtain ⟨t', rfl⟩ := ry; exact ne_int (fin_bl I q (congrArg not dec_int))
    | str j => obtain ⟨t', rfl⟩ := ry; exact PySem.EqMixed.ne_int_str (fin_bl I q (by simp))
    | _ => exact absurd (show false = true from hs) Bool.false_ne_true
  | str i =>
    obtain ⟨t, rfl⟩ := rx
    cases y with
    | non => cases ry; exact PySem.EqNone.ne_str_none (fin_bl I q (by simp))
    | bl j => cases ry; exact PySem.EqMixed.ne_str_bool (fin_bl I q (by simp))
    | int j => obtain ⟨t', rfl⟩ := ry; exact PySem.EqMixed.ne_str_int (fin_bl I q (by simp))
    | str j => obtain ⟨t', rfl⟩ := ry; exact ne_str (fin_bl I q (congrArg not dec_str))
    | _ => exact absurd (show false = true from hs) Bool.false_ne_true
  | byt i =>
    obtain ⟨t, rfl⟩ := rx
    cases y with
    | byt j => obtain ⟨t', rfl⟩ := ry; exact PySem.W.ne_bytes (fin_bl I q (congrArg not dec_byt))
    | _ => exact absurd (show false = true from hs) Bool.false_ne_true
  | _ => cases y <;> exact absurd (show false = true from hs) Bool.false_ne_true

theorem op_lt : OpR X (compareOp .Lt) (rI0 fun i j => .bl (decide (i < j))) := opB0 fun _ _ _ _ _ _ _ q => lt_int q
theorem op_le : OpR X (compareOp .LtE) (rI0 fun i j => .bl (decide (i ≤ j))) := opB0 fun _ _ _ _ _ _ _ q => le_int q
theorem op_gt : OpR X (compareOp .Gt) (rI0 fun i j => .bl (decide (j < i))) := opB0 fun _ _ _ _ _ _ _ q => gt_int q
theorem op_ge : OpR X (compareOp .GtE) (rI0 fun i j => .bl (decide (j ≤ i))) := opB0 fun _ _ _ _ _ _ _ q => ge_int q
/-- the one string within the other -/
theorem op_in_str : OpR X (compareOp .In) (fun x y H Q => ∃ i j, x = .str i ∧ y = .str j ∧ Q (.bl (!(Builtin.Str.occurrences j i 0 j.length 1).isEmpty)) H) := by
  intro pins s σ H x y v u Q I rx ry h
  obtain ⟨i, j, rfl, rfl, q⟩ := h
  obtain ⟨t, rfl⟩ := rx
  obtain ⟨t', rfl⟩ := ry
  exact in_str (fin_bl I q rfl)

/-- is None, is not None: the right side a value none -/
theorem op_isN : OpR X (compareOp .Is) (fun x y H Q => y = .non ∧ Q (.bl (decide (x = .non))) H) := by
  intro pins s σ H x y v u Q I rx ry h
  obtain ⟨rfl, q⟩ := h
  cases ry
  refine is_none_gen (fin_bl I q ?_)
  cases x <;> first
    | (cases rx; rfl)
    | (obtain ⟨t, rfl⟩ := rx; rfl)
theorem op_notN : OpR X (compareOp .IsNot) (fun x y H Q => y = .non ∧ Q (.bl (!decide (x = .non))) H) := by
  intro pins s σ H x y v u Q I rx ry h
  obtain ⟨rfl, q⟩ := h
  cases ry
  refine isnot_none_gen (fin_bl I q ?_)
  cases x <;> first
    | (cases rx; rfl)
    | (obtain ⟨t, rfl⟩ := rx; rfl)

/-- is, is not of two objects that are tracked lists or instances -/
def isObj : HO → Bool
  | .lst _ => true
  | .ins _ _ _ => true
  | _ => false
/-- two rules for one operation: by cases -/
theorem OpR.or {f : Value → Value → Sem Value} {r r' : R2} (h : OpR X f r) (h' : OpR X f r') : OpR X f (fun x y H Q => r x y H Q ∨ r' x y H Q) := by
  intro pins s σ H x y v u Q I rx ry q
  rcases q with q | q
  · exact h pins s σ H x y v u Q I rx ry q
  · exact h' pins s σ H x y v u Q I rx ry q

theorem nomark (b : Expr) {op : CmpOp} (h : op ≠ .In := by decide) (h2 : op ≠ .NotIn := by decide) : behindInMarks op b = false := by
  have e1 : (op == CmpOp.In) = false := by cases op <;> first | rfl | exact absurd rfl h
  have e2 : (op == CmpOp.NotIn) = false := by cases op <;> first | rfl | exact absurd rfl h2
  cases b <;> simp [behindInMarks, e1, e2]
/-- a comparison as a value; hm: nomark b, or (for in, not in) by with_unfolding_all rfl -/
theorem pe_cmpR {op : CmpOp} {r : R2} (ho : OpR X (compareOp op) r) (ha : PE X a ta) (hb : PE X b tb) (hm : behindInMarks op b = false) : PE X (.Compare a [op] [b] pos) (tOp r ta tb) := by
  intro pins s σ H Q I h
  exact wpAny_Compare1 (binT ha hb I h fun v u s2 x y H2 I2 rx ry q => ho pins s2 σ H2 x y v u Q I2 rx ry q) hm
/-- a reading of a value as a test -/
def tTest (t : TE) : TT := fun σ H Q => t σ H fun x H' => ∃ k, x = .bl k ∧ Q k H'
theorem pt_cmpR {op : CmpOp} {r : R2} (ho : OpR X (compareOp op) r) (ha : PE X a ta) (hb : PE X b tb) (hm : behindInMarks op b = false) : PT X (.Compare a [op] [b] pos) (tTest (tOp r ta tb)) := by
  intro pins s σ H Q I h
  refine wpAny_isTrue_Compare1 (thn (ha pins s σ H _ I h) fun v s1 ⟨x, H1, I1, r1, q1⟩ => thn (hb pins s1 σ H1 _ I1 q1) fun u s2 ⟨y, H2, I2, r2, q2⟩ =>
    thn (ho pins s2 σ H2 x y v u _ I2 r1 r2 q2) fun c s3 ⟨z, H3, I3, r3, k, e, q3⟩ => ?_) hm
  subst e
  cases r3
  exact wpAny_truthy_bool ⟨H3, I3, q3⟩
/-- a op1 b op2 c -/
def tChain (r r' : R2) (ta tb tc : TE) : TE := fun σ H Q => ta σ H fun x H1 => tb σ H1 fun y H2 => r x y H2 fun z H3 => ∃ k, z = .bl k ∧
  (if k = true then tc σ H3 fun w' H4 => r' y w' H4 Q else Q (.bl false) H3)
theorem pe_chain {op op' : CmpOp} {r r' : R2} (ho : OpR X (compareOp op) r) (ho' : OpR X (compareOp op') r') (ha : PE X a ta) (hb : PE X b tb) (hc : PE X c tc)
    (hm : lastMarks [op, op'] [b, c] = false := by with_unfolding_all rfl) : PE X (.Compare a [op, op'] [b, c] pos) (tChain r r' ta tb tc) := by
  intro pins s σ H Q I h
  refine Compare_chain (thn (ha pins s σ H _ I h) fun v s1 ⟨x, H1, I1, r1, q1⟩ => chain_link (thn (hb pins s1 σ H1 _ I1 q1) fun u s2 ⟨y, H2, I2, r2, q2⟩ =>
    thn (ho pins s2 σ H2 x y v u _ I2 r1 r2 q2) fun d s3 ⟨z, H3, I3, r3, k, e, q3⟩ => ?_)) hm
  subst e
  cases r3
  refine wpAny_truthy_bool ?_
  cases k with
  | false => exact ite_ff ⟨.bl false, H3, I3, rfl, q3⟩
  | true => exact ite_tt (chain_last (thn (hc pins s3 σ H3 _ I3 q3) fun w' s4 ⟨z', H4, I4, r4, q4⟩ => ho' pins s4 σ H4 y z' u w' Q I4 r2 r4 q4))
theorem pt_chain {op op' : CmpOp} {r r' : R2} (ho : OpR X (compareOp op) r) (ho' : OpR X (compareOp op') r') (ha : PE X a ta) (hb : PE X b tb) (hc : PE X c tc)
    (hm : lastMarks [op, op'] [b, c] = false := by with_unfolding_all rfl) : PT X (.Compare a [op, op'] [b, c] pos) (tTest (tChain r r' ta tb tc)) := by
  intro pins s σ H Q I h
  refine isTrue_chain (thn (ha pins s σ H _ I h) fun v s1 ⟨x, H1, I1, r1, q1⟩ => test_link (thn (hb pins s1 σ H1 _ I1 q1) fun u s2 ⟨y, H2, I2, r2, q2⟩ =>
    thn (ho pins s2 σ H2 x y v u _ I2 r1 r2 q2) fun d s3 ⟨z, H3, I3, r3, k, e, q3⟩ => ?_)) hm
  subst e
  cases r3
  refine wpAny_truthy_bool ?_
  cases k with
  | false =>
    obtain ⟨k', e', q'⟩ := q3
    cases e'
    exact ite_ff ⟨H3, I3, q'⟩
  | true =>
    refine ite_tt (test_last (thn (hc pins s3 σ H3 _ I3 q3) fun w' s4 ⟨z', H4, I4, r4, q4⟩ => thn (ho' pins s4 σ H4 y z' u w' _ I4 r2 r4 q4) fun d' s5 ⟨z2, H5, I5, r5, k2, e2, q5⟩ => ?_))
    subst e2
    cases r5
    exact wpAny_truthy_bool ⟨H5, I5, q5⟩

/-! ### truth -/
/-- a value's truth by the abstract heap -/
def TruV (K : PySem.W.Frag) (x : V) (H : Hp) (k : Bool) : Prop :=
  match x with
  | .non => k = false
  | .bl b => k = b
  | .int i => k = (i != 0)
  | .str y => y.length ≤ sizeLine ∧ k = ((y.length : Int) != 0)
  | .byt y => y.size ≤ sizeLine ∧ k = ((y.size : Int) != 0)
  | .ref p => (∃ xs, SqL K H p xs ∧ k = !xs.isEmpty) ∨ (∃ xs, SqT K H p xs ∧ k = !xs.isEmpty) ∨ ∃ kvs, H p = some (.dK kvs) ∧ k = !kvs.isEmpty
  | _ => False
theorem line63 : (sizeLine : Nat) < 2 ^ 63 := by rw [sizeLine_eq]; decide
/-! ### strs and bytes -/
theorem op_add_str : OpR X (binaryOp .Add) (fun x y H Q => ∃ i j, x = .str i ∧ y = .str j ∧ i.length + j.length ≤ sizeLine ∧ Q (.str (i ++ j)) H) := by
  intro pins s σ H x y v u Q I rx ry h
  obtain ⟨i, j, rfl, rfl, hz, q⟩ := h
  obtain ⟨t, rfl⟩ := rx
  obtain ⟨t', rfl⟩ := ry
  exact add_str (fun t' tk => ⟨.str (i ++ j), H, I.tok _, ⟨_, rfl⟩, q⟩) hz
def PlainIxT (b : Expr) : Prop := ∀ o i, subscripted b false o i = operate [o, i] (getItem o i)
/-! ### scalar builtins, by CallR -/
theorem vals1 {x : V} {us : List Value} (r : Vals [x] us) : ∃ u, us = [u] ∧ RelV x u := by
  cases r with
  | cons r1 r2 => cases r2; exact ⟨_, rfl, r1⟩
theorem vals2 {x y : V} {us : List Value} (r : Vals [x, y] us) : ∃ u w', us = [u, w'] ∧ RelV x u ∧ RelV y w' := by
  cases r with
  | cons r1 r2 =>
    cases r2 with
    | cons r3 r4 => cases r4; exact ⟨_, _, rfl, r1, r3⟩
theorem call_min2 (hc : X.calm = true) : CallR X (.builtin "min") (fun xs H Q => ∃ i j, xs = [.int i, .int j] ∧ Q (.int (if j < i then j else i)) H) := by
  intro pins s σ H xs us Q I r h
  obtain ⟨i, j, rfl, q⟩ := h
  obtain ⟨u, w', rfl, ⟨t, rfl⟩, ⟨t', rfl⟩⟩ := vals2 r
  refine min_two_ints (I.ok.hd hc) fun h' tk k => ⟨_, H, I.kept k, ?_, q⟩
  by_cases hj : j < i
  · rw [if_pos hj, if_pos hj]; exact ⟨_, rfl⟩
  · rw [if_neg hj, if_neg hj]; exact ⟨_, rfl⟩
theorem call_int1 : CallR X (.type "int") (fun xs H Q => (∃ i, xs = [.int i] ∧ Q (.int i) H) ∨ ∃ k, xs = [.bl k] ∧ Q (.int (if k then 1 else 0)) H) := by
  intro pins s σ H xs us Q I r h
  rcases h with ⟨i, rfl, q⟩ | ⟨k, rfl, q⟩
  · obtain ⟨u, rfl, t, rfl⟩ := vals1 r
    exact call_int_int ⟨.int i, H, I, ⟨_, rfl⟩, q⟩
  · obtain ⟨u, rfl, r1⟩ := vals1 r
    cases r1
    exact call_int_bool ⟨.int (if k then 1 else 0), H, I.tok _, ⟨_, rfl⟩, q⟩
/-- len of a str, a bytes, a list, a tuple -/
def LenV (K : PySem.W.Frag) (x : V) (H : Hp) (n : Nat) : Prop :=
  match x with
  | .str y => y.length ≤ sizeLine ∧ n = y.length
  | .byt y => y.size ≤ sizeLine ∧ n = y.size
  | .ref p => (∃ xs, SqL K H p xs ∧ n = xs.length) ∨ ∃ xs, SqT K H p xs ∧ n = xs.length
  | _ => False
end
end L2

namespace L2
open PySem PySem.Spec PyProof.Rows

/-! ### an instance, its attributes a map -/
structure ObjM (h : Heap) (x dx C : Addr) (mA : Str → Option Value) : Prop where
  obj : h.get? x = some (PySem.W.instObj C dx)
  ns : h.Ns1 dx mA
  ne : dx ≠ x

theorem lookIn_ns {h : Heap} {dx : Addr} {mA : Str → Option Value} (n : h.Ns1 dx mA) : ∃ od, h.get? dx = some od ∧ ∀ name, PySem.W.lookIn name od = some (mA name) := by
  obtain ⟨o, es, ep, ho, hd, hk, _, hm⟩ := n
  refine ⟨o, ho, fun name => ?_⟩
  have e := hm name
  unfold nsFind findBy at e
  rw [← Array.find?_toList] at e
  unfold PySem.W.lookIn
  rw [hd]
  dsimp only
  split
  · rename_i y q
    rw [q] at e
    exact congrArg some e
  · rename_i q
    rw [q] at e
    have a : es.toList.any (·.refKey) = false := by
      rw [List.any_eq_false]
      intro y hy
      obtain ⟨z, t, hkey⟩ := hk y (Array.mem_toList_iff.mp hy)
      simp [DictEntry.refKey, hkey]
    have a' : ¬ es.toList.any (·.refKey) = true := by rw [a]; exact Bool.false_ne_true
    rw [if_neg a']
    exact congrArg some e

theorem ObjM.look {h : Heap} {x dx C : Addr} {mA : Str → Option Value} (I : ObjM h x dx C mA) : ∃ od, PySem.W.InstAt h x (PySem.W.instObj C dx) C (some od) ∧ ∀ name, PySem.W.lookIn name od = some (mA name) :=
  let ⟨od, ho, hl⟩ := lookIn_ns I.ns
  ⟨od, ⟨I.obj, rfl, rfl, ho⟩, hl⟩

section
variable {prog : Program} {w : World} {A : Around} {E : Value → Shared → Prop} {s : Shared} {K : PySem.W.Frag} {x dx C f : Addr} {mA : Str → Option Value} {name : Str} {v : Value}

theorem get_map {expr : Bool} {Q : Value → Shared → Prop} (X : K.In s.heap) (I : ObjM s.heap x dx C mA) (hg : PySem.W.plainGet K C name = true) (hh : PySem.W.hasDictIn K C = true)
    (ha : PySem.W.findIn K (.ref C) name = some none) (hv : mA name = some v) (hv' : PySem.W.handedIn v = true) (h : Q v { s with toks := s.toks + 1 }) :
    wpAny (model prog w) A (getAttr (.ref x) name expr) Q E s := by
  obtain ⟨od, J, hl⟩ := I.look
  exact PySem.W.get_value X J (PySem.W.plainGet_of hg).1 (PySem.W.findObj_own hh ha rfl (by rw [hl, hv])) hv' h

theorem get_meth {pl : Sem Bool} {Q : Value × List Value → Shared → Prop} (X : K.In s.heap) (I : ObjM s.heap x dx C mA) (hg : PySem.W.plainGet K C name = true)
    (hf : PySem.W.findIn K (.ref C) name = some (some (.ref f))) (ht : PySem.W.isFn K (.ref f) = true) (hv : mA name = none) (h : Q (.ref f, [.ref x]) s) :
    wpAny (model prog w) A (getMethod (.ref x) name pl) Q E s := by
  obtain ⟨od, J, hl⟩ := I.look
  exact PySem.W.method_fn X J (PySem.W.plainGet_of hg).1 (PySem.W.plainGet_of hg).2 hf (beq_iff_eq.mp ht) (by show (PySem.W.lookIn name od).map (·.isSome) = some false; rw [hl, hv]; rfl) h

theorem set_map {ns : List Str} {Q : Unit → Shared → Prop} (X : K.In s.heap) (I : ObjM s.heap x dx C mA)
    (hs : PySem.W.findIn K (.ref C) "__setattr__" = some (some (.builtin "object.__setattr__"))) (hp : PySem.W.plainOver K C = true) (ht : PySem.W.takerIn K C name = some none) (hh : PySem.W.hasDictIn K C = true)
    (hw : PySem.Within mA ns) (hsz : ns.length ≤ sizeLine)
    (h : ∀ h', ObjM h' x dx C (fun y => if y = name then some v else mA y) → Heap.SameBut dx s.heap h' → Q () { s with heap := h', toks := s.toks + 2 }) :
    wpAny (model prog w) A (setAttr (.ref x) name v) Q E s := by
  obtain ⟨od, J, hl⟩ := I.look
  refine PySem.W.set_plain X J hs (PySem.W.osa_open (s := { s with toks := s.toks + 1 }) (r := none) X J hp ht fun b => ?_)
  obtain ⟨cd, hc, hd'⟩ := PySem.W.any_some hh
  have hx : s.heap.get? x = some ⟨.ref C, some dx, .plain, #[]⟩ := I.obj
  refine wpAny_bind (wpAny_pure (wpAny_bind (wpAny_bind (wpAny_loadPart hx (wpAny_bind (PySem.W.Looks.here (s := { s with toks := s.toks + 1 }) (PySem.W.looks_clsIn X hc) ?_))))))
  rw [hd']
  refine wpAny_pure (a := some dx) (wpAny_bind (wpAny_pure (wpAny_bind ?_)))
  refine wpAny_nsSet1 (s := { s with toks := s.toks + 1 }) I.ns fun h' hn2 hs2 => ?_
  obtain ⟨oD, esD, epD, hoD, hdD, hcD⟩ := hn2.count (PySem.Within.cons name v hw)
  refine wpAny_bind (wpAny_lookBehind hoD (by rw [hdD]; exact pastItsLine_dict (Nat.le_trans hcD (by rw [List.length_cons]; omega))) ?_)
  exact wpAny_pure (h _ ⟨(hs2.2 _ (Ne.symm I.ne)).trans I.obj, hn2, I.ne⟩ hs2)

/-- C(..): the dict at the heap's end, the instance behind it; then its __init__ -/
theorem make_map {R : Result → Shared → Prop} {vs : List Value} {kw : List (Str × Value)} (X : K.In s.heap) (hm : PySem.W.makesIn K C = true)
    (hi : PySem.W.findIn K (.ref C) "__init__" = some (some (.ref f))) (hf : PySem.W.typeIn K (.ref f) = some (.type "function"))
    (h : codeAny (model prog w) (A.under (.builtin "type.__call__" ⟨.ref C :: vs, kw⟩)) (.call (.ref f) ⟨.ref (s.heap.objs.size + 1) :: vs, kw⟩) (PySem.W.InitBack (s.heap.objs.size + 1) R)
      { s with heap := (s.heap.push PySem.W.emptyDict).push (PySem.W.instObj C s.heap.objs.size) }) :
    codeAny (model prog w) A (.call (.ref C) ⟨vs, kw⟩) R s := by
  obtain ⟨hh, g, d, t, os⟩ := s
  exact PySem.W.make_core (PySem.W.makes_of X hm) (PySem.W.looks_findIn X hi) (fun self => PySem.W.bind_fn X self hf) (.inl rfl) h
end

/-! ### the attributes as a list of pairs -/
def putF (f : Str) (v : V) : List (Str × V) → List (Str × V)
  | [] => [(f, v)]
  | (g, x) :: r => if g = f then (g, v) :: r else (g, x) :: putF f v r
theorem lookup_putF (f g : Str) (v : V) : ∀ fs : List (Str × V), (putF f v fs).lookup g = if g = f then some v else fs.lookup g
  | [] => by
    show List.lookup g [(f, v)] = _
    by_cases h : g = f
    · have hb : (g == f) = true := beq_iff_eq.mpr h
      simp only [List.lookup, hb, if_pos h]
    · have hb : (g == f) = false := beq_eq_false_iff_ne.mpr h
      simp only [List.lookup, hb, if_neg h]
  | (k, x) :: r => by
    have ih := lookup_putF f g v r
    rw [show putF f v ((k, x) :: r) = (if k = f then (k, v) :: r else (k, x) :: putF f v r) from rfl]
    by_cases hk : k = f
    · rw [if_pos hk]
      by_cases h : g = k
      · have hb : (g == k) = true := beq_iff_eq.mpr h
        simp only [List.lookup, hb, if_pos (h.trans hk)]
      · have hb : (g == k) = false := beq_eq_false_iff_ne.mpr h
        simp only [List.lookup, hb, if_neg (fun e : g = f => h (e.trans hk.symm))]
    · rw [if_neg hk]
      by_cases h : g = k
      · have hb : (g == k) = true := beq_iff_eq.mpr h
        simp only [List.lookup, hb, if_neg (fun e : g = f => hk (h.symm.trans e))]
      · have hb : (g == k) = false := beq_eq_false_iff_ne.mpr h
        simp only [List.lookup, hb]
        exact ih
theorem keys_putF (f : Str) (v : V) : ∀ fs : List (Str × V), f ∈ (putF f v fs).map (·.1) ∧ ∀ g, g ∈ fs.map (·.1) → g ∈ (putF f v fs).map (·.1)
  | [] => ⟨by simp [putF], fun g h => by simp at h⟩
  | (k, x) :: r => by
    obtain ⟨i1, i2⟩ := keys_putF f v r
    rw [show putF f v ((k, x) :: r) = (if k = f then (k, v) :: r else (k, x) :: putF f v r) from rfl]
    by_cases hk : k = f
    · rw [if_pos hk]
      subst hk
      exact ⟨by simp, fun g h => by simpa using h⟩
    · rw [if_neg hk]
      refine ⟨?_, fun g h => ?_⟩
      · rw [List.map_cons]
        exact List.mem_cons_of_mem _ i1
      · rw [List.map_cons] at h ⊢
        rcases List.mem_cons.mp h with e | e
        · exact List.mem_cons.mpr (.inl e)
        · exact List.mem_cons_of_mem _ (i2 g e)
theorem length_putF (f : Str) (v : V) : ∀ fs : List (Str × V), (putF f v fs).length ≤ fs.length + 1
  | [] => by simp [putF]
  | (k, x) :: r => by
    have ih := length_putF f v r
    rw [show putF f v ((k, x) :: r) = (if k = f then (k, v) :: r else (k, x) :: putF f v r) from rfl]
    by_cases hk : k = f
    · rw [if_pos hk, List.length_cons, List.length_cons]; omega
    · rw [if_neg hk, List.length_cons, List.length_cons]; omega

theorem RelO.some_of {v : V} {o : Option Value} (r : RelO (some v) o) : ∃ u, o = some u ∧ RelV v u := by
  cases o with
  | none => exact (show False from r).elim
  | some u => exact ⟨u, rfl, r⟩
theorem RelO.none_of {o : Option Value} (r : RelO none o) : o = none := by
  cases o with
  | none => rfl
  | some u => exact (show False from r).elim
theorem handed_of {v : V} {u : Value} (r : RelV v u) : PySem.W.handedIn u = true := by
  cases v with
  | non => cases (show u = Value.none from r); rfl
  | bl b => cases (show u = Value.bool b from r); rfl
  | int i => obtain ⟨t, e⟩ := (show ∃ t, u = Value.int i t from r); cases e; rfl
  | str x => obtain ⟨t, e⟩ := (show ∃ t, u = Value.str x t from r); cases e; rfl
  | byt b => obtain ⟨t, e⟩ := (show ∃ t, u = Value.bytes b t from r); cases e; rfl
  | flt b => obtain ⟨t, e⟩ := (show ∃ t, u = Value.float b t from r); cases e; rfl
  | ref a => cases (show u = Value.ref a from r); rfl
  | ty n => cases (show u = Value.type n from r); rfl

section
variable {P : Program} {w : World} {H H' : Hp} {h h' : Heap} {a C dx : Addr} {fs fs' : List (Str × V)}
theorem ins_get (hok : HOk P w H h) (e : H a = some (.ins C dx fs)) : ∃ mA, ObjM h a dx C mA ∧ (∀ f, RelO (fs.lookup f) (mA f)) ∧ PySem.Within mA (fs.map (·.1)) ∧ fs.length ≤ 1000 ∧ H dx = some (.own a) := by
  obtain ⟨d, z, ne, ob, mA, n, r, q⟩ := (show ObjOk P w H h a (.ins C dx fs) from hok a _ e)
  exact ⟨mA, ⟨ob, n, ne⟩, r, q, z, d⟩
end

/-! ### what of the text a class must have -/
structure Cls (K : PySem.W.Frag) (C : Addr) : Prop where
  pg : PySem.W.plainGet K C Str.empty = true
  hd : PySem.W.hasDictIn K C = true
  po : PySem.W.plainOver K C = true
  sa : PySem.W.findIn K (.ref C) "__setattr__" = some (some (.builtin "object.__setattr__"))
theorem Cls.get {K : PySem.W.Frag} {C : Addr} (c : Cls K C) (f : Str) : PySem.W.plainGet K C f = true := c.pg
/-- no class of it has the name -/
def NoAttr (K : PySem.W.Frag) (C : Addr) (f : Str) : Prop := PySem.W.findIn K (.ref C) f = some none
theorem NoAttr.taker {K : PySem.W.Frag} {C : Addr} {f : Str} (n : NoAttr K C f) : PySem.W.takerIn K C f = some none := by
  unfold PySem.W.takerIn
  rw [show PySem.W.findIn K (.ref C) f = some none from n]
  rfl
/-- a constant of the class -/
structure Con (K : PySem.W.Frag) (C : Addr) (f : Str) (v : V) (u : Value) : Prop where
  at_ : PySem.W.findIn K (.ref C) f = some (some u)
  rel : RelV v u
  get : PySem.W.specialIn K u "__get__" = some none
  cp : PySem.W.copiedNames.contains f = false
/-- a method: a plain def of the class or of one above it -/
structure Meth (K : PySem.W.Frag) (C : Addr) (m : Str) (f : Addr) : Prop where
  at_ : PySem.W.findIn K (.ref C) m = some (some (.ref f))
  fn : PySem.W.isFn K (.ref f) = true
  kp : PySem.W.keepIn K (.ref f) = true

section
variable {X : Cx} {pins : List (Addr × Obj)} {σ : St} {H : Hp} {s : Shared} {a C dx : Addr} {fs : List (Str × V)} {f : Str} {v : V} {A : Around} {E : Value → Shared → Prop}

theorem getattr_ok {b : Bool} {Q : Value → Shared → Prop} (I : Inv X pins σ H s) (e : H a = some (.ins C dx fs)) (c : Cls X.K C) (n : NoAttr X.K C f) (l : fs.lookup f = some v)
    (h : ∀ u s', Inv X pins σ H s' → RelV v u → Q u s') : wpAny (model X.prog X.w) A (getAttr (.ref a) f b) Q E s := by
  obtain ⟨mA, O, r, _, _, _⟩ := ins_get I.hok e
  obtain ⟨u, hu, ru⟩ := RelO.some_of (v := v) (o := mA f) (by rw [← l]; exact r f)
  exact get_map I.kIn O (c.get f) c.hd n hu (handed_of ru) (h u _ (I.tok _) ru)

theorem getmeth_ok {m : Str} {g : Addr} {pl : Sem Bool} {Q : Value × List Value → Shared → Prop} (I : Inv X pins σ H s) (e : H a = some (.ins C dx fs)) (c : Cls X.K C) (k : Meth X.K C m g) (l : fs.lookup m = none)
    (h : Q (.ref g, [.ref a]) s) : wpAny (model X.prog X.w) A (getMethod (.ref a) m pl) Q E s := by
  obtain ⟨mA, O, r, _, _, _⟩ := ins_get I.hok e
  have hn : mA m = none := RelO.none_of (by rw [← l]; exact r m)
  exact get_meth I.kIn O (c.get m) k.at_ k.fn hn h

theorem setattr_ok {y : V} {u : Value} {Q : Unit → Shared → Prop} (I : Inv X pins σ H s) (e : H a = some (.ins C dx fs)) (c : Cls X.K C) (n : NoAttr X.K C f) (hl : fs.length < 1000) (ry : RelV y u)
    (h : ∀ s', Inv X pins σ (upd H a (.ins C dx (putF f y fs))) s' → Q () s') : wpAny (model X.prog X.w) A (setAttr (.ref a) f u) Q E s := by
  obtain ⟨mA, O, r, wi, _, ho⟩ := ins_get I.hok e
  have hz : (fs.map (·.1)).length ≤ sizeLine := by rw [List.length_map, sizeLine_eq]; omega
  refine set_map I.kIn O c.sa c.po n.taker c.hd wi hz fun h' O' sb => h _ ?_
  have hd : ∃ o, h'.get? dx = some o := let ⟨o, _, _, e', _⟩ := O'.ns; ⟨o, e'⟩
  refine I.write (x := a) (e := dx) (by rw [e]; exact True.intro) (.inr ho) (fun b q hb z => (sb.2 b hb).trans z) hd ?_
  refine ⟨by rw [upd_ne O.ne]; exact ho, ?_, O.ne, O'.obj, _, O'.ns, fun g => ?_, fun g hg => ?_⟩
  · have := length_putF f y fs; omega
  · show RelO ((putF f y fs).lookup g) (if g = f then some u else mA g)
    rw [lookup_putF]
    by_cases q : g = f
    · rw [if_pos q, if_pos q]; exact ry
    · rw [if_neg q, if_neg q]; exact r g
  · by_cases q : g = f
    · rw [q]; exact (keys_putF f y fs).1
    · refine (keys_putF f y fs).2 g (wi g fun z => hg ?_)
      show (if g = f then some u else mA g) = none
      rw [if_neg q]; exact z

/-- a new instance, tracked, without attributes -/
theorem Inv.made (I : Inv X pins σ H s) : Inv X pins σ (upd (upd H s.heap.objs.size (.own (s.heap.objs.size + 1))) (s.heap.objs.size + 1) (.ins C s.heap.objs.size []))
    { s with heap := (s.heap.push PySem.W.emptyDict).push (PySem.W.instObj C s.heap.objs.size) } := by
  have e1 : (s.heap.push PySem.W.emptyDict).get? s.heap.objs.size = some PySem.W.emptyDict := Heap.get?_push_size s.heap rfl
  have e2 : ((s.heap.push PySem.W.emptyDict).push (PySem.W.instObj C s.heap.objs.size)).get? (s.heap.objs.size + 1) = some (PySem.W.instObj C s.heap.objs.size) := by
    have := Heap.get?_push_size (s.heap.push PySem.W.emptyDict) (o := PySem.W.instObj C s.heap.objs.size) rfl
    rwa [Heap.size_push] at this
  have e3 : (s.heap.push PySem.W.emptyDict).Ns s.heap.objs.size (fun _ => none) := ⟨PySem.W.emptyDict, #[], _, e1, rfl, (fun e he => absurd he (by simp)), fun _ => rfl⟩
  have I1 := I.laid (a := s.heap.objs.size) (o := .own (s.heap.objs.size + 1)) (h' := s.heap.push PySem.W.emptyDict) (t' := s.toks) (fun b u q => Heap.get?_push_of_some _ q) (Nat.le_refl _) ⟨_, e1⟩
  refine I1.laid (a := s.heap.objs.size + 1) (o := .ins C s.heap.objs.size []) (t' := s.toks) (fun b u q => Heap.get?_push_of_some _ q) (Nat.le_of_eq (Heap.size_push _ _)) ?_
  have ne : s.heap.objs.size ≠ s.heap.objs.size + 1 := Nat.ne_of_lt (Nat.lt_succ_self _)
  refine ⟨by rw [upd_ne ne, upd_same], Nat.zero_le _, ne, e2, fun _ => none, (Heap.Ns1.of_empty e3).at fun o q => Heap.get?_push_of_some _ q, fun _ => True.intro, fun y hy => absurd rfl hy⟩

/-- e.f where nothing but the object is asked: through attributeBase (super) and the last hold -/
theorem attr_of {prog : Program} {w : World} {env : Env} {e : Expr} {f : Str} {pos : Pos} {s : Shared} {Q : Value → Shared → Prop} (hb : attributeBase e f env (eval e env) = eval e env)
    (h : wpAny (model prog w) A (eval e env) (fun o s₁ => wpAny (model prog w) A (getAttr o f true) Q E s₁) E s) : wpAny (model prog w) A (eval (.Attribute e f pos) env) Q E s :=
  Attribute_any_ h (by rw [arm_eval_Attribute, hb])
end

/-! ### readings and rules -/
/-- e.f, an attribute of the instance -/
def tFld (K : PySem.W.Frag) (ta : TE) (f : Str) : TE := fun σ H Q => ta σ H fun x H1 => ∃ a C dx fs v, x = .ref a ∧ H1 a = some (.ins C dx fs) ∧ Cls K C ∧ NoAttr K C f ∧ fs.lookup f = some v ∧ Q v H1
/-- e.f, a constant of the class -/
def tCon (K : PySem.W.Frag) (ta : TE) (f : Str) : TE := fun σ H Q => ta σ H fun x H1 => ∃ a C dx fs v u, x = .ref a ∧ H1 a = some (.ins C dx fs) ∧ Cls K C ∧ Con K C f v u ∧ fs.lookup f = none ∧ Q v H1
/-- e.f = value -/
def sFld (K : PySem.W.Frag) (ta tv : TE) (f : Str) : TS := fun D σ H => tv σ H fun y H1 => ta σ H1 fun x H2 => ∃ a C dx fs, x = .ref a ∧ H2 a = some (.ins C dx fs) ∧ Cls K C ∧ NoAttr K C f ∧ fs.length < 1000 ∧
  D.nx σ (upd H2 a (.ins C dx (putF f y fs)))
/-- an augmented operator on two values -/
def InOp (X : Cx) (op : Operator) (rd : V → V → Hp → VK → Prop) : Prop :=
  ∀ (pins : List (Addr × Obj)) (s : Shared) (σ : St) (H : Hp) (x y : V) (u v : Value) (Q : VK), Inv X pins σ H s → RelV x u → RelV y v → rd x y H Q → wpAny (model X.prog X.w) X.A (inplaceOp op u v) (EP X pins σ Q) X.xe s
/-- e.f op= value -/
def sFldAug (K : PySem.W.Frag) (ta tv : TE) (rd : V → V → Hp → VK → Prop) (f : Str) : TS := fun D σ H => ta σ H fun x H1 => ∃ a C dx fs v, x = .ref a ∧ H1 a = some (.ins C dx fs) ∧ Cls K C ∧ NoAttr K C f ∧ fs.lookup f = some v ∧
  tv σ H1 fun y H2 => rd v y H2 fun z H3 => ∃ dx' fs', H3 a = some (.ins C dx' fs') ∧ fs'.length < 1000 ∧ D.nx σ (upd H3 a (.ins C dx' (putF f z fs')))

section
variable {X : Cx} {o e value : Expr} {f : Str} {pos pos' tpos : Pos} {ta tv : TE}
theorem pe_fld (he : PE X e ta) (hb : attributeBase e f X.env (eval e X.env) = eval e X.env) : PE X (.Attribute e f pos) (tFld X.K ta f) := by
  intro pins s σ H Q I h
  refine attr_of hb (thn (he pins s σ H _ I h) fun u s1 ⟨x, H1, I1, rx, a, C, dx, fs, v, ex, ea, c, n, l, q⟩ => ?_)
  subst ex
  obtain rfl : u = Value.ref a := rx
  exact getattr_ok I1 ea c n l fun u' s2 I2 ru => ⟨v, H1, I2, ru, q⟩
theorem ps_fld (ha : PE X o ta) (hv : PE X value tv) (hs : swapsWith value (some (.Attribute o f pos')) pos.line X.env = pure false) : PS X (.Assign [.Attribute o f pos'] value pos) (sFld X.K ta tv f) := by
  intro pins s σ H D I h
  refine plainObj_wpAny_Assign_Attribute (thn (hv pins s σ H _ I h) fun u s1 ⟨y, H1, I1, ry, q⟩ => thn (ha pins s1 σ H1 _ I1 q) fun ov s2 ⟨x, H2, I2, rx, a, C, dx, fs, ex, ea, c, n, l, q2⟩ => ?_) hs
  subst ex
  obtain rfl : ov = Value.ref a := rx
  exact setattr_ok I2 ea c n l ry fun s3 I3 => ⟨σ, _, I3, q2⟩
def rAdd : V → V → Hp → VK → Prop := fun x y H Q => ∃ i j, x = .int i ∧ y = .int j ∧ Q (.int (i + j)) H
def rSub : V → V → Hp → VK → Prop := fun x y H Q => ∃ i j, x = .int i ∧ y = .int j ∧ Q (.int (i - j)) H
end

/-! ### isinstance -/
section
variable {X : Cx} {pins : List (Addr × Obj)} {σ : St} {H : Hp} {s : Shared} {A : Around} {E : Value → Shared → Prop} {Q : Value → Shared → Prop} {c : Value} {b : Bool}
/-- the type of a value, as the fragment's deciders take it; for an instance its class -/
inductive TyOf (K : PySem.W.Frag) (H : Hp) : V → Value → Prop where
  | non : TyOf K H .non (.type "NoneType")
  | bl (x : Bool) : TyOf K H (.bl x) (.type "bool")
  | int (i : Int) : TyOf K H (.int i) (.type "int")
  | str (x : Str) : TyOf K H (.str x) (.type "str")
  | flt (x : UInt64) : TyOf K H (.flt x) (.type "float")
  | lst {a : Addr} {xs : List V} (e : H a = some (.lst xs)) : TyOf K H (.ref a) (.type "list")
  | frz {a : Addr} {o : Obj} {xs : List V} (e : H a = some (.frz o (.lst xs))) : TyOf K H (.ref a) (.type "list")
  | tup {a : Addr} {xs : List V} (e : H a = some (.tup xs)) : TyOf K H (.ref a) (.type "tuple")
  | dK {a : Addr} {kvs : List (Key × V)} (e : H a = some (.dK kvs)) : TyOf K H (.ref a) (.type "dict")
  | dT {a : Addr} {kvs : List (List Key × V)} (e : H a = some (.dT kvs)) : TyOf K H (.ref a) (.type "dict")
  | ins {a C dx : Addr} {fs : List (Str × V)} (e : H a = some (.ins C dx fs)) (cl : Cls K C) (ha : PySem.W.findIn K (.ref C) "__class__" = some (some (.builtin "object.__class__")))
      (hn : PySem.W.specialIn K (.builtin "object.__class__") "__get__" = some (some (.builtin "getset_descriptor.__get__"))) (htk : PySem.W.takesIn K (.builtin "object.__class__") = some true)
      (hm : PySem.W.mroIn K C (.type "object") = some true) : TyOf K H (.ref a) (.ref C)
/-- isinstance(x, c) for one class c, a built-in or an own one: kitOne's answer -/
theorem isinst_ok {x : V} {u t : Value} (I : Inv X pins σ H s) (rx : RelV x u) (ty : TyOf X.K H x t) (e : PySem.W.kitOne X.K t c = some b) (h : ∀ tk, Q (.bool b) { s with toks := tk }) :
    wpAny (model X.prog X.w) A (call (.builtin "isinstance") [u, c]) Q E s := by
  cases ty with
  | non => cases (show u = Value.none from rx); exact PySem.W.kia_one PySem.W.kitx_none I.kIn True.intro e (fun z => nomatch z) h
  | bl y => cases (show u = Value.bool y from rx); exact PySem.W.kia_one PySem.W.kitx_bool I.kIn True.intro e (fun z => nomatch z) h
  | int i => obtain ⟨t, q⟩ := (show ∃ t, u = Value.int i t from rx); cases q; exact PySem.W.kia_one PySem.W.kitx_int I.kIn True.intro e (fun z => nomatch z) h
  | str y => obtain ⟨t, q⟩ := (show ∃ t, u = Value.str y t from rx); cases q; exact PySem.W.kia_one PySem.W.kitx_str I.kIn True.intro e (fun z => nomatch z) h
  | flt y => obtain ⟨t, q⟩ := (show ∃ t, u = Value.float y t from rx); cases q; exact PySem.W.kia_one PySem.W.kitx_float I.kIn True.intro e (fun z => nomatch z) h
  | @lst a xs ea =>
    cases (show u = Value.ref a from rx)
    obtain ⟨_, _, n, _, h1⟩ := (show ObjOk X.prog X.w H s.heap a (.lst xs) from I.hok a _ ea)
    exact PySem.W.kia_one PySem.W.kitx_list I.kIn ⟨_, h1, rfl⟩ e (fun z => nomatch z) h
  | @frz a ob xs ea =>
    cases (show u = Value.ref a from rx)
    obtain ⟨_, _, _, n, _, h1⟩ := (show ObjOk X.prog X.w H s.heap a (.frz ob (.lst xs)) from I.hok a _ ea)
    exact PySem.W.kia_one PySem.W.kitx_list I.kIn ⟨_, h1, rfl⟩ e (fun z => nomatch z) h
  | @tup a xs ea =>
    cases (show u = Value.ref a from rx)
    obtain ⟨_, _, _, p⟩ := (show ObjOk X.prog X.w H s.heap a (.tup xs) from I.hok a _ ea)
    obtain ⟨o, h1, h2, _⟩ := p
    exact PySem.W.kia_one PySem.W.kitx_tuple I.kIn ⟨o, h1, h2⟩ e (fun z => nomatch z) h
  | @dK a kvs ea =>
    cases (show u = Value.ref a from rx)
    obtain ⟨_, _, vs, _, p⟩ := (show ObjOk X.prog X.w H s.heap a (.dK kvs) from I.hok a _ ea)
    obtain ⟨o, es, ep, h1, h2, _⟩ := p
    exact PySem.W.kia_one PySem.W.kitx_dict I.kIn ⟨o, h1, h2.1⟩ e (fun z => nomatch z) h
  | @dT a kvs ea =>
    cases (show u = Value.ref a from rx)
    obtain ⟨_, _, xs, _, o, es, ep, h1, h2, _⟩ := (show ObjOk X.prog X.w H s.heap a (.dT kvs) from I.hok a _ ea)
    exact PySem.W.kia_one PySem.W.kitx_dict I.kIn ⟨o, h1, h2.1⟩ e (fun z => nomatch z) h
  | @ins a C dx fs ea cl ha hn htk hm =>
    cases (show u = Value.ref a from rx)
    obtain ⟨mA, O, _⟩ := ins_get I.hok ea
    obtain ⟨od, J, _⟩ := O.look
    exact PySem.W.kia_one (PySem.W.kitx_own (cl.get _) cl.hd ha hn htk hm) I.kIn J e (fun z => nomatch z) h
end
end L2

namespace L2
open PySem PySem.Spec PyProof.Rows

/-! ### room -/
structure Room (k : Nat) (A : Around) : Prop where
  hd : A.handled = none
  dp : A.depth + 3 * k + 5 < recursionLimit
  un : A.units + 16 * k + 200 < cLine
theorem Room.mono {j k : Nat} {A : Around} (r : Room k A) (h : j ≤ k) : Room j A := ⟨r.hd, by have := r.dp; omega, by have := r.un; omega⟩
theorem Room.deeper {k : Nat} {A : Around} (r : Room (k + 1) A) (env : Env) : Room k (A.deeper env) :=
  ⟨r.hd, by have := r.dp; show A.depth + 1 + 3 * k + 5 < _; omega, by have := r.un; show A.units + 3 + 16 * k + 200 < _; omega⟩
theorem make_depth {A : Around} {C : Addr} {us : List Value} {kw : List (Str × Value)} : (A.under (.builtin "type.__call__" ⟨.ref C :: us, kw⟩)).depth = A.depth + 1 := by
  first | rfl | simp [Around.under, Code.weight, Code.isCreation, Code.isGuard, Code.isCaller, Code.frames, Code.isFrame, guardIds]
theorem make_units {A : Around} {C : Addr} {us : List Value} {kw : List (Str × Value)} : (A.under (.builtin "type.__call__" ⟨.ref C :: us, kw⟩)).units = A.units + 1 := by
  first | rfl | simp [Around.under, Code.cUnits, Code.frames, Code.isFrame]
theorem Room.make {k : Nat} {A : Around} (r : Room (k + 1) A) (C : Addr) (us : List Value) (kw : List (Str × Value)) : Room k (A.under (.builtin "type.__call__" ⟨.ref C :: us, kw⟩)) :=
  ⟨r.hd, by have := r.dp; rw [make_depth]; omega, by have := r.un; rw [make_units]; omega⟩
theorem Room.depth {k : Nat} {A : Around} (r : Room k A) : A.depth < recursionLimit := by have := r.dp; omega
theorem Room.units {k : Nat} {A : Around} (r : Room k A) : A.units + 64 < cLine := by have := r.un; omega
/-! ### argument lists and displays -/
def tNil : TA := fun _ H Q => Q [] H
def tCons (ta : TE) (tr : TA) : TA := fun σ H Q => ta σ H fun x H1 => tr σ H1 fun xs H2 => Q (x :: xs) H2
section
variable {X : Cx} {e : Expr} {es : List Expr} {te : TE} {t : TA} {pos : Pos}
theorem pa_nil : PA X [] tNil := fun _ _ _ _ H Q I h => Calls.spliced_nil ⟨[], H, I, .nil, h⟩
theorem pa_cons (ha : PE X e te) (hr : PA X es t) (hs : starEach (e :: es) X.env = (false, eval e X.env) :: starEach es X.env := by rfl) : PA X (e :: es) (tCons te t) := by
  intro pos pins s σ H Q I h
  rw [hs]
  show wpAny _ _ (spliced ((false, eval e X.env) :: backTo pos (starEach es X.env))) _ _ s
  refine Calls.spliced_cons (thn (ha pins s σ H _ I h) fun u s1 ⟨x, H1, I1, r1, q1⟩ => ?_)
  exact thn (hr pos pins s1 σ H1 _ I1 q1) fun us s2 ⟨xs, H2, I2, r2, q2⟩ => ⟨x :: xs, H2, I2, .cons r1 r2, q2⟩

/-- a tuple, a list of written items -/
def tTup (t : TA) : TE := fun σ H Q => t σ H fun xs H1 => xs.length ≤ sizeLine ∧ ∀ p, H1 p = none → Q (.ref p) (upd H1 p (.tup xs))
def tLst (t : TA) : TE := fun σ H Q => t σ H fun xs H1 => xs.length ≤ sizeLine ∧ ∀ p, H1 p = none → Q (.ref p) (upd H1 p (.lst xs))
theorem pe_tup {x1} (h : PA X es t) : PE X (.Tuple es x1 pos) (tTup t) := by
  intro pins s σ H Q I hq
  refine wpAny_Tuple_spliced (thn (h pos pins s σ H _ I hq) fun us s1 ⟨xs, H1, I1, r, z, q⟩ => ⟨by rw [← r.length]; exact z, ?_⟩)
  have hf : H1 s1.heap.objs.size = none := I1.hok.fresh (Nat.le_refl _)
  refine ⟨.ref s1.heap.objs.size, upd H1 s1.heap.objs.size (.tup xs), I1.laid (t' := s1.toks) (fun b u e => Heap.get?_push_of_some _ e) (Nat.le_refl _) ?_, rfl, q _ hf⟩
  exact ⟨z, us, r, ⟨_, Heap.get?_push_size _ rfl, rfl, _, rfl⟩⟩
theorem pe_lst (h : PA X es t) : PE X (.List es pos) (tLst t) := by
  intro pins s σ H Q I hq
  refine wpAny_List_spliced (thn (h pos pins s σ H _ I hq) fun us s1 ⟨xs, H1, I1, r, z, q⟩ => ⟨by rw [← r.length]; exact z, ?_⟩)
  have hf : H1 s1.heap.objs.size = none := I1.hok.fresh (Nat.le_refl _)
  refine ⟨.ref s1.heap.objs.size, upd H1 s1.heap.objs.size (.lst xs), I1.laid (t' := s1.toks) (fun b u e => Heap.get?_push_of_some _ e) (Nat.le_refl _) ?_, rfl, q _ hf⟩
  exact ⟨z, us, 0, r, Heap.get?_push_size _ rfl⟩
end

/-! ### what a def promises -/
/-- a def's promise: the bound arguments in the parameters' order, the heap, the wanted end, the wanted exception -/
abbrev Sp := List V → Hp → VK → XK → Prop
/-- how an exception lies behind a call (file 08 gives it): the callers' frames, abstract heap and state ahead of the call, the wish, the exception, the state -/
abbrev CXT := List Env → Hp → Shared → XK → Value → Shared → Prop

/-- the state at a call -/
structure Env0 (P : Program) (w : World) (K : PySem.W.Frag) (mg : Str → Option Value) (base : Heap) (A : Around) (outer : List Env) (s : Shared) (H : Hp) : Prop where
  frames : A.frames = some outer
  mod : Mod K mg base
  bs : ∀ b o, base.get? b = some o → s.heap.get? b = some o ∧ H b = none
  bsz : base.objs.size ≤ s.heap.objs.size
  funs : s.heap.FunFrames base outer
  frf : ∀ b ∈ frs outer, H b = none
  hok : HOk P w H s.heap
  bare : AllBare s.gens
/-- a call's end -/
def CE (outer : List Env) (P : Program) (w : World) (H : Hp) (s : Shared) (Q : VK) (u : Value) (s' : Shared) : Prop :=
  ∃ v H', s'.os = s.os ∧ AllBare s'.gens ∧ Un (frs outer) [] H H' s.heap s'.heap ∧ HOk P w H' s'.heap ∧ RelV v u ∧ Q v H'
def CR (CX : CXT) (outer : List Env) (P : Program) (w : World) (H : Hp) (s : Shared) (Q : VK) (E : XK) (r : Result) (s' : Shared) : Prop :=
  match r with
  | .ok (.ret u) => CE outer P w H s Q u s'
  | .ok _ => False
  | .error e => CX outer H s E e s'
structure FnOk (P : Program) (w : World) (K : PySem.W.Frag) (mg : Str → Option Value) (base : Heap) (CX : CXT) (k : Nat) (f : Addr) (fd : FuncData) (ps : List Str) (sp : Sp) : Prop where
  len : ∀ vs H Q E, sp vs H Q E → vs.length = ps.length
  run : ∀ (A : Around) (outer : List Env) (s : Shared) (H : Hp) (args : Args) (us : List Value) (vs : List V) (Q : VK) (E : XK), Room k A → Env0 P w K mg base A outer s H → BindsTo s fd args (ps.zip us) → Vals vs us → sp vs H Q E →
    codeAny (model P w) A (.call (.ref f) args) (CR CX outer P w H s Q E) s
theorem Env0.make {P : Program} {w : World} {K : PySem.W.Frag} {mg : Str → Option Value} {base : Heap} {A : Around} {outer : List Env} {s : Shared} {H : Hp} (e : Env0 P w K mg base A outer s H) (C : Addr) (us : List Value) (kw : List (Str × Value)) :
    Env0 P w K mg base (A.under (.builtin "type.__call__" ⟨.ref C :: us, kw⟩)) outer s H := ⟨by first | exact e.frames | (simpa [Around.under, Code.envs, Code.isFrame, pushEnvs] using e.frames), e.mod, e.bs, e.bsz, e.funs, e.frf, e.hok, e.bare⟩
section
variable {X : Cx} {pins : List (Addr × Obj)} {σ : St} {H : Hp} {s s' : Shared}
/-- from a body: what a callee wants -/
theorem Inv.env0 (I : Inv X pins σ H s) : Env0 X.prog X.w X.K X.mg X.base X.A X.stack s H :=
  ⟨I.ok.frames, I.ok.mod, I.bs, Nat.le_trans I.ok.bsz I.sz, I.stack, I.stkFree, I.hok, I.bare⟩
/-- behind a call -/
theorem Inv.after {Q : VK} {u : Value} (I : Inv X pins σ H s) (h : CE X.stack X.prog X.w H s Q u s') : EP X pins σ Q u s' := by
  obtain ⟨v, H', os, bare, un, hok, r, q⟩ := h
  obtain ⟨hh, g, d, t, os'⟩ := s'
  obtain rfl : os' = s.os := os
  exact ⟨v, H', I.call (h' := hh) (g' := g) (d' := d) (t' := t) (ch := []) un hok bare (fun b z => absurd z (by simp)), r, q⟩
end

/-! ### calls -/
/-- f(..): the written arguments, then the defaults dvs; E: what is wanted of an exception -/
def tCall (sp : Sp) (dvs : List V) (E : XK) (t : TA) : TE := fun σ H Q => t σ H fun vs H1 => sp (vs ++ dvs) H1 Q E
/-- o.m(..) of an instance of the class at C -/
def tMeth (C : Addr) (m : Str) (sp : Sp) (dvs : List V) (E : XK) (ta : TE) (t : TA) : TE := fun σ H Q => ta σ H fun x H1 => ∃ a dx fs, x = .ref a ∧ H1 a = some (.ins C dx fs) ∧ fs.lookup m = none ∧
  t σ H1 fun vs H2 => sp (x :: (vs ++ dvs)) H2 Q E
/-- C(..): a new instance and its dict, then __init__ -/
def tMake (C : Addr) (sp : Sp) (dvs : List V) (E : XK) (t : TA) : TE := fun σ H Q => t σ H fun vs H1 => ∀ x dx, H1 x = none → H1 dx = none → dx ≠ x →
  sp (.ref x :: (vs ++ dvs)) (upd (upd H1 dx (.own x)) x (.ins C dx [])) (fun v H2 => v = .non ∧ Q (.ref x) H2) E

/-- how the parameters are bound: us the positional arguments, kw the keywords' values by name, ds the defaults that fill up -/
def Binds (K : PySem.W.Frag) (fd : FuncData) (ps : List Str) (ds : List Value) : Prop :=
  ∀ (s : Shared) (us : List Value), K.In s.heap → (us ++ ds).length = ps.length → BindsTo s fd ⟨us, []⟩ (ps.zip (us ++ ds))
/-- every parameter is given -/
theorem Binds.all {K : PySem.W.Frag} {fd : FuncData} {ps : List Str} (h : ∀ us : List Value, us.length = ps.length → bindArgs fd ⟨us, []⟩ = pure (ps.zip us)) : Binds K fd ps [] := fun s us _ hl => by
  rw [List.append_nil] at hl ⊢
  exact .of_eq (h us hl)

/-- an exception of a callee reaches what this body wants of exceptions -/
def Passes (CX : CXT) (X : Cx) (E : XK) : Prop := ∀ (pins : List (Addr × Obj)) (σ : St) (H : Hp) (s : Shared) (e : Value) (s' : Shared), Inv X pins σ H s → CX X.stack H s E e s' → X.xe e s'

section
variable {X : Cx} {CX : CXT} {k : Nat} {f C : Addr} {fd : FuncData} {ps : List Str} {sp : Sp} {dvs : List V} {ds : List Value} {E : XK} {x m : Str} {p pos apos : Pos} {e o : Expr} {es : List Expr} {ta : TE} {t : TA}

/-- the callee runs -/
theorem run_fn {pins : List (Addr × Obj)} {σ : St} {H : Hp} {s : Shared} {Q : VK} {us : List Value} {vs : List V} (F : FnOk X.prog X.w X.K X.mg X.base CX k f fd ps sp) (hr : Room k X.A) (hb : Binds X.K fd ps ds) (hd : Vals dvs ds) (hx : Passes CX X E)
    (I : Inv X pins σ H s) (r : Vals vs us) (h : sp (vs ++ dvs) H Q E) : wpAny (model X.prog X.w) X.A (call (.ref f) us) (EP X pins σ Q) X.xe s := by
  have r2 : Vals (vs ++ dvs) (us ++ ds) := r.append hd
  have hl : (us ++ ds).length = ps.length := by rw [← r2.length]; exact F.len _ _ _ _ h
  refine wpAny_call (codeAny_mono (F.run X.A X.stack s H ⟨us, []⟩ (us ++ ds) (vs ++ dvs) Q E hr I.env0 (hb s us I.kIn hl) r2 h) fun r s' hq => ?_)
  cases r with
  | error e => exact hx pins σ H s e s' I hq
  | ok fl =>
    cases fl with
    | ret u => exact I.after hq
    | next => exact False.elim hq
    | brk => exact False.elim hq
    | cont => exact False.elim hq

theorem pe_call (F : FnOk X.prog X.w X.K X.mg X.base CX k f fd ps sp) (hr : Room k X.A) (hg : Gl X x) (hm : X.mg x = some (.ref f)) (hk : PySem.W.keepIn X.K (.ref f) = true) (hb : Binds X.K fd ps ds) (hd : Vals dvs ds) (hx : Passes CX X E)
    (ha : PA X (e :: es) t) (hdb : (x == ("__debug__" : Str)) = false := by decide) (he : starEach (e :: es) X.env = (false, eval e X.env) :: starEach es X.env := by rfl) (hpl : (backTo pos (starEach es X.env)).any (·.1) = false := by rfl) :
    PE X (.Call (.Name x p) (e :: es) [] pos) (tCall sp dvs E t) := by
  intro pins s σ H Q I h
  refine wpAny_Call_Name_kw (ld_glob I hg hm ?_ hdb)
  refine PySem.W.callWith_K (h₀ := X.base) I.ok.mod.kin hk (thn (ha pos pins s σ H _ I h) fun us s1 ⟨vs, H1, I1, r, q⟩ => ⟨I1.kIn, ?_⟩) he hpl
  exact run_fn F hr hb hd hx I1 r q
/-- o.m(e, ..) -/
theorem pe_meth {pl : Sem Bool} (he : PE X o ta) (c : Cls X.K C) (hm : Meth X.K C m f) (F : FnOk X.prog X.w X.K X.mg X.base CX k f fd ps sp) (hr : Room k X.A) (hb : Binds X.K fd ps ds) (hd : Vals dvs ds) (hx : Passes CX X E) (ha : PA X (e :: es) t)
    (hst : starEach (e :: es) X.env = (false, eval e X.env) :: starEach es X.env := by rfl) (hpl : (backTo pos (starEach es X.env)).any (·.1) = false := by rfl)
    (ht : eval (.Call (.Attribute o m apos) (e :: es) [] pos) X.env = (do
      let ov ← eval o X.env
      standAt apos.atName
      let (f, first) ← holding [ov] (getMethod ov m pl)
      callWith pos f first (backTo pos (starEach (e :: es) X.env)) (backToKw pos (keywordEach [] X.env))) := by rfl) :
    PE X (.Call (.Attribute o m apos) (e :: es) [] pos) (tMeth C m sp dvs E ta t) := by
  intro pins s σ H Q I h
  refine PySem.W.methodCall_KW (pl := pl) (thn (he pins s σ H _ I h) fun u s1 ⟨x, H1, I1, rx, a, dx, fs, ex, ea, l, q⟩ => ?_) ht
  subst ex
  obtain rfl : u = Value.ref a := rx
  refine getmeth_ok I1 ea c hm l ?_
  refine PySem.W.callWith_K (first := [.ref a]) (h₀ := X.base) I.ok.mod.kin hm.kp (thn (ha pos pins s1 σ H1 _ I1 q) fun us s2 ⟨vs, H2, I2, r, q2⟩ => ⟨I2.kIn, ?_⟩) hst hpl
  exact run_fn (us := .ref a :: us) (vs := .ref a :: vs) F hr hb hd hx I2 (.cons rfl r) q2
/-- o.m() -/
theorem pe_meth0 {pl : Sem Bool} (he : PE X o ta) (c : Cls X.K C) (hm : Meth X.K C m f) (F : FnOk X.prog X.w X.K X.mg X.base CX k f fd ps sp) (hr : Room k X.A) (hb : Binds X.K fd ps ds) (hd : Vals dvs ds) (hx : Passes CX X E)
    (ht : eval (.Call (.Attribute o m apos) [] [] pos) X.env = (do
      let ov ← eval o X.env
      standAt apos.atName
      let (f, first) ← holding [ov] (getMethod ov m pl)
      callWith pos f first (backTo pos (starEach [] X.env)) (backToKw pos (keywordEach [] X.env))) := by rfl) :
    PE X (.Call (.Attribute o m apos) [] [] pos) (tMeth C m sp dvs E ta tNil) := by
  intro pins s σ H Q I h
  refine PySem.W.methodCall_KW (pl := pl) (thn (he pins s σ H _ I h) fun u s1 ⟨x, H1, I1, rx, a, dx, fs, ex, ea, l, q⟩ => ?_) ht
  subst ex
  obtain rfl : u = Value.ref a := rx
  refine getmeth_ok I1 ea c hm l ?_
  exact PySem.W.callWith_K0 (first := [.ref a]) I1.kIn hm.kp (run_fn (us := [.ref a]) (vs := [.ref a]) F hr hb hd hx I1 (.cons rfl .nil) q)

/-- what a class must have to be made -/
structure Mk (K : PySem.W.Frag) (C f : Addr) : Prop where
  makes : PySem.W.makesIn K C = true
  init : PySem.W.findIn K (.ref C) "__init__" = some (some (.ref f))
  fn : PySem.W.isFn K (.ref f) = true
  kp : PySem.W.keepIn K (.ref C) = true

theorem run_make {pins : List (Addr × Obj)} {σ : St} {H : Hp} {s : Shared} {Q : VK} {us : List Value} {vs : List V} (M : Mk X.K C f) (F : FnOk X.prog X.w X.K X.mg X.base CX k f fd ps sp) (hr : Room (k + 1) X.A) (hb : Binds X.K fd ps ds) (hd : Vals dvs ds)
    (hx : Passes CX X E) (I : Inv X pins σ H s) (r : Vals vs us)
    (h : ∀ x dx, H x = none → H dx = none → dx ≠ x → sp (.ref x :: (vs ++ dvs)) (upd (upd H dx (.own x)) x (.ins C dx [])) (fun v H2 => v = .non ∧ Q (.ref x) H2) E) :
    wpAny (model X.prog X.w) X.A (call (.ref C) us) (EP X pins σ Q) X.xe s := by
  have hq := h (s.heap.objs.size + 1) s.heap.objs.size (I.hok.fresh (Nat.le_succ _)) (I.hok.fresh (Nat.le_refl _)) (Nat.ne_of_lt (Nat.lt_succ_self _))
  have I2 := Inv.made (C := C) I
  have r2 : Vals (V.ref (s.heap.objs.size + 1) :: (vs ++ dvs)) (Value.ref (s.heap.objs.size + 1) :: (us ++ ds)) := .cons rfl (r.append hd)
  have hl : (Value.ref (s.heap.objs.size + 1) :: us ++ ds).length = ps.length := by
    have e := r2.length
    rw [F.len _ _ _ _ hq] at e
    exact e.symm
  refine wpAny_call (make_map (f := f) I.kIn M.makes M.init (beq_iff_eq.mp M.fn) (codeAny_mono (F.run _ X.stack _ _ ⟨Value.ref (s.heap.objs.size + 1) :: us, []⟩ (Value.ref (s.heap.objs.size + 1) :: (us ++ ds)) _ _ E (hr.make C us [])
    (I2.env0.make C us []) (hb _ (Value.ref (s.heap.objs.size + 1) :: us) I2.kIn hl) r2 hq) fun r s' hq' => ?_))
  cases r with
  | error e => exact hx pins σ _ _ e s' I2 hq'
  | ok fl =>
    cases fl with
    | ret u =>
      obtain ⟨v, H', I3, rv, ev, q3⟩ := I2.after hq'
      subst ev
      exact ⟨rv, ⟨V.ref (s.heap.objs.size + 1), H', I3, rfl, q3⟩⟩
    | next => exact False.elim hq'
    | brk => exact False.elim hq'
    | cont => exact False.elim hq'
theorem pe_make (M : Mk X.K C f) (F : FnOk X.prog X.w X.K X.mg X.base CX k f fd ps sp) (hr : Room (k + 1) X.A) (hg : Gl X x) (hm : X.mg x = some (.ref C)) (hb : Binds X.K fd ps ds) (hd : Vals dvs ds) (hx : Passes CX X E)
    (ha : PA X (e :: es) t) (hdb : (x == ("__debug__" : Str)) = false := by decide) (he : starEach (e :: es) X.env = (false, eval e X.env) :: starEach es X.env := by rfl) (hpl : (backTo pos (starEach es X.env)).any (·.1) = false := by rfl) :
    PE X (.Call (.Name x p) (e :: es) [] pos) (tMake C sp dvs E t) := by
  intro pins s σ H Q I h
  refine wpAny_Call_Name_kw (ld_glob I hg hm ?_ hdb)
  refine PySem.W.callWith_K (h₀ := X.base) I.ok.mod.kin M.kp (thn (ha pos pins s σ H _ I h) fun us s1 ⟨vs, H1, I1, r, q⟩ => ⟨I1.kIn, ?_⟩) he hpl
  exact run_make M F hr hb hd hx I1 r q
theorem pe_make0 (M : Mk X.K C f) (F : FnOk X.prog X.w X.K X.mg X.base CX k f fd ps sp) (hr : Room (k + 1) X.A) (hg : Gl X x) (hm : X.mg x = some (.ref C)) (hb : Binds X.K fd ps ds) (hd : Vals dvs ds) (hx : Passes CX X E)
    (hdb : (x == ("__debug__" : Str)) = false := by decide) : PE X (.Call (.Name x p) [] [] pos) (tMake C sp dvs E tNil) := by
  intro pins s σ H Q I h
  refine wpAny_Call_Name_kw (ld_glob I hg hm ?_ hdb)
  exact PySem.W.callWith_K0 I.kIn M.kp (run_make (us := []) M F hr hb hd hx I .nil h)
end

/-! ### keywords -/
/-- the values of the keywords, from the left -/
def PK (X : Cx) (kws : List Keyword) (t : TA) : Prop :=
  ∀ (pos : Pos) (pins : List (Addr × Obj)) (s : Shared) (σ : St) (H : Hp) (Q : List V → Hp → Prop), Inv X pins σ H s → t σ H Q → wpAny (model X.prog X.w) X.A (evalAll ((backToKw pos (keywordEach kws X.env)).map (·.2))) (AP X pins σ Q) X.xe s
section
variable {X : Cx} {CX : CXT} {k : Nat} {f C : Addr} {fd : FuncData} {ps ks : List Str} {sp : Sp} {E : XK} {x m : Str} {p pos apos kpos : Pos} {e o : Expr} {es : List Expr} {kws : List Keyword} {te ta : TE} {t tk : TA} {nm : Option Str}
/-- how a call with keywords binds: g puts the positional values us and the keywords' values ws (names ks) in the parameters' order, defaults among them -/
structure KBinds (K : PySem.W.Frag) (fd : FuncData) (ps ks : List Str) (g : List Value → List Value → List Value) (gV : List V → List V → List V) : Prop where
  to : ∀ (s : Shared) (us ws : List Value), K.In s.heap → (g us ws).length = ps.length → BindsTo s fd ⟨us, ks.zip ws⟩ (ps.zip (g us ws))
  rel : ∀ {vs : List V} {us : List Value} {zs : List V} {ws : List Value}, Vals vs us → Vals zs ws → Vals (gV vs zs) (g us ws)
def tCallK (sp : Sp) (gV : List V → List V → List V) (E : XK) (t tk : TA) : TE := fun σ H Q => t σ H fun vs H1 => tk σ H1 fun zs H2 => sp (gV vs zs) H2 Q E
variable {g : List Value → List Value → List Value} {gV : List V → List V → List V}
end

/-! ### a def's body keeps its promise -/
/-- names: the parameters first -/
structure FnScope (N P : List Str) (sc : Scope) : Prop where
  kind : sc.kind = .function
  co : sc.isCoroutine = false
  gen : sc.isGenerator = false
  nd : N.Nodup
  pre : N.take P.length = P
  par : ∀ x ∈ P, sc.names.lookup x = some .local ∨ sc.names.lookup x = some .cell
  nofree : ∀ y ∈ sc.names, y.2 ≠ .free

theorem bindL_out {kindOf : Str → Option NameKind} {x : Str} : ∀ {binds : List (Str × Value)} {m : Str → Option Value}, (∀ v, (x, v) ∉ binds) → bindL kindOf binds m x = m x
  | [], _, _ => rfl
  | (n, v) :: r, m, h => by
    unfold bindL
    rw [bindL_out fun w hw => h w (List.mem_cons_of_mem _ hw)]
    split
    · have : x ≠ n := by rintro rfl; exact h v List.mem_cons_self
      simp [this]
    · rfl
theorem bindC_out {kindOf : Str → Option NameKind} {x : Str} : ∀ {binds : List (Str × Value)} {m : Str → Option Value}, (∀ v, (x, v) ∉ binds) → bindC kindOf binds m x = m x
  | [], _, _ => rfl
  | (n, v) :: r, m, h => by
    unfold bindC
    rw [bindC_out fun w hw => h w (List.mem_cons_of_mem _ hw)]
    split
    · rfl
    · have : x ≠ n := by rintro rfl; exact h v List.mem_cons_self
      simp [this]
theorem bindL_get {kindOf : Str → Option NameKind} {x : Str} {v : Value} : ∀ {P : List Str} {vs : List Value} {i : Nat} {m : Str → Option Value}, P.Nodup → P[i]? = some x → vs[i]? = some v → kindOf x = some .local →
    bindL kindOf (P.zip vs) m x = some v
  | [], _, _, _, _, h, _, _ => by simp at h
  | _ :: _, [], _, _, _, _, h, _ => by simp at h
  | p :: P, w :: vs, 0, m, nd, h1, h2, hk => by
    simp at h1 h2; subst h1; subst h2
    show bindL kindOf ((p, w) :: P.zip vs) m p = _
    unfold bindL
    rw [bindL_out fun v hv => (List.nodup_cons.mp nd).1 (List.of_mem_zip hv).1, if_pos hk]
    simp
  | p :: P, w :: vs, i + 1, m, nd, h1, h2, hk => by
    show bindL kindOf ((p, w) :: P.zip vs) m x = _
    unfold bindL
    exact bindL_get (i := i) (List.nodup_cons.mp nd).2 (by simpa using h1) (by simpa using h2) hk
theorem bindC_get {kindOf : Str → Option NameKind} {x : Str} {v : Value} : ∀ {P : List Str} {vs : List Value} {i : Nat} {m : Str → Option Value}, P.Nodup → P[i]? = some x → vs[i]? = some v → kindOf x ≠ some .local →
    bindC kindOf (P.zip vs) m x = some v
  | [], _, _, _, _, h, _, _ => by simp at h
  | _ :: _, [], _, _, _, _, h, _ => by simp at h
  | p :: P, w :: vs, 0, m, nd, h1, h2, hk => by
    simp at h1 h2; subst h1; subst h2
    show bindC kindOf ((p, w) :: P.zip vs) m p = _
    unfold bindC
    rw [bindC_out fun v hv => (List.nodup_cons.mp nd).1 (List.of_mem_zip hv).1, if_neg hk]
    simp
  | p :: P, w :: vs, i + 1, m, nd, h1, h2, hk => by
    show bindC kindOf ((p, w) :: P.zip vs) m x = _
    unfold bindC
    exact bindC_get (i := i) (List.nodup_cons.mp nd).2 (by simpa using h1) (by simpa using h2) hk

/-- the names' values at the entry -/
def start (N : List Str) (vs : List V) : St := vs.map some ++ List.replicate (N.length - vs.length) none

/-- the context of a def's body, at its entry; an exception leaves the frame, then lies as CX says -/
def cxOf (CX : CXT) (P : Program) (w : World) (K : PySem.W.Frag) (mg : Str → Option Value) (base : Heap) (N : List Str) (qual : Str) (scope : Scope) (f : Addr) (cd : Value) (A : Around) (outer : List Env) (s : Shared) (H : Hp) (E : XK) : Cx where
  prog := P
  w := w
  K := K
  mg := mg
  base := base
  A := A.deeper (envOfC qual scope s.heap.objs.size f cd)
  N := N
  s₀ := s
  H₀ := H
  env := envOfC qual scope s.heap.objs.size f cd
  outer := outer
  stack := envOfC qual scope s.heap.objs.size f cd :: outer
  ex := []
  calm := true
  fn := fun _ => true
  pn := []
  xe := fun e s' => wpAny (model P w) (A.deeper (envOfC qual scope s.heap.objs.size f cd)) (leaving (envOfC qual scope s.heap.objs.size f cd) e) (fun _ s'' => CX outer H s E e s'') (fun e' s'' => CX outer H s E e' s'') s'

theorem cell_has {sc : Scope} {n : Nat} {x : Str} (h : sc.names.lookup x = some .cell) : ∃ c, (cellsFrom n sc.names []).lookup x = some c := by
  have q := PySem.W.cellsFrom_some sc.names n [] (.inl h)
  exact Option.isSome_iff_exists.mp q

theorem inv_start {CX : CXT} {P : Program} {w : World} {K : PySem.W.Frag} {mg : Str → Option Value} {base : Heap} {N ps : List Str} {qual : Str} {scope : Scope} {f : Addr} {cd : Value} {A : Around} {outer : List Env} {s s1 : Shared} {H : Hp} {E : XK} {us : List Value} {vs : List V}
    (S : FnScope N ps scope) (hd : A.handled = none) (e0 : Env0 P w K mg base A outer s H) (hl : vs.length = ps.length) (r : Vals vs us)
    (x : InCallC s s.heap.objs.size (bindL (envOfC qual scope s.heap.objs.size f cd).kindOf (ps.zip us) fun _ => none) (cellsFrom (s.heap.objs.size + 1) scope.names []) (bindC (envOfC qual scope s.heap.objs.size f cd).kindOf (ps.zip us) fun _ => none) s1) :
    Inv (cxOf CX P w K mg base N qual scope f cd A outer s H E) [] (start N vs) H s1 := by
  have hpl : ps.length ≤ N.length := by have := congrArg List.length S.pre; rw [List.length_take] at this; omega
  obtain ⟨h1, tk, rfl, hk⟩ := x.done
  have noA : ∀ b : Addr, b ∉ (cxOf CX P w K mg base N qual scope f cd A outer s H E).ex := fun b z => absurd (show b ∈ ([] : List Addr) from z) (by simp)
  refine ⟨⟨e0.mod, S.kind, rfl, rfl, Nat.le_refl _, fun y z c h1 h2 => ?_, fun y hy => ?_, fun y c _ h => ?_, fun _ => hd, Around.frames_deeper e0.frames, .inr ⟨rfl, rfl⟩, fun b z => absurd z (noA b), e0.bs, e0.bsz, fun b _ _ => noA b, fun b z => absurd z (noA b), e0.funs, e0.frf⟩,
    rfl, e0.bare, Un.kept hk, ⟨_, x.toInCall.ns, fun i y v h1 h2 h3 => ?_⟩, fun y c h => ⟨_, x.cell y c h⟩, e0.hok.fresh (Nat.le_refl _), fun y c h => ?_, fun p hp => absurd (show p ∈ ([] : List (Addr × Obj)) from hp) (by simp), e0.hok.kept hk, ?_⟩
  · exact name_of_addr x.apart (PySem.mem_of_lookup h1) (PySem.mem_of_lookup h2)
  · have hy : scope.names.lookup y = some .cell ∨ scope.names.lookup y = some .free := hy
    rcases hy with hy | hy
    · exact cell_has hy
    · exact absurd rfl (S.nofree _ (PySem.mem_of_lookup hy))
  · exact Nat.le_of_lt (x.above y c (PySem.mem_of_lookup h))
  · have hi : i < vs.length := by
      unfold start at h2
      by_cases hi : i < vs.length
      · exact hi
      · rw [List.getElem?_append_right (by simpa using hi)] at h2
        rw [List.getElem?_replicate] at h2
        split at h2 <;> cases h2
    have ha : vs[i]? = some v := by
      unfold start at h2
      rw [List.getElem?_append_left (by simpa using hi), List.getElem?_map] at h2
      cases e : vs[i]? with
      | none => rw [e] at h2; cases h2
      | some a => rw [e] at h2; cases h2; rfl
    obtain ⟨u, hu, rv⟩ := r.get ha
    have hp : ps[i]? = some y := by
      rw [← S.pre, List.getElem?_take_of_lt (by omega)]; exact h1
    have ndP : ps.Nodup := by rw [← S.pre]; exact S.nd.sublist (List.take_sublist _ _)
    refine ⟨u, rv, ?_⟩
    rcases S.par y (List.mem_of_getElem? hp) with k | k
    · exact .inl ⟨k, bindL_get ndP hp hu k⟩
    · obtain ⟨c, e⟩ := cell_has (n := s.heap.objs.size + 1) k
      refine .inr ⟨.inl k, c, e, ?_⟩
      have q := x.cell y c e
      rw [bindC_get ndP hp hu (by show scope.names.lookup y ≠ _; rw [k]; decide)] at q
      exact q
  · exact e0.hok.fresh (Nat.le_of_lt (x.above y c (PySem.mem_of_lookup h)))
  · unfold start
    show _ = N.length
    rw [List.length_append, List.length_map, List.length_replicate]
    omega

/-- THE RULE: a def (or a method) of the text, by its body. The body's reading t is chosen for each entry; it is run at the parameters' values -/
theorem fn_of {CX : CXT} {P : Program} {w : World} {K : PySem.W.Frag} {mg : Str → Option Value} {base : Heap} {k : Nat} {f : Addr} {name qual : Str} {params : Arguments} {body : List Stmt} {scope : Scope} {dV kV doc pm cdv ct oc : Value} {an od : Option Addr}
    {osl : Array (Option Value)} {N ps : List Str} {sp : Sp} (lk : K.lookup f = some ⟨oc, od, .func (PySem.W.fnOf name qual params body scope dV kV doc pm an cdv ct), osl⟩) (hcd : PySem.W.codeIn K cdv qual = true) (S : FnScope N ps scope)
    (len : ∀ vs H Q E, sp vs H Q E → vs.length = ps.length)
    (hbody : ∀ (A : Around) (outer : List Env) (s : Shared) (H : Hp) (vs : List V) (Q : VK) (E : XK), Room k (A.deeper (envOfC qual scope s.heap.objs.size f cdv)) → sp vs H Q E →
      ∃ t, PSs (cxOf CX P w K mg base N qual scope f cdv A outer s H E) body t ∧ t { nx := fun _ H' => Q .non H', rt := Q } (start N vs) H) :
    FnOk P w K mg base CX (k + 1) f (PySem.W.fnOf name qual params body scope dV kV doc pm an cdv ct) ps sp := by
  refine ⟨len, fun A outer s H args us vs Q E hr e0 hb r hsp => ?_⟩
  have hl := len _ _ _ _ hsp
  have KX : K.In s.heap := e0.mod.kin.keeps fun b o e => (e0.bs b o e).1
  have lim : s.heap.NoLimit := e0.mod.nolimit.keeps fun b o e => (e0.bs b o e).1
  have hkind : ∀ y ∈ ps.zip us, scope.names.lookup y.1 = some .local ∨ (scope.names.lookup y.1 = some .cell ∧ ((cellsFrom (s.heap.objs.size + 1) scope.names []).lookup y.1).isSome = true) := fun ⟨n, v⟩ hy => by
    rcases S.par n (List.of_mem_zip hy).1 with q | q
    · exact .inl q
    · exact .inr ⟨q, PySem.W.cellsFrom_some _ _ _ (.inl q)⟩
  refine codeAny_call_function hr.depth (KX _ _ lk) rfl S.co S.gen rfl (PySem.W.codeRec_of KX hcd) (hb _ _ _ _ ?_)
  refine wpAny_newFunctionEnv_cells S.kind hkind fun env he s1 x => ?_
  subst he
  refine ⟨lim.keeps x.toInCall.keep, codeAny_func ?_⟩
  obtain ⟨t, ht, hq⟩ := hbody A outer s H vs Q E (hr.deeper _) hsp
  have I : Inv (cxOf CX P w K mg base N qual scope f cdv A outer s H E) [] (start N vs) H s1 := inv_start S hr.hd e0 hl r x
  refine wpAny_mono (ht [] s1 (start N vs) H _ I hq) (fun fl s' hs => ?_) fun e s' hs => hs
  have fin : ∀ {σ' : St} {H' : Hp} {v : V} {u : Value}, Inv (cxOf CX P w K mg base N qual scope f cdv A outer s H E) [] σ' H' s' → RelV v u → Q v H' → CE outer P w H s Q u s' :=
    fun {σ' H' v u} J rv q => ⟨v, H', J.os, J.bare, J.base, J.hok, rv, q⟩
  cases fl with
  | ret u =>
    obtain ⟨v, σ', H', J, rv, q⟩ := hs
    exact fin J rv q
  | next =>
    obtain ⟨σ', H', J, q⟩ := hs
    exact fin (v := V.non) (u := Value.none) J rfl q
  | brk =>
    obtain ⟨_, _, _, q⟩ := hs
    exact False.elim q
  | cont =>
    obtain ⟨_, _, _, q⟩ := hs
    exact False.elim q
end L2

namespace L2
open PySem PySem.Spec PyProof.Rows
section
variable {X : Cx} {x : Str} {p pos : Pos} {e : Expr} {es : List Expr} {t : TA} {id T : String} {r : List V → Hp → VK → Prop}

def tCB (r : List V → Hp → VK → Prop) (t : TA) : TE := fun σ H Q => t σ H fun vs H1 => r vs H1 Q
/-- f(e, ..), f a built-in function -/
theorem pe_callB (hc : CallR X (.builtin id) r) (hg : Gl X x) (hm : X.mg x = none) (hv : bootBuiltins x = some (.builtin id)) (ha : PA X (e :: es) t) (hn : x ≠ "__name__" := by decide) (hdb : (x == ("__debug__" : Str)) = false := by decide)
    (he : starEach (e :: es) X.env = (false, eval e X.env) :: starEach es X.env := by rfl) (hpl : (backTo pos (starEach es X.env)).any (·.1) = false := by rfl) : PE X (.Call (.Name x p) (e :: es) [] pos) (tCB r t) := by
  intro pins s σ H Q I h
  refine wpAny_Call_Name_kw (ld_blt I hg hm hv ?_ hn hdb)
  exact PyProof.Rows.callWith_builtin1 (thn (ha pos pins s σ H _ I h) fun us s1 ⟨vs, H1, I1, r1, q1⟩ => hc pins s1 σ H1 vs us Q I1 r1 q1) he hpl
/-- T(e, ..), T a built-in type -/
theorem pe_callTy (hc : CallR X (.type T) r) (hg : Gl X x) (hm : X.mg x = none) (hv : bootBuiltins x = some (.type T)) (ha : PA X (e :: es) t) (hn : x ≠ "__name__" := by decide) (hdb : (x == ("__debug__" : Str)) = false := by decide)
    (he : starEach (e :: es) X.env = (false, eval e X.env) :: starEach es X.env := by rfl) (hpl : (backTo pos (starEach es X.env)).any (·.1) = false := by rfl) : PE X (.Call (.Name x p) (e :: es) [] pos) (tCB r t) := by
  intro pins s σ H Q I h
  refine wpAny_Call_Name_kw (ld_blt I hg hm hv ?_ hn hdb)
  exact PyProof.Rows.callWith_type1 (thn (ha pos pins s σ H _ I h) fun us s1 ⟨vs, H1, I1, r1, q1⟩ => hc pins s1 σ H1 vs us Q I1 r1 q1) he hpl
end
end L2

namespace HT
open PySem PyProof.Rows

/-- t < u of tuples of ints -/
def lexLt : List Int → List Int → Bool
  | [], [] => false
  | [], _ :: _ => true
  | _ :: _, [] => false
  | x :: xs, y :: ys => if x = y then lexLt xs ys else decide (x < y)
section
open PySem.SeqAt
open PySem.AutoSeq1 (wpAny_loadPart')
open PySem.MeetsSeq PySem.MeetsSeq2 PySem.MeetsSeq3

end

section
variable {prog : Program} {w : World} {A : Around} {E : Value → Shared → Prop} {s : Shared}

/-! ### t[a:b], not the whole -/
/-- a slice's bound as a place among n (d where it is left out) -/
def sIx (n d : Nat) : Option Int → Nat
  | none => d
  | some v => if v < 0 then (v + (n : Int)).toNat else min v.toNat n
theorem sIx_none (n d : Nat) : sIx n d none = d := rfl
theorem sIx_nat (n d k : Nat) : sIx n d (some (k : Int)) = min k n := by
  show (if (k : Int) < 0 then ((k : Int) + (n : Int)).toNat else min (k : Int).toNat n) = min k n
  rw [if_neg (by omega), Int.toNat_natCast]
theorem sIx_le (n d : Nat) (hd : d ≤ n) (o : Option Int) : sIx n d o ≤ n := by
  cases o with
  | none => exact hd
  | some v =>
    show (if v < 0 then (v + (n : Int)).toNat else min v.toNat n) ≤ n
    by_cases hv : v < 0
    · rw [if_pos hv]; omega
    · rw [if_neg hv]; exact Nat.min_le_right _ _
theorem clip_eq (v : Int) (n d : Nat) : (if v < 0 then max (v + (n : Int)) 0 else min v (n : Int)) = ((sIx n d (some v) : Nat) : Int) := by
  show (if v < 0 then max (v + (n : Int)) 0 else min v (n : Int)) = (((if v < 0 then (v + (n : Int)).toNat else min v.toNat n) : Nat) : Int)
  by_cases hv : v < 0
  · simp only [if_pos hv]; omega
  · simp only [if_neg hv]; omega
theorem adjust_gen (lo hi : Option Int) (n : Nat) : Builtin.Slice.sliceAdjust lo hi 1 (n : Int) = (((sIx n 0 lo : Nat) : Int), ((sIx n n hi : Nat) : Int)) := by
  have h1 : ¬ ((1 : Int) < 0) := by omega
  unfold Builtin.Slice.sliceAdjust
  simp only [h1, if_false]
  refine Prod.ext ?_ ?_
  · cases lo with
    | none => rfl
    | some v => exact clip_eq v n 0
  · cases hi with
    | none => rfl
    | some v => exact clip_eq v n n
theorem places_gen (i j : Nat) : Builtin.Slice.slicePlaces (i : Int) (j : Int) 1 = j - i := by
  unfold Builtin.Slice.slicePlaces
  have h1 : (1 : Int) > 0 := by omega
  simp only [h1, if_true, Int.ediv_one]
  split <;> omega
theorem slicePart_ {v : Value} {o : Option Int} {Q : Option Int → Shared → Prop} (p : IsPart v o) (h : Q o s) : wpAny (model prog w) A (Builtin.Slice.slicePartIndex v) Q E s := by
  cases p with
  | none => exact slicePart_none h
  | int i t => exact slicePart_int h
theorem sliceApplied_gen {sl : Addr} {vl vu : Value} {lo hi : Option Int} {n : Nat} {Q : Int × Int × Nat → Shared → Prop} (hs : s.heap.IsSliceOf sl vl vu .none) (pl : IsPart vl lo) (pu : IsPart vu hi)
    (h : Q (((sIx n 0 lo : Nat) : Int), 1, sIx n n hi - sIx n 0 lo) s) : wpAny (model prog w) A (Builtin.Slice.sliceApplied (.ref sl) (pure (n : Int))) Q E s := by
  obtain ⟨os, hos, hcs, hds⟩ := id hs
  unfold Builtin.Slice.sliceApplied Builtin.Slice.sliceFields
  refine wpAny_bind (wpAny_bind (wpAny_field hos hds (x := vl) rfl (wpAny_bind (wpAny_field hos hds (x := vu) rfl (wpAny_bind (wpAny_field hos hds (x := .none) rfl (wpAny_pure ?_)))))))
  refine wpAny_bind (slicePart_none ?_)
  show wpAny _ _ (if ((1 : Int) == 0) = true then _ else _) _ _ s
  rw [if_neg (by decide)]
  refine wpAny_bind (slicePart_ pl (wpAny_bind (slicePart_ pu (wpAny_bind (wpAny_pure ?_)))))
  show wpAny _ _ (match Builtin.Slice.sliceAdjust lo hi 1 (n : Int) with | (lo, hi) => pure (lo, (1 : Int), Builtin.Slice.slicePlaces lo hi 1)) _ _ s
  rw [adjust_gen lo hi n]
  show wpAny _ _ (pure (((sIx n 0 lo : Nat) : Int), (1 : Int), Builtin.Slice.slicePlaces ((sIx n 0 lo : Nat) : Int) ((sIx n n hi : Nat) : Int) 1)) _ _ s
  rw [places_gen]
  exact wpAny_pure h
theorem pick_gen (xs : Array Value) (i k : Nat) : ((List.range k).filterMap fun (m : Nat) => xs[((i : Int) + (m : Int) * 1).toNat]?).toArray = ((xs.toList.drop i).take k).toArray := by
  have e : (fun (m : Nat) => xs[((i : Int) + (m : Int) * 1).toNat]?) = fun m => xs[i + m]? := by
    funext m
    have : ((i : Int) + (m : Int) * 1).toNat = i + m := by omega
    rw [this]
  rw [e]
  have := pick_run xs i k
  rw [List.filterMap_map] at this
  have e2 : ((fun x => xs[x]?) ∘ fun x => i + x) = fun m => xs[i + m]? := rfl
  rw [e2] at this
  rw [this]

theorem getItem_tuple_cut {t sl : Addr} {items : Array Value} {vl vu : Value} {lo hi : Option Int} {Q : Value → Shared → Prop} (ht : IsTup s.heap t items) (hs : s.heap.IsSliceOf sl vl vu .none) (pl : IsPart vl lo) (pu : IsPart vu hi)
    (hw : ¬ (sIx items.size 0 lo = 0 ∧ sIx items.size items.size hi = items.size))
    (h : Q (.ref s.heap.objs.size) { s with heap := s.heap.push { cls := .type "tuple", data := .seq ((items.toList.drop (sIx items.size 0 lo)).take (sIx items.size items.size hi - sIx items.size 0 lo)).toArray } })
    (hsz : items.size ≤ sizeLine) : wpAny (model prog w) A (getItem (.ref t) (.ref sl)) Q E s := by
  have htake : sizeOk (.seq ((items.toList.drop (sIx items.size 0 lo)).take (sIx items.size items.size hi - sIx items.size 0 lo)).toArray) := by
    show ((items.toList.drop (sIx items.size 0 lo)).take (sIx items.size items.size hi - sIx items.size 0 lo)).toArray.size ≤ sizeLine
    rw [List.size_toArray, List.length_take, List.length_drop, Array.length_toList]
    omega
  have hj : sIx items.size items.size hi ≤ items.size := sIx_le _ _ (Nat.le_refl _) hi
  obtain ⟨os, hos, hcs, hds⟩ := id hs
  have hTs : s.TypeIs (.ref sl) "slice" := ⟨os, hos, hcs⟩
  unfold getItem
  try with_reducible refine wpAny_holding ?_
  first | refine wpAny_bind (wpAny_pure ?_) | skip
  refine wpAny_bind (wpAny_sequenceKey ht.typeIs (by decide) ?_)
  refine wpAny_bind (wpAny_callSpecial?_slot (name := Str.ofString "__getitem__") ht.typeIs PyProof.Rows.slot_tuple_getitem
    (wpAny_call_entry PyProof.Rows.slot_tuple_getitem ht.typeIs entry_tuple_getitem ?_ (args_tuple_getitem _ _)))
  show wpAny _ _ (Builtin.Tuple.tupleItemsOf (.ref t) >>= _) _ _ s
  refine wpAny_bind (tupleItemsOf_ ht ?_)
  refine wpAny_bind (wpAny_typeOf hTs ?_)
  rw [if_pos (by decide)]
  refine wpAny_bind (sliceApplied_gen hs pl pu ?_)
  have hno : ¬ ((((sIx items.size 0 lo : Nat) : Int) == 0 && (1 : Int) == 1 && (sIx items.size items.size hi - sIx items.size 0 lo) == items.size) = true) := by
    intro q
    rw [Bool.and_eq_true, Bool.and_eq_true] at q
    have q1 : ((sIx items.size 0 lo : Nat) : Int) = 0 := eq_of_beq q.1.1
    have q2 : sIx items.size items.size hi - sIx items.size 0 lo = items.size := eq_of_beq q.2
    exact hw ⟨by omega, by omega⟩
  show wpAny _ _ (if (((sIx items.size 0 lo : Nat) : Int) == 0 && (1 : Int) == 1 && (sIx items.size items.size hi - sIx items.size 0 lo) == items.size) = true then _ else _) _ _ s
  rw [if_neg hno, pick_gen]
  first
    | exact wpAny_bind (m := Builtin.Tuple.tupleExact _) (wpAny_newObj_type (wpAny_pure ⟨_, rfl, wpAny_pure h⟩) htake)
    | exact wpAny_bind (m := Builtin.Tuple.tupleExact _) (wpAny_newObj_type (wpAny_bind (wpAny_pure (wpAny_pure ⟨_, rfl, wpAny_pure h⟩))) htake)
    | exact wpAny_bind (wpAny_bind (m := Builtin.Tuple.tupleExact _) (wpAny_newObj_type (wpAny_pure (wpAny_pure ⟨_, rfl, wpAny_pure h⟩)) htake))
    | exact wpAny_bind (wpAny_bind (m := Builtin.Tuple.tupleExact _) (wpAny_newObj_type (wpAny_pure ⟨_, rfl, wpAny_pure h⟩) htake))
end
end HT

namespace L2
open PySem PySem.Spec PyProof.Rows

/-! ### the parts of a slice -/
abbrev TO := St → Hp → (Option Int → Hp → Prop) → Prop
/-- a slice's part (left out, or an int) -/
def PO (X : Cx) (e : Option Expr) (t : TO) : Prop :=
  ∀ (pins : List (Addr × Obj)) (s : Shared) (σ : St) (H : Hp) (Q : Option Int → Hp → Prop), Inv X pins σ H s → t σ H Q →
    wpAny (model X.prog X.w) X.A (evalPart e X.env) (fun u s' => ∃ o H', Inv X pins σ H' s' ∧ IsPart u o ∧ Q o H') X.xe s
def tNoPart : TO := fun _ H Q => Q none H
def tPart (t : TE) : TO := fun σ H Q => t σ H fun x H1 => ∃ i, x = .int i ∧ Q (some i) H1

section
variable {X : Cx} {e : Expr} {te : TE} {lo hi : Option Expr} {tl th : TO} {pos p2 : Pos}

theorem po_none : PO X none tNoPart := by
  intro pins s σ H Q I h
  rw [evalPart_none]
  exact wpAny_pure ⟨none, H, I, .none, h⟩
theorem po_some (h : PE X e te) : PO X (some e) (tPart te) := by
  intro pins s σ H Q I hw
  rw [evalPart_some]
  refine thn (h pins s σ H _ I hw) fun u s1 ⟨x, H1, I1, r1, q1⟩ => ?_
  obtain ⟨i, rfl, q⟩ := q1
  obtain ⟨t, rfl⟩ := r1
  exact ⟨some i, H1, I1, .int i t, q⟩

/-- what a slice of a value is, by values: the slice object stands at sl -/
def SlR (X : Cx) (r : V → Option Int → Option Int → Hp → VK → Prop) : Prop :=
  ∀ (pins : List (Addr × Obj)) (s : Shared) (σ : St) (H : Hp) (x : V) (v vl vu : Value) (lo hi : Option Int) (sl : Addr) (Q : VK), Inv X pins σ H s → RelV x v → s.heap.IsSliceOf sl vl vu .none → IsPart vl lo → IsPart vu hi → r x lo hi H Q →
    ∃ T id, typeLookup (.type T) "__getitem__" = pure (some (.builtin id)) ∧ s.TypeIs v T ∧ wpAny (model X.prog X.w) X.A (getItem v (.ref sl)) (EP X pins σ Q) X.xe s
theorem SlR.or {r r' : V → Option Int → Option Int → Hp → VK → Prop} (h : SlR X r) (h' : SlR X r') : SlR X (fun x lo hi H Q => r x lo hi H Q ∨ r' x lo hi H Q) := by
  intro pins s σ H x v vl vu lo hi sl Q I rx hs pl pu q
  rcases q with q | q
  · exact h pins s σ H x v vl vu lo hi sl Q I rx hs pl pu q
  · exact h' pins s σ H x v vl vu lo hi sl Q I rx hs pl pu q
def tSl (r : V → Option Int → Option Int → Hp → VK → Prop) (te : TE) (tl th : TO) : TE := fun σ H Q => te σ H fun x H1 => tl σ H1 fun l H2 => th σ H2 fun u H3 => r x l u H3 Q
/-- a[lo:hi], any a -/
theorem pe_slice {r : V → Option Int → Option Int → Hp → VK → Prop} (hr : SlR X r) (he : PE X e te) (hl : PO X lo tl) (hu : PO X hi th) : PE X (.Subscript e (.Slice lo hi none p2) pos) (tSl r te tl th) := by
  intro pins s σ H Q I h
  refine Subscript_ (thn (he pins s σ H _ I h) fun v s1 ⟨x, H1, I1, r1, q1⟩ => ?_)
  refine wpAny_Slice (thn (hl pins s1 σ H1 _ I1 q1) fun vl s2 ⟨l, H2, I2, pl, q2⟩ => thn (hu pins s2 σ H2 _ I2 q2) fun vu s3 ⟨u, H3, I3, pu, q3⟩ => ?_)
  rw [evalPart_none]
  refine wpAny_pure ?_
  have I4 : Inv X pins σ H3 { s3 with heap := s3.heap.push { cls := .type "slice", data := .fields #[vl, vu, .none] } } := I3.kept (t' := s3.toks) fun b ob q => Heap.get?_push_of_some _ q
  obtain ⟨T, id, hT, ht, hg⟩ := hr pins { s3 with heap := s3.heap.push { cls := .type "slice", data := .fields #[vl, vu, .none] } } σ H3 x v vl vu l u s3.heap.objs.size Q I4 r1 (Heap.IsSliceOf.new ..) pl pu q3
  show wpAny (model X.prog X.w) X.A (subscriptTail e (.Slice lo hi none p2) v (.ref s3.heap.objs.size)) (EP X pins σ Q) X.xe { s3 with heap := s3.heap.push { cls := .type "slice", data := .fields #[vl, vu, .none] } }
  exact tail_any (ops := [.ref s3.heap.objs.size, v]) ht hT hg (by with_unfolding_all rfl)

/-- the items of xs[lo:hi] -/
def cutV (xs : List V) (lo hi : Option Int) : List V := (xs.drop (HT.sIx xs.length 0 lo)).take (HT.sIx xs.length xs.length hi - HT.sIx xs.length 0 lo)
theorem cutV_length (xs : List V) (lo hi : Option Int) : (cutV xs lo hi).length ≤ xs.length := by
  unfold cutV
  rw [List.length_take, List.length_drop]
  omega
/-- t[lo:hi], not the whole of it (the whole would be t itself) -/
def rSlT (K : PySem.W.Frag) : V → Option Int → Option Int → Hp → VK → Prop := fun x lo hi H Q => ∃ a xs, x = .ref a ∧ SqT K H a xs ∧
  ¬ (HT.sIx xs.length 0 lo = 0 ∧ HT.sIx xs.length xs.length hi = xs.length) ∧ ∀ p, H p = none → Q (.ref p) (upd H p (.tup (cutV xs lo hi)))
theorem sl_tup : SlR X (rSlT X.K) := by
  intro pins s σ H x v vl vu lo hi sl Q I rx hs pl pu h
  obtain ⟨a, xs, rfl, hx, hw, q⟩ := h
  cases rx
  obtain ⟨its, r, ht, hz⟩ := I.tuple hx
  have hlen : its.toArray.size = xs.length := by rw [List.size_toArray]; exact r.length.symm
  refine ⟨"tuple", _, PyProof.Rows.slot_tuple_getitem.lookup, ht.typeIs, ?_⟩
  refine HT.getItem_tuple_cut ht hs pl pu (by rw [hlen]; exact hw) ?_ (by rw [hlen]; exact hz)
  rw [hlen]
  refine ⟨.ref s.heap.objs.size, _, I.laid (t' := s.toks) (o := .tup (cutV xs lo hi)) (fun b ob q => Heap.get?_push_of_some _ q) (Nat.le_refl _) ?_, rfl, q _ (I.hok.fresh (Nat.le_refl _))⟩
  exact ⟨Nat.le_trans (cutV_length xs lo hi) hz, _, (r.drop (HT.sIx xs.length 0 lo)).take (HT.sIx xs.length xs.length hi - HT.sIx xs.length 0 lo), IsTup.new _ _⟩

/-! ### t < u, t + u -/
def rLtT (K : PySem.W.Frag) : R2 := fun x y H Q => ∃ a b ns ms, x = .ref a ∧ y = .ref b ∧ SqT K H a (ns.map V.int) ∧ SqT K H b (ms.map V.int) ∧ Q (.bl (HT.lexLt ns ms)) H
/-- t + u, t not empty: u empty gives t itself -/
def rCatT (K : PySem.W.Frag) : R2 := fun x y H Q => ∃ a b xs ys, x = .ref a ∧ y = .ref b ∧ SqT K H a xs ∧ SqT K H b ys ∧ xs ≠ [] ∧ xs.length + ys.length ≤ sizeLine ∧
  (ys = [] → Q (.ref a) H) ∧ (ys ≠ [] → ∀ p, H p = none → Q (.ref p) (upd H p (.tup (xs ++ ys))))
end
end L2

namespace L2
open PySem PySem.Spec PyProof.Rows

/-! ### places -/
/-- the place that an index of any sign means -/
def ixN (n : Nat) (i : Int) : Option Nat := if 0 ≤ i then (if i < n then some i.toNat else none) else if -(n : Int) ≤ i then some (i + n).toNat else none
def atI {α : Type} (xs : List α) (i : Int) : Option α := (ixN xs.length i).bind fun j => xs[j]?
theorem ixN_seq {n : Nat} {i : Int} {j : Nat} (h : ixN n i = some j) : seqIndex? i n = some j ∧ j < n ∧ -(n : Int) ≤ i ∧ i < n := by
  unfold ixN at h
  by_cases h0 : 0 ≤ i
  · rw [if_pos h0] at h
    by_cases h1 : i < n
    · rw [if_pos h1] at h
      have e : i.toNat = j := Option.some.inj h
      exact ⟨by rw [seqIndex_of h0 h1, e], by omega, by omega, h1⟩
    · rw [if_neg h1] at h; cases h
  · rw [if_neg h0] at h
    by_cases h1 : -(n : Int) ≤ i
    · rw [if_pos h1] at h
      have e : (i + n).toNat = j := Option.some.inj h
      exact ⟨by rw [seqIndex_neg (by omega) h1, e], by omega, h1, by omega⟩
    · rw [if_neg h1] at h; cases h
theorem atI_get {α : Type} {xs : List α} {i : Int} {v : α} (h : atI xs i = some v) : ∃ j, seqIndex? i xs.length = some j ∧ xs[j]? = some v ∧ j < xs.length ∧ -(xs.length : Int) ≤ i ∧ i < xs.length := by
  unfold atI at h
  cases e : ixN xs.length i with
  | none => rw [e] at h; cases h
  | some j =>
    rw [e] at h
    obtain ⟨h1, h2, h3, h4⟩ := ixN_seq e
    exact ⟨j, h1, h, h2, h3, h4⟩
theorem atI_nat {α : Type} {xs : List α} {j : Nat} {v : α} (h : xs[j]? = some v) : atI xs (j : Int) = some v := by
  have hj : j < xs.length := (List.getElem?_eq_some_iff.mp h).1
  have e : ixN xs.length (j : Int) = some j := by
    unfold ixN
    rw [if_pos (by omega), if_pos (by omega)]; simp
  unfold atI; rw [e]; exact h
/-! ### what may be subscripted -/
/-- what stands as an index of a plain subscript -/
def PlainIx (b : Expr) : Prop := ∀ o i, subscripted b false o i = operate [o, i] (getItem o i)
/-- a subscript by values -/
def IxR (X : Cx) (r : R2) : Prop :=
  ∀ (value slice : Expr) (pins : List (Addr × Obj)) (s : Shared) (σ : St) (H : Hp) (x y : V) (v u : Value) (Q : VK), Inv X pins σ H s → RelV x v → RelV y u → r x y H Q →
    subscripted slice false v u = operate [v, u] (getItem v u) → wpAny (model X.prog X.w) X.A (subscriptTail value slice v u) (EP X pins σ Q) X.xe s
/-- a call of a builtin's method by values: the receiver, the arguments -/
def MtR (X : Cx) (id : String) (r : V → List V → Hp → VK → Prop) : Prop :=
  ∀ (pins : List (Addr × Obj)) (s : Shared) (σ : St) (H : Hp) (x : V) (xs : List V) (v : Value) (us : List Value) (Q : VK), Inv X pins σ H s → RelV x v → Vals xs us → r x xs H Q →
    wpAny (model X.prog X.w) X.A (call (.builtin id) (v :: us)) (EP X pins σ Q) X.xe s
section
variable {X : Cx} {a b : Expr} {ta tb : TE} {pos : Pos}
theorem IxR.or {r r' : R2} (h : IxR X r) (h' : IxR X r') : IxR X (fun x y H Q => r x y H Q ∨ r' x y H Q) := by
  intro value slice pins s σ H x y v u Q I rx ry q hs
  rcases q with q | q
  · exact h value slice pins s σ H x y v u Q I rx ry q hs
  · exact h' value slice pins s σ H x y v u Q I rx ry q hs
/-- a[b] -/
theorem pe_ix {r : R2} (hr : IxR X r) (ha : PE X a ta) (hb : PE X b tb) (hs : PlainIx b) : PE X (.Subscript a b pos) (tOp r ta tb) := by
  intro pins s σ H Q I h
  exact Subscript_ (binT ha hb I h fun v u s2 x y H2 I2 rx ry q => hr a b pins s2 σ H2 x y v u Q I2 rx ry q (hs _ _))

def rIxL (K : PySem.W.Frag) : R2 := fun x y H Q => ∃ p xs i v, x = .ref p ∧ y = .int i ∧ SqL K H p xs ∧ atI xs i = some v ∧ Q v H
def rIxT (K : PySem.W.Frag) : R2 := fun x y H Q => ∃ p xs i v, x = .ref p ∧ y = .int i ∧ SqT K H p xs ∧ atI xs i = some v ∧ Q v H
def rIxS : R2 := fun x y H Q => ∃ z i c, x = .str z ∧ y = .int i ∧ z.length ≤ sizeLine ∧ atI z.cps.toList i = some c ∧ Q (.str ⟨#[c]⟩) H
theorem ix_list : IxR X (rIxL X.K) := by
  intro value slice pins s σ H x y v u Q I rx ry h hs
  obtain ⟨p, xs, i, z, rfl, rfl, hq, he, q⟩ := h
  cases rx
  obtain ⟨t, rfl⟩ := ry
  obtain ⟨its, r, pl, hz⟩ := I.list hq
  obtain ⟨j, h1, h2, h3, h4, h5⟩ := atI_get he
  obtain ⟨w, ew, rw'⟩ := r.get h2
  have hl := r.length
  have hn := line63
  have fin : EP X pins σ Q w s := ⟨z, H, I, rw', q⟩
  by_cases h0 : 0 ≤ i
  · have hj : i.toNat = j := by
      rw [seqIndex_of h0 h5] at h1
      exact Option.some.inj h1
    exact item_listR pl.isList h0 (by omega) (by rw [hj]; simpa using ew) fin hs
  · have hj : (i + (its.toArray.size : Int)).toNat = j := by
      rw [seqIndex_neg (by omega) h4] at h1
      rw [List.size_toArray, ← hl]
      exact Option.some.inj h1
    exact subscriptTail_builtinR (x := w) pl.isList.typeIs slot_list_getitem.lookup
      (wpAny_getItem_list_neg (Q := fun r s' => r = w ∧ EP X pins σ Q r s') pl.isList (by omega) (by rw [List.size_toArray] <;> omega) (by omega) (by rw [hj]; simpa using ew) ⟨rfl, fin⟩) hs
theorem ix_tup : IxR X (rIxT X.K) := by
  intro value slice pins s σ H x y v u Q I rx ry h hs
  obtain ⟨p, xs, i, z, rfl, rfl, hq, he, q⟩ := h
  cases rx
  obtain ⟨t, rfl⟩ := ry
  obtain ⟨its, r, pl, hz⟩ := I.tuple hq
  obtain ⟨j, h1, h2, h3, h4, h5⟩ := atI_get he
  obtain ⟨w, ew, rw'⟩ := r.get h2
  have hl := r.length
  have hn := line63
  have fin : EP X pins σ Q w s := ⟨z, H, I, rw', q⟩
  exact subscriptTail_builtinR (x := w) pl.typeIs slot_tuple_getitem.lookup
    (getItem_tuple (j := j) (Q := fun r s' => r = w ∧ EP X pins σ Q r s') pl (by omega) (by omega) (by rw [List.size_toArray, ← hl]; exact h1) (by simpa using ew) ⟨rfl, fin⟩) hs
theorem ix_str : IxR X rIxS := by
  intro value slice pins s σ H x y v u Q I rx ry h hs
  obtain ⟨z, i, c, rfl, rfl, hz, he, q⟩ := h
  obtain ⟨t, rfl⟩ := rx
  obtain ⟨t', rfl⟩ := ry
  obtain ⟨j, h1, h2, h3, h4, h5⟩ := atI_get he
  have hl : z.cps.toList.length = z.length := by simp [Str.length]
  rw [hl] at h1 h4 h5
  have hn := line63
  exact tail_any (typeIs_str s z t) slot_str_getitem.lookup (getItem_str (c := c) (by
    have e1 : decide (i < -(2 ^ 63 : Int)) = false := decide_eq_false (by omega)
    have e2 : decide (i ≥ 2 ^ 63) = false := decide_eq_false (by omega)
    rw [e1, e2, Bool.or_false]) (by rw [h1]; simpa using h2) ⟨.str ⟨#[c]⟩, H, I.tok _, ⟨_, rfl⟩, q⟩) hs
/-- list, tuple or str -/
def rIx (K : PySem.W.Frag) : R2 := fun x y H Q => rIxL K x y H Q ∨ rIxT K x y H Q ∨ rIxS x y H Q
theorem ix_seq : IxR X (rIx X.K) := ix_list.or (ix_tup.or ix_str)

/-! ### xs[i] = v, any sign -/
def rSetL : V → V → V → Hp → (Hp → Prop) → Prop := fun o i v H Q => ∃ p xs k j, o = .ref p ∧ i = .int k ∧ H p = some (.lst xs) ∧ ixN xs.length k = some j ∧ Q (upd H p (.lst (xs.set j v)))
/-! ### slices -/
theorem slice_bounds (lo hi : Option Int) (n : Nat) : (sliceBounds lo hi none n).1 = ((HT.sIx n 0 lo : Nat) : Int) ∧ (sliceBounds lo hi none n).2.1 = ((HT.sIx n n hi : Nat) : Int) ∧ (sliceBounds lo hi none n).2.2 = 1 := by
  refine ⟨?_, ?_, rfl⟩
  · cases lo with
    | none => simp [sliceBounds, HT.sIx]
    | some i =>
      simp only [sliceBounds, HT.sIx, Option.getD_none, show (1 : Int) > 0 by decide, if_true]
      by_cases h : i < 0
      · simp only [h, if_true] <;> omega
      · simp only [h, if_false] <;> omega
  · cases hi with
    | none => simp [sliceBounds, HT.sIx]
    | some i =>
      simp only [sliceBounds, HT.sIx, Option.getD_none, show (1 : Int) > 0 by decide, if_true]
      by_cases h : i < 0
      · simp only [h, if_true] <;> omega
      · simp only [h, if_false] <;> omega
theorem slicePick_cut (its : List Value) (lo hi : Option Int) : slicePick its.toArray lo hi none = ((its.drop (HT.sIx its.length 0 lo)).take (HT.sIx its.length its.length hi - HT.sIx its.length 0 lo)).toArray := by
  obtain ⟨h1, h2, h3⟩ := slice_bounds lo hi its.toArray.size
  unfold slicePick
  rw [h1, h2, h3]
  simp only [sliceRange_one, pick_run, List.size_toArray] <;> rfl
/-- xs[lo:hi] of a list: a new list -/
def rSlL (K : PySem.W.Frag) : V → Option Int → Option Int → Hp → VK → Prop := fun x lo hi H Q => ∃ a xs, x = .ref a ∧ SqL K H a xs ∧ ∀ p, H p = none → Q (.ref p) (upd H p (.lst (cutV xs lo hi)))
theorem sl_list : SlR X (rSlL X.K) := by
  intro pins s σ H x v vl vu lo hi sl Q I rx hs pl pu h
  obtain ⟨a, xs, rfl, hx, q⟩ := h
  cases rx
  obtain ⟨its, r, ht, hz⟩ := I.list hx
  have hlen := r.length
  refine ⟨"list", _, slot_list_getitem.lookup, ht.isList.typeIs, ?_⟩
  refine wpAny_getItem_list_slice ht.isList hs pl pu .none (by simp) ?_ (by rw [List.size_toArray] <;> omega)
  rw [slicePick_cut, ← hlen]
  refine ⟨.ref s.heap.objs.size, _, I.laid (t' := s.toks) (o := .lst (cutV xs lo hi)) (fun b ob q => Heap.get?_push_of_some _ q) (Nat.le_refl _) ?_, rfl, q _ (I.hok.fresh (Nat.le_refl _))⟩
  exact ⟨Nat.le_trans (cutV_length xs lo hi) hz, _, 0, (r.drop (HT.sIx xs.length 0 lo)).take (HT.sIx xs.length xs.length hi - HT.sIx xs.length 0 lo), Heap.get?_push_size _ rfl⟩

/-! ### in, not in: flat items -/
def flatV : V → Bool
  | .non => true
  | .bl _ => true
  | .int _ => true
  | .str _ => true
  | _ => false
/-- == of flat values -/
def eqV : V → V → Bool
  | .non, .non => true
  | .bl a, .bl b => a == b
  | .bl a, .int b => (if a then 1 else 0) == b
  | .int a, .bl b => a == (if b then 1 else 0)
  | .int a, .int b => a == b
  | .str a, .str b => a == b
  | _, _ => false
theorem eqAt_V {A : Around} {s : Shared} {y x : V} {u v : Value} (ry : RelV y u) (rx : RelV x v) (fy : flatV y = true) (fx : flatV x = true) : SeqAt.EqAt A s u v (eqV y x) := by
  cases y with
  | non =>
    cases ry
    cases x with
    | non => cases rx; exact SeqAt.EqAt.same _
    | bl b => cases rx; exact SeqAt.EqAt.none_bool b
    | int b => obtain ⟨t, rfl⟩ := rx; exact SeqAt.EqAt.none_int b t
    | str b => obtain ⟨t, rfl⟩ := rx; exact SeqAt.EqAt.none_str b t
    | _ => exact absurd (show false = true from fx) Bool.false_ne_true
  | bl a =>
    cases ry
    cases x with
    | non => cases rx; exact SeqAt.EqAt.bool_none a
    | bl b => cases rx; exact SeqAt.EqAt.bool_bool a b
    | int b => obtain ⟨t, rfl⟩ := rx; exact SeqAt.EqAt.bool_int a b t
    | str b => obtain ⟨t, rfl⟩ := rx; exact SeqAt.EqAt.bool_str a b t
    | _ => exact absurd (show false = true from fx) Bool.false_ne_true
  | int a =>
    obtain ⟨t', rfl⟩ := ry
    cases x with
    | non => cases rx; exact SeqAt.EqAt.int_none a t'
    | bl b => cases rx; exact SeqAt.EqAt.int_bool a t' b
    | int b => obtain ⟨t, rfl⟩ := rx; exact SeqAt.EqAt.int_int a t' b t
    | str b => obtain ⟨t, rfl⟩ := rx; exact SeqAt.EqAt.int_str a t' b t
    | _ => exact absurd (show false = true from fx) Bool.false_ne_true
  | str a =>
    obtain ⟨t', rfl⟩ := ry
    cases x with
    | non => cases rx; exact SeqAt.EqAt.str_none a t'
    | bl b => cases rx; exact SeqAt.EqAt.str_bool a t' b
    | int b => obtain ⟨t, rfl⟩ := rx; exact SeqAt.EqAt.str_int a t' b t
    | str b => obtain ⟨t, rfl⟩ := rx; exact SeqAt.EqAt.str_str a t' b t
    | _ => exact absurd (show false = true from fx) Bool.false_ne_true
  | _ => exact absurd (show false = true from fy) Bool.false_ne_true
/-- the items' answers, read off the values (a value's own answer does not lean on its token) -/
def eqU (x : V) (u : Value) : Bool := match u with
  | .none => eqV .non x
  | .bool b => eqV (.bl b) x
  | .int i _ => eqV (.int i) x
  | .str z _ => eqV (.str z) x
  | _ => false
theorem eqU_of {x y : V} {u : Value} (r : RelV y u) (f : flatV y = true) : eqU x u = eqV y x := by
  cases y with
  | non => cases r; rfl
  | bl b => cases r; rfl
  | int i => obtain ⟨t, rfl⟩ := r; rfl
  | str z => obtain ⟨t, rfl⟩ := r; rfl
  | _ => exact absurd (show false = true from f) Bool.false_ne_true
theorem any_eqU {x : V} : ∀ {xs : List V} {us : List Value}, Vals xs us → xs.all flatV = true → us.any (eqU x) = xs.any fun y => eqV y x
  | _, _, .nil, _ => rfl
  | y :: xs, u :: us, .cons r t, f => by
    rw [List.all_cons, Bool.and_eq_true] at f
    rw [List.any_cons, List.any_cons, eqU_of r f.1, any_eqU t f.2]
theorem mem_eqAt {A : Around} {s : Shared} {x : V} {v : Value} (rx : RelV x v) (fx : flatV x = true) : ∀ {xs : List V} {us : List Value}, Vals xs us → xs.all flatV = true → ∀ u ∈ us, SeqAt.EqAt A s u v (eqU x u)
  | _, _, .nil, _ => fun u hu => by cases hu
  | y :: xs, u :: us, .cons r t, f => fun u' hu => by
    rw [List.all_cons, Bool.and_eq_true] at f
    rcases List.mem_cons.mp hu with rfl | hu
    · rw [eqU_of r f.1]; exact eqAt_V r rx f.1 fx
    · exact mem_eqAt rx fx t f.2 u' hu
def inV (x : V) (xs : List V) : Bool := xs.any fun y => eqV y x
/-- x in a list or tuple of flat items -/
def rIn (K : PySem.W.Frag) (neg : Bool) : R2 := fun x y H Q => ∃ p xs, y = .ref p ∧ (SqL K H p xs ∨ SqT K H p xs) ∧ flatV x = true ∧ xs.all flatV = true ∧ Q (.bl (if neg then !inV x xs else inV x xs)) H
theorem op_in_seq : OpR X (compareOp .In) (rIn X.K false) := by
  intro pins s σ H x y v u Q I rx ry h
  obtain ⟨p, xs, rfl, hq, fx, fs, q⟩ := h
  cases ry
  rcases hq with hq | hq
  · obtain ⟨its, r, pl, hz⟩ := I.list hq
    refine SeqAt.in_listAt (eqU x) pl.isList (fun w hw => mem_eqAt rx fx r fs w (by simpa using hw)) ⟨.bl _, H, I, rfl, ?_⟩
    rw [show its.toArray.any (eqU x) = its.any (eqU x) by simp, any_eqU r fs]
    exact q
  · obtain ⟨its, r, pl, hz⟩ := I.tuple hq
    refine SeqAt.in_tupleAt (eqU x) pl (fun w hw => mem_eqAt rx fx r fs w (by simpa using hw)) ⟨.bl _, H, I, rfl, ?_⟩
    rw [show its.toArray.any (eqU x) = its.any (eqU x) by simp, any_eqU r fs]
    exact q
/-! ### len, list(x), tuple(x) of any list or tuple that is read -/
theorem call_len_seq : CallR X (.builtin "len") (fun xs H Q => ∃ p ys, xs = [.ref p] ∧ (SqL X.K H p ys ∨ SqT X.K H p ys) ∧ Q (.int ys.length) H) := by
  intro pins s σ H xs us Q I r h
  obtain ⟨p, ys, rfl, hq, q⟩ := h
  obtain ⟨u, rfl, rx⟩ := vals1 r
  cases rx
  have hn := line63
  rcases hq with hq | hq
  · obtain ⟨its, r', pl, hz⟩ := I.list hq
    have hlen := r'.length
    exact Calls.call_len_list pl.isList (by simp only [List.size_toArray] <;> omega) ⟨.int ys.length, H, I.tok _, ⟨s.toks + 1, by rw [List.size_toArray, hlen]⟩, q⟩
  · obtain ⟨its, r', pl, hz⟩ := I.tuple hq
    have hlen := r'.length
    exact len_tuple pl (by simp only [List.size_toArray] <;> omega) ⟨.int ys.length, H, I.tok _, ⟨s.toks + 1, by rw [List.size_toArray, hlen]⟩, q⟩
theorem call_len_str : CallR X (.builtin "len") (fun xs H Q => ∃ z, xs = [.str z] ∧ z.length ≤ sizeLine ∧ Q (.int z.length) H) := by
  intro pins s σ H xs us Q I r h
  obtain ⟨z, rfl, hz, q⟩ := h
  obtain ⟨u, rfl, t, rfl⟩ := vals1 r
  have hn := line63
  exact len_str (by omega) ⟨.int z.length, H, I.tok _, ⟨_, rfl⟩, q⟩
theorem CallR.or {f : Value} {r r' : List V → Hp → VK → Prop} (h : CallR X f r) (h' : CallR X f r') : CallR X f (fun xs H Q => r xs H Q ∨ r' xs H Q) := by
  intro pins s σ H xs us Q I rs q
  rcases q with q | q
  · exact h pins s σ H xs us Q I rs q
  · exact h' pins s σ H xs us Q I rs q
theorem call_list_of : CallR X (.type "list") (fun xs H Q => ∃ p ys, xs = [.ref p] ∧ (SqL X.K H p ys ∨ SqT X.K H p ys) ∧ ∀ l, H l = none → Q (.ref l) (upd H l (.lst ys))) := by
  intro pins s σ H xs us Q I r h
  obtain ⟨p, ys, rfl, hq, q⟩ := h
  obtain ⟨u, rfl, rx⟩ := vals1 r
  cases rx
  have fin : ∀ (its : List Value), Vals ys its → ys.length ≤ sizeLine → ∀ (h' : Heap) (c' : Nat), (∀ b o', s.heap.get? b = some o' → h'.get? b = some o') →
      h'.get? s.heap.objs.size = some { cls := .type "list", dict := none, data := .seq its.toArray c', slots := #[] } → EP X pins σ Q (.ref s.heap.objs.size) { s with heap := h' } := fun its r' hz h' c' kp e =>
    ⟨.ref s.heap.objs.size, _, I.laid (t' := s.toks) kp (Nat.le_refl _) (show ObjOk X.prog X.w _ h' _ (.lst ys) from ⟨hz, its, c', r', e⟩), rfl, q _ (I.hok.fresh (Nat.le_refl _))⟩
  rcases hq with hq | hq
  · obtain ⟨its, r', pl, hz⟩ := I.list hq
    have hlen := r'.length
    obtain ⟨o, ho, hc, n, hd⟩ := pl.isList
    exact call_list_seq p (.inl rfl) ho hc hd (fun h' c' kp e => fin its r' hz h' c' kp e) (by simp only [List.size_toArray] <;> omega)
  · obtain ⟨its, r', pl, hz⟩ := I.tuple hq
    have hlen := r'.length
    obtain ⟨o, ho, hc, n, hd⟩ := pl
    exact call_list_seq p (.inr rfl) ho hc hd (fun h' c' kp e => fin its r' hz h' c' kp e) (by simp only [List.size_toArray] <;> omega)
/-! ### the call of a builtin's method: o.m(..) -/
/-- the value is of that builtin type -/
def tyV (K : PySem.W.Frag) (T : String) (x : V) (H : Hp) : Prop := match x with
  | .str _ => T = "str"
  | .int _ => T = "int"
  | .ref p => (T = "list" ∧ ∃ xs, SqL K H p xs) ∨ (T = "tuple" ∧ ∃ o, K.lookup p = some o ∧ o.cls = .type "tuple" ∧ o.dict = none) ∨
      (T = "dict" ∧ ((∃ kvs, H p = some (.dK kvs)) ∨ ∃ kvs, H p = some (.dT kvs))) ∨ (T = "set" ∧ ∃ S n, H p = some (.set S n))
  | _ => False
theorem tyV_is {pins : List (Addr × Obj)} {σ : St} {H : Hp} {s : Shared} {T : String} {x : V} {v : Value} (I : Inv X pins σ H s) (r : RelV x v) (ty : tyV X.K T x H) :
    s.TypeIs v T ∧ ∀ a, v = .ref a → ∃ ob, s.heap.get? a = some ob ∧ ob.dict = none := by
  cases x with
  | str z =>
    obtain ⟨t, rfl⟩ := r
    cases (show T = "str" from ty)
    exact ⟨typeIs_str s z t, fun _ e => nomatch e⟩
  | int i =>
    obtain ⟨t, rfl⟩ := r
    cases (show T = "int" from ty)
    exact ⟨typeIs_int s i t, fun _ e => nomatch e⟩
  | ref p =>
    cases r
    rcases ty with ⟨rfl, xs, hq⟩ | ⟨rfl, o, hk, hc, hd⟩ | ⟨rfl, hk⟩ | ⟨rfl, S, n, hk⟩
    · obtain ⟨its, _, pl, _⟩ := I.list hq
      refine ⟨pl.isList.typeIs, fun a e => ?_⟩
      cases e
      obtain ⟨o, n, e, c, hd, _⟩ := pl
      exact ⟨o, e, hd⟩
    · refine ⟨⟨o, I.kIn p o hk, hc⟩, fun a e => ?_⟩
      cases e
      exact ⟨o, I.kIn _ o hk, hd⟩
    · have z : ∃ o, s.heap.get? p = some o ∧ o.ExactDict := by
        rcases hk with ⟨kvs, hk⟩ | ⟨kvs, hk⟩
        · obtain ⟨_, _, _, _, o, _, _, e, ex, _⟩ := I.hok p _ hk
          exact ⟨o, e, ex⟩
        · obtain ⟨_, _, _, _, o, _, _, e, ex, _⟩ := I.hok p _ hk
          exact ⟨o, e, ex⟩
      obtain ⟨o, e, ex⟩ := z
      refine ⟨⟨o, e, ex.1⟩, fun a e2 => ?_⟩
      cases e2
      exact ⟨o, e, ex.2.1⟩
    · obtain ⟨o, _, _, _, e, ex, _⟩ := I.hok p _ hk
      refine ⟨⟨o, e, ex.1⟩, fun a e2 => ?_⟩
      cases e2
      exact ⟨o, e, ex.2.1⟩
  | _ => exact False.elim ty
def tBM0 (K : PySem.W.Frag) (T : String) (r : V → List V → Hp → VK → Prop) (to : TE) : TE := fun σ H Q => to σ H fun x H1 => tyV K T x H1 ∧ r x [] H1 Q
def tBM (K : PySem.W.Frag) (T : String) (r : V → List V → Hp → VK → Prop) (to : TE) (t : TA) : TE := fun σ H Q => to σ H fun x H1 => tyV K T x H1 ∧ t σ H1 fun xs H2 => r x xs H2 Q
variable {o e : Expr} {es : List Expr} {to : TE} {t : TA} {name : Str} {apos cpos : Pos} {T id : String} {r : V → List V → Hp → VK → Prop}
theorem pe_bm0 (pa : PlainAttrs T) (slot : Slot T name id) (hty : typeOf (.builtin id) = pure (.type "method_descriptor")) (hm : MtR X id r) (ho : PE X o to)
    (hbase : attributeBase o name X.env (eval o X.env) = eval o X.env := by rfl) (hline : (apos.endLine == cpos.line) = true := by rfl) : PE X (.Call (.Attribute o name apos) [] [] cpos) (tBM0 X.K T r to) := by
  intro pins s σ H Q I h
  refine wpAny_Call_method0_late hbase hline (thn (ho pins s σ H _ I h) fun v s1 ⟨x, H1, I1, r1, ty, q1⟩ => ?_)
  obtain ⟨h1, h2⟩ := tyV_is I1 r1 ty
  exact ⟨T, id, pa, slot, hty, h1, h2, Calls.callWith_builtin rfl (PySem.evalArgs_none (hm pins s1 σ H1 x [] v [] Q I1 r1 .nil q1))⟩
theorem pe_bm (pa : PlainAttrs T) (slot : Slot T name id) (hty : typeOf (.builtin id) = pure (.type "method_descriptor")) (hm : MtR X id r) (ho : PE X o to) (ha : PA X (e :: es) t)
    (hbase : attributeBase o name X.env (eval o X.env) = eval o X.env := by rfl)
    (hfew : ((backTo cpos (starEach (e :: es) X.env)).all (fun x => !x.1) && (backToKw cpos (keywordEach [] X.env)).all (fun x => x.1.isSome)
      && decide ((e :: es).length + ([] : List Keyword).length + (if ([] : List Keyword).isEmpty then 0 else 1) < 30)) = true := by rfl)
    (hline : (apos.endLine == cpos.line) = true := by rfl) (hs : starEach (e :: es) X.env = (false, eval e X.env) :: starEach es X.env := by rfl) (hplain : (backTo cpos (starEach es X.env)).any (·.1) = false := by rfl) :
    PE X (.Call (.Attribute o name apos) (e :: es) [] cpos) (tBM X.K T r to t) := by
  intro pins s σ H Q I h
  refine wpAny_Call_method_late hbase hfew hline rfl (thn (ho pins s σ H _ I h) fun v s1 ⟨x, H1, I1, r1, ty, q1⟩ => ?_)
  obtain ⟨h1, h2⟩ := tyV_is I1 r1 ty
  refine ⟨T, id, pa, slot, hty, h1, h2, ?_⟩
  have hA := ha cpos pins s1 σ H1 _ I1 q1
  rw [hs] at hA ⊢
  refine Calls.callWith_builtin (by show (false || (backTo cpos (starEach es X.env)).any (·.1)) = false; rw [hplain] <;> rfl) (Calls.evalArgs_plain ?_)
  exact thn hA fun us s2 ⟨vs, H2, I2, r2, q2⟩ => hm pins s2 σ H2 x vs v us Q I2 r1 r2 q2
/- xs.append(e), list.index on a module's tuple .. are MtR facts of 06m -/
end
end L2

namespace L2
open PySem PySem.Spec PyProof.Rows

def MtM (X : Cx) (id : String) (r : V → List V → Hp → VK → Prop) : Prop :=
  ∀ (pins : List (Addr × Obj)) (s : Shared) (σ : St) (H : Hp) (x : V) (xs : List V) (v : Value) (us : List Value) (Q : VK), Inv X pins σ H s → RelV x v → Vals xs us → r x xs H Q →
    wpAny (model X.prog X.w) X.A (call (.builtin id) (v :: us)) (EP X pins σ Q) X.xe s

/-! ### lists of values -/
theorem Vals.one : ∀ {x : V} {us : List Value}, Vals [x] us → ∃ u, us = [u] ∧ RelV x u
  | _, _, .cons r .nil => ⟨_, rfl, r⟩
theorem Vals.two : ∀ {x y : V} {us : List Value}, Vals [x, y] us → ∃ u v, us = [u, v] ∧ RelV x u ∧ RelV y v
  | _, _, _, .cons r (.cons q .nil) => ⟨_, _, rfl, r, q⟩
theorem Vals.zero : ∀ {us : List Value}, Vals [] us → us = []
  | _, .nil => rfl
theorem Vals.rep {xs : List V} {us : List Value} (h : Vals xs us) : ∀ k : Nat, Vals (List.replicate k xs).flatten (List.replicate k us).flatten
  | 0 => .nil
  | k + 1 => by
    rw [List.replicate_succ, List.replicate_succ, List.flatten_cons, List.flatten_cons]
    exact Vals.append h (Vals.rep h k)
theorem foldl_rep (its : List Value) : ∀ (k : Nat) (acc : List Value),
    List.foldl (fun x1 x2 => x1 ++ x2) acc.toArray (List.replicate k its.toArray) = (acc ++ (List.replicate k its).flatten).toArray
  | 0, acc => by simp
  | k + 1, acc => by
    have e : acc.toArray ++ its.toArray = (acc ++ its).toArray := by simp
    have e2 : (acc ++ its) ++ (List.replicate k its).flatten = acc ++ (List.replicate (k + 1) its).flatten := by
      rw [List.replicate_succ, List.flatten_cons, List.append_assoc]
    rw [← e2, ← foldl_rep its k (acc ++ its), ← e, List.replicate_succ, List.foldl_cons]

section
variable {X : Cx} {pins : List (Addr × Obj)} {σ : St} {H : Hp} {s : Shared} {l b : Addr} {xs ys zs : List V}

/-! ### the two steps: a tracked list is rewritten, a new list is laid -/
theorem Inv.lset {its its' : List Value} {n : Nat} {f : Array Value → Array Value} {t' : Nat} (I : Inv X pins σ H s) (hH : H l = some (.lst xs))
    (e : s.heap.get? l = some { cls := .type "list", data := .seq its.toArray n }) (hf : f its.toArray = its'.toArray) (hv : Vals ys its') (hz : ys.length ≤ sizeLine) :
    Inv X pins σ (upd H l (.lst ys)) { s with heap := s.heap.update l (Obj.mapSeq f), toks := t' } := by
  have q := PySem.IsL.update e f
  rw [hf] at q
  refine I.write (x := l) (e := l) (by rw [hH]; exact trivial) (.inl rfl) (fun b' u hb hu => (Heap.get?_update_other s.heap (Obj.mapSeq f) (Ne.symm hb)).trans hu) ⟨_, q⟩ ?_
  exact ⟨hz, its', _, hv, q⟩
theorem Inv.lnew {its : List Value} {t' : Nat} (I : Inv X pins σ H s) (hv : Vals ys its) (hz : ys.length ≤ sizeLine) :
    Inv X pins σ (upd H s.heap.objs.size (.lst ys)) { s with heap := s.heap.push { cls := .type "list", data := .seq its.toArray }, toks := t' } :=
  I.laid (fun _ _ q => Heap.get?_push_of_some _ q) (Nat.le_refl _) ⟨hz, its, 0, hv, Heap.get?_push_size _ rfl⟩
theorem Inv.fresh (I : Inv X pins σ H s) : H s.heap.objs.size = none := I.hok.fresh (Nat.le_refl _)
theorem Inv.lstM (I : Inv X pins σ H s) (hH : H l = some (.lst xs)) : xs.length ≤ sizeLine ∧ ∃ (its : List Value) (n : Nat), Vals xs its ∧ xs.length = its.length ∧ s.heap.get? l = some { cls := .type "list", data := .seq its.toArray n } := by
  obtain ⟨z, its, n, r, e⟩ := I.hok l _ hH
  exact ⟨z, its, n, r, r.length, e⟩

theorem notLongL {n : Nat} (h : n ≤ sizeLine) : Builtin.List.listTooLong n = false := by
  unfold Builtin.List.listTooLong
  exact decide_eq_false (by omega)
end

section
variable {X : Cx}

/-! ### methods -/
def rAppend : V → List V → Hp → VK → Prop := fun x vs H Q => ∃ l xs y, x = .ref l ∧ vs = [y] ∧ H l = some (.lst xs) ∧ xs.length < sizeLine ∧ Q .non (upd H l (.lst (xs ++ [y])))
theorem mt_append : MtM X "list.append" rAppend := by
  intro pins s σ H x vs v us Q I rx rv h
  obtain ⟨l, xs, y, rfl, rfl, hH, hz, q⟩ := h
  cases rx
  obtain ⟨u, rfl, ru⟩ := rv.one
  obtain ⟨z, its, n, r, hl, e⟩ := I.lstM hH
  refine call_meets F.slot_list_append ⟨_, e, rfl⟩ F.entry_list_append (F.args_list_append_2 _ _) (PySem.list_append l its.toArray n u (by rw [List.size_toArray]; omega)) ⟨e, ?_⟩
  refine ⟨.non, _, I.lset (its' := its ++ [u]) hH e (by simp) (r.append (.cons ru .nil)) ?_, rfl, q⟩
  rw [List.length_append, List.length_singleton]
  omega

def rExtend : V → List V → Hp → VK → Prop := fun x vs H Q => ∃ l b xs zs, x = .ref l ∧ vs = [.ref b] ∧ H l = some (.lst xs) ∧ H b = some (.lst zs) ∧ xs.length + zs.length ≤ sizeLine ∧ Q .non (upd H l (.lst (xs ++ zs)))
def rPop : V → List V → Hp → VK → Prop := fun x vs H Q => ∃ l xs y, x = .ref l ∧ vs = [] ∧ H l = some (.lst xs) ∧ xs[xs.length - 1]? = some y ∧ Q y (upd H l (.lst xs.dropLast))
def rPopAt : V → List V → Hp → VK → Prop := fun x vs H Q => ∃ l xs i k y, x = .ref l ∧ vs = [.int i] ∧ H l = some (.lst xs) ∧ -(2 ^ 63) ≤ i ∧ i < 2 ^ 63 ∧ seqIndex? i xs.length = some k ∧ xs[k]? = some y ∧ Q y (upd H l (.lst (xs.eraseIdx k)))
def rReverse : V → List V → Hp → VK → Prop := fun x vs H Q => ∃ l xs, x = .ref l ∧ vs = [] ∧ H l = some (.lst xs) ∧ Q .non (upd H l (.lst xs.reverse))
def rClear : V → List V → Hp → VK → Prop := fun x vs H Q => ∃ l xs, x = .ref l ∧ vs = [] ∧ H l = some (.lst xs) ∧ Q .non (upd H l (.lst []))
theorem mt_clear : MtM X "list.clear" rClear := by
  intro pins s σ H x vs v us Q I rx rv h
  obtain ⟨l, xs, rfl, rfl, hH, q⟩ := h
  cases rx
  have hus := rv.zero
  subst hus
  obtain ⟨z, its, n, r, hl, e⟩ := I.lstM hH
  refine call_meets F.slot_list_clear ⟨_, e, rfl⟩ F.entry_list_clear (F.args_list_clear_1 _) (AutoSeq1.list_clear_list_0 l its.toArray n (by rw [List.size_toArray]; omega)) ⟨e, ?_⟩
  exact ⟨.non, _, I.lset (its' := []) (ys := []) hH e rfl .nil (Nat.zero_le _), rfl, q⟩

/-! ### list + list, list += list, list * int -/
def rCat : R2 := fun x y H Q => ∃ l b xs zs, x = .ref l ∧ y = .ref b ∧ H l = some (.lst xs) ∧ H b = some (.lst zs) ∧ xs.length + zs.length ≤ sizeLine ∧ ∀ p, H p = none → Q (.ref p) (upd H p (.lst (xs ++ zs)))
theorem op_cat : OpR X (binaryOp .Add) rCat := by
  intro pins s σ H x y v u Q I rx ry h
  obtain ⟨l, b, xs, zs, rfl, rfl, hH, hB, hz, q⟩ := h
  cases rx
  cases ry
  obtain ⟨z, its, n, r, hl, e⟩ := I.lstM hH
  obtain ⟨z2, its2, n2, r2, hl2, e2⟩ := I.lstM hB
  refine PySem.P.add_list e e2 ?_ (by rw [List.size_toArray, List.size_toArray]; omega)
  have ea : its.toArray ++ its2.toArray = (its ++ its2).toArray := by simp
  rw [ea]
  exact ⟨.ref _, _, I.lnew (t' := s.toks) (r.append r2) (by rw [List.length_append]; omega), rfl, q _ I.fresh⟩
/-- a list times an int (a negative one is nothing) -/
def rRep : R2 := fun x y H Q => ∃ l k xs, x = .ref l ∧ y = .int k ∧ H l = some (.lst xs) ∧ -(2 ^ 63) ≤ k ∧ k < 2 ^ 63 ∧ xs.length * k.toNat ≤ sizeLine ∧
  ∀ p, H p = none → Q (.ref p) (upd H p (.lst (List.replicate k.toNat xs).flatten))
theorem len_rep {α : Type} (xs : List α) (k : Nat) : (List.replicate k xs).flatten.length = k * xs.length := by
  induction k with
  | zero => simp
  | succ k ih => rw [List.replicate_succ, List.flatten_cons, List.length_append, ih, Nat.succ_mul, Nat.add_comm]
theorem op_rep : OpR X (binaryOp .Mult) rRep := by
  intro pins s σ H x y v u Q I rx ry h
  obtain ⟨l, k, xs, rfl, rfl, hH, h1, h2, hz, q⟩ := h
  cases rx
  obtain ⟨t, rfl⟩ := ry
  obtain ⟨z, its, n, r, hl, e⟩ := I.lstM hH
  have hlen : its.toArray.size * k.toNat ≤ sizeLine := by rw [List.size_toArray, ← hl]; exact hz
  have hcap : ¬ its.toArray.size * k.toNat > (2 ^ 63 - 1) / 8 := by
    have : (sizeLine : Nat) ≤ (2 ^ 63 - 1) / 8 := by decide
    omega
  have hfit : ¬ (!Builtin.List.listFitsIndex k) = true := by
    rw [fitsIndex_both h1 h2]
    exact Bool.false_ne_true
  have hlong : ¬ Builtin.List.listTooLong (its.toArray.size * k.toNat) = true := by
    rw [notLongL hlen]
    exact Bool.false_ne_true
  have hnew : List.foldl (fun x1 x2 => x1 ++ x2) #[] (List.replicate (if its.toArray.isEmpty = true then 0 else k.toNat) its.toArray) = (List.replicate k.toNat its).flatten.toArray := by
    have f0 : ∀ m : Nat, List.foldl (fun x1 x2 => x1 ++ x2) #[] (List.replicate m its.toArray) = (List.replicate m its).flatten.toArray := fun m => by
      have := foldl_rep its m []
      rw [List.nil_append] at this
      exact this
    rw [f0]
    cases its with
    | nil => simp
    | cons a r' => rw [if_neg (by simp)]
  refine wpAny_binaryOp_repeat_ref (T := "list") (U := "int") (by decide) ⟨_, e, rfl⟩ (fun s' => typeIs_int s' k t) noFill_list_mul F.fills_int_mul F.slot_int_rmul repeat_list F.slot_int_index.lookup
    (call_meets F.slot_int_rmul (typeIs_int s k t) F.entry_int_rmul (F.args_int_rmul_2 _ _) (int___rmul___int_list k t l its.toArray n)
      ⟨e, rfl, ⟨_, e, rfl⟩, call_meets F.slot_list_mul ⟨_, e, rfl⟩ F.entry_list_mul (F.args_list_mul_2 _ _) (AutoListH.list___mul___list_int_3 l its.toArray n k t hfit hcap hlong) ⟨e, ?_⟩⟩)
  rw [hnew]
  exact ⟨.ref _, _, I.lnew (t' := s.toks) (r.rep k.toNat) (by rw [len_rep, Nat.mul_comm]; exact hz), rfl, q _ I.fresh⟩

/-! ### del xs[i] -/
end

/-! ### xs[a:b] = ys -/
section
variable {prog : Program} {w : World} {A : Around} {E : Value → Shared → Prop} {s : Shared}
theorem splice_eq (its its2 : List Value) (a c : Nat) : its.toArray.extract 0 a ++ its2.toArray ++ its.toArray.extract c its.toArray.size = (its.take a ++ its2 ++ its.drop c).toArray := by
  apply Array.toList_inj.mp
  first
    | (simp
       exact List.take_of_length_le (by simp))
    | simp [List.take_of_length_le]
    | simp
theorem bounds_run {a c n : Nat} (hac : a ≤ c) (hc : c ≤ n) : sliceBounds (some (a : Int)) (some (c : Int)) none n = ((a : Int), (c : Int), 1) := by
  simp only [sliceBounds, Option.getD_none]
  have h1 : ¬ ((a : Int) < 0) := by omega
  have h2 : ¬ ((c : Int) < 0) := by omega
  simp only [h1, h2, if_false, show (1 : Int) > 0 by decide, if_true]
  congr 1
  · omega
  · congr 1; omega
set_option maxRecDepth 100000 in
/-- list.__setitem__ with a slice of step one and another list -/
theorem setItem_slice {l b sl : Addr} {items new : Array Value} {n n2 : Nat} {vl vu : Value} {a c : Nat} {Q : Unit → Shared → Prop}
    (e : s.heap.get? l = some { cls := .type "list", data := .seq items n }) (e2 : s.heap.get? b = some { cls := .type "list", data := .seq new n2 }) (hne : l ≠ b)
    (hs : s.heap.IsSliceOf sl vl vu .none) (pl : IsPart vl (some (a : Int))) (pu : IsPart vu (some (c : Int))) (hac : a ≤ c) (hc : c ≤ items.size)
    (hsz : items.size + new.size ≤ sizeLine) (h : Q () { s with heap := s.heap.update l (Obj.mapSeq fun xs => xs.extract 0 a ++ new ++ xs.extract c xs.size) }) :
    wpAny (model prog w) A (setItem (.ref l) (.ref sl) (.ref b)) Q E s := by
  have hl : s.heap.IsList l items := PySem.IsL.isList e
  have hb : s.heap.IsList b new := PySem.IsL.isList e2
  obtain ⟨os, hos, hcs, hds⟩ := id hs
  have hTs : s.TypeIs (.ref sl) "slice" := ⟨os, hos, hcs⟩
  have hstep : ¬ ((rawPart none == rawInt 0) = true) := Bool.false_ne_true
  have hsame : Builtin.List.listSameRef (.ref l) (.ref b) = false := by
    unfold Builtin.List.listSameRef
    exact beq_eq_false_iff_ne.mpr hne
  have hmax : (max (a : Int) (c : Int)).toNat = c := by omega
  have hz' : ((fun xs : Array Value => xs.extract 0 a ++ new ++ xs.extract c xs.size) items).size ≤ sizeLine + 1 := by
    simp only [Array.size_append, Array.size_extract]
    omega
  unfold setItem
  try with_reducible refine wpAny_holding ?_
  first | refine wpAny_bind (wpAny_pure ?_) | skip
  refine wpAny_bind (wpAny_sequenceKey hl.typeIs (by decide) ?_)
  refine wpAny_bind (wpAny_callSpecial?_slot (name := Str.ofString "__setitem__") hl.typeIs slot_list_setitem
    (wpAny_call_entry slot_list_setitem hl.typeIs entry_list_setitem ?_ (args_list_setitem _ _ _)))
  show wpAny _ _ (Builtin.List.listSubscript? (.ref sl) >>= _) _ _ s
  refine wpAny_bind ?_
  unfold Builtin.List.listSubscript?
  refine wpAny_bind (wpAny_specialOf hTs slice_no_index ?_)
  simp only [Option.isNone_none, if_true]
  refine wpAny_pure ?_
  show wpAny _ _ (typeOf (.ref sl) >>= _) _ _ s
  refine wpAny_bind (wpAny_typeOf hTs ?_)
  first
    | rw [if_neg (by decide)]
    | refine PySem.W.KFB.if_not (by decide) ?_
  rw [listSliceParts_eq]
  refine wpAny_bind (wpAny_bind (wpAny_field hos hds (x := .none) rfl (wpAny_bind (wpAny_listPart .none ?_))))
  rw [if_neg hstep]
  refine wpAny_bind (wpAny_field hos hds (x := vl) rfl (wpAny_bind (wpAny_listPart pl ?_)))
  refine wpAny_bind (wpAny_field hos hds (x := vu) rfl (wpAny_bind (wpAny_listPart pu (wpAny_pure ?_))))
  first
    | simp only [hsame, Bool.false_eq_true, if_false]
    | refine PySem.W.KFB.if_not hsame ?_
    | (dsimp only
       rw [if_neg (by rw [hsame]; exact Bool.false_ne_true)])
  refine wpAny_bind (m := Builtin.List.listAllItems (.ref b) "must assign iterable to extended slice") ?_
  unfold Builtin.List.listAllItems
  refine wpAny_bind (wpAny_typeOf hb.typeIs ?_)
  first
    | refine PySem.W.KFB.if_so (by decide) ?_
    | rw [if_pos (by decide)]
    | simp only [beq_self_eq_true, Bool.true_or, if_true]
  unfold Builtin.List.listItems
  refine wpAny_bind (wpAny_seqItems e2 rfl (wpAny_pure ?_))
  refine wpAny_bind (wpAny_bind (wpAny_seqItems e rfl (wpAny_pure ?_)))
  refine wpAny_bind (wpAny_of_eq ((sliceIndices_raw (some (a : Int)) (some (c : Int)) none items.size (by simp)).trans (congrArg (pure : Int × Int × Int → Sem (Int × Int × Int)) (bounds_run hac hc))) ?_)
  show wpAny _ _ (if ((1 : Int) == 1) = true then _ else _) _ _ s
  rw [if_pos (by decide)]
  refine wpAny_bind (wpAny_rule ?_)
  first
    | simp only [notLongL hsz, Bool.false_eq_true, if_false]
    | refine PySem.W.KFB.if_not (notLongL hsz) ?_
  first | refine wpAny_bind (wpAny_pure ?_) | skip
  show wpAny _ _ (updateSeq l (fun xs => xs.extract 0 ((a : Int)).toNat ++ new ++ xs.extract (max (a : Int) (c : Int)).toNat xs.size) >>= _) _ _ s
  rw [hmax, Int.toNat_natCast]
  refine wpAny_bind (wpAny_updateSeq (hz := Nat.le_trans (Nat.le_add_right _ _) hsz) (_hz' := hz') e rfl ?_)
  refine wpAny_bind (wpAny_letGo ?_)
  first
    | exact wpAny_bind (wpAny_pure (wpAny_pure ⟨.none, rfl, wpAny_pure h⟩))
    | exact wpAny_pure ⟨.none, rfl, wpAny_pure h⟩
end

section
variable {X : Cx}
/-- xs[a:c] = ys of another list, at the value level: sl is the slice object that was just made -/
theorem set_slice {pins : List (Addr × Obj)} {s : Shared} {σ : St} {H : Hp} {l b sl : Addr} {xs ys : List V} {a c : Int} {vl vu : Value} {Q : Unit → Shared → Prop} (I : Inv X pins σ H s)
    (hH : H l = some (.lst xs)) (hB : H b = some (.lst ys)) (hne : l ≠ b) (hs : s.heap.IsSliceOf sl vl vu .none) (ra : RelV (.int a) vl) (rc : RelV (.int c) vu) (h0 : 0 ≤ a) (hac : a ≤ c) (hc : c ≤ xs.length)
    (hz : xs.length + ys.length ≤ sizeLine) (h : ∀ s', Inv X pins σ (upd H l (.lst (xs.take a.toNat ++ ys ++ xs.drop c.toNat))) s' → Q () s') :
    wpAny (model X.prog X.w) X.A (setItem (.ref l) (.ref sl) (.ref b)) Q X.xe s := by
  obtain ⟨ta, rfl⟩ := ra
  obtain ⟨tc, rfl⟩ := rc
  obtain ⟨z, its, n, r, hl, e⟩ := I.lstM hH
  obtain ⟨z2, its2, n2, r2, hl2, e2⟩ := I.lstM hB
  obtain ⟨a', rfl⟩ := Int.eq_ofNat_of_zero_le h0
  obtain ⟨c', rfl⟩ := Int.eq_ofNat_of_zero_le (Int.le_trans h0 hac)
  simp only [Int.toNat_natCast] at h
  refine setItem_slice (a := a') (c := c') e e2 hne hs (.int _ _) (.int _ _) (by omega) (by rw [List.size_toArray]; omega) (by rw [List.size_toArray, List.size_toArray]; omega) (h _ ?_)
  refine I.lset (its' := its.take a' ++ its2 ++ its.drop c') (t' := s.toks) hH e ?_ (Vals.append (Vals.append (r.take _) r2) (r.drop _)) ?_
  · exact splice_eq its its2 a' c'
  · rw [List.length_append, List.length_append, List.length_take, List.length_drop]
    omega
end
end L2

namespace Att
open PySem PySem.W PySem.Calls PyProof.Rows

/-! ### the script -/
theorem ints_of_wellAll {P : Params} {h : Heap} : ∀ (ns : List Int) (vs : List Value), WellAll P h vs (ns.map WData.int) → IntsAre vs ns := by
  intro ns
  induction ns with
  | nil =>
    intro vs w
    rw [List.map_nil] at w
    cases w
    exact .nil
  | cons n ns ih =>
    intro vs w
    rw [List.map_cons] at w
    cases w with
    | cons a b =>
      cases a
      exact .cons _ _ (ih _ b)

theorem script_of {l : OpenLaw} {n : Nat} (hn : l.most = some n) {P : Params} {h : Heap} {args : List WData} {vals : List Value}
    (hpre : l.row.toRowW.claim.pre args = true) (hwl : WellAll P h vals args) :
    ∃ a vs ns, vals = [Value.ref a] ∧ args = [WData.list (ns.map WData.int)] ∧ h.get? a = some { cls := .type "list", data := .seq vs.toArray } ∧ IntsAre vs ns ∧ ns.length ≤ n := by
  have hsh : WShape.hasAll [] args [.list .int] = true := (pre_splitW hpre).1
  have hc : l.pre.holds [] { args := args } = true := (pre_splitW hpre).2
  obtain ⟨d, r, rfl, h1, h2⟩ := hasAllW_cons hsh
  obtain rfl := hasAllW_nil h2
  obtain ⟨xs, rfl, h3⟩ := hasW_list h1
  obtain ⟨ns, rfl⟩ := items_int h3
  have hlen : ns.length ≤ n := by
    unfold OpenLaw.pre at hc
    have h4 : (WTm.not (.lt (.lit (.int (n : Int))) (.len (.arg 0)))).holds [] { args := [.list (ns.map .int)] } = true := by
      have h4 := (holds_andW hc).1
      rw [hn] at h4
      exact h4
    have h5 := condW_of h4 (w_not (w_lt w_lit (w_len_list (w_arg rfl))))
    rw [List.length_map] at h5
    refine Nat.le_of_not_lt fun q => ?_
    have q' : (n : Int) < ((ns.length : Nat) : Int) := by omega
    first
      | (rw [decide_eq_true q'] at h5; exact absurd h5 (by decide))
      | (simp at h5; omega)
  cases hwl with
  | cons w1 w2 =>
    cases w2
    cases w1 with
    | list ho hall => exact ⟨_, _, ns, rfl, rfl, ho, ints_of_wellAll ns _ hall, hlen⟩

theorem post_true (l : OpenLaw) (args : List WData) : l.row.toRowW.claim.post args (.bool true) args = true :=
  postW_of (r := l.row.toRowW) (X := (true == true))
    (show WShape.has [] (.bool true) .bool = true by first | rfl | decide | simp [WShape.has, WShape.arms, WShape.armsAll])
    (show (WTm.eq .res (.lit (.bool true))).value [] { args := args, res := some (.bool true), after := args } = some (.bool (true == true)) from w_eq_bool (w_res rfl) w_lit) rfl

/-! ### the attachment: holds_open's last premise (the goal 'hc' behind k_head) from a wpAny of the law's body -/
/-- the same from a codeAny of the CALL (for a layer whose function contracts speak of calls) -/
theorem attach_call {l : OpenLaw} {n : Nat} {q : Program} {loose : List Str} {XP : (Str → Option Value) → Heap → Prop} {YP : World → Heap → Prop} {d : DefRec}
    (hn : l.most = some n) (hdf : d.params.defaults = [])
    (call : ∀ (w : World) (s₀ s₁ : Shared) (mg mb : Str → Option Value) (fa : Addr) (o : Obj) (pm cd doc : Value) (a : Addr) (vs : List Value) (ns : List Int),
      Ground q loose [] XP w s₀ mg mb s₁.heap → YP w s₁.heap →
      s₁.heap.get? fa = some o → o.data = .func (docDef d.name d.params d.body d.scope pm cd doc) → s₁.heap.CodeRec cd d.name → mg d.name = some (.ref fa) →
      s₁.heap.get? a = some { cls := .type "list", data := .seq vs.toArray } → IntsAre vs ns → ns.length ≤ n → s₁.gens = #[] →
      codeAny (model l.prog w) callerA (.call (.ref fa) ⟨[.ref a], []⟩) (fun r s' => r = .ok (.ret (.bool true)) ∧ OldK s₁.heap s'.heap ∧ s'.os = s₁.os ∧ AllBare s'.gens) s₁) :
    WalkO q loose XP YP l.row.toRowW d [] (fun f vs => PySem.call f vs) := by
  intro w s₀ s₁ mg mb G Y fa o pm cd doc dV kV ho hd hcd hD hmg hg args vals as hpre hlay hrd hwl hlo
  obtain rfl : dV = .none := Dflts.none hD hdf
  obtain rfl : kV = .none := Dflts.noKw hD
  obtain ⟨a, vs, ns, rfl, rfl, hobj, hints, hlen⟩ := script_of hn hpre hwl
  refine enter_call (codeAny_mono (call w s₀ s₁ mg mb fa o pm cd doc a vs ns G Y ho (fd_plain hd) hcd hmg hobj hints hlen hg) fun r s' hq => ?_)
  obtain ⟨rfl, h2, h3, h4⟩ := hq
  exact ⟨.inl ⟨.bool true, .bool true, [], rfl, fun _ => rfl, .bool true, post_true l _, fun _ => ⟨List.Pairwise.nil, fun _ hm => (nomatch hm)⟩⟩, h2, h3, h4⟩

/-! ### rules over ANY heap (no ledger) from facts about the written part K: the library's own take a ledger (News) for what they write -/
section
variable {prog : Program} {w : World} {A : Around} {E : Value → Shared → Prop} {s : Shared} {K : Frag}

/-! the whole heap as the ledger: makes every rule that writes through a ledger a rule over any heap -/
def noObjs (h : Heap) : Heap := { h with objs := #[] }
def ledger (h : Heap) (L d : Addr) : List (Addr × Obj) := (List.range h.objs.size).filterMap fun a => if a = L ∨ a = d then none else (h.get? a).map fun o => (a, o)
end
end Att

namespace L2
open PySem PySem.Spec PyProof.Rows

theorem vals_ints : ∀ {vs : List Value} {ns : List Int}, IntsAre vs ns → Vals (ns.map V.int) vs
  | _, _, .nil => .nil
  | _, _, .cons n t h => .cons ⟨t, rfl⟩ (vals_ints h)

/-- nothing is tracked but the script, known to the object (or it is an object of the module) -/
def Only (H : Hp) : Prop := ∀ b, H b = none ∨ ∃ o xs, H b = some (.frz o (.lst xs))

/-- THE HEAD: the law's promise, at the heap behind the top. F, the promise of the law's def, may use that base is part of the heap (so K.In base, base.Ns mainGlobals mg stand in Mod) -/
theorem law_call {P : Program} {w : World} {K : PySem.W.Frag} {mg mb : Str → Option Value} {CX : CXT} {k : Nat} {fa a : Addr} {fd : FuncData} {x : Str} {sp : Sp} {s₁ : Shared} {vs : List Value} {ns : List Int}
    (KX : K.In s₁.heap) (hns : s₁.heap.Ns mainGlobals mg) (hb : s₁.heap.Ns builtinsNs mb) (hbb : ∀ x : Str, x ≠ "__name__" → mb x = bootBuiltins x) (hlim : s₁.heap.NoLimit) (hg : s₁.gens = #[])
    (ha : s₁.heap.get? a = some { cls := .type "list", data := .seq vs.toArray }) (hi : IntsAre vs ns) (hl : ns.length ≤ sizeLine) (hr : Room k callerA)
    (F : ∀ base : Heap, K.In base → base.Ns mainGlobals mg → FnOk P w K mg base CX k fa fd [x] sp) (hbind : ∀ (s : Shared) (u : Value), BindsTo s fd ⟨[u], []⟩ [(x, u)])
    (hsp : ∀ H : Hp, Only H → SqL K H a (ns.map V.int) → sp [.ref a] H (fun v _ => v = .bl true) fun _ _ _ => False)
    (hCX : ∀ H e s', CX [] H s₁ (fun _ _ _ => False) e s' → False) :
    codeAny (model P w) callerA (.call (.ref fa) ⟨[.ref a], []⟩) (fun r s' => r = .ok (.ret (.bool true)) ∧ OldK s₁.heap s'.heap ∧ s'.os = s₁.os ∧ AllBare s'.gens) s₁ := by
  have rv := vals_ints hi
  have lenV := hi.length
  -- from an abstract heap in which nothing but the script may be tracked
  have core : ∀ H : Hp, Only H → SqL K H a (ns.map V.int) → HOk P w H s₁.heap → (∀ b, H b ≠ none → b = a) → (H a ≠ none → K.lookup a = none) →
      codeAny (model P w) callerA (.call (.ref fa) ⟨[.ref a], []⟩) (fun r s' => r = .ok (.ret (.bool true)) ∧ OldK s₁.heap s'.heap ∧ s'.os = s₁.os ∧ AllBare s'.gens) s₁ := by
    intro H hO hS hok hA hK
    have base_of : ∀ {b : Addr} {o : Obj}, s₁.heap.get? b = some o → H b = none → (hidT s₁.heap H).get? b = some o := fun e n => hidT_get e n
    have noA : ∀ {b : Addr} {o : Obj} {es : Array DictEntry} {ep : Nat}, s₁.heap.get? b = some o → o.data = .dict es ep → H b = none := fun {b o es ep} e d => by
      cases q : H b with
      | none => rfl
      | some u =>
        have e' : b = a := hA b (by rw [q]; simp)
        subst e'
        rw [ha] at e; cases e
        have d' : Data.seq vs.toArray _ = Data.dict es ep := d
        cases d'
    have nsK : ∀ {b : Addr} {m : Str → Option Value}, s₁.heap.Ns b m → (hidT s₁.heap H).Ns b m := fun {b m} ⟨o, es, ep, e, d, r⟩ => ⟨o, es, ep, base_of e (noA e d), d, r⟩
    have hKb : K.In (hidT s₁.heap H) := fun b o e => base_of (KX b o e) (by
      cases q : H b with
      | none => rfl
      | some u =>
        have e' : b = a := hA b (by rw [q]; simp)
        subst e'
        rw [hK (by rw [q]; simp)] at e; cases e)
    have hM : Mod K mg (hidT s₁.heap H) := ⟨hKb, nsK hns, ⟨mb, nsK hb, hbb⟩, let ⟨mc, h1, h2⟩ := hlim; ⟨mc, nsK h1, h2⟩⟩
    have e0 : Env0 P w K mg (hidT s₁.heap H) callerA [] s₁ H := ⟨rfl, hM, fun b o e => of_hidT e, Nat.le_of_eq (hidT_size _ _), trivial, fun b hb => absurd (show b ∈ ([] : List Addr) from hb) (by simp), hok, .of_eq hg⟩
    refine codeAny_mono ((F _ hKb (nsK hns)).run callerA [] s₁ H ⟨[.ref a], []⟩ [.ref a] [.ref a] _ _ hr e0 (hbind s₁ (.ref a)) (.cons rfl .nil) (hsp H hO hS)) fun r s' h => ?_
    cases r with
    | error e => exact (hCX H e s' h).elim
    | ok fl =>
      cases fl with
      | next => exact False.elim h
      | brk => exact False.elim h
      | cont => exact False.elim h
      | ret u =>
        obtain ⟨v, H', os, bare, un, hok', r', q⟩ := h
        have q' : v = .bl true := q
        subst q'
        obtain rfl : u = Value.bool true := r'
        refine ⟨rfl, OldK.of_keep fun b o e => ?_, os, bare⟩
        cases q : H b with
        | none => exact un.keep b o e q (by intro z; exact absurd (show b ∈ ([] : List Addr) from z) (by simp)) (by simp)
        | some u =>
          rcases hO b with z | ⟨ob, xs, z⟩
          · rw [q] at z; cases z
          · have z2 := un.frzs b ob _ z
            obtain ⟨e1, _⟩ := hok b _ z
            obtain ⟨e2, _⟩ := hok' b _ z2
            rw [e] at e1; cases e1
            exact e2
  cases hk : K.lookup a with
  | some o =>
    -- the script is one of the module's own objects
    have e := KX a o hk
    rw [ha] at e
    cases e
    refine core (fun _ => none) (fun _ => .inl rfl) (.inr ⟨_, vs.toArray, _, hk, rfl, rfl, rfl, by rw [List.size_toArray, lenV]; exact hl, by simpa using rv⟩) (fun b u z => by have z' : (none : Option HO) = some u := z; cases z') (fun b z => absurd rfl z) fun z => absurd rfl z
  | none =>
    refine core (fun b => if b = a then some (.frz { cls := .type "list", data := .seq vs.toArray } (.lst (ns.map V.int))) else none) (fun b => ?_) (.inl (.inr ⟨{ cls := .type "list", data := .seq vs.toArray }, if_pos rfl⟩)) (fun b u z => ?_) (fun b z => ?_) fun _ => hk
    · by_cases hb : b = a
      · exact .inr ⟨_, _, if_pos hb⟩
      · exact .inl (if_neg hb)
    · by_cases hb : b = a
      · have z' := (if_pos hb).symm.trans z
        cases z'
        subst hb
        exact ⟨ha, by rw [List.length_map]; exact hl, vs, _, rv, ha⟩
      · have z' := (if_neg hb).symm.trans z
        cases z'
    · by_cases hb : b = a
      · exact hb
      · exact absurd (if_neg hb) z
end L2

namespace L2
open PySem PySem.Spec PyProof.Rows

abbrev KOf {K : PySem.W.Frag} {h : Heap} (_ : K.In h) : PySem.W.Frag := K

/-- the goal that k_head leaves (case hc), from the law's promise. F gives the function object fd (K's own) once, then the promise over every base -/
theorem walk_of {l : PySem.W.OpenLaw} {n k : Nat} {q : Program} {loose : List Str} {XP : (Str → Option Value) → Heap → Prop} {YP : World → Heap → Prop} {d : DefRec} {K : Params → PySem.W.Frag} {CX : World → CXT} {sp : World → Sp} {x : Str}
    (hn : l.most = some n) (hn2 : n ≤ sizeLine) (hdf : d.params.defaults = []) (hr : Room k callerA)
    (hY : ∀ (w : World) (h : Heap), YP w h → (K w.params).In h)
    (F : ∀ (w : World) (mg : Str → Option Value) (fa : Addr) (h : Heap), (K w.params).In h → h.Ns mainGlobals mg → mg d.name = some (.ref fa) →
      ∃ fd : FuncData, (∀ (s : Shared) (u : Value), BindsTo s fd ⟨[u], []⟩ [(x, u)]) ∧
        ∀ base : Heap, (K w.params).In base → base.Ns mainGlobals mg → FnOk l.prog w (K w.params) mg base (CX w) k fa fd [x] (sp w))
    (hsp : ∀ (w : World) (H : Hp) (a : Addr) (ns : List Int), ns.length ≤ n → Only H → SqL (K w.params) H a (ns.map V.int) → sp w [.ref a] H (fun v _ => v = .bl true) fun _ _ _ => False)
    (hCX : ∀ (w : World) (H : Hp) (s : Shared) (e : Value) (s' : Shared), CX w [] H s (fun _ _ _ => False) e s' → False) :
    PySem.W.WalkO q loose XP YP l.row.toRowW d [] (fun f vs => PySem.call f vs) := by
  refine Att.attach_call hn hdf fun w s₀ s₁ mg mb fa o pm cd doc a vs ns G Y ho hd hcd hmg hobj hints hlen hg => ?_
  have KX := hY w _ Y
  obtain ⟨fd, hb, hF⟩ := F w mg fa _ KX G.T.g hmg
  exact law_call KX G.T.g G.T.b G.T.builtins G.T.nolimit hg hobj hints (Nat.le_trans hlen hn2) hr hF hb (fun H hO hS => hsp w H a ns hlen hO hS) fun H e s' => hCX w H s₁ e s'
end L2

/- THE LAST THEOREM (shape; LID, My.* are yours):
   My.Adr: a structure of the addresses that your layer names (classes, functions); My.Txt K t: a structure (Prop) of the equations over K;
   My.txt_mk : {K} {implicit addresses ..} (e1 : nsIn K mainGlobals "law" = some (some (.ref f))) (e2 : K.lookup f = some ⟨oc, od, .func (fnOf "law" "law" params body scope dV kV doc pm an cdv ct), sl⟩) (e3 : codeIn K cdv "law" = true) .. : ∃ t, My.Txt K t

set_option maxRecDepth 100000 in
set_option maxHeartbeats 0 in
theorem PySem.Challenge.cw_LID_holds : PySem.Challenge.rw_LID.Holds := by
  w_on; o_law; k_head; (case hw => w_witness2)
  k_fill
  refine L2.walk_of (l := PySem.Challenge.rw_LID) (n := 63) (k := 40) (x := "script") (CX := fun w => ..) (sp := fun _ => My.sp_law) rfl (by decide) rfl ⟨rfl, by decide, by decide⟩ (fun w h Y => PySem.W.kIn_of Y) ?F ?S ?C
  case F =>
    intro w mg fa h KX G hmg
    have T : ∃ t, My.Txt (L2.KOf KX) t := by
      dsimp only [L2.KOf]                          -- K must stand as «<heap const> w.params» for k_is
      refine' My.txt_mk ?e1 ?e2 ?e3 ..
      (case e1 => PySem.W.k_is)                    -- in the order: a name -> its address -> its object -> its parts
      (case e2 => PySem.W.k_is)
      ..
    obtain ⟨t, T⟩ := T
    have e0 := hmg.symm.trans (PySem.W.mg_of KX G T.law)
    cases e0                                       -- fa is the law's own address
    exact ⟨_, fun s u => .of_eq rfl, fun base kb nb => My.law_fn T kb nb⟩     -- if «.of_eq rfl» comes too early: refine' ⟨_, ?b, fun base kb nb => My.law_fn T kb nb⟩; exact fun s u => .of_eq rfl
  case S => exact fun w H a ns hl hO hS => ..
  case C => exact ..
(the tactic k_is has no namespace: write k_is) -/

/-! SHORT WORDS over the layer: a def of the text, its body, what a loop and a test want. -/
namespace L2
open PySem PySem.Spec PyProof.Rows

/-! ### the text by places -/
/-- the j-th statement of a class's body -/
def inClass (s : Stmt) (j : Nat) : Stmt := match s with
  | .ClassDef _ _ _ body _ _ _ _ _ _ _ => body.getD j (.Pass ⟨0, 0, 0, 0⟩)
  | _ => .Pass ⟨0, 0, 0, 0⟩
def defArgs (s : Stmt) : Arguments := match s with
  | .FunctionDef _ a _ _ _ _ _ _ _ _ => a
  | _ => { posonlyargs := [], args := [], vararg := none, kwonlyargs := [], kw_defaults := [], kwarg := none, defaults := [] }
def defBody (s : Stmt) : List Stmt := match s with
  | .FunctionDef _ _ b _ _ _ _ _ _ _ => b
  | _ => []
def defScope (s : Stmt) : Scope := match s with
  | .FunctionDef _ _ _ _ _ _ sc _ _ _ => sc
  | _ => { kind := .function, names := [], isGenerator := false, isCoroutine := false }

/-! ### no exception leaves a def -/
abbrev CX0 : CXT := fun _ _ _ _ _ _ => False
abbrev E0 : XK := fun _ _ _ => False
theorem pass0 {X : Cx} : Passes CX0 X E0 := fun _ _ _ _ _ _ _ h => h.elim

/-! ### a def (or method) of the text as it stands behind the top -/
structure Fun (K : PySem.W.Frag) (x qual : Str) (st : Stmt) (f : Addr) (fd : FuncData) : Prop where
  ex : ∃ (oc : Value) (od : Option Addr) (kV doc pm : Value) (an : Option Addr) (cdv ct : Value) (osl : Array (Option Value)),
    fd = PySem.W.fnOf x qual (defArgs st) (defBody st) (defScope st) .none kV doc pm an cdv ct ∧ K.lookup f = some ⟨oc, od, .func fd, osl⟩ ∧ PySem.W.codeIn K cdv qual = true
  kp : PySem.W.keepIn K (.ref f) = true
section
variable {P : Program} {w : World} {K : PySem.W.Frag} {mg : Str → Option Value} {base : Heap}
/-- THE RULE for a def: its body as a term of rules, and the reading of that term -/
theorem Fun.ok {x qual : Str} {st : Stmt} {f : Addr} {fd : FuncData} {N ps : List Str} {k : Nat} {sp : Sp} (F : Fun K x qual st f fd) (S : FnScope N ps (defScope st)) (len : ∀ vs H Q E, sp vs H Q E → vs.length = ps.length)
    (hbody : ∀ (cdv : Value) (A : Around) (outer : List Env) (s : Shared) (H : Hp) (vs : List V) (Q : VK) (E : XK), Room k (A.deeper (envOfC qual (defScope st) s.heap.objs.size f cdv)) → sp vs H Q E →
      ∃ t, PSs (cxOf CX0 P w K mg base N qual (defScope st) f cdv A outer s H E).nox (defBody st) t ∧ t { nx := fun _ H' => Q .non H', rt := Q } (start N vs) H) : FnOk P w K mg base CX0 (k + 1) f fd ps sp := by
  obtain ⟨oc, od, kV, doc, pm, an, cdv, ct, osl, rfl, lk, hcd⟩ := F.ex
  refine fn_of lk hcd S len fun A outer s H vs Q E hr hsp => ?_
  obtain ⟨t, h, q⟩ := hbody cdv A outer s H vs Q E hr hsp
  exact ⟨t, h.nox, q⟩
/-- how its arguments bind (no defaults): h is «fun _ _ _ _ _ _ us hl => match us, hl with | [_, _], _ => rfl», one _ a parameter -/
theorem Fun.binds {x qual : Str} {st : Stmt} {f : Addr} {fd : FuncData} {ps : List Str} (F : Fun K x qual st f fd)
    (h : ∀ (kV doc pm : Value) (an : Option Addr) (cdv ct : Value) (us : List Value), us.length = ps.length → bindArgs (PySem.W.fnOf x qual (defArgs st) (defBody st) (defScope st) .none kV doc pm an cdv ct) ⟨us, []⟩ = pure (ps.zip us)) : Binds K fd ps [] := by
  obtain ⟨oc, od, kV, doc, pm, an, cdv, ct, osl, rfl, lk, hcd⟩ := F.ex
  exact .all (h kV doc pm an cdv ct)
theorem fun_mk {x qual : Str} {st : Stmt} {f : Addr} {oc : Value} {od an : Option Addr} {osl : Array (Option Value)} {kV doc pm cdv ct : Value} (l : K.lookup f = some ⟨oc, od, .func (PySem.W.fnOf x qual (defArgs st) (defBody st) (defScope st) .none kV doc pm an cdv ct), osl⟩)
    (c : PySem.W.codeIn K cdv qual = true) (k : PySem.W.keepIn K (.ref f) = true) : Fun K x qual st f (PySem.W.fnOf x qual (defArgs st) (defBody st) (defScope st) .none kV doc pm an cdv ct) := ⟨⟨oc, od, kV, doc, pm, an, cdv, ct, osl, rfl, l, c⟩, k⟩
end
theorem small1000 {n : Nat} (h : n ≤ 1000) : n < sizeLine := Nat.lt_of_le_of_lt h (by decide)

/-! ### expressions in short: the name that stands in the i-th slot -/
section
variable {X : Cx}
theorem pv (i : Nat) {x : Str} {pos : Pos} (hN : X.N[i]? = some x := by rfl) (hv : Vis X.env.scope x := by first | exact Or.inl rfl | exact Or.inr (Or.inl rfl) | exact Or.inr (Or.inr rfl)) (hd : (x == ("__debug__" : Str)) = false := by decide)
    (hcd : (x == ("__classdict__" : Str)) = false := by decide) : PE X (.Name x pos) (tVar i) := pe_var hN hv hd hcd
end

/-! ### tests -/
theorem iteF {A B : Prop} (h : B) : if false = true then A else B := by
  rw [if_neg Bool.false_ne_true]
  exact h
theorem iteT {A B : Prop} (h : A) : if true = true then A else B := by
  rw [if_pos rfl]
  exact h
theorem ite2 {c A B : Prop} [Decidable c] (h1 : c → A) (h2 : ¬ c → B) : if c then A else B := by
  by_cases h : c
  · rw [if_pos h]
    exact h1 h
  · rw [if_neg h]
    exact h2 h
/-! ### heaps -/
/-- all that was tracked is as it was -/
def Same (H H' : Hp) : Prop := ∀ b o, H b = some o → H' b = some o
theorem Same.refl (H : Hp) : Same H H := fun _ _ h => h
theorem Same.trans {H H1 H2 : Hp} (a : Same H H1) (b : Same H1 H2) : Same H H2 := fun c o h => b c o (a c o h)
theorem Same.free {H H' : Hp} (e : Same H H') {l : Addr} (h : H' l = Option.none) : H l = Option.none := by
  cases q : H l with
  | none => rfl
  | some o =>
    rw [e l o q] at h
    cases h
theorem Same.seq {K : PySem.W.Frag} {H H' : Hp} {a : Addr} {xs : List V} (e : Same H H') (h : SqL K H a xs) : SqL K H' a xs := by
  rcases h with (h | ⟨o, h⟩) | h
  · exact .inl (.inl (e _ _ h))
  · exact .inl (.inr ⟨o, e _ _ h⟩)
  · exact .inr h

end L2

set_option maxHeartbeats 4000000
namespace L2
open PySem PySem.Spec PyProof.Rows

/-! ### a list comprehension with one clause -/
/-- the cells that a block takes with it -/
def closOf (env : Env) : List (Str × NameKind) → List (Str × Addr) → List (Str × Addr)
  | [], acc => acc
  | p :: l, acc => closOf env l (if p.2 == .free then (p.1, (env.cells.lookup p.1).getD 0) :: acc else acc)
theorem clos_eq {env : Env} {scope : Scope} (h : ∀ p ∈ scope.names, p.2 = .free → ∃ c, env.cells.lookup p.1 = some c) : closureFor scope env = pure (closOf env scope.names []) := by
  have go : ∀ (l : List (Str × NameKind)) (acc : List (Str × Addr)), (∀ p ∈ l, p.2 = .free → ∃ c, env.cells.lookup p.1 = some c) →
      (forIn l acc fun (p : Str × NameKind) cs => if (p.2 == NameKind.free) = true then (cellOf env p.1 >>= fun a => pure (ForInStep.yield ((p.1, a) :: cs))) else pure (ForInStep.yield cs)) = (pure (closOf env l acc) : Sem (List (Str × Addr))) := by
    intro l
    induction l with
    | nil => intro acc _; rfl
    | cons p l ih =>
      intro acc hl
      rw [List.forIn_cons]
      have hr := fun q hq => hl q (List.mem_cons_of_mem _ hq)
      by_cases hk : p.2 = .free
      · obtain ⟨c, hc⟩ := hl p List.mem_cons_self hk
        have e1 : (p.2 == NameKind.free) = true := by rw [hk]; rfl
        rw [if_pos e1]
        have e2 : cellOf env p.1 = pure c := by unfold cellOf; rw [hc]
        rw [e2, pure_bind, pure_bind]
        show forIn l ((p.1, c) :: acc) _ = _
        rw [ih _ hr]
        show _ = pure (closOf env l (if p.2 == .free then (p.1, (env.cells.lookup p.1).getD 0) :: acc else acc))
        rw [if_pos e1, hc]
        rfl
      · have e1 : ¬ (p.2 == NameKind.free) = true := by intro z; exact hk (by simpa using z)
        rw [if_neg e1, pure_bind]
        show forIn l acc _ = _
        rw [ih _ hr]
        show _ = pure (closOf env l (if p.2 == .free then (p.1, (env.cells.lookup p.1).getD 0) :: acc else acc))
        rw [if_neg e1]
  have e := go scope.names [] h
  unfold closureFor
  show (forIn scope.names ([] : List (Str × Addr)) _ >>= fun r => pure r) = _
  rw [bind_pure]
  exact e
theorem clos_look {env : Env} {x : Str} : ∀ (l : List (Str × NameKind)) (acc : List (Str × Addr)) {c : Addr}, (closOf env l acc).lookup x = some c → acc.lookup x = some c ∨ ((x, NameKind.free) ∈ l ∧ c = (env.cells.lookup x).getD 0)
  | [], acc, c, h => .inl h
  | p :: l, acc, c, h => by
    rcases clos_look l _ h with z | ⟨z, e⟩
    · by_cases hk : (p.2 == NameKind.free) = true
      · rw [if_pos hk, List.lookup_cons] at z
        by_cases hx : (x == p.1) = true
        · rw [hx] at z
          have e : x = p.1 := by simpa using hx
          have e2 : p.2 = .free := by simpa using hk
          refine .inr ⟨?_, ?_⟩
          · rw [e, ← e2]; exact List.mem_cons_self
          · rw [e]; exact (Option.some.inj z).symm
        · have hx' : (x == p.1) = false := by simpa using hx
          rw [hx'] at z
          exact .inl z
      · rw [if_neg hk] at z
        exact .inl z
    · exact .inr ⟨List.mem_cons_of_mem _ z, e⟩
theorem clos_has {env : Env} {x : Str} : ∀ (l : List (Str × NameKind)) (acc : List (Str × Addr)), ((acc.lookup x).isSome = true ∨ (x, NameKind.free) ∈ l) → ((closOf env l acc).lookup x).isSome = true
  | [], acc, h => by
    rcases h with h | h
    · exact h
    · cases h
  | p :: l, acc, h => by
    refine clos_has l _ ?_
    rcases h with h | h
    · left
      by_cases hk : (p.2 == NameKind.free) = true
      · rw [if_pos hk, List.lookup_cons]
        cases (x == p.1) with
        | true => rfl
        | false => exact h
      · rw [if_neg hk]; exact h
    · rcases List.mem_cons.mp h with e | h
      · left
        have e1 : p.1 = x := by rw [← e]
        have e2 : (p.2 == NameKind.free) = true := by rw [← e]; rfl
        rw [if_pos e2, List.lookup_cons, e1]
        simp
      · exact .inr h
theorem relab_look {env : Env} {x : Str} {k : NameKind} : ∀ (l : List (Str × NameKind)),
    (l.map fun (n, k) => if (k == NameKind.free && env.scope.kind == .function && env.kindOf n == some .cell) then (n, NameKind.cell) else (n, k)).lookup x = some k →
      l.lookup x = some k ∨ (k = .cell ∧ l.lookup x = some .free)
  | [], h => by cases h
  | (n, q) :: l, h => by
    rw [List.map_cons] at h
    cases hx : (x == n) with
    | true =>
      rw [List.lookup_cons, hx]
      by_cases hc : (q == NameKind.free && env.scope.kind == .function && env.kindOf n == some .cell) = true
      · simp only [hc, if_true, List.lookup_cons, hx] at h
        have e : q = .free := by
          have := (Bool.and_eq_true_iff.mp (Bool.and_eq_true_iff.mp hc).1).1
          simpa using this
        right
        exact ⟨(Option.some.inj h).symm, by rw [e]⟩
      · have hc' : (q == NameKind.free && env.scope.kind == .function && env.kindOf n == some .cell) = false := by simpa using hc
        simp only [hc', Bool.false_eq_true, if_false, List.lookup_cons, hx] at h
        exact .inl h
    | false =>
      rw [List.lookup_cons, hx]
      refine relab_look (env := env) l ?_
      by_cases hc : (q == NameKind.free && env.scope.kind == .function && env.kindOf n == some .cell) = true
      · simp only [hc, if_true, List.lookup_cons, hx] at h
        exact h
      · have hc' : (q == NameKind.free && env.scope.kind == .function && env.kindOf n == some .cell) = false := by simpa using hc
        simp only [hc', Bool.false_eq_true, if_false, List.lookup_cons, hx] at h
        exact h

/-- what a block runs upon: its dict, the state and heap at its entry, the iterator's records, what is wanted of an exception -/
structure Bk where
  C : Addr
  s₂ : Shared
  H₂ : Hp
  fp : List Addr
  xe : Value → Shared → Prop
/-- the context of a comprehension's block: its own names cn ahead of the def's -/
def compCx (X : Cx) (cn : List Str) (scope : Scope) (b : Bk) : Cx where
  prog := X.prog
  w := X.w
  K := X.K
  mg := X.mg
  base := X.base
  A := X.A
  N := cn ++ X.N
  s₀ := b.s₂
  H₀ := b.H₂
  env := compEnvC scope (closOf X.env scope.names []) b.C X.env
  outer := X.stack
  stack := X.stack
  ex := b.fp
  fn := fun _ => false
  calm := X.calm
  pn := []
  xe := b.xe
/-- the scope of a block beside its def's -/
def compOk (sc : Scope) (N : List Str) (scope : Scope) : Bool :=
  (scope.kind == .function) &&
  (scope.names.all fun p => (p.2 != .cell) && ((p.2 != .free) || (sc.names.lookup p.1 == some .cell) || (sc.names.lookup p.1 == some .free)) && ((p.2 != .local) || (scope.names.lookup p.1 == some .local))) &&
  (N.all fun x => scope.names.lookup x != some .local)
structure CompFit (sc : Scope) (N : List Str) (scope : Scope) : Prop where
  kind : scope.kind = .function
  nocell : ∀ p ∈ scope.names, p.2 ≠ .cell
  free : ∀ p ∈ scope.names, p.2 = .free → sc.names.lookup p.1 = some .cell ∨ sc.names.lookup p.1 = some .free
  loc : ∀ p ∈ scope.names, p.2 = .local → scope.names.lookup p.1 = some .local
  apart : ∀ x ∈ N, scope.names.lookup x ≠ some .local
theorem CompFit.of {sc : Scope} {N : List Str} {scope : Scope} (h : compOk sc N scope = true) : CompFit sc N scope := by
  unfold compOk at h
  rw [Bool.and_eq_true, Bool.and_eq_true] at h
  obtain ⟨⟨h1, h2⟩, h3⟩ := h
  rw [List.all_eq_true] at h2 h3
  refine ⟨by simpa using h1, fun p hp => ?_, fun p hp e => ?_, fun p hp e => ?_, fun x hx => ?_⟩
  · have := h2 p hp
    rw [Bool.and_eq_true, Bool.and_eq_true] at this
    simpa using this.1.1
  · have := h2 p hp
    rw [Bool.and_eq_true, Bool.and_eq_true] at this
    have q := this.1.2
    rw [e] at q
    rw [Bool.or_eq_true, Bool.or_eq_true] at q
    rcases q with (q | q) | q
    · exact absurd q (by decide)
    · exact .inl (by simpa using q)
    · exact .inr (by simpa using q)
  · have := h2 p hp
    rw [Bool.and_eq_true, Bool.and_eq_true] at this
    have q := this.2
    rw [e] at q
    rw [Bool.or_eq_true] at q
    rcases q with q | q
    · exact absurd q (by decide)
    · simpa using q
  · have := h3 x hx
    simpa using this

section
variable {X : Cx} {pins : List (Addr × Obj)} {σ : St} {H : Hp}
theorem mem_of_look {l : List (Str × NameKind)} {x : Str} {k : NameKind} (h : l.lookup x = some k) : (x, k) ∈ l := PySem.mem_of_lookup h
/-- the block's context is sound, and its invariant holds at its entry -/
theorem Inv.block {s₂ : Shared} {h₁ : Heap} {tk : Nat} {cn : List Str} {scope : Scope} {fp : List Addr} {xe : Value → Shared → Prop} {C D : Addr} {m : Str → Option Value}
    (I : Inv X pins σ H s₂) (F : CompFit X.env.scope X.N scope) (hc : X.calm = true) (hf : ∀ b ∈ fp, FpOk X pins H b) (hfl : ∀ b ∈ fp, b < s₂.heap.objs.size)
    (hC : s₂.heap.objs.size ≤ C) (hD : s₂.heap.objs.size ≤ D) (hDC : D ≠ C) (hn : h₁.Ns C m) (old : ∀ b o, s₂.heap.get? b = some o → h₁.get? b = some o)
    (hacc : h₁.get? D = some { cls := .type "list", data := .seq ([] : List Value).toArray 0 }) :
    Inv (compCx X cn scope ⟨C, s₂, H, fp, xe⟩) [] (List.replicate cn.length none ++ σ) (upd H D (.lst [])) { s₂ with heap := h₁, toks := tk } := by
  have cellHas : ∀ x, ((compCx X cn scope ⟨C, s₂, H, fp, xe⟩).env.kindOf x = some .cell ∨ (compCx X cn scope ⟨C, s₂, H, fp, xe⟩).env.kindOf x = some .free) → (x, NameKind.free) ∈ scope.names := by
    intro x hx
    have hx' : (relabel scope X.env).names.lookup x = some .cell ∨ (relabel scope X.env).names.lookup x = some .free := hx
    rcases hx' with z | z
    · rcases relab_look scope.names z with z | ⟨_, z⟩
      · exact absurd rfl (F.nocell _ (mem_of_look z))
      · exact mem_of_look z
    · rcases relab_look scope.names z with z | ⟨e, _⟩
      · exact mem_of_look z
      · cases e
  have kindOut : ∀ x, (x, NameKind.free) ∈ scope.names → X.env.kindOf x = some .cell ∨ X.env.kindOf x = some .free := fun x hx => F.free _ hx rfl
  have lookOut : ∀ x c, (closOf X.env scope.names []).lookup x = some c → X.env.cells.lookup x = some c := by
    intro x c e
    rcases clos_look _ _ e with z | ⟨z, e2⟩
    · cases z
    · obtain ⟨c', hc'⟩ := I.ok.has x (kindOut x z)
      rw [hc'] at e2 ⊢
      rw [e2]
      rfl
  have fsEq : (compCx X cn scope ⟨C, s₂, H, fp, xe⟩).fs = frs X.stack := rfl
  have fpfs : ∀ b ∈ fp, b ∉ frs X.stack := by
    intro b hb z
    obtain ⟨_, f1, f2, _⟩ := hf b hb
    rcases List.mem_cons.mp (I.stkSub b z) with e | e
    · exact f1 e
    · exact f2 e
  have cellLt : ∀ x c, X.env.cells.lookup x = some c → c < s₂.heap.objs.size := by
    intro x c e
    obtain ⟨v, o, ho, _⟩ := I.cell x c e
    exact Heap.lt_size ho
  have ok : (compCx X cn scope ⟨C, s₂, H, fp, xe⟩).Ok := by
    refine ⟨I.ok.mod, ?_, I.ok.glob, I.ok.blt, hC, fun x y c h1 h2 => I.ok.inj x y c (lookOut x c h1) (lookOut y c h2), fun x hx => ?_, fun x c z => ?_, fun _ => I.ok.hd hc, I.ok.frames, .inl rfl, fun b hb => ⟨?_, fun x c e => ?_⟩,
      fun b o e => I.bs b o e, Nat.le_trans I.ok.bsz I.sz, fun b o e hb => ?_, fun b hb => ?_, I.stack, I.stkFree⟩
    · show (relabel scope X.env).kind = .function
      exact F.kind
    · have := clos_has (env := X.env) (x := x) scope.names [] (.inr (cellHas x hx))
      exact Option.isSome_iff_exists.mp this
    · cases z
    · exact Nat.ne_of_lt (Nat.lt_of_lt_of_le (hfl b hb) hC)
    · exact (hf b hb).2.2.2.2.1 x c (lookOut x c e)
    · have : X.base.objs.size ≤ X.s₀.heap.objs.size := I.ok.bsz
      rcases (hf b hb).2.2.2.1 with z | z
      · exact I.ok.noex b o e z
      · exact absurd (Nat.lt_of_lt_of_le (Heap.lt_size e) (Nat.le_trans I.ok.bsz z)) (Nat.lt_irrefl _)
    · exact fpfs b hb
  have hDn : H D = none := I.hok.fresh hD
  have hok1 : HOk X.prog X.w (upd H D (.lst [])) h₁ := I.hok.laid old hD ⟨Nat.zero_le _, [], 0, .nil, hacc⟩
  refine ⟨ok, rfl, I.bare, Un.laid old hD hDn, ⟨m, hn, fun i x v e1 e2 e3 => ?_⟩, fun x c e => ?_, ?_, fun x c e => ?_, fun p hp => absurd (show p ∈ ([] : List (Addr × Obj)) from hp) (by simp), hok1, ?_⟩
  · have hi : ¬ i < cn.length := by
      intro hi
      rw [List.getElem?_append_left (by simpa using hi), List.getElem?_replicate] at e2
      split at e2 <;> cases e2
    rw [List.getElem?_append_right (by simpa using hi), List.length_replicate] at e2
    have e1' : (cn ++ X.N)[i]? = some x := e1
    rw [List.getElem?_append_right (by omega)] at e1'
    obtain ⟨m0, hm0, hl⟩ := I.loc
    have hxN : x ∈ X.N := List.mem_of_getElem? e1'
    have hfr : (x, NameKind.free) ∈ scope.names := by
      have e3' : (relabel scope X.env).names.lookup x = some .local ∨ (relabel scope X.env).names.lookup x = some .cell ∨ (relabel scope X.env).names.lookup x = some .free := e3
      rcases e3' with z | z | z
      · rcases relab_look scope.names z with z | ⟨e, _⟩
        · exact absurd z (F.apart x hxN)
        · cases e
      · exact cellHas x (.inl z)
      · exact cellHas x (.inr z)
    have hk := kindOut x hfr
    have vis : Vis X.env.scope x := by
      rcases hk with z | z
      · exact .inr (.inl z)
      · exact .inr (.inr z)
    obtain ⟨u, r, lk⟩ := hl (i - cn.length) x v e1' e2 vis
    refine ⟨u, r, ?_⟩
    rcases lk with ⟨z, _⟩ | ⟨_, c, ec, z⟩
    · rcases hk with q | q
      · rw [z] at q; cases q
      · rw [z] at q; cases q
    · have hcl : (closOf X.env scope.names []).lookup x = some c := by
        obtain ⟨c', e'⟩ := Option.isSome_iff_exists.mp (clos_has (env := X.env) (x := x) scope.names [] (.inr hfr))
        rw [e']
        have := lookOut x c' e'
        rw [ec] at this
        exact this.symm
      refine .inr ⟨?_, c, hcl, ?_⟩
      · have e3' : (relabel scope X.env).names.lookup x = some .local ∨ (relabel scope X.env).names.lookup x = some .cell ∨ (relabel scope X.env).names.lookup x = some .free := e3
        rcases e3' with y | y | y
        · rcases relab_look scope.names y with y | ⟨e, _⟩
          · exact absurd y (F.apart x hxN)
          · cases e
        · exact .inl y
        · exact .inr y
      · obtain ⟨o, ho, hd⟩ := z
        exact ⟨o, old c o ho, hd⟩
  · obtain ⟨v, o, ho, hd⟩ := I.cell x c (lookOut x c e)
    exact ⟨v, o, old c o ho, hd⟩
  · show upd H D (.lst []) C = none
    rw [upd_ne (Ne.symm hDC)]
    exact I.hok.fresh hC
  · rw [upd_ne (Nat.ne_of_lt (Nat.lt_of_lt_of_le (cellLt x c (lookOut x c e)) hD))]
    exact I.freeC x c (lookOut x c e)
  · show (List.replicate cn.length none ++ σ).length = (cn ++ X.N).length
    rw [List.length_append, List.length_replicate, List.length_append, I.len]
/-- behind the block -/
theorem Inv.unblock {s₂ s' : Shared} {h' : Heap} {cn : List Str} {scope : Scope} {fp : List Addr} {xe : Value → Shared → Prop} {C : Addr} {H' : Hp} {σ' : St} {pl : List (Addr × Obj)}
    (I : Inv X pins σ H s₂) (hf : ∀ b ∈ fp, FpOk X pins H b) (hC : s₂.heap.objs.size ≤ C) (J : Inv (compCx X cn scope ⟨C, s₂, H, fp, xe⟩) pl σ' H' s') (sb : Heap.SameBut C s'.heap h') :
    Inv X pins σ H' { s' with heap := h' } := by
  have neC : ∀ b o, s₂.heap.get? b = some o → b ≠ C := fun b o e => Nat.ne_of_lt (Nat.lt_of_lt_of_le (Heap.lt_size e) hC)
  have u : Un (frs X.stack) fp H H' s₂.heap s'.heap := J.base
  have un : Un (frs X.stack) fp H H' s₂.heap h' :=
    ⟨fun b o e n hb hx => (sb.2 b (neC b o e)).trans (u.keep b o e n hb hx),
     fun b o e n hb hx => by
      obtain ⟨sl, q⟩ := u.slot b o e n hb hx
      exact ⟨sl, (sb.2 b (neC b o e)).trans q⟩,
     u.free, fun b o e hx => by
      obtain ⟨o', q⟩ := u.there b o e hx
      exact ⟨o', (sb.2 b (neC b o e)).trans q⟩, u.tups, u.frzs, u.tbls⟩
  have fC : H' C = none := J.free
  have hok : HOk X.prog X.w H' h' := fun b o e => by
    refine (J.hok b o e).stay (fun c v hc q => (sb.2 c ?_).trans q) (fun _ q => q) fun _ _ q => q
    rintro rfl
    rcases hc with z | z
    · rw [← z, fC] at e; cases e
    · rw [fC] at z; cases z
  have os : s'.os = s₂.os := J.os
  refine I.call' (s' := { s' with heap := h' }) os un hok J.bare fun b hb => ?_
  obtain ⟨_, f1, _, f3, f4, f5⟩ := hf b hb
  exact ⟨f3, f1, f4, f5⟩
end
end L2

set_option maxHeartbeats 4000000
namespace L2
open PySem PySem.Spec PyProof.Rows

/-- the loop of a comprehension with one clause, whatever its target -/
theorem comp_loop {prog : Program} {w : World} {A : Around} {R : Result → Shared → Prop} {s : Shared} {elt tg iter : Expr} {ifs : List Expr} {scope : Scope} {pos : Pos} {it acc : Value} {env : Env} (J : Nat → Shared → Prop)
    (turn : ∀ n s, J n s → wpAny (model prog w) A (pyNext it) (fun r s₁ => (r = none ∧ R (.ok .next) s₁) ∨ ∃ v, r = some v ∧
      wpAny (model prog w) A (letOwnedTupleGo tg it v) (fun _ s₂ => wpAny (model prog w) A (assign tg env v) (fun _ s₃ =>
        wpAny (model prog w) A (forIn ifs true fun c r => if r = true then do let ok ← isTrue c env (eval c env); pure (ForInStep.yield ok) else pure (ForInStep.yield r)) (fun ok s₄ =>
          if ok = true then wpAny (model prog w) A (eval elt env) (fun x s₅ => wpAny (model prog w) A (call (.builtin "list.append") [acc, x]) (fun _ s₆ => ∃ m, m < n ∧ J m s₆) (notedBy (model prog w) A env fun e s' => R (.error e) s') s₅)
            (notedBy (model prog w) A env fun e s' => R (.error e) s') s₄
          else ∃ m, m < n ∧ J m s₄) (notedBy (model prog w) A env fun e s' => R (.error e) s') s₃) (notedBy (model prog w) A env fun e s' => R (.error e) s') s₂) (notedBy (model prog w) A env fun e s' => R (.error e) s') s₁)
      (notedBy (model prog w) A env fun e s' => R (.error e) s') s)
    (n : Nat) (h : J n s) : codeAny (model prog w) A (.compLoop (.ListComp elt [⟨tg, iter, ifs, 0⟩] scope pos) 0 it acc env) R s := by
  refine codeAny_loop rfl J (fun n s hJ => ?_) n h
  refine wpAny_noted (A := A) (m := compTurn (.ListComp elt [⟨tg, iter, ifs, 0⟩] scope pos) 0 it acc env) (env := env) ?_
  rw [compTurn_list]
  refine wpAny_bind (wpAny_standAt (wpAny_bind (thn (turn n s hJ) fun r s₁ h₁ => ?_)))
  rcases h₁ with ⟨e, h₁⟩ | ⟨v, e, h₁⟩
  · subst e
    exact wpAny_pure h₁
  · subst e
    refine wpAny_bind (thn h₁ fun _ s₂ h₂ => wpAny_bind (thn h₂ fun _ s₃ h₃ => wpAny_bind (thn h₃ fun ok s₄ h₄ => ?_)))
    cases ok with
    | false => exact wpAny_pure ⟨rfl, h₄⟩
    | true => exact wpAny_bind (wpAny_bind (thn h₄ fun x s₅ h₅ => wpAny_bind (thn h₅ fun _ s₆ h₆ => wpAny_pure (wpAny_pure ⟨rfl, h₆⟩))))

/-- the tests of a clause: all of them -/
def PF (X : Cx) (ifs : List Expr) (t : TT) : Prop :=
  ∀ (pins : List (Addr × Obj)) (s : Shared) (σ : St) (H : Hp) (Q : Bool → Hp → Prop), Inv X pins σ H s → t σ H Q →
    wpAny (model X.prog X.w) X.A (forIn ifs true fun c r => if r = true then do let ok ← isTrue c X.env (eval c X.env); pure (ForInStep.yield ok) else pure (ForInStep.yield r)) (TP X pins σ Q) X.xe s
def tAll : TT := fun _ H Q => Q true H
theorem pf_nil {X : Cx} : PF X [] tAll := by
  intro pins s σ H Q I h
  rw [List.forIn_nil]
  exact wpAny_pure ⟨H, I, h⟩
/-- an exception out of a block: its names go, then it passes on -/
def blkErr (X : Cx) (C : Addr) (e : Value) (s' : Shared) : Prop :=
  ∃ m, s'.heap.Ns C m ∧ ∀ h', Heap.SameBut C s'.heap h' → ∀ cenv : Env, cenv.locals = C → wpAny (model X.prog X.w) X.A (passOn "comprehension.variables-let-go" e cenv : Sem Value) (fun _ _ => False) X.xe { s' with heap := h' }
def blkXe (X : Cx) (scope : Scope) (C : Addr) : Value → Shared → Prop :=
  notedBy (model X.prog X.w) X.A (compEnvC scope (closOf X.env scope.names []) C X.env) (blkErr X C)

/-- W: the invariant by the turn, a measure, the items so far, the block's names, the heap -/
def tComp (n : Nat) (wi : TI) (g : Bk → TG) (tc : Bk → TT) (te : Bk → TE) : TE := fun σ H Q => wi σ H fun J H1 => ∀ (D : Addr) (b : Bk), H1 D = none → ∃ W : Nat → Nat → List V → St → Hp → Prop,
  (∃ m, W 0 m [] (List.replicate n none ++ σ) (upd H1 D (.lst []))) ∧ ∀ i m ys σ H, W i m ys σ H →
    (J.stop i H ∧ Q (.ref D) H) ∨ (J.go i H ∧ ∀ x H', J.yld i H x H' → g b x σ H' fun σ2 H2 => tc b σ2 H2 fun ok H3 =>
      if ok = true then te b σ2 H3 fun y H4 => H4 D = some (.lst ys) ∧ ys.length < sizeLine ∧ ∃ m', m' < m ∧ W (i + 1) m' (ys ++ [y]) σ2 (upd H4 D (.lst (ys ++ [y])))
      else ∃ m', m' < m ∧ W (i + 1) m' ys σ2 H3)

section
variable {X : Cx} {tg iter elt : Expr} {ifs : List Expr} {scope : Scope} {pos : Pos} {cn : List Str} {wi : TI} {g : Bk → TG} {tc : Bk → TT} {te : Bk → TE} {TH : Bk → Prop}

/-- the block runs: RR what is wanted at its end -/
theorem comp_run {pins : List (Addr × Obj)} {σ : St} {H : Hp} {s₂ : Shared} {it : Addr} {fp : List Addr} {tn : Nat → Heap → Prop} {J : It} {RR : Value → Addr → Result → Shared → Prop} {QQ : Addr → Hp → Prop} {EE : Value → Shared → Prop}
    (hcalm : X.calm = true) (F : CompFit X.env.scope X.N scope) (hg : ∀ b, TH b → PG (compCx X cn scope b) tg (g b)) (ht : ∀ b, TH b → PF (compCx X cn scope b) ifs (tc b)) (he : ∀ b, TH b → PE (compCx X cn scope b) elt (te b))
    (hTH : ∀ C, s₂.heap.objs.size ≤ C → TH ⟨C, s₂, H, fp, blkXe X scope C⟩)
    (I : Inv X pins σ H s₂) (T : Turn X.prog X.w X.K tg J fp it tn) (st : tn 0 s₂.heap) (hf : ∀ b ∈ fp, FpOk X pins H b)
    (h : ∀ (D : Addr) (b : Bk), H D = none → ∃ W : Nat → Nat → List V → St → Hp → Prop, (∃ m, W 0 m [] (List.replicate cn.length none ++ σ) (upd H D (.lst []))) ∧ ∀ i m ys σ H, W i m ys σ H →
      (J.stop i H ∧ QQ D H) ∨ (J.go i H ∧ ∀ x H', J.yld i H x H' → g b x σ H' fun σ2 H2 => tc b σ2 H2 fun ok H3 =>
        if ok = true then te b σ2 H3 fun y H4 => H4 D = some (.lst ys) ∧ ys.length < sizeLine ∧ ∃ m', m' < m ∧ W (i + 1) m' (ys ++ [y]) σ2 (upd H4 D (.lst (ys ++ [y])))
        else ∃ m', m' < m ∧ W (i + 1) m' ys σ2 H3))
    (hR : ∀ C D σ' H' s', s₂.heap.objs.size ≤ C → Inv (compCx X cn scope ⟨C, s₂, H, fp, blkXe X scope C⟩) [] σ' H' s' → QQ D H' → RR (.ref D) C (.ok .next) s')
    (hE : ∀ C D e s', blkErr X C e s' → RR (.ref D) C (.error e) s') :
    wpAny (model X.prog X.w) X.A (newList []) (fun acc s₃ => wpAny (model X.prog X.w) X.A (newFunctionEnv scope X.env.globals (closOf X.env scope.names []) [] X.env.qual none .none (some X.env)) (fun cenv s₄ =>
      codeAny (model X.prog X.w) X.A (.compStart (.ListComp elt [⟨tg, iter, ifs, 0⟩] scope pos) 0 (.ref it) acc { cenv with scope := relabel scope X.env }) (RR acc cenv.locals) s₄) EE s₃) EE s₂ := by
  refine wpAny_newObj_type (wpAny_newFunctionEnv F.nocell (by intro y hy; simp at hy) (fun h₁ hns₁ hsb₁ => ?_) F.kind)
  dsimp only at hns₁ hsb₁ ⊢
  generalize hH2 : s₂.heap.push { cls := .type "list", dict := none, data := .seq ([] : List Value).toArray } = H2 at hns₁ hsb₁ ⊢
  have hC : H2.objs.size = s₂.heap.objs.size + 1 := by rw [← hH2, Heap.size_push]
  have hDC : s₂.heap.objs.size ≠ H2.objs.size := by omega
  have hCle : s₂.heap.objs.size ≤ H2.objs.size := by omega
  have hfl : ∀ b ∈ fp, b < s₂.heap.objs.size := fun b hb => by
    obtain ⟨o, e, _⟩ := T.obj 0 _ st b hb
    exact Heap.lt_size e
  have old2 : ∀ b o, s₂.heap.get? b = some o → H2.get? b = some o := fun b o e => hH2 ▸ Heap.get?_push_of_some _ e
  have old : ∀ b o, s₂.heap.get? b = some o → h₁.get? b = some o := fun b o e => by
    have hb := Heap.lt_size e
    refine hsb₁.extBut b o (Nat.ne_of_lt (Nat.lt_of_lt_of_le hb hCle)) (Heap.get?_push_of_some _ (old2 b o e))
  have hacc : h₁.get? s₂.heap.objs.size = some { cls := .type "list", data := .seq ([] : List Value).toArray 0 } :=
    hsb₁.extBut _ _ hDC (Heap.get?_push_of_some _ (hH2 ▸ Heap.get?_push_size _ rfl))
  have I0 := Inv.block (cn := cn) (xe := blkXe X scope H2.objs.size) (tk := s₂.toks + ([] : List (Str × Value)).length) I F hcalm hf hfl hCle (Nat.le_refl _) hDC hns₁ old hacc
  have th := hTH _ hCle
  obtain ⟨W, ⟨m0, w0⟩, turn⟩ := h s₂.heap.objs.size ⟨H2.objs.size, s₂, H, fp, blkXe X scope H2.objs.size⟩ (I.hok.fresh (Nat.le_refl _))
  have fpx : ∀ {H' : Hp}, (∀ b ∈ fp, H' b = none) → ∀ b ∈ fp, FpOk (compCx X cn scope ⟨H2.objs.size, s₂, H, fp, blkXe X scope H2.objs.size⟩) [] H' b := fun {H'} hn b hb => by
    refine ⟨hn b hb, (I0.ok.exf b hb).1, I0.ok.exfs b hb, .inl hb, (I0.ok.exf b hb).2, fun p hp => absurd (show p ∈ ([] : List (Addr × Obj)) from hp) (by simp)⟩
  have hcomp : (compCx X cn scope ⟨H2.objs.size, s₂, H, fp, blkXe X scope H2.objs.size⟩).calm = true := hcalm
  have loop : ∀ s₃ : Shared, s₃ = { s₂ with heap := h₁, toks := s₂.toks + ([] : List (Str × Value)).length } →
      codeAny (model X.prog X.w) X.A (.compLoop (.ListComp elt [⟨tg, iter, ifs, 0⟩] scope pos) 0 (.ref it) (.ref s₂.heap.objs.size) (compEnvC scope (closOf X.env scope.names []) H2.objs.size X.env))
        (RR (.ref s₂.heap.objs.size) H2.objs.size) s₃ := by
    rintro s₃ rfl
    have toE : ∀ e s', (compCx X cn scope ⟨H2.objs.size, s₂, H, fp, blkXe X scope H2.objs.size⟩).xe e s' →
        notedBy (model X.prog X.w) X.A (compEnvC scope (closOf X.env scope.names []) H2.objs.size X.env) (fun e s' => RR (.ref s₂.heap.objs.size) H2.objs.size (.error e) s') e s' := fun e s' z =>
      wpAny_mono (show notedBy (model X.prog X.w) X.A (compEnvC scope (closOf X.env scope.names []) H2.objs.size X.env) (blkErr X H2.objs.size) e s' from z) (fun _ _ q => hE _ _ _ _ q) fun _ _ q => hE _ _ _ _ q
    refine comp_loop (env := compEnvC scope (closOf X.env scope.names []) H2.objs.size X.env)
      (fun n s' => ∃ i ys σ' H', Inv (compCx X cn scope ⟨H2.objs.size, s₂, H, fp, blkXe X scope H2.objs.size⟩) [] σ' H' s' ∧ tn i s'.heap ∧ (∀ b ∈ fp, H' b = none) ∧ W i n ys σ' H') ?_ m0
      ⟨0, [], _, _, I0, T.keep _ _ _ st fun b _ o e => old b o e, fun b hb => ?_, w0⟩
    · rintro n s' ⟨i, ys, σ', H', I', st', fr', w'⟩
      rcases turn i n ys σ' H' w' with ⟨stop, qn⟩ | ⟨go, step⟩
      · refine wpAny_mono (T.done (compCx X cn scope ⟨H2.objs.size, s₂, H, fp, blkXe X scope H2.objs.size⟩) rfl rfl rfl hcomp i [] s' σ' H' (fun _ _ => False) I' (fpx fr') st' stop) (fun r s4 ⟨hr, I4⟩ => ?_) fun _ _ z => z.elim
        exact .inl ⟨hr, hR _ _ _ _ _ hCle I4 qn⟩
      · refine wpAny_mono (T.item (compCx X cn scope ⟨H2.objs.size, s₂, H, fp, blkXe X scope H2.objs.size⟩) rfl rfl rfl hcomp i [] s' σ' H' (fun _ _ => False) I' (fpx fr') st' go) (fun r s4 ⟨u, hr, h4⟩ => ?_) fun _ _ z => z.elim
        refine .inr ⟨u, hr, wpAny_mono h4 (fun _ s5 ⟨x, H5, I5, r5, y5, st5, fr5⟩ => ?_) fun _ _ z => z.elim⟩
        have I5' := I5.pinned (fpx fr5) (T.obj _ _ st5)
        refine wpAny_mono (hg _ th _ s5 σ' H5 x u _ I5' r5 (step x H5 y5)) (fun _ s6 ⟨σ6, H6, I6, q6⟩ => ?_) toE
        refine wpAny_mono (ht _ th _ s6 σ6 H6 _ I6 q6) (fun ok s7 ⟨H7, I7, q7⟩ => ?_) toE
        have back : ∀ {σ8 : St} {H8 : Hp} {s8 : Shared}, Inv (compCx X cn scope ⟨H2.objs.size, s₂, H, fp, blkXe X scope H2.objs.size⟩) ([] ++ pinsAt fp s5.heap) σ8 H8 s8 → tn (i + 1) s8.heap ∧ ∀ b ∈ fp, H8 b = none := fun {σ8 H8 s8} I8 => by
          refine ⟨T.keep _ _ _ st5 fun b hb o e => (I8.pin (b, o) (List.mem_append_right _ (List.mem_append_right _ (mem_pinsAt hb e)))).1, fun b hb => ?_⟩
          obtain ⟨o, e, d⟩ := T.obj _ _ st5 b hb
          exact (I8.pin (b, o) (List.mem_append_right _ (List.mem_append_right _ (mem_pinsAt hb e)))).2.1
        cases ok with
        | false =>
          rw [if_neg Bool.false_ne_true] at q7 ⊢
          obtain ⟨m', hm, w7⟩ := q7
          obtain ⟨t8, f8⟩ := back I7
          exact ⟨m', hm, i + 1, ys, σ6, H7, I7.unpinned, t8, f8, w7⟩
        | true =>
          rw [if_pos rfl] at q7 ⊢
          refine wpAny_mono (he _ th _ s7 σ6 H7 _ I7 q7) (fun v s8 ⟨y, H8, I8, r8, hl, hz, m', hm, w8⟩ => ?_) toE
          refine wpAny_mono (mt_append (X := compCx X cn scope ⟨H2.objs.size, s₂, H, fp, blkXe X scope H2.objs.size⟩) _ s8 σ6 H8 (.ref s₂.heap.objs.size) [y] (.ref s₂.heap.objs.size) [v] (fun _ H9 => W (i + 1) m' (ys ++ [y]) σ6 H9) I8 rfl (.cons r8 .nil) ⟨_, ys, y, rfl, rfl, hl, hz, w8⟩)
            (fun _ s9 ⟨_, H9, I9, _, w9⟩ => ?_) toE
          obtain ⟨t9, f9⟩ := back I9
          exact ⟨m', hm, i + 1, _, σ6, H9, I9.unpinned, t9, f9, w9⟩
    · rw [upd_ne (Nat.ne_of_lt (hfl b hb))]
      exact (hf b hb).1
  exact codeAny_compStart_list (loop _ rfl) (T.self _ 0 _ _ _ (T.keep _ _ _ st fun b _ o e => old b o e) (loop _ rfl))

/-- [elt for tg in iter if ..] -/
theorem pe_compT (hcalm : X.calm = true) (F : CompFit X.env.scope X.N scope) (hi : PI X tg iter wi) (hg : ∀ b, TH b → PG (compCx X cn scope b) tg (g b)) (ht : ∀ b, TH b → PF (compCx X cn scope b) ifs (tc b))
    (he : ∀ b, TH b → PE (compCx X cn scope b) elt (te b))
    (hTH : ∀ pins σ H s₂ fp C, Inv X pins σ H s₂ → (∀ b ∈ fp, FpOk X pins H b) → s₂.heap.objs.size ≤ C → TH ⟨C, s₂, H, fp, blkXe X scope C⟩)
    (hs : ∀ x, foldedSetIterable iter X.env x = pure x := by intro _; rfl) : PE X (.ListComp elt [⟨tg, iter, ifs, 0⟩] scope pos) (tComp cn.length wi g tc te) := by
  intro pins s σ H Q I h
  rw [eval_ListComp]
  have hcl : closureFor scope X.env = pure (closOf X.env scope.names []) := clos_eq fun p hp e => I.ok.has p.1 (F.free p hp e)
  refine wpAny_comprehension_free (use := none) rfl hs hcl F.kind F.loc (thn (hi pins s σ H _ I h) fun xv s₁ h₁ => thn h₁ fun itv s₂ h₂ => ?_)
  obtain ⟨it, fp, tn, J, H2, rfl, I2, T, st, f2, R⟩ := h₂
  refine comp_run (QQ := fun D H' => Q (.ref D) H') (RR := fun acc C => compPost (model X.prog X.w) X.A X.xe none (EP X pins σ Q) acc C) hcalm F hg ht he (fun C hC => hTH pins σ H2 s₂ fp C I2 f2 hC) I2 T st f2 R ?_ ?_
  · intro C D σ' H' s' hC I' q
    obtain ⟨m, hm, _⟩ := I'.loc
    exact ⟨m, hm, fun h' sb => ⟨.ref D, H', I2.unblock f2 hC I' sb, rfl, q⟩⟩
  · intro C D e s' z
    exact z
theorem pe_comp (hcalm : X.calm = true) (F : CompFit X.env.scope X.N scope) (hi : PI X tg iter wi) (hg : ∀ b, PG (compCx X cn scope b) tg (g b)) (ht : ∀ b, PF (compCx X cn scope b) ifs (tc b)) (he : ∀ b, PE (compCx X cn scope b) elt (te b))
    (hs : ∀ x, foldedSetIterable iter X.env x = pure x := by intro _; rfl) : PE X (.ListComp elt [⟨tg, iter, ifs, 0⟩] scope pos) (tComp cn.length wi g tc te) :=
  pe_compT (TH := fun _ => True) hcalm F hi (fun b _ => hg b) (fun b _ => ht b) (fun b _ => he b) (fun _ _ _ _ _ _ _ _ _ => trivial) hs
/-- name = [elt for ..] on one row: the name is stored ahead of the block's names going -/
def tSetComp (n : Nat) (i : Nat) (wi : TI) (g : Bk → TG) (tc : Bk → TT) (te : Bk → TE) : TS := fun D σ H => tComp n wi g tc te σ H fun v H' => D.nx (σ.set i (some v)) H'
end
end L2

set_option maxHeartbeats 4000000
namespace L2
open PySem PySem.Spec PyProof.Rows
section
variable {X : Cx} {e : Expr} {es : List Expr} {te : TE} {pos : Pos}

/-! ### f-strings -/
abbrev TP1 := St → Hp → (Str → Hp → Prop) → Prop
abbrev TPs := Str → St → Hp → (Str → Hp → Prop) → Prop
def StrP (X : Cx) (pins : List (Addr × Obj)) (σ : St) (Q : Str → Hp → Prop) (u : Value) (s' : Shared) : Prop := ∃ y t H', u = .str y t ∧ Inv X pins σ H' s' ∧ Q y H'
/-- a part of an f-string: its value is a text -/
def PP (X : Cx) (e : Expr) (t : TP1) : Prop :=
  ∀ (pins : List (Addr × Obj)) (s : Shared) (σ : St) (H : Hp) (Q : Str → Hp → Prop), Inv X pins σ H s → t σ H Q → wpAny (model X.prog X.w) X.A (eval e X.env) (StrP X pins σ Q) X.xe s
def PPs (X : Cx) (es : List Expr) (t : TPs) : Prop :=
  ∀ (pins : List (Addr × Obj)) (s : Shared) (σ : St) (H : Hp) (acc : Str) (Q : Str → Hp → Prop), Inv X pins σ H s → t acc σ H Q →
    Joins (model X.prog X.w) X.A X.xe (evalEach es X.env) acc (fun out s₁ => ∃ H', Inv X pins σ H' s₁ ∧ Q out H') s
def tPC (x : Str) : TP1 := fun _ H Q => Q x H
/-- {value} of a text or an int -/
def tPV (te : TE) : TP1 := fun σ H Q => te σ H fun v H1 => (∃ z, v = .str z ∧ z.length ≤ sizeLine ∧ Q z H1) ∨ ∃ i : Int, v = .int i ∧ i.natAbs.log2 < 1920 ∧ Q (toString i) H1
def tJ0 : TPs := fun acc _ H Q => Q acc H
def tJ (t : TP1) (u : TPs) : TPs := fun acc σ H Q => t σ H fun y H1 => (acc ++ y).length ≤ sizeLine ∧ u (acc ++ y) σ H1 Q
def tF (u : TPs) : TE := fun σ H Q => u Str.empty σ H fun out H1 => out.length ≤ sizeLine ∧ Q (.str out) H1
/-! ### int(text), join, split, a slice of a text -/
theorem call_int_text : CallR X (.type "int") (fun xs H Q => ∃ z n, xs = [.str z] ∧ PySem.intText? z = some n ∧ z.length ≤ 640 ∧ Q (.int n) H) := by
  intro pins s σ H xs us Q I r h
  obtain ⟨z, n, rfl, hn, hl, q⟩ := h
  obtain ⟨u, rfl, t, rfl⟩ := r.one
  exact PySem.W.KIN.call_text hn hl ⟨.int n, H, I.tok _, ⟨_, rfl⟩, q⟩
def rJoin (K : PySem.W.Frag) : V → List V → Hp → VK → Prop := fun x vs H Q => ∃ sep a ys, x = .str sep ∧ vs = [.ref a] ∧ SqL K H a (ys.map V.str) ∧ (ys.map (·.length)).sum + ys.length * sep.length ≤ 16777216 ∧ Q (.str (Str.join sep ys)) H
def rSplit : V → List V → Hp → VK → Prop := fun x vs H Q => ∃ z y, x = .str z ∧ vs = [.str y] ∧ (y.length == 0) = false ∧ z.length ≤ sizeLine ∧ (Txt.split z y).length ≤ sizeLine ∧
  ∀ p, H p = none → Q (.ref p) (upd H p (.lst ((Txt.split z y).map V.str)))
/-- t[lo:hi] -/
def rSlS : V → Option Int → Option Int → Hp → VK → Prop := fun x lo hi H Q => ∃ z, x = .str z ∧ z.length ≤ sizeLine ∧ Q (.str (Txt.slice z lo hi)) H
theorem part_pair {v : Value} {o : Option Int} (p : IsPart v o) : ∃ l : Option (Int × Tok), v = partValue l ∧ l.map (·.1) = o := by
  cases p with
  | none => exact ⟨none, rfl, rfl⟩
  | int i t => exact ⟨some (i, t), rfl, rfl⟩
theorem sl_str : SlR X rSlS := by
  intro pins s σ H x v vl vu lo hi sl Q I rx hs pl pu h
  obtain ⟨z, rfl, hz, q⟩ := h
  obtain ⟨t, rfl⟩ := rx
  obtain ⟨l, rfl, el⟩ := part_pair pl
  obtain ⟨u, rfl, eu⟩ := part_pair pu
  subst el eu
  refine ⟨"str", _, F.slot_str_getitem.lookup, typeIs_str _ _ _, ?_⟩
  obtain ⟨o, ho, hc, hd⟩ := hs
  refine wpAny_getItem_str_slice (l := l) (u := u) (st := none) ⟨o, ho, hc, hd⟩ rfl ?_
  exact post_val_or_str ⟨Nat.le_trans (Txt.slice_le z _ _) hz, fun t' k => ⟨.str _, H, I.tok _, ⟨t', rfl⟩, q⟩⟩

/-! ### the signs of a text, one after another -/
def Its (z : Str) : It := ⟨fun i _ => i < z.cps.size, fun i H x H' => H' = H ∧ ∃ c, z.cps[i]? = some c ∧ x = .str ⟨#[c]⟩, fun i _ => z.cps.size ≤ i⟩
def iStr (tl : TE) : TI := fun σ H R => tl σ H fun x H1 => ∃ z, x = .str z ∧ R (Its z) H1
theorem turn_str {P : Program} {w : World} {K : PySem.W.Frag} {tg : Expr} {z : Str} {it : Addr} {T : String} {t : Tok} (hT : ["enumerate", "zip", "dict_itemiterator", "dict_reverseitemiterator", "odict_iterator", "itertools.zip_longest", "itertools.pairwise"].contains T = false)
    (W : ∀ A : Around, A.handled = none → Walks P w A it [it] [it] z.cps.size (SignAt z) (fun i h => h.IsStrIter it T z t i)) 
    (S : ∀ (A : Around) (i : Nat) (s : Shared) (Q : Value → Shared → Prop) (E : Value → Shared → Prop), s.heap.IsStrIter it T z t i → Q (.ref it) s → wpAny (model P w) A (pyIter (.ref it)) Q E s) :
    Turn P w K tg (Its z) [it] it (fun i h => h.IsStrIter it T z t i ∧ i ≤ z.cps.size) where
  mem := by simp
  obj := fun i h st b hb => by
    have e : b = it := by simpa using hb
    subst e
    obtain ⟨⟨o, e, c, d⟩, _⟩ := st
    exact ⟨o, e, fun v q => by rw [d] at q; cases q⟩
  keep := fun i h h' st k => ⟨by
    obtain ⟨⟨o, e, c, d⟩, _⟩ := st
    exact ⟨o, k it (by simp) o e, c, d⟩, st.2⟩
  item := by
    intro X hP hw hK hc i pins s σ H E I hf st hg
    subst hP hw hK
    obtain ⟨f0, f1, f2, f3, f4, f5⟩ := hf it (by simp)
    have hgi : i < z.cps.size := hg
    refine (W X.A (I.ok.hd hc)).item i s _ _ hgi st.1 fun v h' tk hv st' kk => ?_
    obtain ⟨c, u, hc', rfl⟩ := hv
    have I1 : Inv X pins σ H { s with heap := h', toks := tk } := I.turned (fun b o hb e => kk b o (by simpa using hb) e) f0 f1 f3 f4 f5
    obtain ⟨o, e, cc, d⟩ := id st'
    exact ⟨_, rfl, go_of (s := { s with heap := h', toks := tk }) e cc d hT ⟨.str ⟨#[c]⟩, H, I1, ⟨u, rfl⟩, ⟨rfl, c, hc', rfl⟩, ⟨st', hgi⟩, fun b hb => (hf b hb).1⟩⟩
  done := by
    intro X hP hw hK hc i pins s σ H E I hf st hg
    subst hP hw hK
    obtain ⟨f0, f1, f2, f3, f4, f5⟩ := hf it (by simp)
    have hge : z.cps.size ≤ i := hg
    have e : i = z.cps.size := Nat.le_antisymm st.2 hge
    subst e
    exact (W X.A (I.ok.hd hc)).done s _ _ st.1 fun h' tk kk => ⟨rfl, I.turned (fun b o hb e => kk b o (by simpa using hb) e) f0 f1 f3 f4 f5⟩
  self := fun A i s Q E st h => S A i s Q E st.1 h
theorem pi_str {tg l : Expr} {tl : TE} (hl : PE X l tl) : PI X tg l (iStr tl) := by
  intro pins s σ H R I h
  refine thn (hl pins s σ H _ I h) fun v s1 ⟨x, H1, I1, r1, q1⟩ => ?_
  obtain ⟨z, rfl, q⟩ := q1
  obtain ⟨t, rfl⟩ := r1
  have fp : ∀ b ∈ [s1.heap.objs.size], FpOk X pins H1 b := fun b hb => by
    have e : b = s1.heap.objs.size := by simpa using hb
    subst e
    exact I1.fpOk (Nat.le_refl _) (I1.hok.fresh (Nat.le_refl _))
  cases ha : z.cps.all (· < 128)
  · refine wpAny_pyIter_wide ha ?_
    refine ⟨s1.heap.objs.size, [s1.heap.objs.size], _, _, H1, rfl, I1.kept (t' := s1.toks) fun b o e => Heap.get?_push_of_some _ e, turn_str (T := "str_iterator") (t := t) (by decide) (fun A hA => Walks.strWide hA _ z t)
      (fun A i s Q E st hq => wpAny_pyIter_striter_wide st hq), ⟨⟨_, Heap.get?_push_size _ rfl, rfl, rfl⟩, Nat.zero_le _⟩, fp, q⟩
  · refine wpAny_pyIter_ascii ha ?_
    refine ⟨s1.heap.objs.size, [s1.heap.objs.size], _, _, H1, rfl, I1.kept (t' := s1.toks) fun b o e => Heap.get?_push_of_some _ e, turn_str (T := "str_ascii_iterator") (t := t) (by decide) (fun A hA => Walks.strAscii hA _ z t)
      (fun A i s Q E st hq => wpAny_pyIter_striter_ascii st hq), ⟨⟨_, Heap.get?_push_size _ rfl, rfl, rfl⟩, Nat.zero_le _⟩, fp, q⟩

/-! ### any of a list of bools -/
theorem any_range : ∀ bs : List Bool, (List.range bs.length).any (fun i => bs.getD i false) = bs.any id
  | [] => rfl
  | b :: bs => by
    rw [List.length_cons, List.range_succ_eq_map, List.any_cons, List.any_map, List.any_cons]
    have : ((fun i => (b :: bs).getD i false) ∘ Nat.succ) = fun i => bs.getD i false := by
      funext i
      rfl
    rw [this, any_range bs]
    rfl
theorem call_any : CallR X (.builtin "any") (fun xs H Q => X.calm = true ∧ ∃ (a : Addr) (bs : List Bool), xs = [.ref a] ∧ SqL X.K H a (bs.map V.bl) ∧ Q (.bl (bs.any id)) H) := by
  intro pins s σ H xs us Q I r h
  obtain ⟨hc, a, bs, rfl, hq, q⟩ := h
  obtain ⟨u, rfl, rfl⟩ := r.one
  obtain ⟨its, rv, p, hz⟩ := I.list hq
  have hl := rv.length
  rw [List.length_map] at hl
  have bsAt : ∀ (i : Nat) (v : Value), its.toArray[i]? = some v → v = Value.bool (bs.getD i false) := by
    intro i v hv
    have hv' : its[i]? = some v := by simpa using hv
    have hi : i < its.length := (List.getElem?_eq_some_iff.mp hv').1
    have hb : i < bs.length := by omega
    obtain ⟨u, hu, ru⟩ := rv.get (i := i) (x := .bl (bs[i])) (by rw [List.getElem?_map, List.getElem?_eq_getElem hb]; rfl)
    rw [hv'] at hu; cases hu
    have : v = .bool bs[i] := ru
    rw [this, List.getD_eq_getElem?_getD, List.getElem?_eq_getElem hb]
    rfl
  refine call_any_walk (wpAny_pyIter_list p.isList ?_)
  have ane : a ≠ s.heap.objs.size := by
    obtain ⟨o, ho, _⟩ := p.isList
    exact Nat.ne_of_lt (Heap.lt_size ho)
  have hd : X.A.in1.handled = none := I.ok.hd hc
  refine ⟨s.heap.objs.size, _, _, _, _, _, fun i => bs.getD i false, rfl, Walks.list hd s.heap.objs.size a ane its.toArray, ⟨⟨_, Heap.get?_push_size _ rfl, rfl, rfl⟩, p.isList.push _⟩, ?_, ?_⟩
  · intro i v s' Q' E' hP hQ'
    rw [bsAt i v hP]
    exact wpAny_truthy_bool hQ'
  · intro h' tk kk
    have e : (List.range its.toArray.size).any (fun i => bs.getD i false) = bs.any id := by
      rw [List.size_toArray, ← hl]
      exact any_range bs
    rw [e]
    refine ⟨.bl _, H, I.kept (t' := tk) fun b o e => kk b o (fun z => ?_) (Heap.get?_push_of_some _ e), rfl, q⟩
    have : b = s.heap.objs.size := by simpa using z
    exact absurd (Heap.lt_size e) (by rw [this]; exact Nat.lt_irrefl _)
end
end L2

set_option maxHeartbeats 4000000
namespace L2
open PySem PySem.Spec PyProof.Rows PySem.SeqAt

/-! ### deep equality: two values that are the same all through -/
inductive Deq (K : PySem.W.Frag) (H : Hp) : Nat → V → V → Prop where
  | flat {n : Nat} {x : V} (f : flatV x = true) : Deq K H n x x
  | tup {n : Nat} {a b : Addr} {xs ys : List V} (ha : SqT K H a xs) (hb : SqT K H b ys) (hl : xs.length = ys.length) (h : ∀ (i : Nat) x y, xs[i]? = some x → ys[i]? = some y → Deq K H n x y) : Deq K H (n + 1) (.ref a) (.ref b)
  | lst {n : Nat} {a b : Addr} {xs ys : List V} (ha : SqL K H a xs) (hb : SqL K H b ys) (hl : xs.length = ys.length) (h : ∀ (i : Nat) x y, xs[i]? = some x → ys[i]? = some y → Deq K H n x y) : Deq K H (n + 1) (.ref a) (.ref b)
section
variable {X : Cx} {pins : List (Addr × Obj)} {σ : St} {H : Hp} {s : Shared}
theorem eqV_self : ∀ {x : V}, flatV x = true → eqV x x = true := by
  intro x f
  cases x <;> first | (simp [eqV]; done) | (cases f)
theorem range_all_true (n : Nat) : (List.range n).all (fun _ => true) = true := by simp
theorem Deq.at {n : Nat} {x y : V} (d : Deq X.K H n x y) (I : Inv X pins σ H s) : ∀ {A : Around} {u v : Value}, A.units + n < cLine → RelV x u → RelV y v →
    EqAt A s u v true ∧ (∀ a b, x = .ref a → y = .ref b → RcAt A s u v true ∧ RcNeAt A s u v false) := by
  induction d with
  | @flat n x f =>
    intro A u v hu ru rv
    refine ⟨?_, fun a b e _ => ?_⟩
    · have := eqAt_V (A := A) (s := s) ru rv f f
      rw [eqV_self f] at this
      exact this
    · subst e; cases f
  | @tup n a b xs ys ha hb hl h ih =>
    intro A u v hu ru rv
    cases ru
    cases rv
    obtain ⟨its, r, p, _⟩ := I.tuple ha
    obtain ⟨its', r', p', _⟩ := I.tuple hb
    have e1 := r.length
    have e2 := r'.length
    have he : ∀ j (h1 : j < its.toArray.size) (h2 : j < its'.toArray.size), EqAt A.in1 s its.toArray[j] its'.toArray[j] true := by
      intro j h1 h2
      have h1' : j < its.length := by simpa using h1
      have h2' : j < its'.length := by simpa using h2
      have g1 : xs[j]? = some xs[j] := List.getElem?_eq_getElem (by omega)
      have g2 : ys[j]? = some ys[j] := List.getElem?_eq_getElem (by omega)
      obtain ⟨u1, q1, k1⟩ := r.get g1
      obtain ⟨u2, q2, k2⟩ := r'.get g2
      have z1 : its.toArray[j] = u1 := by
        rw [List.getElem?_eq_getElem h1'] at q1
        simpa using q1
      have z2 : its'.toArray[j] = u2 := by
        rw [List.getElem?_eq_getElem h2'] at q2
        simpa using q2
      rw [z1, z2]
      exact (ih j _ _ g1 g2 (by show A.units + 1 + n < cLine; omega) k1 k2).1
    have bt : ((List.range (min its.toArray.size its'.toArray.size)).all (fun _ => true) && its.toArray.size == its'.toArray.size) = true := by
      rw [range_all_true]
      simp
      omega
    have rc : RcAt A s (.ref a) (.ref b) true := by
      have := RcAt.tuples (A := A) (e := fun _ => true) (show s.heap.IsTuple a its.toArray from p) (show s.heap.IsTuple b its'.toArray from p') (by omega) he
      rw [bt] at this
      exact this
    have rn : RcNeAt A s (.ref a) (.ref b) false := by
      have := RcNeAt.tuples (A := A) (e := fun _ => true) (show s.heap.IsTuple a its.toArray from p) (show s.heap.IsTuple b its'.toArray from p') (by omega) he
      rw [bt] at this
      exact this
    refine ⟨?_, fun _ _ _ _ => ⟨rc, rn⟩⟩
    by_cases e : a = b
    · subst e; exact EqAt.same _
    · exact EqAt.of_refs e rc
  | @lst n a b xs ys ha hb hl h ih =>
    intro A u v hu ru rv
    cases ru
    cases rv
    obtain ⟨its, r, p, _⟩ := I.list ha
    obtain ⟨its', r', p', _⟩ := I.list hb
    have e1 := r.length
    have e2 := r'.length
    have he : ∀ j (h1 : j < its.toArray.size) (h2 : j < its'.toArray.size), EqAt A.in1 s its.toArray[j] its'.toArray[j] true := by
      intro j h1 h2
      have h1' : j < its.length := by simpa using h1
      have h2' : j < its'.length := by simpa using h2
      have g1 : xs[j]? = some xs[j] := List.getElem?_eq_getElem (by omega)
      have g2 : ys[j]? = some ys[j] := List.getElem?_eq_getElem (by omega)
      obtain ⟨u1, q1, k1⟩ := r.get g1
      obtain ⟨u2, q2, k2⟩ := r'.get g2
      have z1 : its.toArray[j] = u1 := by
        rw [List.getElem?_eq_getElem h1'] at q1
        simpa using q1
      have z2 : its'.toArray[j] = u2 := by
        rw [List.getElem?_eq_getElem h2'] at q2
        simpa using q2
      rw [z1, z2]
      exact (ih j _ _ g1 g2 (by show A.units + 1 + n < cLine; omega) k1 k2).1
    have bt : (List.range its.toArray.size).all (fun _ => true) = true := range_all_true _
    have rc : RcAt A s (.ref a) (.ref b) true := by
      have := RcAt.lists (A := A) (e := fun _ => true) p.isList p'.isList (by simp; omega) (by omega) he
      rw [bt] at this
      exact this
    have rn : RcNeAt A s (.ref a) (.ref b) false := by
      have := RcNeAt.lists (A := A) (e := fun _ => true) p.isList p'.isList (by simp; omega) (by omega) he
      rw [bt] at this
      exact this
    refine ⟨?_, fun _ _ _ _ => ⟨rc, rn⟩⟩
    by_cases e : a = b
    · subst e; exact EqAt.same _
    · exact EqAt.of_refs e rc
def rEqD (K : PySem.W.Frag) (b : Bool) : R2 := fun x y H Q => ∃ a c, x = .ref a ∧ y = .ref c ∧ Deq K H 60 x y ∧ Q (.bl b) H
theorem op_eqD (hu : X.A.units + 64 < cLine) : OpR X (compareOp .Eq) (rEqD X.K true) := by
  intro pins s σ H x y v u Q I r1 r2 h
  obtain ⟨a, c, rfl, rfl, d, q⟩ := h
  exact (((d.at I (A := X.A) (by omega) r1 r2).2 a c rfl rfl).1) X.prog X.w X.xe _ ⟨.bl true, H, I, rfl, q⟩
theorem op_neD (hu : X.A.units + 64 < cLine) : OpR X (compareOp .NotEq) (rEqD X.K false) := by
  intro pins s σ H x y v u Q I r1 r2 h
  obtain ⟨a, c, rfl, rfl, d, q⟩ := h
  exact (((d.at I (A := X.A) (by omega) r1 r2).2 a c rfl rfl).2) X.prog X.w X.xe _ ⟨.bl false, H, I, rfl, q⟩
/-! ### isinstance(x, T), T a built-in type -/
theorem call_isT : CallR X (.builtin "isinstance") (fun xs H Q => ∃ x T t b, xs = [x, .ty T] ∧ TyOf X.K H x t ∧ PySem.W.kitOne X.K t (.type T) = some b ∧ Q (.bl b) H) := by
  intro pins s σ H xs us Q I r h
  obtain ⟨x, T, t, b, rfl, ty, e, q⟩ := h
  obtain ⟨u, v, rfl, r1, r2⟩ := r.two
  cases r2
  exact isinst_ok I r1 ty e fun tk => ⟨.bl b, H, I.tok _, rfl, q⟩

/-! ### zip of two lists, enumerate of a list: the pair is a tuple that is not looked at -/
/-- (i, x) of the list at a -/
def Ite (K : PySem.W.Frag) (a : Addr) : It :=
  ⟨fun i H => ∃ xs x, SqL K H a xs ∧ xs[i]? = some x, fun i H x H' => ∃ y t, x = .ref t ∧ H t = none ∧ (∀ xs, SqL K H a xs → xs[i]? = some y) ∧ H' = upd H t (.tup [.int i, y]), fun i H => ∃ xs, SqL K H a xs ∧ xs.length ≤ i⟩
/-- (x, y) of the lists at a and b -/
def Itz (K : PySem.W.Frag) (a b : Addr) : It :=
  ⟨fun i H => ∃ xs ys x y, SqL K H a xs ∧ SqL K H b ys ∧ xs[i]? = some x ∧ ys[i]? = some y,
   fun i H p H' => ∃ x y t, p = .ref t ∧ H t = none ∧ (∀ xs, SqL K H a xs → xs[i]? = some x) ∧ (∀ ys, SqL K H b ys → ys[i]? = some y) ∧ H' = upd H t (.tup [x, y]),
   fun i H => ∃ xs ys, SqL K H a xs ∧ SqL K H b ys ∧ min xs.length ys.length = i⟩
theorem notList_of {a : Addr} {K : PySem.W.Frag} {X : Cx} {pins : List (Addr × Obj)} {σ : St} {H : Hp} {s : Shared} {xs : List V} {b : Addr} {o : Obj} (I : Inv X pins σ H s) (hq : SqL X.K H a xs) (e : s.heap.get? b = some o) (hc : o.cls ≠ .type "list") : a ≠ b := by
  rintro rfl
  obtain ⟨its, _, p, _⟩ := I.list hq
  obtain ⟨o', e', c', _⟩ := p.isList
  rw [e] at e'; cases e'
  exact hc c'
/-- behind an iterator's step: its own records wr turned, a new tuple lies at T -/
theorem Inv.pairLaid {tk : Nat} {h' : Heap} {wr : List Addr} {T : Addr} {xs : List V} {vals : List Value} (I : Inv X pins σ H s) (hw : ∀ b ∈ wr, FpOk X pins H b) (hT : s.heap.objs.size ≤ T) (ht : h'.IsTuple T vals.toArray) (rv : Vals xs vals) (hz : xs.length ≤ sizeLine)
    (kk : ∀ b o, b ∉ wr → s.heap.get? b = some o → h'.get? b = some o) (there : ∀ b ∈ wr, ∃ o, h'.get? b = some o) : Inv X pins σ (upd H T (.tup xs)) { s with heap := h', toks := tk } := by
  have hTn : H T = none := I.hok.fresh hT
  have nT : ∀ b o, s.heap.get? b = some o → b ≠ T := fun b o e => Nat.ne_of_lt (Nat.lt_of_lt_of_le (Heap.lt_size e) hT)
  refine I.step (g' := s.gens) (d' := s.drawn) (ch := wr) (fun b hb => ?_) (fun b o _ _ hc e _ => kk b o hc e) (fun b o _ _ hc e _ => ⟨o.slots, kk b o hc e⟩) (fun b o _ e n => by rw [upd_ne (nT b o e)]; exact n)
    (fun b o hc e => ⟨o, kk b o hc e⟩) (fun b ys e => by rw [upd_ne (ne_of_none e hTn)]; exact e) (fun b o u e => by rw [upd_ne (ne_of_none e hTn)]; exact e) (fun b ps e => ⟨#[], by rw [upd_ne (ne_of_none e hTn), e]; simp⟩) (fun m hm => ?_) (fun b u e => ?_) I.bare
  · obtain ⟨_, f1, _, f3, f4, f5⟩ := hw b hb
    exact ⟨f3, f1, f4, f5⟩
  · obtain ⟨o, es, ep, ho, r⟩ := hm
    exact ⟨o, es, ep, kk _ o (fun z => (hw _ z).2.1 rfl) ho, r⟩
  · by_cases hb : b = T
    · subst hb
      rw [upd_same] at e
      cases e
      exact ⟨hz, vals, rv, ht⟩
    · rw [upd_ne hb] at e
      refine (I.hok b u e).stay (fun c v hc q => kk c v (fun z => ?_) q) (fun c q => by rw [upd_ne (ne_of_none q hTn)]; exact q) fun c ys q => by rw [upd_ne (ne_of_none q hTn)]; exact q
      have hn := (hw c z).1
      rcases hc with hc | hc
      · rw [hc, e] at hn; cases hn
      · rw [hc] at hn; cases hn
theorem Inv.turnedMany {tk : Nat} {h' : Heap} {wr : List Addr} (I : Inv X pins σ H s) (hw : ∀ b ∈ wr, FpOk X pins H b) (kk : ∀ b o, b ∉ wr → s.heap.get? b = some o → h'.get? b = some o) : Inv X pins σ H { s with heap := h', toks := tk } := by
  refine I.step (g' := s.gens) (d' := s.drawn) (ch := wr) (fun b hb => ?_) (fun b o _ _ hc e _ => kk b o hc e) (fun b o _ _ hc e _ => ⟨o.slots, kk b o hc e⟩) (fun b o _ e n => n)
    (fun b o hc e => ⟨o, kk b o hc e⟩) (fun b ys e => e) (fun b o u e => e) (fun b ps e => ⟨#[], by rw [e]; simp⟩) (fun m hm => ?_) (fun b u e => ?_) I.bare
  · obtain ⟨_, f1, _, f3, f4, f5⟩ := hw b hb
    exact ⟨f3, f1, f4, f5⟩
  · obtain ⟨o, es, ep, ho, r⟩ := hm
    exact ⟨o, es, ep, kk _ o (fun z => (hw _ z).2.1 rfl) ho, r⟩
  · refine (I.hok b u e).stay (fun c v hc q => kk c v (fun z => ?_) q) (fun c q => q) fun c ys q => q
    have hn := (hw c z).1
    rcases hc with hc | hc
    · rw [hc, e] at hn; cases hn
    · rw [hc] at hn; cases hn
end
end L2

set_option maxHeartbeats 4000000
namespace L2
open PySem PySem.Spec PyProof.Rows PySem.SeqAt
/-! ### one word for an operation, whatever it is upon -/
section
variable {X : Cx}
theorem hu_of64 {k : Nat} {A : Around} (hr : Room k A) : A.units + 64 < cLine := hr.units
theorem bt_len : bootBuiltins "len" = some (.builtin "len") := by decide +kernel
theorem bt_min : bootBuiltins "min" = some (.builtin "min") := by decide +kernel
theorem bt_enumerate : bootBuiltins "enumerate" = some (.type "enumerate") := by decide +kernel
theorem bt_zip : bootBuiltins "zip" = some (.type "zip") := by decide +kernel
theorem bt_isinstance : bootBuiltins "isinstance" = some (.builtin "isinstance") := by decide +kernel
theorem bt_int : bootBuiltins "int" = some (.type "int") := by decide +kernel
theorem bt_bool : bootBuiltins "bool" = some (.type "bool") := by decide +kernel
theorem bt_str : bootBuiltins "str" = some (.type "str") := by decide +kernel
theorem bt_list : bootBuiltins "list" = some (.type "list") := by decide +kernel
theorem bt_tuple : bootBuiltins "tuple" = some (.type "tuple") := by decide +kernel
theorem bt_any : bootBuiltins "any" = some (.builtin "any") := by decide +kernel
theorem bt_all : bootBuiltins "all" = some (.builtin "all") := by decide +kernel
/-- text * n -/
def rRepS : R2 := fun x y H Q => ∃ z k, x = .str z ∧ y = .int k ∧ 0 ≤ k ∧ z.length * k.toNat ≤ 1000 ∧ ∀ r : Str, r.cps.toList = (List.replicate k.toNat z.cps.toList).flatten → Q (.str r) H
end
end L2
namespace L2
open PySem PySem.Spec PyProof.Rows
/-! ### a row of written texts as arguments -/
def cstrs : List Expr → Option (List Str)
  | [] => some []
  | .Constant (.str x) _ _ :: r => (cstrs r).map fun ys => x :: ys
  | _ => none
end L2

namespace L2
open PySem
theorem seq_upd {K : PySem.W.Frag} {H : Hp} {a l : Addr} {o : HO} {xs : List V} (h : SqL K H a xs) (hn : H l = none) : SqL K (upd H l o) a xs := by
  have ne : ∀ {u}, H a = some u → a ≠ l := fun e => ne_of_none e hn
  rcases h with (h | ⟨u, h⟩) | h
  · exact .inl (.inl (by rw [upd_ne (ne h)]; exact h))
  · exact .inl (.inr ⟨u, by rw [upd_ne (ne h)]; exact h⟩)
  · exact .inr h
theorem Same.upd {H : Hp} {l : Addr} {o : HO} (hn : H l = none) : Same H (upd H l o) := fun b u e => by
  rw [upd_ne (ne_of_none e hn)]
  exact e
end L2
namespace L2
theorem bodyOk {X : Cx} {b : List PySem.Stmt} {t : TS} {D : Ends} {σ : St} {H : Hp} (h : PSs X b t) (q : t D σ H) : ∃ t, PSs X b t ∧ t D σ H := ⟨t, h, q⟩
theorem dec_int' (i j : Int) : decide (V.int i = V.int j) = decide (i = j) := by
  by_cases h : i = j
  · subst h; simp
  · rw [decide_eq_false h]
    exact decide_eq_false fun e => h (V.int.inj e)
end L2
namespace L2
open PySem
end L2
namespace L2
open PySem
end L2

set_option maxHeartbeats 4000000
namespace L2
open PySem PySem.Spec PyProof.Rows
section
variable {X : Cx} {tg : Expr}
theorem list_inj2 {pins : List (Addr × Obj)} {σ : St} {H : Hp} {s : Shared} {a : Addr} {xs : List V} {i : Nat} {y : V} (I : Inv X pins σ H s) (hq : SqL X.K H a xs) (hy : xs[i]? = some y) : ∀ ys, SqL X.K H a ys → ys[i]? = some y := fun ys h => by
  rw [I.list_inj h hq]
  exact hy
/-- the tuple that an iterator hands out, for a target that takes it apart -/
theorem turn_enum {P : Program} {w : World} {K : PySem.W.Frag} {es : List Expr} {k : Nat} {tp : Pos} (a e it : Addr) (hei : e ≠ it) :
    Turn P w K (.Tuple es k tp) (Ite K a) [e, it] e (fun i h => (∃ old, IsEnum h e it i old) ∧ h.IsListIter it a i) where
  mem := by simp
  obj := fun i h st b hb => by
    obtain ⟨⟨old, he⟩, o, e2, c, d⟩ := st
    rcases List.mem_cons.mp hb with rfl | hb
    · exact ⟨_, he, fun v z => by
        have z' : Data.fields _ = Data.cell v := z
        cases z'⟩
    · have : b = it := by simpa using hb
      subst this
      exact ⟨o, e2, fun v z => by rw [d] at z; cases z⟩
  keep := fun i h h' st kp => by
    obtain ⟨⟨old, he⟩, hit⟩ := st
    exact ⟨⟨old, kp e (by simp) _ he⟩, hit.at fun o x => kp it (by simp) o x⟩
  item := by
    intro X hP hw hK hc i pins s σ H E I hf st hg
    subst hP hw hK
    obtain ⟨xs, x, hq, hx⟩ := hg
    obtain ⟨its, rv, p, hz⟩ := I.list hq
    obtain ⟨u, hu, ru⟩ := rv.get hx
    obtain ⟨⟨old, he⟩, hit⟩ := st
    have hle : a ≠ e := notList_of (K := X.K) I hq he (by intro z; injection z with z; exact absurd z (by decide))
    have hli : a ≠ it := by
      obtain ⟨o, e2, c, _⟩ := hit
      exact notList_of (K := X.K) I hq e2 (by rw [c]; intro z; injection z with z; exact absurd z (by decide))
    have hiu : i < its.toArray.size := by
      have := (List.getElem?_eq_some_iff.mp hu).1
      simpa using this
    have W := WalksT.enumerate (prog := X.prog) (w := X.w) (I.ok.hd hc) e it a hei hle hli its.toArray
    refine W.item i s _ _ hiu ⟨⟨old, he⟩, hit, p.isList⟩ fun T vals h' tk hv hT ht mid kk => ?_
    refine ⟨_, rfl, ?_⟩
    obtain ⟨t, x', hx', rfl⟩ := hv
    have ex : x' = u := by
      have : its[i]? = some x' := by simpa using hx'
      rw [hu] at this
      exact (Option.some.inj this).symm
    subst ex
    have fw : ∀ b ∈ [e, it], FpOk X pins H b := hf
    have I1 : Inv X pins σ (upd H T (.tup [.int i, x])) { s with heap := h', toks := tk } := by
      refine I.pairLaid (vals := [.int i t, x']) fw hT (by simpa using ht) (.cons ⟨t, rfl⟩ (.cons ru .nil)) (by show 2 ≤ sizeLine; decide) kk fun b hb => ?_
      obtain ⟨⟨xx, ho⟩, ⟨o, e2, _⟩, _⟩ := mid
      rcases List.mem_cons.mp hb with rfl | hb
      · exact ⟨_, ho⟩
      · have : b = it := by simpa using hb
        subst this
        exact ⟨o, e2⟩
    have hTn : H T = none := I.hok.fresh hT
    have neT : ∀ b ∈ [e, it], b ≠ T := fun b hb z => by
      subst z
      exact W.apart i b _ mid hb
    refine W.go es k tp i T _ _ _ mid fun h'' st'' kk'' => ?_
    have hf2 : ∀ b ∈ [e, it], FpOk X pins (upd H T (.tup [.int i, x])) b := fun b hb => by
      obtain ⟨f0, fr⟩ := hf b hb
      exact ⟨by rw [upd_ne (neT b hb)]; exact f0, fr⟩
    refine ⟨.ref T, upd H T (.tup [.int i, x]), I1.turnedMany (tk := tk) hf2 kk'', rfl, ⟨x, T, rfl, hTn, list_inj2 I hq hx, rfl⟩, ⟨st''.1, st''.2.1⟩, fun b hb => (hf2 b hb).1⟩
  done := by
    intro X hP hw hK hc i pins s σ H E I hf st hg
    subst hP hw hK
    obtain ⟨xs, hq, hx⟩ := hg
    obtain ⟨its, rv, p, hz⟩ := I.list hq
    obtain ⟨⟨old, he⟩, hit⟩ := st
    have hl := rv.length
    refine wpAny_pyNext_enum_end (I.ok.hd hc) he hit p.isList (Array.getElem?_eq_none (by simp; omega)) fun h' hx' => ?_
    exact ⟨rfl, I.turnedMany (tk := s.toks) hf fun b o hb q => hx' b o (fun z => hb (by simp [z])) q⟩
  self := fun _ _ _ _ _ st h => by
    obtain ⟨⟨old, he⟩, _⟩ := st
    exact wpAny_pyIter_enum he h
/-- one argument, with what is known of it -/
theorem pa_one {l : Expr} {tl : TE} (hl : PE X l tl) (hs : starEach [l] X.env = [(false, eval l X.env)]) (pos : Pos) (pins : List (Addr × Obj)) (s : Shared) (σ : St) (H : Hp) {Q : VK} (I : Inv X pins σ H s) (h : tl σ H Q) :
    wpAny (model X.prog X.w) X.A (spliced (backTo pos (starEach [l] X.env))) (fun us s1 => ∃ v u H1, Inv X pins σ H1 s1 ∧ us = [u] ∧ RelV v u ∧ Q v H1) X.xe s := by
  have ha : PA X [l] (fun σ H Q => tl σ H fun x H1 => Q [x] H1) := pa_cons hl pa_nil hs
  have mono : wpAny (model X.prog X.w) X.A (spliced (backTo pos (starEach [l] X.env))) (AP X pins σ fun vs H1 => ∃ v, vs = [v] ∧ Q v H1) X.xe s := by
    have he : PE X l (fun σ' H' Q' => σ' = σ ∧ H' = H ∧ ∀ v H1, Q v H1 → Q' v H1) := by
      intro pins s σ' H' Q' I' hw
      obtain ⟨rfl, rfl, hm⟩ := hw
      exact thn (hl pins s σ' H' Q I' h) fun u s1 ⟨v, H1, I1, r, q⟩ => ⟨v, H1, I1, r, hm v H1 q⟩
    exact pa_cons he pa_nil hs pos pins s σ H _ I ⟨rfl, rfl, fun v H1 q => ⟨v, rfl, q⟩⟩
  refine thn mono fun us s1 ⟨vs, H1, I1, r, v, e, q⟩ => ?_
  subst e
  obtain ⟨u, rfl, ru⟩ := r.one
  exact ⟨v, u, H1, I1, rfl, ru, q⟩
def iEnum (K : PySem.W.Frag) (tl : TE) : TI := fun σ H R => tl σ H fun x H1 => ∃ a, x = .ref a ∧ (∃ xs, SqL K H1 a xs) ∧ R (Ite K a) H1
theorem pi_enum {l : Expr} {tl : TE} {p pos tp : Pos} {es : List Expr} {k : Nat} (hg : Gl X "enumerate") (hm : X.mg "enumerate" = none) (hl : PE X l tl) (hs : starEach [l] X.env = [(false, eval l X.env)] := by rfl) :
    PI X (.Tuple es k tp) (.Call (.Name "enumerate" p) [l] [] pos) (iEnum X.K tl) := by
  intro pins s σ H R I h
  refine Call_ (ld_blt I hg hm bt_enumerate (PyProof.Rows.callWith_type1 (thn (pa_one hl hs pos pins s σ H I h) fun us s1 ⟨v, u, H1, I1, e1, r1, q1⟩ => ?_) (by rw [hs]; rfl) (by rfl)))
  · obtain ⟨a, rfl, ⟨xs, hq⟩, q⟩ := q1
    subst e1
    cases r1
    obtain ⟨its, rv, pl, hz⟩ := I1.list hq
    refine call_enumerate_list pl.isList fun h' he hit hsz kk => ?_
    have hee : s1.heap.objs.size + 1 ≠ s1.heap.objs.size := Nat.succ_ne_self _
    refine wpAny_pyIter_enum he ?_
    refine ⟨s1.heap.objs.size + 1, [s1.heap.objs.size + 1, s1.heap.objs.size], _, _, H1, rfl, I1.kept (t' := s1.toks) kk, turn_enum a _ _ hee, ⟨⟨.none, he⟩, hit⟩, fun b hb => ?_, q⟩
    have hb' : s1.heap.objs.size ≤ b := by
      rcases List.mem_cons.mp hb with rfl | hb
      · exact Nat.le_succ _
      · have : b = s1.heap.objs.size := by simpa using hb
        rw [this]
        exact Nat.le_refl _
    exact I1.fpOk hb' (I1.hok.fresh hb')
end
end L2

set_option maxHeartbeats 4000000
namespace L2
open PySem PySem.Spec PyProof.Rows
structure ZipOwn (z TI TO i1 i2 : Addr) : Prop where
  TIz : TI ≠ z
  TOz : TO ≠ z
  i1z : i1 ≠ z
  i2z : i2 ≠ z
  TITO : TI ≠ TO
  TIi1 : TI ≠ i1
  TIi2 : TI ≠ i2
  TOi1 : TO ≠ i1
  TOi2 : TO ≠ i2
  i12 : i1 ≠ i2
section
variable {X : Cx}
def zipSt (z TI TO i1 i2 a b : Addr) (i : Nat) (h : Heap) : Prop := IsZip h z TI TO .none ∧ IsPair h TI (.ref i1) (.ref i2) ∧ (∃ x y, IsPair h TO x y) ∧ h.IsListIter i1 a i ∧ h.IsListIter i2 b i
theorem zip_apart {pins : List (Addr × Obj)} {σ : St} {H : Hp} {s : Shared} {z TI TO i1 i2 a b : Addr} {i : Nat} {xs ys : List V} (I : Inv X pins σ H s) (O : ZipOwn z TI TO i1 i2) (st : zipSt z TI TO i1 i2 a b i s.heap) (ha : SqL X.K H a xs) (hb : SqL X.K H b ys) :
    ZipApart z TI TO i1 i2 a b := by
  obtain ⟨hz, hTI, ⟨x, y, hTO⟩, ⟨o1, e1, c1, _⟩, ⟨o2, e2, c2, _⟩⟩ := st
  have nz : ∀ {c : Addr} {zs : List V}, SqL X.K H c zs → c ≠ z := fun h => notList_of (K := X.K) I h hz (by intro q; injection q with q; exact absurd q (by decide))
  have nT : ∀ {c : Addr} {zs : List V}, SqL X.K H c zs → c ≠ TO := fun h => notList_of (K := X.K) I h hTO (by intro q; injection q with q; exact absurd q (by decide))
  have n1 : ∀ {c : Addr} {zs : List V}, SqL X.K H c zs → c ≠ i1 := fun h => notList_of (K := X.K) I h e1 (by rw [c1]; intro q; injection q with q; exact absurd q (by decide))
  have n2 : ∀ {c : Addr} {zs : List V}, SqL X.K H c zs → c ≠ i2 := fun h => notList_of (K := X.K) I h e2 (by rw [c2]; intro q; injection q with q; exact absurd q (by decide))
  exact ⟨O.TIz, O.TOz, O.i1z, O.i2z, O.TITO, O.TIi1, O.TIi2, O.TOi1, O.TOi2, O.i12, nz ha, nT ha, n1 ha, n2 ha, nz hb, nT hb, n1 hb, n2 hb⟩
theorem turn_zip {P : Program} {w : World} {K : PySem.W.Frag} {es : List Expr} {k : Nat} {tp : Pos} {z TI TO i1 i2 : Addr} (a b : Addr) (O : ZipOwn z TI TO i1 i2) :
    Turn P w K (.Tuple es k tp) (Itz K a b) [z, TI, TO, i1, i2] z (zipSt z TI TO i1 i2 a b) where
  mem := by simp
  obj := fun i h st c hc => by
    obtain ⟨hz, hTI, ⟨x, y, hTO⟩, ⟨o1, e1, _, d1⟩, ⟨o2, e2, _, d2⟩⟩ := st
    have hc' : c = z ∨ c = TI ∨ c = TO ∨ c = i1 ∨ c = i2 := by simpa using hc
    rcases hc' with rfl | rfl | rfl | rfl | rfl
    · exact ⟨_, hz, fun v q => by
        have q' : Data.fields _ = Data.cell v := q
        cases q'⟩
    · exact ⟨_, hTI, fun v q => by
        have q' : Data.seq _ _ = Data.cell v := q
        cases q'⟩
    · exact ⟨_, hTO, fun v q => by
        have q' : Data.seq _ _ = Data.cell v := q
        cases q'⟩
    · exact ⟨o1, e1, fun v q => by rw [d1] at q; cases q⟩
    · exact ⟨o2, e2, fun v q => by rw [d2] at q; cases q⟩
  keep := fun i h h' st kp => by
    obtain ⟨hz, hTI, ⟨x, y, hTO⟩, h1, h2⟩ := st
    exact ⟨kp z (by simp) _ hz, kp TI (by simp) _ hTI, ⟨x, y, kp TO (by simp) _ hTO⟩, h1.at fun o q => kp i1 (by simp) o q, h2.at fun o q => kp i2 (by simp) o q⟩
  item := by
    intro X hP hw hK hc i pins s σ H E I hf st hg
    subst hP hw hK
    obtain ⟨xs, ys, x, y, hq, hq2, hx, hy⟩ := hg
    have D := zip_apart I O st hq hq2
    obtain ⟨its, rv, p, _⟩ := I.list hq
    obtain ⟨its2, rv2, p2, _⟩ := I.list hq2
    obtain ⟨u, hu, ru⟩ := rv.get hx
    obtain ⟨u2, hu2, ru2⟩ := rv2.get hy
    have h1 : i < its.length := (List.getElem?_eq_some_iff.mp hu).1
    have h2 : i < its2.length := (List.getElem?_eq_some_iff.mp hu2).1
    have W := WalksT.zip2 (prog := X.prog) (w := X.w) (I.ok.hd hc) z TI TO i1 i2 a b D its.toArray its2.toArray
    obtain ⟨hz, hTI, hTO, g1, g2⟩ := st
    refine W.item i s _ _ (by simp; omega) ⟨hz, hTI, hTO, g1, g2, p.isList, p2.isList⟩ fun T vals h' tk hv hT ht mid kk => ?_
    refine ⟨_, rfl, ?_⟩
    obtain ⟨x', y', hx', hy', rfl⟩ := hv
    have ex : x' = u := by
      have : its[i]? = some x' := by simpa using hx'
      rw [hu] at this
      exact (Option.some.inj this).symm
    have ey : y' = u2 := by
      have : its2[i]? = some y' := by simpa using hy'
      rw [hu2] at this
      exact (Option.some.inj this).symm
    subst ex ey
    have sub : ∀ c ∈ [z, TO, i1, i2], c ∈ [z, TI, TO, i1, i2] := fun c hc => by
      have : c = z ∨ c = TO ∨ c = i1 ∨ c = i2 := by simpa using hc
      simp
      rcases this with r | r | r | r <;> simp [r]
    have fw : ∀ c ∈ [z, TO, i1, i2], FpOk X pins H c := fun c hc => hf c (sub c hc)
    have I1 : Inv X pins σ (upd H T (.tup [x, y])) { s with heap := h', toks := tk } := by
      refine I.pairLaid (vals := [x', y']) fw hT (by simpa using ht) (.cons ru (.cons ru2 .nil)) (by show 2 ≤ sizeLine; decide) kk fun c hc => ?_
      obtain ⟨m1, _, ⟨_, _, m2⟩, ⟨o1, m3, _⟩, ⟨o2, m4, _⟩, _⟩ := mid
      have : c = z ∨ c = TO ∨ c = i1 ∨ c = i2 := by simpa using hc
      rcases this with rfl | rfl | rfl | rfl
      · exact ⟨_, m1⟩
      · exact ⟨_, m2⟩
      · exact ⟨_, m3⟩
      · exact ⟨_, m4⟩
    have hTn : H T = none := I.hok.fresh hT
    have neT : ∀ c ∈ [z, TI, TO, i1, i2], c ≠ T := fun c hc q => by
      subst q
      have : c = TI ∨ c ∈ [z, TO, i1, i2] := by
        have : c = z ∨ c = TI ∨ c = TO ∨ c = i1 ∨ c = i2 := by simpa using hc
        simp
        rcases this with r | r | r | r | r <;> simp [r]
      rcases this with r | r
      · subst r
        exact absurd (Nat.lt_of_lt_of_le (Heap.lt_size hTI) hT) (Nat.lt_irrefl _)
      · exact W.apart i c _ mid r
    refine W.go es k tp i T _ _ _ mid fun h'' st'' kk'' => ?_
    have hf2 : ∀ c ∈ [z, TI, TO, i1, i2], FpOk X pins (upd H T (.tup [x, y])) c := fun c hc => by
      obtain ⟨f0, fr⟩ := hf c hc
      exact ⟨by rw [upd_ne (neT c hc)]; exact f0, fr⟩
    obtain ⟨s1, s2, s3, s4, s5, _⟩ := st''
    refine ⟨.ref T, upd H T (.tup [x, y]), I1.turnedMany (tk := tk) (fun c hc => hf2 c (sub c hc)) kk'', rfl, ⟨x, y, T, rfl, hTn, list_inj2 I hq hx, list_inj2 I hq2 hy, rfl⟩, ⟨s1, s2, s3, s4, s5⟩, fun c hc => (hf2 c hc).1⟩
  done := by
    intro X hP hw hK hc i pins s σ H E I hf st hg
    subst hP hw hK
    obtain ⟨xs, ys, hq, hq2, hx⟩ := hg
    have D := zip_apart I O st hq hq2
    obtain ⟨its, rv, p, _⟩ := I.list hq
    obtain ⟨its2, rv2, p2, _⟩ := I.list hq2
    have W := WalksT.zip2 (prog := X.prog) (w := X.w) (I.ok.hd hc) z TI TO i1 i2 a b D its.toArray its2.toArray
    obtain ⟨hz, hTI, hTO, g1, g2⟩ := st
    have e : min its.toArray.size its2.toArray.size = i := by
      rw [List.size_toArray, List.size_toArray, ← rv.length, ← rv2.length]
      exact hx
    refine W.done s _ _ (by rw [e]; exact ⟨hz, hTI, hTO, g1, g2, p.isList, p2.isList⟩) fun h' tk kk => ?_
    refine ⟨rfl, I.turnedMany (tk := tk) (wr := [z, TO, i1, i2]) (fun c hc => hf c ?_) kk⟩
    have : c = z ∨ c = TO ∨ c = i1 ∨ c = i2 := by simpa using hc
    simp
    rcases this with r | r | r | r <;> simp [r]
  self := fun _ i s _ _ st h => by
    obtain ⟨hz, _⟩ := st
    exact wpAny_pyIter_zip hz h
def iZip (K : PySem.W.Frag) (tl tm : TE) : TI := fun σ H R => tl σ H fun x H1 => tm σ H1 fun y H2 => ∃ a b, x = .ref a ∧ y = .ref b ∧ (∃ xs, SqL K H2 a xs) ∧ (∃ ys, SqL K H2 b ys) ∧ R (Itz K a b) H2
theorem pa_two {l m : Expr} {tl tm : TE} (hl : PE X l tl) (hm : PE X m tm) (hs : starEach [l, m] X.env = [(false, eval l X.env), (false, eval m X.env)]) (hs2 : starEach [m] X.env = [(false, eval m X.env)]) (pos : Pos) (pins : List (Addr × Obj)) (s : Shared) (σ : St) (H : Hp) {Q : V → V → Hp → Prop} (I : Inv X pins σ H s) (h : tl σ H fun x H1 => tm σ H1 fun y H2 => Q x y H2) :
    wpAny (model X.prog X.w) X.A (spliced (backTo pos (starEach [l, m] X.env))) (fun us s1 => ∃ x y u v H1, Inv X pins σ H1 s1 ∧ us = [u, v] ∧ RelV x u ∧ RelV y v ∧ Q x y H1) X.xe s := by
  have he : PE X l (fun σ' H' Q' => σ' = σ ∧ H' = H ∧ ∀ x H1, (tm σ H1 fun y H2 => Q x y H2) → Q' x H1) := by
    intro pins s σ' H' Q' I' hw
    obtain ⟨rfl, rfl, k⟩ := hw
    exact thn (hl pins s σ' H' _ I' h) fun u s1 ⟨v, H1, I1, r, q⟩ => ⟨v, H1, I1, r, k v H1 q⟩
  have hf : PE X m (fun σ' H' Q' => ∃ x, σ' = σ ∧ (tm σ H' fun y H2 => Q x y H2) ∧ ∀ y H2, Q x y H2 → Q' y H2) := by
    intro pins s σ' H' Q' I' hw
    obtain ⟨x, rfl, hh, k⟩ := hw
    exact thn (hm pins s σ' H' _ I' hh) fun u s1 ⟨v, H1, I1, r, q⟩ => ⟨v, H1, I1, r, k v H1 q⟩
  have main := pa_cons he (pa_cons hf pa_nil hs2) (by rw [hs, hs2]) pos pins s σ H (fun vs H2 => ∃ x y, vs = [x, y] ∧ Q x y H2) I ⟨rfl, rfl, fun x H1 q => ⟨x, rfl, q, fun y H2 q2 => ⟨x, y, rfl, q2⟩⟩⟩
  refine thn main fun us s1 ⟨vs, H1, I1, r, x, y, e, q⟩ => ?_
  subst e
  obtain ⟨u, v, rfl, r1, r2⟩ := r.two
  exact ⟨x, y, u, v, H1, I1, rfl, r1, r2, q⟩
theorem pi_zip {l m : Expr} {tl tm : TE} {p pos tp : Pos} {es : List Expr} {k : Nat} (hg : Gl X "zip") (hz : X.mg "zip" = none) (hl : PE X l tl) (hm : PE X m tm) (hs : starEach [l, m] X.env = [(false, eval l X.env), (false, eval m X.env)] := by rfl) (hs2 : starEach [m] X.env = [(false, eval m X.env)] := by rfl) :
    PI X (.Tuple es k tp) (.Call (.Name "zip" p) [l, m] [] pos) (iZip X.K tl tm) := by
  intro pins s σ H R I h
  refine Call_ (ld_blt I hg hz bt_zip (PyProof.Rows.callWith_type1 (thn (pa_two hl hm hs hs2 pos pins s σ H I h) fun us s1 ⟨x, y, u, v, H1, I1, e1, r1, r2, q1⟩ => ?_) (by rw [hs, hs2]) (by rw [hs2]; rfl)))
  obtain ⟨a, b, rfl, rfl, ⟨xs, hq⟩, ⟨ys, hq2⟩, q⟩ := q1
  subst e1
  cases r1
  cases r2
  obtain ⟨its, rv, pl, _⟩ := I1.list hq
  obtain ⟨its2, rv2, pl2, _⟩ := I1.list hq2
  refine call_zip_2 pl.isList pl2.isList fun h' z1 z2 z3 z4 z5 hsz kk => ?_
  refine wpAny_pyIter_zip z1 ?_
  have O : ZipOwn (s1.heap.objs.size + 4) (s1.heap.objs.size + 2) (s1.heap.objs.size + 3) s1.heap.objs.size (s1.heap.objs.size + 1) := by
    constructor <;> exact (by intro q; have q' : (_ : Nat) = _ := q; omega)
  refine ⟨_, [s1.heap.objs.size + 4, s1.heap.objs.size + 2, s1.heap.objs.size + 3, s1.heap.objs.size, s1.heap.objs.size + 1], _, _, H1, rfl, I1.kept (t' := s1.toks) kk, turn_zip a b O, ⟨z1, z2, ⟨_, _, z3⟩, z4, z5⟩, fun c hc => ?_, q⟩
  have hc' : s1.heap.objs.size ≤ c := by
    have : c = s1.heap.objs.size + 4 ∨ c = s1.heap.objs.size + 2 ∨ c = s1.heap.objs.size + 3 ∨ c = s1.heap.objs.size ∨ c = s1.heap.objs.size + 1 := by simpa using hc
    rcases this with r | r | r | r | r <;> (rw [r]; first | exact Nat.le_add_right _ _ | exact Nat.le_refl _)
  exact I1.fpOk hc' (I1.hok.fresh hc')
end
end L2

set_option maxHeartbeats 4000000
namespace L2
open PySem
/-! ### a comprehension by what holds between two turns -/
abbrev CompW (J : It) (g : TG) (tc : TT) (te : TE) (D : Addr) (R : Hp → Prop) (σ : St) (H : Hp) : Prop := ∃ W : Nat → Nat → List V → St → Hp → Prop, (∃ m, W 0 m [] σ H) ∧ ∀ i m ys σ H, W i m ys σ H →
    (J.stop i H ∧ R H) ∨ (J.go i H ∧ ∀ x H', J.yld i H x H' → g x σ H' fun σ2 H2 => tc σ2 H2 fun ok H3 =>
      if ok = true then te σ2 H3 fun y H4 => H4 D = some (.lst ys) ∧ ys.length < sizeLine ∧ ∃ m', m' < m ∧ W (i + 1) m' (ys ++ [y]) σ2 (upd H4 D (.lst (ys ++ [y])))
      else ∃ m', m' < m ∧ W (i + 1) m' ys σ2 H3)
/-- one turn: N is what the rest asks -/
abbrev CompT (g : TG) (tc : TT) (te : TE) (D : Addr) (ys : List V) (x : V) (σ : St) (H : Hp) (N : List V → St → Hp → Prop) : Prop :=
  g x σ H fun σ2 H2 => tc σ2 H2 fun ok H3 => if ok = true then te σ2 H3 fun y H4 => H4 D = some (.lst ys) ∧ ys.length < sizeLine ∧ N (ys ++ [y]) σ2 (upd H4 D (.lst (ys ++ [y]))) else N ys σ2 H3
theorem comp_range {lo : Int} {n : Nat} {g : TG} {tc : TT} {te : TE} {D : Addr} {R : Hp → Prop} {σ : St} {H : Hp} (Pv : Nat → List V → St → Hp → Prop) (h0 : Pv 0 [] σ H)
    (hs : ∀ i ys σ H, i < n → Pv i ys σ H → ∀ N : List V → St → Hp → Prop, (∀ ys σ H, Pv (i + 1) ys σ H → N ys σ H) → CompT g tc te D ys (.int (lo + i)) σ H N) (hd : ∀ ys σ H, Pv n ys σ H → R H) : CompW (Itr lo n) g tc te D R σ H := by
  refine ⟨fun i m ys σ H => m = n - i ∧ i ≤ n ∧ Pv i ys σ H, ⟨n, by simp, Nat.zero_le _, h0⟩, ?_⟩
  rintro i m ys σ H ⟨rfl, hi, p⟩
  by_cases hlt : i < n
  · refine .inr ⟨hlt, fun x H' y => ?_⟩
    obtain ⟨e, y⟩ := y
    subst e y
    exact hs i ys σ _ hlt p (fun ys' σ' H' => ∃ m', m' < n - i ∧ m' = n - (i + 1) ∧ i + 1 ≤ n ∧ Pv (i + 1) ys' σ' H') fun ys' σ' H' q => ⟨n - (i + 1), by omega, rfl, hlt, q⟩
  · have e : i = n := by omega
    subst e
    exact .inl ⟨Nat.le_refl _, hd ys σ H p⟩
theorem comp_list {K : PySem.W.Frag} {a : Addr} {xs : List V} {g : TG} {tc : TT} {te : TE} {D : Addr} {R : Hp → Prop} {σ : St} {H : Hp} (Pv : Nat → List V → St → Hp → Prop) (h0 : Pv 0 [] σ H) (hl : ∀ i ys σ H, Pv i ys σ H → SqL K H a xs)
    (hs : ∀ i ys x σ H, xs[i]? = some x → Pv i ys σ H → ∀ N : List V → St → Hp → Prop, (∀ ys σ H, Pv (i + 1) ys σ H → N ys σ H) → CompT g tc te D ys x σ H N) (hd : ∀ ys σ H, Pv xs.length ys σ H → R H) : CompW (Itl K a) g tc te D R σ H := by
  refine ⟨fun i m ys σ H => m = xs.length - i ∧ i ≤ xs.length ∧ Pv i ys σ H, ⟨xs.length, by simp, Nat.zero_le _, h0⟩, ?_⟩
  rintro i m ys σ H ⟨rfl, hi, p⟩
  have q := hl i ys σ H p
  by_cases hlt : i < xs.length
  · refine .inr ⟨⟨xs, xs[i], q, by simp [hlt]⟩, fun x H' y => ?_⟩
    obtain ⟨e, y⟩ := y
    subst e
    exact hs i ys x σ _ (y xs q) p (fun ys' σ' H' => ∃ m', m' < xs.length - i ∧ m' = xs.length - (i + 1) ∧ i + 1 ≤ xs.length ∧ Pv (i + 1) ys' σ' H') fun ys' σ' H' q => ⟨xs.length - (i + 1), by omega, rfl, hlt, q⟩
  · have e : i = xs.length := by omega
    subst e
    exact .inl ⟨⟨xs, q, Nat.le_refl _⟩, hd ys σ H p⟩
theorem comp_str {z : Str} {g : TG} {tc : TT} {te : TE} {D : Addr} {R : Hp → Prop} {σ : St} {H : Hp} (Pv : Nat → List V → St → Hp → Prop) (h0 : Pv 0 [] σ H)
    (hs : ∀ i ys c σ H, z.cps[i]? = some c → Pv i ys σ H → ∀ N : List V → St → Hp → Prop, (∀ ys σ H, Pv (i + 1) ys σ H → N ys σ H) → CompT g tc te D ys (.str ⟨#[c]⟩) σ H N) (hd : ∀ ys σ H, Pv z.cps.size ys σ H → R H) : CompW (Its z) g tc te D R σ H := by
  refine ⟨fun i m ys σ H => m = z.cps.size - i ∧ i ≤ z.cps.size ∧ Pv i ys σ H, ⟨z.cps.size, by simp, Nat.zero_le _, h0⟩, ?_⟩
  rintro i m ys σ H ⟨rfl, hi, p⟩
  by_cases hlt : i < z.cps.size
  · refine .inr ⟨hlt, fun x H' y => ?_⟩
    obtain ⟨e, c, hc, y⟩ := y
    subst e y
    exact hs i ys c σ _ hc p (fun ys' σ' H' => ∃ m', m' < z.cps.size - i ∧ m' = z.cps.size - (i + 1) ∧ i + 1 ≤ z.cps.size ∧ Pv (i + 1) ys' σ' H') fun ys' σ' H' q => ⟨z.cps.size - (i + 1), by omega, rfl, hlt, q⟩
  · have e : i = z.cps.size := by omega
    subst e
    exact .inl ⟨Nat.le_refl _, hd ys σ H p⟩
/-- for pair in enumerate(list) -/
theorem for_enum {K : PySem.W.Frag} {a : Addr} {xs : List V} {g : TG} {tb : TS} {D : Ends} {σ : St} {H : Hp} (Pv : Nat → St → Hp → Prop) (h0 : Pv 0 σ H) (hl : ∀ i σ H, Pv i σ H → SqL K H a xs)
    (hs : ∀ i x t σ H, xs[i]? = some x → Pv i σ H → H t = none → g (.ref t) σ (upd H t (.tup [.int i, x])) fun σ2 H2 => tb { D with nx := Pv (i + 1), ct := Pv (i + 1), bk := D.nx } σ2 H2) (hd : ∀ σ H, Pv xs.length σ H → D.nx σ H) :
    ∃ W : Nat → Nat → St → Hp → Prop, (∃ m, W 0 m σ H) ∧ ∀ i m σ H, W i m σ H →
      ((Ite K a).stop i H ∧ D.nx σ H) ∨ ((Ite K a).go i H ∧ ∃ N : St → Hp → Prop, (∀ σ' H', N σ' H' → ∃ m', m' < m ∧ W (i + 1) m' σ' H') ∧ ∀ x H', (Ite K a).yld i H x H' → g x σ H' fun σ2 H2 => tb { D with nx := N, ct := N, bk := D.nx } σ2 H2) := by
  refine ⟨fun i m σ H => m = xs.length - i ∧ i ≤ xs.length ∧ Pv i σ H, ⟨xs.length, by simp, Nat.zero_le _, h0⟩, ?_⟩
  rintro i m σ H ⟨rfl, hi, p⟩
  have q := hl i σ H p
  by_cases hlt : i < xs.length
  · refine .inr ⟨⟨xs, xs[i], q, by simp [hlt]⟩, Pv (i + 1), fun σ' H' p' => ⟨xs.length - (i + 1), by omega, rfl, hlt, p'⟩, fun x H' y => ?_⟩
    obtain ⟨y0, t, rfl, hn, hy, rfl⟩ := y
    exact hs i y0 t σ H (hy xs q) p hn
  · have e : i = xs.length := by omega
    subst e
    exact .inl ⟨⟨xs, q, Nat.le_refl _⟩, hd σ H p⟩
/-- for pair in zip(list, list), lists of one length -/
theorem for_zip {K : PySem.W.Frag} {a b : Addr} {xs ys : List V} {g : TG} {tb : TS} {D : Ends} {σ : St} {H : Hp} (Pv : Nat → St → Hp → Prop) (he : xs.length = ys.length) (h0 : Pv 0 σ H) (hl : ∀ i σ H, Pv i σ H → SqL K H a xs ∧ SqL K H b ys)
    (hs : ∀ i x y t σ H, xs[i]? = some x → ys[i]? = some y → Pv i σ H → H t = none → g (.ref t) σ (upd H t (.tup [x, y])) fun σ2 H2 => tb { D with nx := Pv (i + 1), ct := Pv (i + 1), bk := D.nx } σ2 H2) (hd : ∀ σ H, Pv xs.length σ H → D.nx σ H) :
    ∃ W : Nat → Nat → St → Hp → Prop, (∃ m, W 0 m σ H) ∧ ∀ i m σ H, W i m σ H →
      ((Itz K a b).stop i H ∧ D.nx σ H) ∨ ((Itz K a b).go i H ∧ ∃ N : St → Hp → Prop, (∀ σ' H', N σ' H' → ∃ m', m' < m ∧ W (i + 1) m' σ' H') ∧ ∀ x H', (Itz K a b).yld i H x H' → g x σ H' fun σ2 H2 => tb { D with nx := N, ct := N, bk := D.nx } σ2 H2) := by
  refine ⟨fun i m σ H => m = xs.length - i ∧ i ≤ xs.length ∧ Pv i σ H, ⟨xs.length, by simp, Nat.zero_le _, h0⟩, ?_⟩
  rintro i m σ H ⟨rfl, hi, p⟩
  obtain ⟨q, q2⟩ := hl i σ H p
  by_cases hlt : i < xs.length
  · have hlt2 : i < ys.length := by omega
    refine .inr ⟨⟨xs, ys, xs[i], ys[i], q, q2, by simp [hlt], by simp [hlt2]⟩, Pv (i + 1), fun σ' H' p' => ⟨xs.length - (i + 1), by omega, rfl, hlt, p'⟩, fun x H' y => ?_⟩
    obtain ⟨x0, y0, t, rfl, hn, hx, hy, rfl⟩ := y
    exact hs i x0 y0 t σ H (hx xs q) (hy ys q2) p hn
  · have e : i = xs.length := by omega
    subst e
    exact .inl ⟨⟨xs, ys, q, q2, by omega⟩, hd σ H p⟩
end L2
namespace L2
open PySem
/-- one name, no test -/
theorem compT_name {j : Nat} {te : TE} {D : Addr} {ys : List V} {x : V} {σ : St} {H : Hp} {N : List V → St → Hp → Prop}
    (h : te (σ.set j (some x)) H fun y H4 => H4 D = some (.lst ys) ∧ ys.length < sizeLine ∧ N (ys ++ [y]) (σ.set j (some x)) (upd H4 D (.lst (ys ++ [y])))) : CompT (gName j) tAll te D ys x σ H N := by
  unfold CompT gName tAll
  exact (if_pos (rfl : true = true)).mpr h
end L2

set_option maxHeartbeats 4000000
namespace L2
open PySem PySem.Spec PyProof.Rows
open Sem (wp)
/-! ### enumerate over a zip: the inner pair may still be alive at the next turn -/
abbrev ZipG (h : Heap) (z TI TO : Addr) (f0 f1 : Value) : Prop :=
  h.get? z = some { cls := .type "zip", dict := none, data := .fields #[f0, f1, .bool false, .ref TI, .ref TO], slots := #[] }
def Loose (f0 f1 : Value) : Prop := (f0 = .none ∨ ∃ a : Nat, f0 = rawInt (a : Int)) ∧ ∃ b, f1 = .bool b
section
variable {prog : Program} {w : World} {A : Around} {E : Value → Shared → Prop} {s : Shared}
/-- one turn of enumerate over such a zip -/
def zipS (z TI TO i1 i2 a b : Addr) (i : Nat) (h : Heap) : Prop := (∃ f0 f1, ZipG h z TI TO f0 f1 ∧ Loose f0 f1) ∧ IsPair h TI (.ref i1) (.ref i2) ∧ (∃ x y, IsPair h TO x y) ∧ h.IsListIter i1 a i ∧ h.IsListIter i2 b i
end
end L2

set_option maxHeartbeats 4000000
namespace L2
open PySem PySem.Spec PyProof.Rows
section
variable {X : Cx} {pins : List (Addr × Obj)} {σ : St} {H : Hp} {s : Shared}
/-- (i, (x, y)) of the lists at a and b -/
def Itez (K : PySem.W.Frag) (a b : Addr) : It :=
  ⟨fun i H => ∃ xs ys x y, SqL K H a xs ∧ SqL K H b ys ∧ xs[i]? = some x ∧ ys[i]? = some y,
   fun i H p H' => ∃ x y t0 t1, p = .ref t1 ∧ H t0 = none ∧ H t1 = none ∧ t0 ≠ t1 ∧ (∀ xs, SqL K H a xs → xs[i]? = some x) ∧ (∀ ys, SqL K H b ys → ys[i]? = some y) ∧ H' = upd (upd H t0 (.tup [x, y])) t1 (.tup [.int i, .ref t0]),
   fun i H => ∃ xs ys, SqL K H a xs ∧ SqL K H b ys ∧ xs.length ≤ i⟩
def iEz (K : PySem.W.Frag) (tl tm : TE) : TI := fun σ H R => tl σ H fun x H1 => tm σ H1 fun y H2 => ∃ a b, x = .ref a ∧ y = .ref b ∧ (∃ xs, SqL K H2 a xs) ∧ (∃ ys, SqL K H2 b ys) ∧ R (Itez K a b) H2
end
end L2

set_option maxHeartbeats 4000000
namespace L2
open PySem PySem.Spec PyProof.Rows
/-! ### a def with defaults -/
structure FunD (K : PySem.W.Frag) (x qual : Str) (st : Stmt) (f : Addr) (fd : FuncData) (dV : Value) : Prop where
  ex : ∃ (oc : Value) (od : Option Addr) (kV doc pm : Value) (an : Option Addr) (cdv ct : Value) (osl : Array (Option Value)),
    fd = PySem.W.fnOf x qual (defArgs st) (defBody st) (defScope st) dV kV doc pm an cdv ct ∧ K.lookup f = some ⟨oc, od, .func fd, osl⟩ ∧ PySem.W.codeIn K cdv qual = true
  kp : PySem.W.keepIn K (.ref f) = true
section
variable {P : Program} {w : World} {K : PySem.W.Frag} {mg : Str → Option Value} {base : Heap}
end
/-! ### a dict of the module: texts as keys -/
inductive EsOk (w : World) : List DictEntry → List (Str × V) → Prop
  | nil : EsOk w [] []
  | cons {x : Str} {t : Tok} {u : Value} {v : V} {es : List DictEntry} {kvs : List (Str × V)} : RelV v u → EsOk w es kvs → EsOk w (⟨PyData.keyHash w.params x, .str x t, u⟩ :: es) ((x, v) :: kvs)
structure KD (K : PySem.W.Frag) (w : World) (a : Addr) (kvs : List (Str × V)) : Prop where
  sys : (a == sysModules) = false
  ok : ∃ es n, K.lookup a = some ⟨.type "dict", none, .dict es n, #[]⟩ ∧ EsOk w es.toList kvs ∧ (kvs.map (·.1)).Nodup
theorem EsOk.vs (P : Program) {w : World} : ∀ {es : List DictEntry} {kvs : List (Str × V)}, EsOk w es kvs → ∃ vs : List (Key × Value), Pairs (mixKind P w) es vs ∧ vs.map (·.1) = kvs.map (fun p => (Sum.inr p.1 : Key)) ∧
    (∀ e ∈ es, ∃ k, (mixKind P w).is k e.key = true ∧ e.hash = (mixKind P w).hash k) ∧ ∀ x, RelO (kvs.lookup x) (valueAt vs (Sum.inr x))
  | _, _, .nil => ⟨[], .nil, rfl, fun e h => by simp at h, fun x => True.intro⟩
  | _, _, .cons (x := x) (t := t) (u := u) (v := v) r q => by
    obtain ⟨vs, h1, h2, h3, h4⟩ := EsOk.vs P q
    refine ⟨(Sum.inr x, u) :: vs, .cons (mixKind_str P w x t) rfl h1, by rw [List.map_cons, List.map_cons, h2], fun e he => ?_, fun y => ?_⟩
    · rcases List.mem_cons.mp he with rfl | he
      · exact ⟨Sum.inr x, mixKind_str P w x t, rfl⟩
      · exact h3 e he
    · by_cases hy : y = x
      · subst hy
        unfold valueAt
        simp only [List.lookup_cons, List.find?_cons]
        simp
        exact r
      · unfold valueAt
        have h5 := h4 y
        unfold valueAt at h5
        have e1 : (y == x) = false := by simpa using hy
        have e2 : decide ((Sum.inr x : Key) = Sum.inr y) = false := decide_eq_false fun e => hy (Sum.inr.inj e).symm
        simp only [List.lookup_cons, e1, List.find?_cons, e2]
        exact h5
theorem nodup_inr : ∀ {l : List Str}, l.Nodup → (l.map (fun p => (Sum.inr p : Key))).Nodup
  | [], _ => .nil
  | x :: l, h => by
    rw [List.map_cons, List.nodup_cons]
    obtain ⟨h1, h2⟩ := List.nodup_cons.mp h
    refine ⟨fun z => ?_, nodup_inr h2⟩
    obtain ⟨y, hy, e⟩ := List.mem_map.mp z
    cases e
    exact h1 hy
theorem KD.dict (P : Program) {K : PySem.W.Frag} {w : World} {a : Addr} {kvs : List (Str × V)} {h : Heap} (d : KD K w a kvs) (hi : K.In h) : ∃ vs, h.DictOf (mixKind P w) a vs ∧ ∀ x, RelO (kvs.lookup x) (valueAt vs (Sum.inr x)) := by
  obtain ⟨es, n, lk, ok, nd⟩ := d.ok
  obtain ⟨vs, h1, h2, h3, h4⟩ := ok.vs P
  refine ⟨vs, ⟨_, es, n, hi _ _ lk, ⟨rfl, rfl, rfl⟩, rfl, fun e he => h3 e (by simpa using he), h1, ?_⟩, h4⟩
  rw [h2]
  have := nodup_inr nd
  rw [List.map_map] at this
  exact this
theorem RelO.getD' {o : Option V} {u : Option Value} {d : V} {d' : Value} (r : RelO o u) (rd : RelV d d') : RelV (o.getD d) (u.getD d') := by
  cases o with
  | none => cases u with
    | none => exact rd
    | some _ => exact False.elim r
  | some v => cases u with
    | none => exact False.elim r
    | some _ => exact r
section
variable {X : Cx}
/-- d.get(k, x) of a dict of the module -/
def tKGet2 (K : PySem.W.Frag) (w : World) (td ty tx : TE) : TE := fun σ H Q => td σ H fun x H1 => ∃ a kvs, x = .ref a ∧ KD K w a kvs ∧ ty σ H1 fun y H2 => tx σ H2 fun z H3 => ∃ k, y = .str k ∧ Q ((kvs.lookup k).getD z) H3
theorem pe_kget2 {o e f : Expr} {apos cpos : Pos} {td ty tx : TE} (ho : PE X o td) (he : PE X e ty) (hf : PE X f tx)
    (base : attributeBase o "get" X.env (eval o X.env) = eval o X.env := by rfl)
    (few : ((backTo cpos (starEach [e, f] X.env)).all (fun x => !x.1) && (backToKw cpos (keywordEach [] X.env)).all (fun x => x.1.isSome)
      && decide (([e, f] : List Expr).length + ([] : List Keyword).length + (if ([] : List Keyword).isEmpty then 0 else 1) < 30)) = true := by rfl)
    (line : (apos.endLine == cpos.line) = true := by rfl) (trees : backTo cpos (starEach [e, f] X.env) = [(false, eval e X.env), (false, eval f X.env)] := by rfl) :
    PE X (.Call (.Attribute o "get" apos) [e, f] [] cpos) (tKGet2 X.K X.w td ty tx) := by
  intro pins s σ H Q I h
  refine wpAny_Call_method base few line PySem.F.plainAttrs_dict PySem.F.slot_dict_get PySem.F.type_dict_get (thn (ho pins s σ H _ I h) fun u s1 ⟨x, H1, I1, rx, a, kvs, ex, d, q1⟩ => ?_)
  subst ex
  obtain rfl : u = Value.ref a := rx
  obtain ⟨vs, dd, rel⟩ := d.dict X.prog I1.kIn
  refine ⟨dd.typeIs, fun b q => ?_, ?_⟩
  · cases q
    obtain ⟨ob, _, _, h1, h2, _⟩ := dd
    exact ⟨ob, h1, h2.2.1⟩
  rw [trees]
  refine Calls.callWith_builtin rfl (Calls.evalArgs_plain (Calls.spliced_cons (thn (he pins s1 σ H1 _ I1 q1) fun iv s2 ⟨y, H2, I2, ry, q2⟩ =>
    Calls.spliced_cons (thn (hf pins s2 σ H2 _ I2 q2) fun fv s3 ⟨z, H3, I3, rz, k, ek, q3⟩ => Calls.spliced_nil ?_))))
  subst ek
  obtain ⟨t, rfl⟩ := ry
  obtain ⟨vs3, dd3, rel3⟩ := d.dict X.prog I3.kIn
  exact call_meetsIn PySem.F.slot_dict_get dd3.typeIs PySem.F.entry_dict_get (PySem.F.args_dict_get_3 _ _ _) (meets_dict_get_default (mixKind X.prog X.w) a (mixKind_str _ _ k t) d.sys fv) ⟨_, dd3.mapOf, _, H3, I3.tok _, (rel3 k).getD' rz, q3⟩
/-! ### sum of a list of ints -/
def sumI : List Int → Int
  | [] => 0
  | x :: l => x + sumI l
end
end L2

set_option maxHeartbeats 4000000
namespace L2
open PySem PySem.Spec PyProof.Rows
/-! ### a halt amidst: what is known behind a part, said once -/
def tMidE (t : TE) : TE := fun σ H Q => ∃ R : V → Hp → Prop, t σ H R ∧ ∀ v H', R v H' → Q v H'
def tMidT (t : TT) : TT := fun σ H Q => ∃ R : Bool → Hp → Prop, t σ H R ∧ ∀ v H', R v H' → Q v H'
def tMidS (t : TS) : TS := fun D σ H => ∃ R : St → Hp → Prop, t { D with nx := R } σ H ∧ ∀ σ' H', R σ' H' → D.nx σ' H'
section
variable {X : Cx}
theorem pe_mid {e : Expr} {t : TE} (h : PE X e t) : PE X e (tMidE t) := by
  intro pins s σ H Q I ⟨R, hR, hQ⟩
  exact thn (h pins s σ H R I hR) fun u s1 ⟨v, H1, I1, r, q⟩ => ⟨v, H1, I1, r, hQ v H1 q⟩
theorem pt_mid {e : Expr} {t : TT} (h : PT X e t) : PT X e (tMidT t) := by
  intro pins s σ H Q I ⟨R, hR, hQ⟩
  exact thn (h pins s σ H R I hR) fun u s1 ⟨H1, I1, q⟩ => ⟨H1, I1, hQ u H1 q⟩
theorem ps_mid {st : Stmt} {t : TS} (h : PS X st t) : PS X st (tMidS t) := by
  intro pins s σ H D I ⟨R, hR, hQ⟩
  refine thn (h pins s σ H _ I hR) fun f s1 q => ?_
  cases f with
  | next => exact let ⟨σ', H', I', q'⟩ := q; ⟨σ', H', I', hQ _ _ q'⟩
  | brk => exact q
  | cont => exact q
  | ret u => exact q
end
theorem midV {t : TE} {σ : St} {H : Hp} {Q : VK} (v : V) (h : t σ H fun x H1 => x = v ∧ H1 = H) (q : Q v H) : ∃ R : V → Hp → Prop, t σ H R ∧ ∀ v H', R v H' → Q v H' := ⟨_, h, by rintro _ _ ⟨rfl, rfl⟩; exact q⟩
theorem midB {t : TT} {σ : St} {H : Hp} {Q : Bool → Hp → Prop} (b : Bool) (h : t σ H fun x H1 => x = b ∧ H1 = H) (q : Q b H) : ∃ R : Bool → Hp → Prop, t σ H R ∧ ∀ v H', R v H' → Q v H' := ⟨_, h, by rintro _ _ ⟨rfl, rfl⟩; exact q⟩
/-- the end of a pure part -/
theorem endV {x v : V} {H : Hp} (e : x = v) : x = v ∧ H = H := ⟨e, rfl⟩
theorem endB {x v : Bool} {H : Hp} (e : x = v) : x = v ∧ H = H := ⟨e, rfl⟩
end L2

set_option maxHeartbeats 4000000
namespace L2
open PySem PySem.Spec PyProof.Rows
/-! ### a name that a comprehension shadows: its slot is forgotten by name while it is empty -/
abbrev Cx.names (X : Cx) (N : List Str) : Cx := { X with N := N }
section
variable {X : Cx} {pins : List (Addr × Obj)} {σ : St} {H : Hp} {s : Shared}
end
def tHide (k : Nat) (t : TE) : TE := fun σ H Q => σ[k]? = some none ∧ t σ H Q
end L2

set_option maxHeartbeats 4000000
namespace L2
open PySem PySem.Spec PyProof.Rows
section
variable {X : Cx} {tg iter elt : Expr} {ifs : List Expr} {scope : Scope} {pos : Pos} {cn : List Str} {wi : TI} {g : Bk → TG} {tc : Bk → TT} {te : Bk → TE}
end
/-- the same where the block's name shadows one of the def's -/
def tHideS (k : Nat) (t : TS) : TS := fun D σ H => σ[k]? = some none ∧ t { D with nx := fun σ' H' => σ'[k]? = some none ∧ D.nx σ' H' } σ H
end L2

set_option maxHeartbeats 4000000
namespace L2
open PySem PySem.Spec PyProof.Rows PySem.SeqAt
section
variable {X : Cx}
/-! ### pairs of flat values beside each other -/
def rEq2 (K : PySem.W.Frag) (neg : Bool) : R2 := fun x y H Q => ∃ a c x0 x1 y0 y1, x = .ref a ∧ y = .ref c ∧ SqT K H a [x0, x1] ∧ SqT K H c [y0, y1] ∧ (flatV x0 = true ∧ flatV x1 = true ∧ flatV y0 = true ∧ flatV y1 = true) ∧ Q (.bl (if neg then !(eqV x0 y0 && eqV x1 y1) else (eqV x0 y0 && eqV x1 y1))) H
/-! ### a list beside an empty one -/
def rEqE (K : PySem.W.Frag) (neg : Bool) : R2 := fun x y H Q => ∃ a c xs, x = .ref a ∧ y = .ref c ∧ SqL K H a xs ∧ SqL K H c [] ∧ Q (.bl (if neg then !xs.isEmpty else xs.isEmpty)) H
theorem eqE_at {pins : List (Addr × Obj)} {σ : St} {H : Hp} {s : Shared} {a c : Addr} {xs : List V} (hu : X.A.units + 64 < cLine) (I : Inv X pins σ H s) (ha : SqL X.K H a xs) (hc : SqL X.K H c []) : RcAt X.A s (.ref a) (.ref c) xs.isEmpty ∧ RcNeAt X.A s (.ref a) (.ref c) (!xs.isEmpty) := by
  obtain ⟨its, r, p, _⟩ := I.list ha
  obtain ⟨its', r', p', _⟩ := I.list hc
  have e1 := r.length
  have e2 := r'.length
  simp at e2
  cases xs with
  | nil =>
    simp at e1
    have z1 : its = [] := by simpa using e1.symm
    have z2 : its' = [] := by simpa using e2.symm
    subst z1 z2
    constructor
    · have := RcAt.lists (A := X.A) (e := fun _ => true) p.isList p'.isList rfl (by omega) (fun j h1 _ => absurd h1 (by simp))
      simpa using this
    · have := RcNeAt.lists (A := X.A) (e := fun _ => true) p.isList p'.isList rfl (by omega) (fun j h1 _ => absurd h1 (by simp))
      simpa using this
  | cons x t =>
    have hne : (its.toArray.size != its'.toArray.size) = true := by
      simp at e1
      have z2 : its' = [] := by simpa using e2.symm
      subst z2
      have : its.length ≠ 0 := by omega
      simpa using this
    exact ⟨RcAt.lists_lengths p.isList p'.isList hne (by omega), RcNeAt.lists_lengths p.isList p'.isList hne (by omega)⟩
theorem op_eqE (hu : X.A.units + 64 < cLine) : OpR X (compareOp .Eq) (rEqE X.K false) := by
  intro pins s σ H x y v u Q I r1 r2 h
  obtain ⟨a, c, xs, rfl, rfl, ha, hc, q⟩ := h
  cases r1
  cases r2
  exact (eqE_at hu I ha hc).1 X.prog X.w X.xe _ ⟨.bl _, H, I, rfl, q⟩
theorem op_neE (hu : X.A.units + 64 < cLine) : OpR X (compareOp .NotEq) (rEqE X.K true) := by
  intro pins s σ H x y v u Q I r1 r2 h
  obtain ⟨a, c, xs, rfl, rfl, ha, hc, q⟩ := h
  cases r1
  cases r2
  exact (eqE_at hu I ha hc).2 X.prog X.w X.xe _ ⟨.bl _, H, I, rfl, q⟩
end
end L2

set_option maxHeartbeats 4000000
namespace L2
open PySem PySem.Spec PyProof.Rows
/-! ### xs[::-1] -/
def tBack (K : PySem.W.Frag) (te : TE) (ts : TO) : TE := fun σ H Q => te σ H fun x H1 => ts σ H1 fun o H2 => o = some (-1) ∧ ∃ a xs, x = .ref a ∧ SqL K H2 a xs ∧ ∀ p, H2 p = none → Q (.ref p) (upd H2 p (.lst xs.reverse))
/-! ### displays of displays -/
/-- a for over another expression -/
def setIter (s : Stmt) (e : Expr) : Stmt := match s with
  | .For t _ b o p => .For t e b o p
  | s => s
structure PEw (X : Cx) (e : Expr) (t : TE) : Prop where
  out : PE X e t
structure PAw (X : Cx) (es : List Expr) (t : TA) : Prop where
  out : PA X es t
end L2

set_option maxHeartbeats 4000000
namespace L2
open PySem PySem.Spec PyProof.Rows
/-! ### exceptions of the text's own: raised, passed on, caught -/
/-- an exception of the class cls flies over the frames l; G is the heap behind which it was made -/
def Fly (l : List Env) (G : Heap) (e : Addr) (cls : Value) (h : Heap) : Prop :=
  ∃ B a0, (∀ b o, G.get? b = some o → b ∉ frs l → B.get? b = some o) ∧ Heap.FlyingW B l e cls a0 h ∧ G.UpToSlots h ∧ G.get? e = none
/-- how it lies behind a call -/
def CX1 (P : Program) (w : World) : CXT := fun outer H s E ev s' =>
  ∃ a cls H' G, ev = .ref a ∧ s'.os = s.os ∧ AllBare s'.gens ∧ Un (frs outer) [] H H' s.heap G ∧ HOk P w H' G ∧ Fly outer G a cls s'.heap ∧ E cls none H'
abbrev XSt := St → Value → Hp → Prop
/-- within a body: one that came from a callee -/
def WX (X : Cx) (XS : XSt) : Value → Shared → Prop := fun ev s' =>
  ∃ pins σ H' G a cls, ev = .ref a ∧ Inv X pins σ H' { s' with heap := G } ∧ Fly X.stack G a cls s'.heap ∧ XS σ cls H'
/-- within a body: that, or one that was raised here -/
def WD (X : Cx) (XS : XSt) : Value → Shared → Prop := fun ev s' => WX X XS ev s' ∨
  ∃ pins σ H' G a cls args, ev = .ref a ∧ Inv X pins σ H' { s' with heap := G } ∧ Heap.MadeExcOf G s'.heap a cls args ∧ XS σ cls H'
section
variable {X : Cx} {pins : List (Addr × Obj)} {σ : St} {H H' : Hp} {s s' : Shared}
end
section
variable {P : Program} {w : World} {K : PySem.W.Frag} {mg : Str → Option Value} {base : Heap}
end
/-! ### calls of defs that may raise -/
def tCallX (sp : Sp) (dvs : List V) (XS : XSt) (t : TA) : TE := fun σ H Q => t σ H fun vs H1 => sp (vs ++ dvs) H1 Q fun cls _ H' => XS σ cls H'
def tMethX (C : Addr) (m : Str) (sp : Sp) (dvs : List V) (XS : XSt) (ta : TE) (t : TA) : TE := fun σ H Q => ta σ H fun x H1 => ∃ a dx fs, x = .ref a ∧ H1 a = some (.ins C dx fs) ∧ fs.lookup m = none ∧
  t σ H1 fun vs H2 => sp (x :: (vs ++ dvs)) H2 Q fun cls _ H' => XS σ cls H'
section
variable {X : Cx} {W : Value → Shared → Prop} {XS : XSt} {k : Nat} {f C : Addr} {fd : FuncData} {ps : List Str} {sp : Sp} {dvs : List V} {ds : List Value} {x m : Str} {p pos apos : Pos} {e o : Expr} {es : List Expr} {ta : TE} {t : TA}
end
/-! ### raise C(e) of an own class without __init__ -/
abbrev veMro : List Value := [.type "ValueError", .type "Exception", .type "BaseException", .type "object"]
/-- an own class of refusals, of ValueError -/
def ExC (K : PySem.W.Frag) (C : Addr) : Prop := PySem.W.excIn K C veMro "ValueError.__new__" = true
def tRaise (C : Addr) (XS : XSt) (te : TA) : TS := fun _ σ H => te σ H fun vs H1 => vs.length ≤ sizeLine ∧ XS σ (.ref C) H1
/-! ### try: .. except C as n: .. -/
/-- pins that every state bears -/
abbrev Cx.pnd (X : Cx) (pn : List (Addr × Obj)) : Cx := { X with pn := pn }
/-- within an except suite, the exception at a -/
abbrev Cx.hand (X : Cx) (a : Addr) : Cx := { X with A := X.A.mark (some (.ref a)), calm := false, xe := fun _ _ => False }
section
variable {X : Cx} {pins pins' : List (Addr × Obj)} {σ : St} {H H' : Hp} {s : Shared}
end
/-- an exception as a thing in the heap -/
def excO (a : Addr) (cls : Value) : HO := .ext fun h => ∃ o, h.get? a = some o ∧ o.cls = cls ∧ ∃ vs, o.data = .fields vs
/-- what is wanted behind the suite, the name gone -/
def Ends.gone (D : Ends) (i : Nat) : Ends := { nx := fun σ H => D.nx (σ.set i none) H, rt := D.rt, bk := fun σ H => D.bk (σ.set i none) H, ct := fun σ H => D.ct (σ.set i none) H }
def tTryAs (K : PySem.W.Frag) (CT : Addr) (i : Nat) (tb : XSt → TS) (ts : TS) : TS := fun D σ H =>
  tb (fun σ' cls H' => PySem.W.exmOne K cls (.ref CT) = some true ∧ ∀ a, H' a = none → ts (D.gone i) (σ'.set i (some (.ref a))) (upd H' a (excO a cls))) D σ H
end L2

set_option maxHeartbeats 4000000
namespace L2
open PySem PySem.Spec PyProof.Rows
/-! ### isinstance(e, ..) of a caught exception -/
structure ExA (K : PySem.W.Frag) (C : Addr) : Prop where
  exc : ExC K C
  ga : PySem.W.findIn K (.ref C) "__getattribute__" = some (some (.builtin "BaseException.__getattribute__"))
  noga : PySem.W.findIn K (.ref C) "__getattr__" = some none
  cl : PySem.W.findIn K (.ref C) "__class__" = some (some (.builtin "object.__class__"))
section
variable {prog : Program} {w : World} {A : Around} {E : Value → Shared → Prop} {h : Heap} {g : Array GenState} {d : Drawn} {t : Nat} {os : OsState} {a : Addr} {o : Obj} {vs : Array Value} {K : PySem.W.Frag}
  {nm q : Str} {C N : Addr} {bs bm : List Value} {hdct : Bool} {sn : List Str} {sub : List Value} {ab : Bool} {col : Option Bool} {dd : Option Addr} {k0 k1 k2 k3 k5 : Option Value} {newId : String}
end
section
variable {X : Cx}
/-- isinstance: the old reading, or a caught exception against a built-in class, an own class, a tuple of own classes -/
def rIsX (K : PySem.W.Frag) : List V → Hp → VK → Prop := fun xs H Q =>
  (∃ x T t b, xs = [x, .ty T] ∧ TyOf K H x t ∧ PySem.W.kitOne K t (.type T) = some b ∧ Q (.bl b) H) ∨
  (∃ a C T b, xs = [.ref a, .ty T] ∧ H a = some (excO a (.ref C)) ∧ ExA K C ∧ PySem.W.kitOne K (.ref C) (.type T) = some b ∧ Q (.bl b) H) ∨
  (∃ a C C' b, xs = [.ref a, .ref C'] ∧ H a = some (excO a (.ref C)) ∧ ExA K C ∧ PySem.W.kitOne K (.ref C) (.ref C') = some b ∧ Q (.bl b) H) ∨
  (∃ (a C p : Addr) (cs : List Addr) (b : Bool), xs = [.ref a, .ref p] ∧ H a = some (excO a (.ref C)) ∧ ExA K C ∧ H p = some (.tup (cs.map V.ref)) ∧ PySem.W.kitAny K (.ref C) (cs.map Value.ref) = some b ∧ Q (.bl b) H)
end
end L2

set_option maxHeartbeats 4000000
namespace L2
open PySem PySem.Spec PyProof.Rows
/-! ### an exception out of a comprehension without free names -/
/-- within a body: one that is held at the frame -/
def HeldX (X : Cx) (XS : XSt) : Value → Shared → Prop := fun ev s' =>
  ∃ pins σ H' G a cls B a0 L, ev = .ref a ∧ X.env.frame = some L ∧ Inv X pins σ H' { s' with heap := G } ∧ (∀ b o, G.get? b = some o → b ∉ frs X.stack → B.get? b = some o) ∧ Heap.HeldW B X.stack a cls a0 L s'.heap ∧ G.UpToSlots s'.heap ∧ G.get? a = none ∧ XS σ cls H'
def WH (X : Cx) (XS : XSt) : Value → Shared → Prop := fun ev s' => WD X XS ev s' ∨ HeldX X XS ev s'
section
variable {P : Program} {w : World} {K : PySem.W.Frag} {mg : Str → Option Value} {base : Heap}
end
/-- an exception out of the block: its names go, then it passes on -/
def bxErr (X : Cx) (scope : Scope) (C : Addr) (e : Value) (s' : Shared) : Prop :=
  ∃ m, s'.heap.Ns C m ∧ ∀ h', Heap.SameBut C s'.heap h' → ∀ cenv : Env, cenv.frame = X.env.frame → wpAny (model X.prog X.w) X.A (passOn "comprehension.variables-let-go" e cenv : Sem Value) (fun _ _ => False) X.xe { s' with heap := h' }
def bxXe (X : Cx) (scope : Scope) (C : Addr) : Value → Shared → Prop :=
  notedBy (model X.prog X.w) X.A (compEnvC scope (closOf X.env scope.names []) C X.env) (bxErr X scope C)
section
variable {X : Cx} {tg iter elt : Expr} {ifs : List Expr} {scope : Scope} {pos : Pos} {cn : List Str} {wi : TI} {g : Bk → TG} {tc : Bk → TT} {te : Bk → TE} {TH : Bk → Prop}
end
/-- what is known at the block's beginning -/
def THX (X : Cx) (scope : Scope) : Bk → Prop := fun b => ∃ pins σ, Inv X pins σ b.H₂ b.s₂ ∧ (∀ x ∈ b.fp, FpOk X pins b.H₂ x) ∧ b.s₂.heap.objs.size ≤ b.C ∧ b.xe = bxXe X scope b.C
/-- a text times a number -/
def repS (x : Str) (n : Int) : Str := if n < 1 then Str.empty else if (n == 1 || x.length == 0) = true then x else { cps := List.foldl (fun x1 x2 => x1 ++ x2) #[] (List.replicate n.toNat x.cps) }
end L2

set_option maxHeartbeats 4000000
namespace L2
open PySem PySem.Spec PyProof.Rows
/-! ### xs[a:c] = ys -/
def gSlice (to : TE) (tl th : St → Hp → (Option Int → Hp → Prop) → Prop) : TG := fun v σ H Q => to σ H fun x H1 => tl σ H1 fun l H2 => th σ H2 fun u H3 =>
  ∃ (p b : Addr) (xs ys : List V) (a c : Int), x = .ref p ∧ v = .ref b ∧ l = some a ∧ u = some c ∧ H3 p = some (.lst xs) ∧ H3 b = some (.lst ys) ∧ p ≠ b ∧ 0 ≤ a ∧ a ≤ c ∧ c ≤ xs.length ∧ xs.length + ys.length ≤ sizeLine ∧ Q σ (upd H3 p (.lst (xs.take a.toNat ++ ys ++ xs.drop c.toNat)))
theorem pg_slice {X : Cx} {o : Expr} {lo hi : Option Expr} {p2 pos : Pos} {to : TE} {tl th : St → Hp → (Option Int → Hp → Prop) → Prop} (ho : PE X o to) (hl : PO X lo tl) (hu : PO X hi th)
    (ha : ∀ v, assign (.Subscript o (.Slice lo hi none p2) pos) X.env v = (do
      let ov ← holding [v] (eval o X.env)
      let iv ← holding [v, ov] (eval (.Slice lo hi none p2) X.env)
      standAt pos
      holding [v, ov, iv] (setItem ov iv v)
      release [iv, v, ov] []) := by intro _; rfl) : PG X (.Subscript o (.Slice lo hi none p2) pos) (gSlice to tl th) := by
  intro pins s σ H v u Q I r h
  rw [ha]
  refine wpAny_bind (wpAny_holding (thn (ho pins s σ H _ I h) fun ov s1 ⟨x, H1, I1, r1, q1⟩ => ?_))
  refine wpAny_bind (wpAny_holding ?_)
  refine wpAny_Slice (thn (hl pins s1 σ H1 _ I1 q1) fun vl s2 ⟨l, H2, I2, pl, q2⟩ => thn (hu pins s2 σ H2 _ I2 q2) fun vu s3 ⟨uu, H3, I3, pu, q3⟩ => ?_)
  rw [evalPart_none]
  refine wpAny_pure ?_
  have I4 : Inv X pins σ H3 { s3 with heap := s3.heap.push { cls := .type "slice", data := .fields #[vl, vu, .none] } } := I3.kept (t' := s3.toks) fun b ob q => Heap.get?_push_of_some _ q
  obtain ⟨p, b, xs, ys, a, c, rfl, rfl, rfl, rfl, hp, hb, hne, h0, hac, hc, hz, q4⟩ := q3
  cases r1
  cases r
  refine wpAny_bind (wpAny_standAt (wpAny_bind (wpAny_holding ?_)))
  refine set_slice I4 hp hb hne (Heap.IsSliceOf.new ..) (by cases pl; exact ⟨_, rfl⟩) (by cases pu; exact ⟨_, rfl⟩) h0 hac hc hz fun s5 I5 => ?_
  exact wpAny_release ⟨σ, _, I5, q4⟩
end L2
namespace L2
open PySem PySem.Spec PyProof.Rows
/-! ### all of a list of bools -/
section
variable {X : Cx}
theorem all_range : ∀ bs : List Bool, (List.range bs.length).all (fun i => bs.getD i false) = bs.all id
  | [] => rfl
  | b :: bs => by
    rw [List.length_cons, List.range_succ_eq_map, List.all_cons, List.all_map, List.all_cons]
    have : ((fun i => (b :: bs).getD i false) ∘ Nat.succ) = fun i => bs.getD i false := by
      funext i
      rfl
    rw [this, all_range bs]
    rfl
theorem call_all : CallR X (.builtin "all") (fun xs H Q => X.calm = true ∧ ∃ (a : Addr) (bs : List Bool), xs = [.ref a] ∧ SqL X.K H a (bs.map V.bl) ∧ Q (.bl (bs.all id)) H) := by
  intro pins s σ H xs us Q I r h
  obtain ⟨hc, a, bs, rfl, hq, q⟩ := h
  obtain ⟨u, rfl, rfl⟩ := r.one
  obtain ⟨its, rv, p, hz⟩ := I.list hq
  have hl := rv.length
  rw [List.length_map] at hl
  have bsAt : ∀ (i : Nat) (v : Value), its.toArray[i]? = some v → v = Value.bool (bs.getD i false) := by
    intro i v hv
    have hv' : its[i]? = some v := by simpa using hv
    have hi : i < its.length := (List.getElem?_eq_some_iff.mp hv').1
    have hb : i < bs.length := by omega
    obtain ⟨u, hu, ru⟩ := rv.get (i := i) (x := .bl (bs[i])) (by rw [List.getElem?_map, List.getElem?_eq_getElem hb]; rfl)
    rw [hv'] at hu; cases hu
    have : v = .bool bs[i] := ru
    rw [this, List.getD_eq_getElem?_getD, List.getElem?_eq_getElem hb]
    rfl
  refine call_all_walk (wpAny_pyIter_list p.isList ?_)
  have ane : a ≠ s.heap.objs.size := by
    obtain ⟨o, ho, _⟩ := p.isList
    exact Nat.ne_of_lt (Heap.lt_size ho)
  have hd : X.A.in1.handled = none := I.ok.hd hc
  refine ⟨s.heap.objs.size, _, _, _, _, _, fun i => bs.getD i false, rfl, Walks.list hd s.heap.objs.size a ane its.toArray, ⟨⟨_, Heap.get?_push_size _ rfl, rfl, rfl⟩, p.isList.push _⟩, ?_, ?_⟩
  · intro i v s' Q' E' hP hQ'
    rw [bsAt i v hP]
    exact wpAny_truthy_bool hQ'
  · intro h' tk kk
    have e : (List.range its.toArray.size).all (fun i => bs.getD i false) = bs.all id := by
      rw [List.size_toArray, ← hl]
      exact all_range bs
    rw [e]
    refine ⟨.bl _, H, I.kept (t' := tk) fun b o e => kk b o (fun z => ?_) (Heap.get?_push_of_some _ e), rfl, q⟩
    have : b = s.heap.objs.size := by simpa using z
    exact absurd (Heap.lt_size e) (by rw [this]; exact Nat.lt_irrefl _)
/-! ### for .. in range(a, b, -1) -/
def Itd (lo : Int) (n : Nat) : It := { go := fun i _ => i < n, yld := fun i H x H' => H' = H ∧ x = V.int (lo - (i : Int)), stop := fun i _ => n ≤ i }
theorem turn_down {P : Program} {w : World} {K : PySem.W.Frag} {tg : Expr} (it : Addr) (lo : Int) (n : Nat) : Turn P w K tg (Itd lo n) [it] it (fun i h => IsRangeIter h it (lo + (i : Nat) * (-1)) ((n : Int) - (i : Nat)) (-1)) where
  mem := by simp
  obj := fun i h st b hb => by
    have e : b = it := by simpa using hb
    subst e
    exact ⟨_, st, fun v z => by
      have z' : Data.fields _ = Data.cell v := z
      cases z'⟩
  keep := fun i h h' st k => k it (by simp) _ st
  item := by
    intro X hP hw hK hc i pins s σ H E I hf st hg
    subst hP hw hK
    obtain ⟨f0, f1, f2, f3, f4, f5⟩ := hf it (by simp)
    have W := Walks.range (prog := X.prog) (w := X.w) (I.ok.hd hc) it lo (-1) n
    refine W.item i s _ _ hg st fun v h' tk hv st' kk => ?_
    obtain ⟨t, rfl⟩ := hv
    have I1 : Inv X pins σ H { s with heap := h', toks := tk } := I.turned (fun b o hb e => kk b o (by simpa using hb) e) f0 f1 f3 f4 f5
    refine ⟨_, rfl, go_of (s := { s with heap := h', toks := tk }) (n := "range_iterator") st' rfl rfl (by decide) ⟨.int (lo - i), H, I1, ⟨t, ?_⟩, ⟨rfl, rfl⟩, st', fun b hb => (hf b hb).1⟩⟩
    have : lo + (i : Int) * (-1) = lo - i := by omega
    rw [this]
  done := by
    intro X hP hw hK hc i pins s σ H E I hf st hg
    subst hP hw hK
    obtain ⟨f0, f1, f2, f3, f4, f5⟩ := hf it (by simp)
    exact wpAny_pyNext_range_end (I.ok.hd hc) st (by have : n ≤ i := hg; omega) fun h' eb => ⟨rfl, I.turned (t' := s.toks) (fun b o hb e => eb b o hb e) f0 f1 f3 f4 f5⟩
  self := fun _ _ _ _ _ st h => wpAny_pyIter_rangeiter st h
theorem rangeSize_down (a b : Int) : Builtin.Range.rangeSize a b (-1) = if b < a then a - b else 0 := by
  unfold Builtin.Range.rangeSize
  rw [if_neg (by decide)]
  by_cases h : a > b
  · rw [if_pos h, if_pos h]
    show (a - b - 1) / 1 + 1 = a - b
    omega
  · rw [if_neg h, if_neg h]
theorem small_down {a b : Int} (h1 : -(2 ^ 62) ≤ a) (h2 : a < 2 ^ 62) (h3 : -(2 ^ 62) ≤ b) (h4 : b < 2 ^ 62) : Builtin.Range.small a b (-1) = true := by
  unfold Builtin.Range.small
  rw [rangeSize_down]
  have f : ∀ x : Int, -(2 ^ 63) ≤ x → x < 2 ^ 63 → Builtin.Range.rangeFitsLong x = true := fun x p q => by
    unfold Builtin.Range.rangeFitsLong
    simp
    omega
  rw [f a (by omega) (by omega), f b (by omega) (by omega), f (-1) (by omega) (by omega), f _ (by split <;> omega) (by split <;> omega), if_neg (show ¬ ((-1 : Int) > 0) by decide), f (b + (-1 + 1)) (by omega) (by omega)]
  simp
theorem down_it {tg : Expr} {pins : List (Addr × Obj)} {σ : St} {H : Hp} {s : Shared} {R : It → Hp → Prop} {E : Value → Shared → Prop} {lo hi : Int} {t u v : Tok} {tk : Nat} (I : Inv X pins σ H s) (h1 : -(2 ^ 62) ≤ lo) (h2 : lo < 2 ^ 62) (h3 : -(2 ^ 62) ≤ hi) (h4 : hi < 2 ^ 62)
    (q : R (Itd lo (lo - hi).toNat) H) : wpAny (model X.prog X.w) X.A (pyIter (.ref s.heap.objs.size)) (PIE X pins σ tg R) E { s with heap := s.heap.push { cls := .type "range", data := .fields #[.int lo t, .int hi u, .int (-1) v] }, toks := tk } := by
  refine wpAny_pyIter_range (IsRange.new ..) (small_down h1 h2 h3 h4) ?_
  have I1 : Inv X pins σ H { s with heap := s.heap.push { cls := .type "range", data := .fields #[.int lo t, .int hi u, .int (-1) v] }, toks := tk } := I.kept fun b o e => Heap.get?_push_of_some _ e
  refine ⟨(s.heap.push { cls := .type "range", data := .fields #[.int lo t, .int hi u, .int (-1) v] }).objs.size, [(s.heap.push { cls := .type "range", data := .fields #[.int lo t, .int hi u, .int (-1) v] }).objs.size], _, _, H, rfl,
    I1.kept (t' := tk) fun b o e => Heap.get?_push_of_some _ e, turn_down _ lo (lo - hi).toNat, ?_, fun b hb => ?_, q⟩
  · have e1 : lo + ((0 : Nat) : Int) * (-1) = lo := by simp
    have e2 : (((lo - hi).toNat : Nat) : Int) - ((0 : Nat) : Int) = Builtin.Range.rangeSize lo hi (-1) := by rw [rangeSize_down]; split <;> omega
    show IsRangeIter _ _ (lo + ((0 : Nat) : Int) * (-1)) ((((lo - hi).toNat : Nat) : Int) - ((0 : Nat) : Int)) (-1)
    rw [e1, e2]
    exact Heap.get?_push_size _ rfl
  · have e : b = (s.heap.push { cls := .type "range", data := .fields #[.int lo t, .int hi u, .int (-1) v] }).objs.size := by simpa using hb
    subst e
    exact I1.fpOk (Nat.le_refl _) (I1.hok.fresh (Nat.le_refl _))
def iRng3 (ta : TA) : TI := fun σ H R => ta σ H fun vs H1 => ∃ i j : Int, vs = [.int i, .int j, .int (-1)] ∧ (-(2 ^ 62) ≤ i ∧ i < 2 ^ 62 ∧ -(2 ^ 62) ≤ j ∧ j < 2 ^ 62) ∧ R (Itd i (i - j).toNat) H1
theorem pi_range3 {tg : Expr} {a b c : Expr} {ta : TA} {p pos : Pos} (hg : Gl X "range") (hm : X.mg "range" = none) (ha : PA X [a, b, c] ta) (hs : starEach [a, b, c] X.env = [(false, eval a X.env), (false, eval b X.env), (false, eval c X.env)] := by rfl) (hs2 : starEach [b, c] X.env = [(false, eval b X.env), (false, eval c X.env)] := by rfl) :
    PI X tg (.Call (.Name "range" p) [a, b, c] [] pos) (iRng3 ta) := by
  intro pins s σ H R I h
  refine Call_ (ld_blt I hg hm boot_range (PyProof.Rows.callWith_type1 (thn (ha pos pins s σ H _ I h) fun us s1 ⟨vs, H1, I1, r1, q1⟩ => ?_) (by rw [hs, hs2]) (by rw [hs2]; rfl)))
  obtain ⟨i, j, e, ⟨q1, q2, q3, q4⟩, q⟩ := q1
  subst e
  cases r1 with
  | cons r rr =>
    cases rr with
    | cons r' rr =>
      cases rr with
      | cons r'' rr =>
        cases rr
        obtain ⟨t, rfl⟩ := r
        obtain ⟨t', rfl⟩ := r'
        obtain ⟨t'', rfl⟩ := r''
        exact call_range_3 (by decide) (down_it I1 q1 q2 q3 q4 q) (.inl rfl)
theorem for_down {lo : Int} {n : Nat} {g : TG} {tb : TS} {D : Ends} {σ : St} {H : Hp} (Pv : Nat → St → Hp → Prop) (h0 : Pv 0 σ H)
    (hs : ∀ i σ H, i < n → Pv i σ H → g (.int (lo - i)) σ H fun σ2 H2 => tb { D with nx := Pv (i + 1), ct := Pv (i + 1), bk := D.nx } σ2 H2) (hd : ∀ σ H, Pv n σ H → D.nx σ H) :
    ∃ W : Nat → Nat → St → Hp → Prop, (∃ m, W 0 m σ H) ∧ ∀ i m σ H, W i m σ H →
      ((Itd lo n).stop i H ∧ D.nx σ H) ∨ ((Itd lo n).go i H ∧ ∃ N : St → Hp → Prop, (∀ σ' H', N σ' H' → ∃ m', m' < m ∧ W (i + 1) m' σ' H') ∧ ∀ x H', (Itd lo n).yld i H x H' → g x σ H' fun σ2 H2 => tb { D with nx := N, ct := N, bk := D.nx } σ2 H2) := by
  refine ⟨fun i m σ H => m = n - i ∧ i ≤ n ∧ Pv i σ H, ⟨n, by simp, Nat.zero_le _, h0⟩, ?_⟩
  rintro i m σ H ⟨rfl, hi, p⟩
  by_cases hlt : i < n
  · refine .inr ⟨hlt, Pv (i + 1), fun σ' H' p' => ⟨n - (i + 1), by omega, rfl, hlt, p'⟩, fun x H' y => ?_⟩
    obtain ⟨e, y⟩ := y
    subst e y
    exact hs i σ _ hlt p
  · have e : i = n := by omega
    subst e
    exact .inl ⟨Nat.le_refl _, hd _ _ p⟩
/-- an expression that is not reached -/
def tNeverE : TE := fun _ _ _ => False
theorem pe_never {e : Expr} : PE X e tNeverE := fun _ _ _ _ _ _ h => h.elim
end
end L2

set_option maxHeartbeats 1000000
namespace Mine
open PySem L2
/-! ### the nine kinds -/
inductive Kd where
  | G | D | R | s | d | r | dot | three | two
  deriving DecidableEq, Repr
def Kd.str : Kd → Str
  | .G => "G" | .D => "D" | .R => "R" | .s => "s" | .d => "d" | .r => "r" | .dot => "." | .three => "3" | .two => "2"
def Kd.cp : Kd → Nat
  | .G => 71 | .D => 68 | .R => 82 | .s => 115 | .d => 100 | .r => 114 | .dot => 46 | .three => 51 | .two => 50
def Kd.great : Kd → Bool
  | .G => true | .D => true | .R => true | _ => false
def Kd.small : Kd → Bool
  | .s => true | .d => true | .r => true | _ => false
def Kd.parting : Kd → Bool
  | .dot => true | .three => true | .two => true | _ => false
def Kd.meas : Kd → Bool
  | .three => true | .two => true | _ => false
def Kd.sounds : Kd → Bool
  | .G => true | .D => true | .s => true | .d => true | _ => false
/-- a kind that may be lacking -/
def okstr : Option Kd → Str
  | some k => k.str
  | none => ""
abbrev Sg := Kd × Int
def inS (x y : Str) : Bool := !(Builtin.Str.occurrences y x 0 y.length 1).isEmpty
theorem kd_cp (k : Kd) : k.str = ⟨#[k.cp]⟩ := by cases k <;> decide +kernel
/-! ### signs and lines in the heap -/
def SgAt (H : Hp) (v : V) (s : Sg) : Prop := ∃ p, v = .ref p ∧ H p = some (.tup [.str s.1.str, .int s.2])
theorem SgAt.same {H H' : Hp} {v : V} {s : Sg} (e : Same H H') (h : SgAt H v s) : SgAt H' v s := by
  obtain ⟨p, rfl, q⟩ := h
  exact ⟨p, rfl, e _ _ q⟩
abbrev Sgs (H : Hp) : List V → List Sg → Prop := Paired (SgAt H)
theorem Sgs.same {H H' : Hp} (e : Same H H') : ∀ {xs : List V} {ss : List Sg}, Sgs H xs ss → Sgs H' xs ss
  | _, _, .nil => .nil
  | _, _, .cons a b => .cons (a.same e) (Sgs.same e b)
theorem pget {α β : Type} {F : α → β → Prop} : ∀ {xs : List α} {ys : List β} {i : Nat} {x : α}, Paired F xs ys → xs[i]? = some x → ∃ y, ys[i]? = some y ∧ F x y
  | _, _, _, _, .nil, e => by simp at e
  | _, _, 0, _, .cons r _, e => by simp at e; subst e; exact ⟨_, rfl, r⟩
  | _, _, i + 1, x, .cons _ t, e => by
    obtain ⟨u, h1, h2⟩ := pget (i := i) (x := x) t (by simpa using e)
    exact ⟨u, by simpa using h1, h2⟩
theorem pgetR {α β : Type} {F : α → β → Prop} : ∀ {xs : List α} {ys : List β} {i : Nat} {y : β}, Paired F xs ys → ys[i]? = some y → ∃ x, xs[i]? = some x ∧ F x y
  | _, _, _, _, .nil, e => by simp at e
  | _, _, 0, _, .cons r _, e => by simp at e; subst e; exact ⟨_, rfl, r⟩
  | _, _, i + 1, x, .cons _ t, e => by
    obtain ⟨u, h1, h2⟩ := pgetR (i := i) t (by simpa using e)
    exact ⟨u, by simpa using h1, h2⟩
theorem plen {α β : Type} {F : α → β → Prop} {xs : List α} {ys : List β} (h : Paired F xs ys) : xs.length = ys.length := Paired.length h
theorem psnoc {α β : Type} {F : α → β → Prop} : ∀ {xs : List α} {ys : List β} {x : α} {y : β}, Paired F xs ys → F x y → Paired F (xs ++ [x]) (ys ++ [y])
  | _, _, _, _, .nil, h => .cons h .nil
  | _, _, _, _, .cons a b, h => .cons a (psnoc b h)
theorem papp {α β : Type} {F : α → β → Prop} : ∀ {xs : List α} {ys : List β} {xs' : List α} {ys' : List β}, Paired F xs ys → Paired F xs' ys' → Paired F (xs ++ xs') (ys ++ ys')
  | _, _, _, _, .nil, h => h
  | _, _, _, _, .cons a b, h => .cons a (papp b h)
theorem pdrop {α β : Type} {F : α → β → Prop} : ∀ {xs : List α} {ys : List β} (n : Nat), Paired F xs ys → Paired F (xs.drop n) (ys.drop n)
  | _, _, 0, h => h
  | _, _, n + 1, .nil => .nil
  | _, _, n + 1, .cons a b => pdrop n b
theorem ptake {α β : Type} {F : α → β → Prop} : ∀ {xs : List α} {ys : List β} (n : Nat), Paired F xs ys → Paired F (xs.take n) (ys.take n)
  | _, _, 0, h => .nil
  | _, _, n + 1, .nil => .nil
  | _, _, n + 1, .cons a b => .cons a (ptake n b)
theorem pmono {α β : Type} {F G : α → β → Prop} (h : ∀ x y, F x y → G x y) : ∀ {xs : List α} {ys : List β}, Paired F xs ys → Paired G xs ys
  | _, _, .nil => .nil
  | _, _, .cons a b => .cons (h _ _ a) (pmono h b)
/-- an own list is written: what was tracked ahead of it stays -/
theorem sameOwn {H0 H : Hp} {l : Addr} {o : HO} (s : Same H0 H) (hl : H0 l = none) : Same H0 (upd H l o) := fun b u e => by
  rw [upd_ne (ne_of_none e hl)]
  exact s b u e
theorem sgUpd {H : Hp} {D : Addr} {o : HO} {zs : List V} {v : V} {s : Sg} (hD : H D = some (.lst zs)) (h : SgAt H v s) : SgAt (upd H D o) v s := by
  obtain ⟨p, e, q⟩ := h
  exact ⟨p, e, by rw [upd_ne (ne_of q hD (by intro z; cases z))]; exact q⟩
theorem sgsUpd {H : Hp} {D : Addr} {o : HO} {zs : List V} {xs : List V} {ss : List Sg} (hD : H D = some (.lst zs)) (h : Sgs H xs ss) : Sgs (upd H D o) xs ss := pmono (fun _ _ q => sgUpd hD q) h
theorem intsAt {ms : List Int} {i : Nat} {x : V} (h : (ms.map V.int)[i]? = some x) : ∃ z, ms[i]? = some z ∧ x = V.int z := by
  rw [List.getElem?_map] at h
  cases e : ms[i]? with
  | none => rw [e] at h; cases h
  | some z => rw [e] at h; exact ⟨z, rfl, (Option.some.inj h).symm⟩
section
variable {K : PySem.W.Frag} {H : Hp} {p : Addr} {Q : VK}
/-- an item of a pair -/
theorem ix0 {a b : V} (h : H p = some (.tup [a, b])) (q : Q a H) : rIxL K (.ref p) (.int 0) H Q ∨ rIxT K (.ref p) (.int 0) H Q ∨ rIxS (.ref p) (.int 0) H Q := .inr (.inl ⟨p, _, 0, a, rfl, rfl, SqT.of h, rfl, q⟩)
theorem ix1 {a b : V} (h : H p = some (.tup [a, b])) (q : Q b H) : rIxL K (.ref p) (.int 1) H Q ∨ rIxT K (.ref p) (.int 1) H Q ∨ rIxS (.ref p) (.int 1) H Q := .inr (.inl ⟨p, _, 1, b, rfl, rfl, SqT.of h, rfl, q⟩)
/-- an item of a list, by its place -/
theorem ixL {xs : List V} {i : Int} {n : Nat} {v : V} (h : SqL K H p xs) (hn : i = n) (e : xs[n]? = some v) (q : Q v H) : rIxL K (.ref p) (.int i) H Q ∨ rIxT K (.ref p) (.int i) H Q ∨ rIxS (.ref p) (.int i) H Q := .inl ⟨p, xs, i, v, rfl, rfl, h, by rw [hn]; exact atI_nat e, q⟩
/-- an item of a row of signs -/
theorem ixSg {xs : List V} {ss : List Sg} {i : Int} {n : Nat} {s : Sg} (h : SqL K H p xs) (g : Sgs H xs ss) (hn : i = n) (e : ss[n]? = some s) (q : ∀ b, H b = some (.tup [.str s.1.str, .int s.2]) → Q (.ref b) H) :
    rIxL K (.ref p) (.int i) H Q ∨ rIxT K (.ref p) (.int i) H Q ∨ rIxS (.ref p) (.int i) H Q := by
  obtain ⟨x, hx, b, rfl, hb⟩ := pgetR g e
  exact ixL h hn hx (q b hb)
end
end Mine

set_option maxHeartbeats 1000000
namespace Mine
open PySem L2
/-! ### the reading of a line, as functions of its kinds -/
def nm (m : Int) : Kd → Int
  | .three => 3
  | .two => 2
  | _ => m
def Ms (m : Int) : Prop := m = 3 ∨ m = 2
def measL (m : Int) : List Kd → List Int
  | [] => []
  | k :: t => nm m k :: measL (nm m k) t
def pw : Kd → Int → Int
  | .G, m => if m = 2 then 2 else 3
  | .R, m => if m = 2 then 2 else 3
  | .D, _ => 2
  | .s, _ => 1
  | .d, _ => 1
  | .r, _ => 1
  | _, _ => 0
def bw (m : Int) (k : Kd) (n : Option Kd) : Int := if m = 2 ∧ k = .G ∧ n = some .dot then 3 else pw k m
def baseL (m : Int) : List Kd → List Int
  | [] => []
  | k :: t => bw (nm m k) k t.head? :: baseL (nm m k) t
def baseOn : List Kd → List Int → List Int
  | k :: t, m :: ms => bw m k t.head? :: baseOn t ms
  | _, _ => []
def inR (m : Int) (k : Kd) : Bool := decide (m ≠ 2) && k.small
def insL (m : Int) : List Kd → List Bool
  | [] => []
  | k :: t => inR (nm m k) k :: insL (nm m k) t
def insOn : List Kd → List Int → List Bool
  | k :: t, m :: ms => inR m k :: insOn t ms
  | _, _ => []
/-- the runs of a row of marks, from a place on, a run begun at `first` -/
def runsF (at' first : Nat) : List Bool → List (Nat × Nat)
  | [] => if first < at' then [(first, at')] else []
  | true :: t => runsF (at' + 1) first t
  | false :: t => (if first < at' then [(first, at')] else []) ++ runsF (at' + 1) (at' + 1) t
def runsL (m : Int) (ks : List Kd) : List (Nat × Nat) := runsF 0 0 (insL m ks)
def kAt (ks : List Kd) (i : Int) : Option Kd := if 0 ≤ i then ks[i.toNat]? else none
def greatO : Option Kd → Bool
  | some k => k.great
  | none => false
def leftN (ks : List Kd) (f : List Int) (a : Nat) : Bool := decide (kAt ks ((a : Int) - 1) = some .G) && decide (f.getD (a - 1) 0 = 3)
def rightN (ks : List Kd) (z : Nat) : Bool := decide (ks[z]? = some .G) && !greatO ks[z + 1]?
def settle1 (ks : List Kd) (f : List Int) (a z : Nat) : Bool × List Int := if leftN ks f a then (true, f.set (a - 1) 2) else if rightN ks z then (true, f.set z 2) else (false, f)
def settle2 (ks : List Kd) (f : List Int) (a z : Nat) : Bool × List Int := if greatO ks[z]? && decide (ks[z - 1]? = some .s) then (true, f.set (z - 1) 2) else if leftN ks f a && rightN ks z then (true, (f.set (a - 1) 2).set z 2) else (false, f)
def settle (ks : List Kd) (f : List Int) (a z : Nat) : Bool × List Int := if (z - a) % 3 = 1 then settle1 ks f a z else if (z - a) % 3 = 2 then settle2 ks f a z else (true, f)
abbrev RdS := List Int × List (Nat × Nat)
def rdStep (ks : List Kd) (c : RdS) (p : Nat × Nat) : RdS := ((settle ks c.1 p.1 p.2).2, if (settle ks c.1 p.1 p.2).1 then c.2 else c.2 ++ [p])
def readL (m : Int) (ks : List Kd) : RdS := (runsL m ks).foldl (rdStep ks) (baseL m ks, [])
/-- pairs of places in the heap -/
def PrAt (H : Hp) (v : V) (q : Nat × Nat) : Prop := ∃ p, v = .ref p ∧ H p = some (.tup [.int (q.1 : Int), .int (q.2 : Int)])
abbrev Prs (H : Hp) : List V → List (Nat × Nat) → Prop := Paired (PrAt H)
abbrev kds (ss : List Sg) : List Kd := ss.map Prod.fst
theorem big {n : Nat} (h : n ≤ 1000) : n ≤ sizeLine := Nat.le_of_lt (small1000 h)
def threeL (m : Int) : List Kd → List Bool
  | [] => []
  | k :: t => decide (nm m k = 3) :: threeL (nm m k) t
/-- how many marks stand at the head -/
def lead : List Bool → Nat
  | true :: t => lead t + 1
  | _ => 0
end Mine

set_option maxHeartbeats 1000000
namespace Mine
open PySem L2
/-! ### what the laws have in common -/
theorem cutTo (xs : List V) (n : Nat) : cutV xs none (some (n : Int)) = xs.take n := by
  unfold cutV
  have e : HT.sIx xs.length xs.length (some (n : Int)) = min n xs.length := HT.sIx_nat xs.length xs.length n
  rw [HT.sIx_none, e, Nat.sub_zero, List.drop_zero]
  rcases Nat.le_total n xs.length with h | h
  · rw [Nat.min_eq_left h]
  · rw [Nat.min_eq_right h, List.take_length, List.take_of_length_le h]
theorem cutFrom (xs : List V) (n : Nat) (h : n ≤ xs.length) : cutV xs (some (n : Int)) none = xs.drop n := by
  unfold cutV
  have e : HT.sIx xs.length 0 (some (n : Int)) = min n xs.length := HT.sIx_nat xs.length 0 n
  rw [HT.sIx_none, e, Nat.min_eq_left h]
  exact List.take_of_length_le (by rw [List.length_drop]; omega)
theorem sgDeq {K : PySem.W.Frag} {H : Hp} {p p2 : Addr} {s : Sg} (n : Nat) (h1 : H p = some (.tup [.str s.1.str, .int s.2])) (h2 : H p2 = some (.tup [.str s.1.str, .int s.2])) : Deq K H (n + 1) (.ref p) (.ref p2) := by
  refine .tup (SqT.of h1) (SqT.of h2) rfl fun i x y e1 e2 => ?_
  have e : x = y := Option.some.inj (e1.symm.trans e2)
  subst e
  match i, e1 with
  | 0, e1 => cases e1; exact .flat rfl
  | 1, e1 => cases e1; exact .flat rfl
  | n + 2, e1 => simp at e1
/-- pairs of whole numbers in the heap -/
def PrI (H : Hp) (v : V) (q : Int × Int) : Prop := ∃ p, v = .ref p ∧ H p = some (.tup [.int q.1, .int q.2])
abbrev PrsI (H : Hp) : List V → List (Int × Int) → Prop := Paired (PrI H)
/-- a law's line stands in the heap, new -/
structure LineAt (H0 H : Hp) (l : Addr) (xs : List V) (ss : List Sg) : Prop where
  same : Same H0 H
  new : H0 l = none
  at' : H l = some (.lst xs)
  sg : Sgs H xs ss
def sp_law (K : PySem.W.Frag) : Sp := fun vs H Q _ => ∃ (a : Addr) (ns : List Int), vs = [.ref a] ∧ SqL K H a (ns.map V.int) ∧ ns.length ≤ 63 ∧ ∀ H', Q (.bl true) H'
theorem law_start {K : PySem.W.Frag} {H : Hp} {a : Addr} {ns : List Int} (hl : ns.length ≤ 63) (_ : Only H) (hS : SqL K H a (ns.map V.int)) : sp_law K [.ref a] H (fun v _ => v = .bl true) fun _ _ _ => False :=
  ⟨a, ns, rfl, hS, hl, fun _ => rfl⟩
end Mine

set_option maxHeartbeats 1000000
namespace Mine
open PySem L2
/-! ### objects of a book -/
theorem lk_hit {k : Str} {v : V} {r : List (Str × V)} : ((k, v) :: r).lookup k = some v := by simp [List.lookup]
theorem lk_miss {k g : Str} {v : V} {r : List (Str × V)} (h : ¬ g = k) : ((k, v) :: r).lookup g = r.lookup g := by
  have : (g == k) = false := beq_eq_false_iff_ne.mpr h
  simp [List.lookup, this]
theorem pf_miss {k g : Str} {x y : V} {r : List (Str × V)} (h : ¬ g = k) : putF k y ((g, x) :: r) = (g, x) :: putF k y r := if_neg h
def voF (n : Str) (tm : V) (L : Addr) : List (Str × V) := [("name", V.str n), ("terms", tm), ("signs", V.ref L)]
theorem voF_name (n : Str) (tm : V) (L : Addr) : (voF n tm L).lookup ("name" : Str) = some (V.str n) := lk_hit
theorem voF_terms (n : Str) (tm : V) (L : Addr) : (voF n tm L).lookup ("terms" : Str) = some (tm) := (lk_miss (by decide +kernel)).trans (lk_hit)
theorem voF_signs (n : Str) (tm : V) (L : Addr) : (voF n tm L).lookup ("signs" : Str) = some (V.ref L) := (lk_miss (by decide +kernel)).trans ((lk_miss (by decide +kernel)).trans (lk_hit))
theorem voF_mk0 (v0 : V) : putF "name" v0 ([] : List (Str × V)) = ([("name", v0)] : List (Str × V)) := rfl
theorem voF_mk1 (v0 v1 : V) : putF "terms" v1 ([("name", v0)] : List (Str × V)) = ([("name", v0), ("terms", v1)] : List (Str × V)) := (pf_miss (by decide +kernel)).trans (congrArg _ (rfl))
theorem voF_mk2 (v0 v1 v2 : V) : putF "signs" v2 ([("name", v0), ("terms", v1)] : List (Str × V)) = ([("name", v0), ("terms", v1), ("signs", v2)] : List (Str × V)) := (pf_miss (by decide +kernel)).trans (congrArg _ ((pf_miss (by decide +kernel)).trans (congrArg _ (rfl))))
def deF (T : Addr) (at_ : Int) (B A : Addr) : List (Str × V) := [("things", V.ref T), ("at", V.int at_), ("before", V.ref B), ("after", V.ref A)]
theorem deF_things (T : Addr) (at_ : Int) (B A : Addr) : (deF T at_ B A).lookup ("things" : Str) = some (V.ref T) := lk_hit
theorem deF_at (T : Addr) (at_ : Int) (B A : Addr) : (deF T at_ B A).lookup ("at" : Str) = some (V.int at_) := (lk_miss (by decide +kernel)).trans (lk_hit)
theorem deF_before (T : Addr) (at_ : Int) (B A : Addr) : (deF T at_ B A).lookup ("before" : Str) = some (V.ref B) := (lk_miss (by decide +kernel)).trans ((lk_miss (by decide +kernel)).trans (lk_hit))
theorem deF_after (T : Addr) (at_ : Int) (B A : Addr) : (deF T at_ B A).lookup ("after" : Str) = some (V.ref A) := (lk_miss (by decide +kernel)).trans ((lk_miss (by decide +kernel)).trans ((lk_miss (by decide +kernel)).trans (lk_hit)))
theorem deF_no_do (T : Addr) (at_ : Int) (B A : Addr) : (deF T at_ B A).lookup ("do" : Str) = none := (lk_miss (by decide +kernel)).trans ((lk_miss (by decide +kernel)).trans ((lk_miss (by decide +kernel)).trans ((lk_miss (by decide +kernel)).trans (rfl))))
theorem deF_mk0 (v0 : V) : putF "things" v0 ([] : List (Str × V)) = ([("things", v0)] : List (Str × V)) := rfl
theorem deF_mk1 (v0 v1 : V) : putF "at" v1 ([("things", v0)] : List (Str × V)) = ([("things", v0), ("at", v1)] : List (Str × V)) := (pf_miss (by decide +kernel)).trans (congrArg _ (rfl))
theorem deF_mk2 (v0 v1 v2 : V) : putF "before" v2 ([("things", v0), ("at", v1)] : List (Str × V)) = ([("things", v0), ("at", v1), ("before", v2)] : List (Str × V)) := (pf_miss (by decide +kernel)).trans (congrArg _ ((pf_miss (by decide +kernel)).trans (congrArg _ (rfl))))
theorem deF_mk3 (v0 v1 v2 v3 : V) : putF "after" v3 ([("things", v0), ("at", v1), ("before", v2)] : List (Str × V)) = ([("things", v0), ("at", v1), ("before", v2), ("after", v3)] : List (Str × V)) := (pf_miss (by decide +kernel)).trans (congrArg _ ((pf_miss (by decide +kernel)).trans (congrArg _ ((pf_miss (by decide +kernel)).trans (congrArg _ (rfl))))))
def boF (V_ D U : Addr) : List (Str × V) := [("voices", V.ref V_), ("done", V.ref D), ("undone", V.ref U)]
theorem boF_voices (V_ D U : Addr) : (boF V_ D U).lookup ("voices" : Str) = some (V.ref V_) := lk_hit
theorem boF_done (V_ D U : Addr) : (boF V_ D U).lookup ("done" : Str) = some (V.ref D) := (lk_miss (by decide +kernel)).trans (lk_hit)
theorem boF_undone (V_ D U : Addr) : (boF V_ D U).lookup ("undone" : Str) = some (V.ref U) := (lk_miss (by decide +kernel)).trans ((lk_miss (by decide +kernel)).trans (lk_hit))
theorem boF_no_add_voice (V_ D U : Addr) : (boF V_ D U).lookup ("add_voice" : Str) = none := (lk_miss (by decide +kernel)).trans ((lk_miss (by decide +kernel)).trans ((lk_miss (by decide +kernel)).trans (rfl)))
theorem boF_no_put (V_ D U : Addr) : (boF V_ D U).lookup ("put" : Str) = none := (lk_miss (by decide +kernel)).trans ((lk_miss (by decide +kernel)).trans ((lk_miss (by decide +kernel)).trans (rfl)))
theorem boF_no_cut (V_ D U : Addr) : (boF V_ D U).lookup ("cut" : Str) = none := (lk_miss (by decide +kernel)).trans ((lk_miss (by decide +kernel)).trans ((lk_miss (by decide +kernel)).trans (rfl)))
theorem boF_no_swap (V_ D U : Addr) : (boF V_ D U).lookup ("swap" : Str) = none := (lk_miss (by decide +kernel)).trans ((lk_miss (by decide +kernel)).trans ((lk_miss (by decide +kernel)).trans (rfl)))
theorem boF_no_names (V_ D U : Addr) : (boF V_ D U).lookup ("names" : Str) = none := (lk_miss (by decide +kernel)).trans ((lk_miss (by decide +kernel)).trans ((lk_miss (by decide +kernel)).trans (rfl)))
theorem boF_no_line (V_ D U : Addr) : (boF V_ D U).lookup ("line" : Str) = none := (lk_miss (by decide +kernel)).trans ((lk_miss (by decide +kernel)).trans ((lk_miss (by decide +kernel)).trans (rfl)))
theorem boF_no_canon (V_ D U : Addr) : (boF V_ D U).lookup ("canon" : Str) = none := (lk_miss (by decide +kernel)).trans ((lk_miss (by decide +kernel)).trans ((lk_miss (by decide +kernel)).trans (rfl)))
theorem boF_no_perform (V_ D U : Addr) : (boF V_ D U).lookup ("perform" : Str) = none := (lk_miss (by decide +kernel)).trans ((lk_miss (by decide +kernel)).trans ((lk_miss (by decide +kernel)).trans (rfl)))
theorem boF_no_put_in (V_ D U : Addr) : (boF V_ D U).lookup ("put_in" : Str) = none := (lk_miss (by decide +kernel)).trans ((lk_miss (by decide +kernel)).trans ((lk_miss (by decide +kernel)).trans (rfl)))
theorem boF_no_refuse_new (V_ D U : Addr) : (boF V_ D U).lookup ("refuse_new" : Str) = none := (lk_miss (by decide +kernel)).trans ((lk_miss (by decide +kernel)).trans ((lk_miss (by decide +kernel)).trans (rfl)))
theorem boF_no_voice_called (V_ D U : Addr) : (boF V_ D U).lookup ("voice_called" : Str) = none := (lk_miss (by decide +kernel)).trans ((lk_miss (by decide +kernel)).trans ((lk_miss (by decide +kernel)).trans (rfl)))
theorem boF_no_plain_voice (V_ D U : Addr) : (boF V_ D U).lookup ("plain_voice" : Str) = none := (lk_miss (by decide +kernel)).trans ((lk_miss (by decide +kernel)).trans ((lk_miss (by decide +kernel)).trans (rfl)))
theorem boF_mk0 (v0 : V) : putF "voices" v0 ([] : List (Str × V)) = ([("voices", v0)] : List (Str × V)) := rfl
theorem boF_mk1 (v0 v1 : V) : putF "done" v1 ([("voices", v0)] : List (Str × V)) = ([("voices", v0), ("done", v1)] : List (Str × V)) := (pf_miss (by decide +kernel)).trans (congrArg _ (rfl))
theorem boF_mk2 (v0 v1 v2 : V) : putF "undone" v2 ([("voices", v0), ("done", v1)] : List (Str × V)) = ([("voices", v0), ("done", v1), ("undone", v2)] : List (Str × V)) := (pf_miss (by decide +kernel)).trans (congrArg _ ((pf_miss (by decide +kernel)).trans (congrArg _ (rfl))))
end Mine

namespace Mine
end Mine

set_option maxHeartbeats 1000000
local macro_rules | `(tactic| array_get_dec) => `(tactic| first
  | refine ⟨_, rfl, ?_⟩
  | refine ⟨_, _, rfl, rfl, ⟨by decide, by decide⟩, ?_⟩
  | refine ⟨_, _, rfl, rfl, (by first | decide | (show (0 : Int) < _; decide)), ?_⟩
  | refine .inl ⟨_, _, rfl, rfl, .inr ⟨by decide, by decide⟩, ?_⟩
  | refine ⟨_, _, rfl, rfl, ?_⟩
  | refine .inl ⟨_, _, rfl, rfl, ?_⟩
  | refine .inl ⟨rfl, ?_⟩
  | refine .inr ⟨_, _, rfl, rfl, ?_⟩
  | refine Mine.ix0 (by assumption) ?_
  | refine Mine.ix1 (by assumption) ?_)

namespace Mine
open PySem L2
def top (i : Nat) : Stmt := PySem.Challenge.pw_noteworth_k31_deeds_in_a_line.main.body.getD i (.Pass ⟨0, 0, 0, 0⟩)
abbrev s_Book___init__ : Stmt := inClass (top 36) 0
abbrev s_is_name : Stmt := top 30
abbrev s_Book_names : Stmt := inClass (top 36) 9
abbrev s_Book_refuse_new : Stmt := inClass (top 36) 16
abbrev s_Deed_do : Stmt := inClass (top 29) 1
abbrev s_Book_perform : Stmt := inClass (top 36) 14
abbrev s_Deed___init__ : Stmt := inClass (top 29) 0
abbrev s_Book_put_in : Stmt := inClass (top 36) 15
abbrev s_Voice___init__ : Stmt := inClass (top 28) 0
abbrev s_Book_add_voice : Stmt := inClass (top 36) 1
abbrev s_l_sign_by : Stmt := top 41
abbrev s_Book_voice_called : Stmt := inClass (top 36) 17
abbrev s_Book_canon : Stmt := inClass (top 36) 12
abbrev s_turned : Stmt := top 22
abbrev s_Book_line : Stmt := inClass (top 36) 10
abbrev s_l_whole : Stmt := top 43
abbrev s_l_signs : Stmt := top 44
abbrev s_l_cell_at : Stmt := top 38
abbrev s_l_mixed : Stmt := top 39
abbrev s_l_numbers : Stmt := top 40
abbrev s_l_line : Stmt := top 42
abbrev s_refuse_other_places : Stmt := top 31
abbrev s_good : Stmt := top 17
abbrev s_refuse_bad_sign : Stmt := top 32
abbrev s_small : Stmt := top 18
abbrev s_low_end : Stmt := top 33
abbrev s_high_end : Stmt := top 34
abbrev s_sets_measure : Stmt := top 19
abbrev s_window : Stmt := top 35
abbrev s_Book_plain_voice : Stmt := inClass (top 36) 18
abbrev s_Book_put : Stmt := inClass (top 36) 4
abbrev s_Book_swap : Stmt := inClass (top 36) 6
abbrev s_Book_cut : Stmt := inClass (top 36) 5
abbrev s_law : Stmt := top 45
theorem sc_Book___init__ : FnScope ["self"] ["self"] (defScope s_Book___init__) := ⟨rfl, rfl, rfl, by decide +kernel, rfl, by decide +kernel, by decide +kernel⟩
theorem sc_is_name : FnScope ["name"] ["name"] (defScope s_is_name) := ⟨rfl, rfl, rfl, by decide +kernel, rfl, by decide +kernel, by decide +kernel⟩
theorem sc_Book_names : FnScope ["self"] ["self"] (defScope s_Book_names) := ⟨rfl, rfl, rfl, by decide +kernel, rfl, by decide +kernel, by decide +kernel⟩
theorem sc_Book_refuse_new : FnScope ["self", "name"] ["self", "name"] (defScope s_Book_refuse_new) := ⟨rfl, rfl, rfl, by decide +kernel, rfl, by decide +kernel, by decide +kernel⟩
theorem sc_Deed_do : FnScope ["self"] ["self"] (defScope s_Deed_do) := ⟨rfl, rfl, rfl, by decide +kernel, rfl, by decide +kernel, by decide +kernel⟩
theorem sc_Book_perform : FnScope ["self", "deed"] ["self", "deed"] (defScope s_Book_perform) := ⟨rfl, rfl, rfl, by decide +kernel, rfl, by decide +kernel, by decide +kernel⟩
theorem sc_Deed___init__ : FnScope ["self", "things", "at", "before", "after"] ["self", "things", "at", "before", "after"] (defScope s_Deed___init__) := ⟨rfl, rfl, rfl, by decide +kernel, rfl, by decide +kernel, by decide +kernel⟩
theorem sc_Book_put_in : FnScope ["self", "voice"] ["self", "voice"] (defScope s_Book_put_in) := ⟨rfl, rfl, rfl, by decide +kernel, rfl, by decide +kernel, by decide +kernel⟩
theorem sc_Voice___init__ : FnScope ["self", "name", "terms"] ["self", "name", "terms"] (defScope s_Voice___init__) := ⟨rfl, rfl, rfl, by decide +kernel, rfl, by decide +kernel, by decide +kernel⟩
theorem sc_Book_add_voice : FnScope ["self", "name"] ["self", "name"] (defScope s_Book_add_voice) := ⟨rfl, rfl, rfl, by decide +kernel, rfl, by decide +kernel, by decide +kernel⟩
theorem sc_l_sign_by : FnScope ["_law_number", "_law_kind"] ["_law_number"] (defScope s_l_sign_by) := ⟨rfl, rfl, rfl, by decide +kernel, rfl, by decide +kernel, by decide +kernel⟩
theorem sc_Book_voice_called : FnScope ["self", "name", "voice"] ["self", "name"] (defScope s_Book_voice_called) := ⟨rfl, rfl, rfl, by decide +kernel, rfl, by decide +kernel, by decide +kernel⟩
theorem sc_Book_canon : FnScope ["self", "name"] ["self", "name"] (defScope s_Book_canon) := ⟨rfl, rfl, rfl, by decide +kernel, rfl, by decide +kernel, by decide +kernel⟩
theorem sc_turned : FnScope ["line"] ["line"] (defScope s_turned) := ⟨rfl, rfl, rfl, by decide +kernel, rfl, by decide +kernel, by decide +kernel⟩
theorem sc_Book_line : FnScope ["self", "name", "terms", "leader", "later", "slow", "is_turned", "heard"] ["self", "name"] (defScope s_Book_line) := ⟨rfl, rfl, rfl, by decide +kernel, rfl, by decide +kernel, by decide +kernel⟩
theorem sc_l_whole : FnScope ["_law_found"] ["_law_found"] (defScope s_l_whole) := ⟨rfl, rfl, rfl, by decide +kernel, rfl, by decide +kernel, by decide +kernel⟩
theorem sc_l_signs : FnScope ["_law_found", "_law_due", "_law_one", "_law_other"] ["_law_found", "_law_due"] (defScope s_l_signs) := ⟨rfl, rfl, rfl, by decide +kernel, rfl, by decide +kernel, by decide +kernel⟩
theorem sc_l_cell_at : FnScope ["_law_script", "_law_k"] ["_law_script", "_law_k"] (defScope s_l_cell_at) := ⟨rfl, rfl, rfl, by decide +kernel, rfl, by decide +kernel, by decide +kernel⟩
theorem sc_l_mixed : FnScope ["_law_seed", "_law_k", "_law_one", "_law_two"] ["_law_seed", "_law_k"] (defScope s_l_mixed) := ⟨rfl, rfl, rfl, by decide +kernel, rfl, by decide +kernel, by decide +kernel⟩
theorem sc_l_numbers : FnScope ["_law_script", "_law_at", "_law_many", "_law_seed", "_law_left", "_law_row"] ["_law_script", "_law_at", "_law_many"] (defScope s_l_numbers) := ⟨rfl, rfl, rfl, by decide +kernel, rfl, by decide +kernel, by decide +kernel⟩
theorem sc_l_line : FnScope ["_law_script", "_law_at", "_law_many"] ["_law_script", "_law_at", "_law_many"] (defScope s_l_line) := ⟨rfl, rfl, rfl, by decide +kernel, rfl, by decide +kernel, by decide +kernel⟩
theorem sc_refuse_other_places : FnScope ["at", "last"] ["at", "last"] (defScope s_refuse_other_places) := ⟨rfl, rfl, rfl, by decide +kernel, rfl, by decide +kernel, by decide +kernel⟩
theorem sc_good : FnScope ["sign", "kind", "tone"] ["sign"] (defScope s_good) := ⟨rfl, rfl, rfl, by decide +kernel, rfl, by decide +kernel, by decide +kernel⟩
theorem sc_refuse_bad_sign : FnScope ["sign"] ["sign"] (defScope s_refuse_bad_sign) := ⟨rfl, rfl, rfl, by decide +kernel, rfl, by decide +kernel, by decide +kernel⟩
theorem sc_small : FnScope ["sign"] ["sign"] (defScope s_small) := ⟨rfl, rfl, rfl, by decide +kernel, rfl, by decide +kernel, by decide +kernel⟩
theorem sc_low_end : FnScope ["line", "at", "met", "place"] ["line", "at"] (defScope s_low_end) := ⟨rfl, rfl, rfl, by decide +kernel, rfl, by decide +kernel, by decide +kernel⟩
theorem sc_high_end : FnScope ["line", "first", "kinds", "place"] ["line", "first", "kinds"] (defScope s_high_end) := ⟨rfl, rfl, rfl, by decide +kernel, rfl, by decide +kernel, by decide +kernel⟩
theorem sc_sets_measure : FnScope ["sign"] ["sign"] (defScope s_sets_measure) := ⟨rfl, rfl, rfl, by decide +kernel, rfl, by decide +kernel, by decide +kernel⟩
theorem sc_window : FnScope ["line", "at", "behind", "changed", "kinds"] ["line", "at", "behind", "changed"] (defScope s_window) := ⟨rfl, rfl, rfl, by decide +kernel, rfl, by decide +kernel, by decide +kernel⟩
theorem sc_Book_plain_voice : FnScope ["self", "name", "voice"] ["self", "name"] (defScope s_Book_plain_voice) := ⟨rfl, rfl, rfl, by decide +kernel, rfl, by decide +kernel, by decide +kernel⟩
theorem sc_Book_put : FnScope ["self", "name", "at", "sign", "signs"] ["self", "name", "at", "sign"] (defScope s_Book_put) := ⟨rfl, rfl, rfl, by decide +kernel, rfl, by decide +kernel, by decide +kernel⟩
theorem sc_Book_swap : FnScope ["self", "name", "at", "sign", "signs", "before"] ["self", "name", "at", "sign"] (defScope s_Book_swap) := ⟨rfl, rfl, rfl, by decide +kernel, rfl, by decide +kernel, by decide +kernel⟩
theorem sc_Book_cut : FnScope ["self", "name", "at", "signs", "sign"] ["self", "name", "at"] (defScope s_Book_cut) := ⟨rfl, rfl, rfl, by decide +kernel, rfl, by decide +kernel, by decide +kernel⟩
theorem sc_law : FnScope ["_law_script", "_law_line_here", "_law_book", "_law_at", "_law_sign", "_law_way", "_law_due", "_law_found"] ["_law_script"] (defScope s_law) := ⟨rfl, rfl, rfl, by decide +kernel, rfl, by decide +kernel, by decide +kernel⟩
theorem nd_is_name_0 : (["letter", "name"] : List Str).Nodup := by decide +kernel
theorem nd_Book_names_1 : (["voice", "self"] : List Str).Nodup := by decide +kernel
theorem nd_turned_2 : (["kind", "tone", "line"] : List Str).Nodup := by decide +kernel
theorem nd_l_numbers_3 : (["_law_k", "_law_script", "_law_at", "_law_many", "_law_seed", "_law_left", "_law_row"] : List Str).Nodup := by decide +kernel
theorem nd_l_line_4 : (["_law_number", "_law_script", "_law_at", "_law_many"] : List Str).Nodup := by decide +kernel
theorem nd_window_5 : (["sign", "line", "at", "behind", "changed", "kinds"] : List Str).Nodup := by decide +kernel
structure Adr where
  f_Book___init__ : Addr
  d_Book___init__ : FuncData
  f_is_name : Addr
  d_is_name : FuncData
  f_Book_names : Addr
  d_Book_names : FuncData
  f_Book_refuse_new : Addr
  d_Book_refuse_new : FuncData
  f_Deed_do : Addr
  d_Deed_do : FuncData
  f_Book_perform : Addr
  d_Book_perform : FuncData
  f_Deed___init__ : Addr
  d_Deed___init__ : FuncData
  f_Book_put_in : Addr
  d_Book_put_in : FuncData
  f_Voice___init__ : Addr
  d_Voice___init__ : FuncData
  f_Book_add_voice : Addr
  d_Book_add_voice : FuncData
  f_l_sign_by : Addr
  d_l_sign_by : FuncData
  f_Book_voice_called : Addr
  d_Book_voice_called : FuncData
  f_Book_canon : Addr
  d_Book_canon : FuncData
  f_turned : Addr
  d_turned : FuncData
  f_Book_line : Addr
  d_Book_line : FuncData
  f_l_whole : Addr
  d_l_whole : FuncData
  f_l_signs : Addr
  d_l_signs : FuncData
  f_l_cell_at : Addr
  d_l_cell_at : FuncData
  f_l_mixed : Addr
  d_l_mixed : FuncData
  f_l_numbers : Addr
  d_l_numbers : FuncData
  f_l_line : Addr
  d_l_line : FuncData
  f_refuse_other_places : Addr
  d_refuse_other_places : FuncData
  f_good : Addr
  d_good : FuncData
  f_refuse_bad_sign : Addr
  d_refuse_bad_sign : FuncData
  f_small : Addr
  d_small : FuncData
  f_low_end : Addr
  d_low_end : FuncData
  f_high_end : Addr
  d_high_end : FuncData
  f_sets_measure : Addr
  d_sets_measure : FuncData
  f_window : Addr
  d_window : FuncData
  f_Book_plain_voice : Addr
  d_Book_plain_voice : FuncData
  f_Book_put : Addr
  d_Book_put : FuncData
  f_Book_swap : Addr
  d_Book_swap : FuncData
  f_Book_cut : Addr
  d_Book_cut : FuncData
  f_law : Addr
  d_law : FuncData
  a_SMALL_KINDS : Addr
  a_PARTING_KINDS : Addr
  a_MEASURE_KINDS : Addr
  a_SOUNDING_KINDS : Addr
  a_SILENT_KINDS : Addr
  t_HIGHEST_TONE : Tok
  a_TURNED_KINDS : Addr
  t_LETTERS : Tok
  t_LONGEST_NAME : Tok
  t_MOST_VOICES : Tok
  t_MOST_SIGNS : Tok
  C_Voice : Addr
  C_Deed : Addr
  C_Book : Addr
structure Txt (K : PySem.W.Frag) (w : World) (mg : Str → Option Value) (t : Adr) : Prop where
  F_Book___init__ : Fun K "__init__" "Book.__init__" s_Book___init__ t.f_Book___init__ t.d_Book___init__
  b_Book___init__ : Binds K t.d_Book___init__ ["self"] []
  F_is_name : Fun K "is_name" "is_name" s_is_name t.f_is_name t.d_is_name
  b_is_name : Binds K t.d_is_name ["name"] []
  mg_is_name : mg "is_name" = some (.ref t.f_is_name)
  F_Book_names : Fun K "names" "Book.names" s_Book_names t.f_Book_names t.d_Book_names
  b_Book_names : Binds K t.d_Book_names ["self"] []
  me_Book_names : Meth K t.C_Book "names" t.f_Book_names
  F_Book_refuse_new : Fun K "refuse_new" "Book.refuse_new" s_Book_refuse_new t.f_Book_refuse_new t.d_Book_refuse_new
  b_Book_refuse_new : Binds K t.d_Book_refuse_new ["self", "name"] []
  me_Book_refuse_new : Meth K t.C_Book "refuse_new" t.f_Book_refuse_new
  F_Deed_do : Fun K "do" "Deed.do" s_Deed_do t.f_Deed_do t.d_Deed_do
  b_Deed_do : Binds K t.d_Deed_do ["self"] []
  me_Deed_do : Meth K t.C_Deed "do" t.f_Deed_do
  F_Book_perform : Fun K "perform" "Book.perform" s_Book_perform t.f_Book_perform t.d_Book_perform
  b_Book_perform : Binds K t.d_Book_perform ["self", "deed"] []
  me_Book_perform : Meth K t.C_Book "perform" t.f_Book_perform
  F_Deed___init__ : Fun K "__init__" "Deed.__init__" s_Deed___init__ t.f_Deed___init__ t.d_Deed___init__
  b_Deed___init__ : Binds K t.d_Deed___init__ ["self", "things", "at", "before", "after"] []
  F_Book_put_in : Fun K "put_in" "Book.put_in" s_Book_put_in t.f_Book_put_in t.d_Book_put_in
  b_Book_put_in : Binds K t.d_Book_put_in ["self", "voice"] []
  me_Book_put_in : Meth K t.C_Book "put_in" t.f_Book_put_in
  F_Voice___init__ : Fun K "__init__" "Voice.__init__" s_Voice___init__ t.f_Voice___init__ t.d_Voice___init__
  b_Voice___init__ : Binds K t.d_Voice___init__ ["self", "name", "terms"] []
  F_Book_add_voice : Fun K "add_voice" "Book.add_voice" s_Book_add_voice t.f_Book_add_voice t.d_Book_add_voice
  b_Book_add_voice : Binds K t.d_Book_add_voice ["self", "name"] []
  me_Book_add_voice : Meth K t.C_Book "add_voice" t.f_Book_add_voice
  F_l_sign_by : Fun K "_law_sign_by" "_law_sign_by" s_l_sign_by t.f_l_sign_by t.d_l_sign_by
  b_l_sign_by : Binds K t.d_l_sign_by ["_law_number"] []
  mg_l_sign_by : mg "_law_sign_by" = some (.ref t.f_l_sign_by)
  F_Book_voice_called : Fun K "voice_called" "Book.voice_called" s_Book_voice_called t.f_Book_voice_called t.d_Book_voice_called
  b_Book_voice_called : Binds K t.d_Book_voice_called ["self", "name"] []
  me_Book_voice_called : Meth K t.C_Book "voice_called" t.f_Book_voice_called
  F_Book_canon : Fun K "canon" "Book.canon" s_Book_canon t.f_Book_canon t.d_Book_canon
  b_Book_canon : Binds K t.d_Book_canon ["self", "name"] []
  me_Book_canon : Meth K t.C_Book "canon" t.f_Book_canon
  F_turned : Fun K "turned" "turned" s_turned t.f_turned t.d_turned
  b_turned : Binds K t.d_turned ["line"] []
  mg_turned : mg "turned" = some (.ref t.f_turned)
  F_Book_line : Fun K "line" "Book.line" s_Book_line t.f_Book_line t.d_Book_line
  b_Book_line : Binds K t.d_Book_line ["self", "name"] []
  me_Book_line : Meth K t.C_Book "line" t.f_Book_line
  F_l_whole : Fun K "_law_whole" "_law_whole" s_l_whole t.f_l_whole t.d_l_whole
  b_l_whole : Binds K t.d_l_whole ["_law_found"] []
  mg_l_whole : mg "_law_whole" = some (.ref t.f_l_whole)
  F_l_signs : Fun K "_law_signs" "_law_signs" s_l_signs t.f_l_signs t.d_l_signs
  b_l_signs : Binds K t.d_l_signs ["_law_found", "_law_due"] []
  mg_l_signs : mg "_law_signs" = some (.ref t.f_l_signs)
  F_l_cell_at : Fun K "_law_cell_at" "_law_cell_at" s_l_cell_at t.f_l_cell_at t.d_l_cell_at
  b_l_cell_at : Binds K t.d_l_cell_at ["_law_script", "_law_k"] []
  mg_l_cell_at : mg "_law_cell_at" = some (.ref t.f_l_cell_at)
  F_l_mixed : Fun K "_law_mixed" "_law_mixed" s_l_mixed t.f_l_mixed t.d_l_mixed
  b_l_mixed : Binds K t.d_l_mixed ["_law_seed", "_law_k"] []
  mg_l_mixed : mg "_law_mixed" = some (.ref t.f_l_mixed)
  F_l_numbers : Fun K "_law_numbers" "_law_numbers" s_l_numbers t.f_l_numbers t.d_l_numbers
  b_l_numbers : Binds K t.d_l_numbers ["_law_script", "_law_at", "_law_many"] []
  mg_l_numbers : mg "_law_numbers" = some (.ref t.f_l_numbers)
  F_l_line : Fun K "_law_line" "_law_line" s_l_line t.f_l_line t.d_l_line
  b_l_line : Binds K t.d_l_line ["_law_script", "_law_at", "_law_many"] []
  mg_l_line : mg "_law_line" = some (.ref t.f_l_line)
  F_refuse_other_places : Fun K "refuse_other_places" "refuse_other_places" s_refuse_other_places t.f_refuse_other_places t.d_refuse_other_places
  b_refuse_other_places : Binds K t.d_refuse_other_places ["at", "last"] []
  mg_refuse_other_places : mg "refuse_other_places" = some (.ref t.f_refuse_other_places)
  F_good : Fun K "good" "good" s_good t.f_good t.d_good
  b_good : Binds K t.d_good ["sign"] []
  mg_good : mg "good" = some (.ref t.f_good)
  F_refuse_bad_sign : Fun K "refuse_bad_sign" "refuse_bad_sign" s_refuse_bad_sign t.f_refuse_bad_sign t.d_refuse_bad_sign
  b_refuse_bad_sign : Binds K t.d_refuse_bad_sign ["sign"] []
  mg_refuse_bad_sign : mg "refuse_bad_sign" = some (.ref t.f_refuse_bad_sign)
  F_small : Fun K "small" "small" s_small t.f_small t.d_small
  b_small : Binds K t.d_small ["sign"] []
  mg_small : mg "small" = some (.ref t.f_small)
  F_low_end : Fun K "low_end" "low_end" s_low_end t.f_low_end t.d_low_end
  b_low_end : Binds K t.d_low_end ["line", "at"] []
  mg_low_end : mg "low_end" = some (.ref t.f_low_end)
  F_high_end : Fun K "high_end" "high_end" s_high_end t.f_high_end t.d_high_end
  b_high_end : Binds K t.d_high_end ["line", "first", "kinds"] []
  mg_high_end : mg "high_end" = some (.ref t.f_high_end)
  F_sets_measure : Fun K "sets_measure" "sets_measure" s_sets_measure t.f_sets_measure t.d_sets_measure
  b_sets_measure : Binds K t.d_sets_measure ["sign"] []
  mg_sets_measure : mg "sets_measure" = some (.ref t.f_sets_measure)
  F_window : Fun K "window" "window" s_window t.f_window t.d_window
  b_window : Binds K t.d_window ["line", "at", "behind", "changed"] []
  mg_window : mg "window" = some (.ref t.f_window)
  F_Book_plain_voice : Fun K "plain_voice" "Book.plain_voice" s_Book_plain_voice t.f_Book_plain_voice t.d_Book_plain_voice
  b_Book_plain_voice : Binds K t.d_Book_plain_voice ["self", "name"] []
  me_Book_plain_voice : Meth K t.C_Book "plain_voice" t.f_Book_plain_voice
  F_Book_put : Fun K "put" "Book.put" s_Book_put t.f_Book_put t.d_Book_put
  b_Book_put : Binds K t.d_Book_put ["self", "name", "at", "sign"] []
  me_Book_put : Meth K t.C_Book "put" t.f_Book_put
  F_Book_swap : Fun K "swap" "Book.swap" s_Book_swap t.f_Book_swap t.d_Book_swap
  b_Book_swap : Binds K t.d_Book_swap ["self", "name", "at", "sign"] []
  me_Book_swap : Meth K t.C_Book "swap" t.f_Book_swap
  F_Book_cut : Fun K "cut" "Book.cut" s_Book_cut t.f_Book_cut t.d_Book_cut
  b_Book_cut : Binds K t.d_Book_cut ["self", "name", "at"] []
  me_Book_cut : Meth K t.C_Book "cut" t.f_Book_cut
  F_law : Fun K "law" "law" s_law t.f_law t.d_law
  b_law : Binds K t.d_law ["_law_script"] []
  mg_law : mg "law" = some (.ref t.f_law)
  nb_all : mg "all" = none
  nb_any : mg "any" = none
  nb_bool : mg "bool" = none
  nb_enumerate : mg "enumerate" = none
  nb_int : mg "int" = none
  nb_isinstance : mg "isinstance" = none
  nb_len : mg "len" = none
  nb_list : mg "list" = none
  nb_min : mg "min" = none
  nb_range : mg "range" = none
  nb_str : mg "str" = none
  nb_tuple : mg "tuple" = none
  nb_zip : mg "zip" = none
  c_SMALL_KINDS : mg "SMALL_KINDS" = some (.ref t.a_SMALL_KINDS)
  q_SMALL_KINDS : ∀ H, SqT K H t.a_SMALL_KINDS [.str "s", .str "d", .str "r"]
  c_PARTING_KINDS : mg "PARTING_KINDS" = some (.ref t.a_PARTING_KINDS)
  q_PARTING_KINDS : ∀ H, SqT K H t.a_PARTING_KINDS [.str ".", .str "3", .str "2"]
  c_MEASURE_KINDS : mg "MEASURE_KINDS" = some (.ref t.a_MEASURE_KINDS)
  q_MEASURE_KINDS : ∀ H, SqT K H t.a_MEASURE_KINDS [.str "3", .str "2"]
  c_SOUNDING_KINDS : mg "SOUNDING_KINDS" = some (.ref t.a_SOUNDING_KINDS)
  q_SOUNDING_KINDS : ∀ H, SqT K H t.a_SOUNDING_KINDS [.str "G", .str "D", .str "s", .str "d"]
  c_SILENT_KINDS : mg "SILENT_KINDS" = some (.ref t.a_SILENT_KINDS)
  q_SILENT_KINDS : ∀ H, SqT K H t.a_SILENT_KINDS [.str "R", .str "r", .str ".", .str "3", .str "2"]
  c_HIGHEST_TONE : mg "HIGHEST_TONE" = some (.int 99 t.t_HIGHEST_TONE)
  c_TURNED_KINDS : mg "TURNED_KINDS" = some (.ref t.a_TURNED_KINDS)
  kd_TURNED_KINDS : KD K w t.a_TURNED_KINDS [("3", .str "2"), ("2", .str "3")]
  c_LETTERS : mg "LETTERS" = some (.str "abcdefghijklmnopqrstuvwxyz" t.t_LETTERS)
  c_LONGEST_NAME : mg "LONGEST_NAME" = some (.int 8 t.t_LONGEST_NAME)
  c_MOST_VOICES : mg "MOST_VOICES" = some (.int 12 t.t_MOST_VOICES)
  c_MOST_SIGNS : mg "MOST_SIGNS" = some (.int 200 t.t_MOST_SIGNS)
  mg_Voice : mg "Voice" = some (.ref t.C_Voice)
  mk_Voice : Mk K t.C_Voice t.f_Voice___init__
  cl_Voice : Cls K t.C_Voice
  na_Voice_name : NoAttr K t.C_Voice "name"
  na_Voice_terms : NoAttr K t.C_Voice "terms"
  na_Voice_signs : NoAttr K t.C_Voice "signs"
  mg_Deed : mg "Deed" = some (.ref t.C_Deed)
  mk_Deed : Mk K t.C_Deed t.f_Deed___init__
  cl_Deed : Cls K t.C_Deed
  na_Deed_things : NoAttr K t.C_Deed "things"
  na_Deed_at : NoAttr K t.C_Deed "at"
  na_Deed_before : NoAttr K t.C_Deed "before"
  na_Deed_after : NoAttr K t.C_Deed "after"
  mg_Book : mg "Book" = some (.ref t.C_Book)
  mk_Book : Mk K t.C_Book t.f_Book___init__
  cl_Book : Cls K t.C_Book
  na_Book_voices : NoAttr K t.C_Book "voices"
  na_Book_done : NoAttr K t.C_Book "done"
  na_Book_undone : NoAttr K t.C_Book "undone"
end Mine

namespace Mine
open PySem L2
def sp_Book_init (C : Addr) : Sp := fun vs H Q _ => ∃ (x dx : Addr), vs = [.ref x] ∧ H x = some (.ins C dx []) ∧
  ∀ (L D U : Addr) (H' : Hp), (∀ y o, H y = some o → y ≠ x → H' y = some o) → H L = none → H D = none → H U = none → L ≠ D → L ≠ U → D ≠ U → H' x = some (.ins C dx (boF L D U)) → H' L = some (.lst []) → H' D = some (.lst []) → H' U = some (.lst []) → Q .non H'
theorem ok_Book___init__ {P : Program} {w : World} {K : PySem.W.Frag} {mg : Str → Option Value} {base : Heap} {t : Adr} (T : Txt K w mg t) : FnOk P w K mg base CX0 (0 + 1) t.f_Book___init__ t.d_Book___init__ ["self"] (sp_Book_init t.C_Book) := by
  refine T.F_Book___init__.ok sc_Book___init__ (fun vs H Q E h => ?_) (fun cdv A outer s H vs Q E hr h => ?_)
  · obtain ⟨_, _, rfl, _⟩ := h
    rfl
  · obtain ⟨x, dx, rfl, hx, q⟩ := h
    refine bodyOk (pss_cons (ps_fld (pv 0) (pe_lst pa_nil) rfl) (pss_cons (ps_fld (pv 0) (pe_lst pa_nil) rfl) (pss_one (ps_fld (pv 0) (pe_lst pa_nil) rfl)))) ?_
    refine ⟨big (by show 0 ≤ 1000; omega), fun L hL => ?_⟩
    have xL : x ≠ L := ne_of_none hx hL
    refine ⟨_, rfl, x, _, dx, _, rfl, by rw [upd_ne xL]; exact hx, T.cl_Book, T.na_Book_voices, by show 0 < 1000; decide, ?_⟩
    refine ⟨big (by show 0 ≤ 1000; omega), fun D hD => ?_⟩
    have xD : x ≠ D := ne_of_none upd_same hD
    have DL : L ≠ D := ne_of_none (show upd (upd H L (.lst [])) x _ L = some (.lst []) by rw [upd_ne (Ne.symm xL)]; exact upd_same) hD
    have hD0 : H D = none := by rw [upd_ne (Ne.symm xD), upd_ne (Ne.symm DL)] at hD; exact hD
    refine ⟨_, rfl, x, _, dx, _, rfl, by rw [upd_ne xD]; exact upd_same, T.cl_Book, T.na_Book_done, by rw [boF_mk0]; show 1 < 1000; decide, ?_⟩
    refine ⟨big (by show 0 ≤ 1000; omega), fun U hU => ?_⟩
    have xU : x ≠ U := ne_of_none upd_same hU
    have DU : D ≠ U := by
      rintro rfl
      rw [upd_ne (Ne.symm xU), upd_same] at hU
      cases hU
    have LU : L ≠ U := by
      rintro rfl
      rw [upd_ne (Ne.symm xU), upd_ne DL, upd_ne (Ne.symm xU), upd_same] at hU
      cases hU
    have hU0 : H U = none := by rw [upd_ne (Ne.symm xU), upd_ne (Ne.symm DU), upd_ne (Ne.symm xU), upd_ne (Ne.symm LU)] at hU; exact hU
    refine ⟨_, rfl, x, _, dx, _, rfl, by rw [upd_ne xU]; exact upd_same, T.cl_Book, T.na_Book_undone, by rw [boF_mk0, boF_mk1]; show 2 < 1000; decide, ?_⟩
    rw [boF_mk0, boF_mk1, boF_mk2]
    refine q L D U _ (fun y o hy ny => ?_) hL hD0 hU0 DL LU DU upd_same ?_ ?_ ?_
    · rw [upd_ne ny, upd_ne (ne_of_none hy hU0), upd_ne ny, upd_ne (ne_of_none hy hD0), upd_ne ny, upd_ne (ne_of_none hy hL)]; exact hy
    · rw [upd_ne (Ne.symm xL), upd_ne LU, upd_ne (Ne.symm xL), upd_ne DL, upd_ne (Ne.symm xL)]; exact upd_same
    · rw [upd_ne (Ne.symm xD), upd_ne DU, upd_ne (Ne.symm xD)]; exact upd_same
    · rw [upd_ne (Ne.symm xU)]; exact upd_same

end Mine

namespace Mine
open PySem L2
def nameOk (x : Str) : Prop := 1 ≤ x.length ∧ x.length ≤ 8 ∧ ∀ c ∈ x.cps.toList, inS ⟨#[c]⟩ "abcdefghijklmnopqrstuvwxyz" = true
def sp_is_name : Sp := fun vs H Q _ => ∃ x : Str, vs = [.str x] ∧ nameOk x ∧ ∀ H', Same H H' → Q (.bl true) H'
theorem ok_is_name {P : Program} {w : World} {K : PySem.W.Frag} {mg : Str → Option Value} {base : Heap} {t : Adr} (T : Txt K w mg t) : FnOk P w K mg base CX0 (0 + 1) t.f_is_name t.d_is_name ["name"] sp_is_name := by
  refine T.F_is_name.ok sc_is_name (fun vs H Q E h => ?_) (fun cdv A outer s H vs Q E hr h => ?_)
  · obtain ⟨_, rfl, _⟩ := h
    rfl
  · obtain ⟨x, rfl, ⟨n1, n2, n3⟩, q⟩ := h
    refine bodyOk (pss_one (ps_ret (pe_mid (pe_and (pe_chain op_le op_le pe_int (pe_callB (call_len_seq.or call_len_str) rfl T.nb_len bt_len (pa_cons (pv 0) pa_nil)) (pe_glob (v := .int 8) rfl T.c_LONGEST_NAME ⟨_, rfl⟩)) (pe_one (pe_callB call_all rfl T.nb_all bt_all (pa_cons (pe_comp (cn := ["letter"]) rfl (CompFit.of rfl) (pi_str (pv 0)) (fun _ => (pg_name (i := 0) nd_is_name_0 rfl (Or.inl rfl))) (fun _ => pf_nil) (fun _ => (pe_cmpR (op_in_seq.or op_in_str) (pv 0) (pe_glob (v := .str "abcdefghijklmnopqrstuvwxyz") rfl T.c_LETTERS ⟨_, rfl⟩) rfl))) pa_nil))))))) ?_
    have xb : x.length ≤ sizeLine := Nat.le_trans n2 (by decide)
    refine ⟨fun v H' => v = .bl true ∧ Same H H', ?_, fun _ _ ⟨e1, e2⟩ => by rw [e1]; exact q _ e2⟩
    refine ⟨_, rfl, .inr ⟨_, rfl, xb, _, _, rfl, rfl, _, rfl, ?_⟩⟩
    refine ite2 (fun _ => ?_) (fun h => absurd (decide_eq_true (by omega)) h)
    refine ⟨_, _, rfl, rfl, _, rfl, ?_⟩
    refine ite2 (fun _ => ?_) (fun h => absurd (decide_eq_true (by omega)) h)
    refine ⟨_, rfl, _, rfl, fun D b hD => ?_⟩
    refine comp_str (fun i ys σ H' => ∃ v, σ = [v, some (.str x)] ∧ H' = upd H D (.lst ys) ∧ ys = (List.replicate i true).map V.bl ∧ i ≤ x.cps.size) ⟨none, rfl, rfl, rfl, Nat.zero_le _⟩ ?_ ?_
    · rintro i ys c σ H' hc ⟨v, rfl, rfl, rfl, hi⟩ N hN
      have hi2 : i < x.cps.size := (Array.getElem?_eq_some_iff.mp hc).1
      have hcm : c ∈ x.cps.toList := List.mem_of_getElem? (l := x.cps.toList) (i := i) (a := c) (by simpa using hc)
      have sz : x.cps.size ≤ 8 := n2
      refine compT_name ?_
      refine ⟨_, rfl, .inr ⟨_, _, rfl, rfl, upd_same, ?_, ?_⟩⟩
      · rw [List.length_map, List.length_replicate]
        exact small1000 (by omega)
      · refine hN _ _ _ ⟨_, rfl, upd_upd, ?_, hi2⟩
        have := n3 c hcm
        show (List.replicate i true).map V.bl ++ [V.bl (inS ⟨#[c]⟩ "abcdefghijklmnopqrstuvwxyz")] = _
        rw [this, List.replicate_succ', List.map_append]
        rfl
    · rintro ys σ H' ⟨v, rfl, rfl, rfl, hi⟩
      refine ⟨rfl, D, _, rfl, SqL.of upd_same, ?_, Same.upd hD⟩
      have e : (List.replicate x.cps.size true).all id = true := by
        rw [List.all_replicate]
        split <;> rfl
      rw [e]

end Mine

namespace Mine
open PySem L2
/-- the voices: their objects, with names, terms and lists -/
structure Vx where
  o : Addr
  d : Addr
  n : Str
  tm : V
  l : Addr
def VxAt (C : Addr) (H : Hp) (v : V) (a : Vx) : Prop := v = .ref a.o ∧ H a.o = some (.ins C a.d (voF a.n a.tm a.l))
def sp_Book_names (CB CV : Addr) : Sp := fun vs H Q _ => ∃ (x dx L D U : Addr) (xs : List V) (vx : List Vx), vs = [.ref x] ∧ H x = some (.ins CB dx (boF L D U)) ∧ H L = some (.lst xs) ∧ Paired (VxAt CV H) xs vx ∧ vx.length ≤ 12 ∧
  ∀ (l : Addr) (H' : Hp), H l = none → Same H H' → H' l = some (.lst (vx.map fun a => V.str a.n)) → Q (.ref l) H'
theorem ok_Book_names {P : Program} {w : World} {K : PySem.W.Frag} {mg : Str → Option Value} {base : Heap} {t : Adr} (T : Txt K w mg t) : FnOk P w K mg base CX0 (0 + 1) t.f_Book_names t.d_Book_names ["self"] (sp_Book_names t.C_Book t.C_Voice) := by
  refine T.F_Book_names.ok sc_Book_names (fun vs H Q E h => ?_) (fun cdv A outer s H vs Q E hr h => ?_)
  · obtain ⟨_, _, _, _, _, _, _, rfl, _⟩ := h
    rfl
  · obtain ⟨x, dx, L, D, U, xs, vx, rfl, hx, hL, g, hv, q⟩ := h
    refine bodyOk (pss_one (ps_ret (pe_comp (cn := ["voice"]) rfl (CompFit.of rfl) (pi_list (pe_fld (pv 0) rfl)) (fun _ => (pg_name (i := 0) nd_Book_names_1 rfl (Or.inl rfl))) (fun _ => pf_nil) (fun _ => (pe_fld (pv 0) rfl))))) ?_
    have xl := plen g
    refine ⟨_, rfl, x, _, dx, _, _, rfl, hx, T.cl_Book, T.na_Book_voices, boF_voices _ _ _, L, rfl, ⟨_, SqL.of hL⟩, fun D b hD => ?_⟩
    refine comp_list (K := K) (xs := xs) (fun i ys σ H' => ∃ v, σ = [v, some (.ref x)] ∧ H' = upd H D (.lst ys) ∧ ys = (vx.take i).map fun a => V.str a.n) ⟨none, rfl, rfl, by simp⟩ ?_ ?_ ?_
    · rintro i ys σ H' ⟨v, rfl, rfl, _⟩
      exact seq_upd (SqL.of hL) hD
    · rintro i ys y σ H' hy ⟨v, rfl, rfl, rfl⟩ N hN
      obtain ⟨a, e1, rfl, ha⟩ := pget g hy
      have hi : i < vx.length := (List.getElem?_eq_some_iff.mp e1).1
      refine compT_name ?_
      refine ⟨_, rfl, a.o, _, a.d, _, _, rfl, by rw [upd_ne (ne_of_none ha hD)]; exact ha, T.cl_Voice, T.na_Voice_name, voF_name _ _ _, upd_same, ?_, ?_⟩
      · rw [List.length_map, List.length_take]
        exact small1000 (by omega)
      · refine hN _ _ _ ⟨_, rfl, upd_upd, ?_⟩
        rw [List.take_succ, e1]
        simp
    · rintro ys σ H' ⟨v, rfl, rfl, rfl⟩
      rw [xl, List.take_length]
      exact q D _ hD (Same.upd hD) upd_same

end Mine

namespace Mine
open PySem L2
theorem inV_mem' {x : Str} {l : List V} (h : inV (.str x) l = true) : V.str x ∈ l := by
  unfold inV at h
  obtain ⟨y, hy, e⟩ := List.any_eq_true.mp h
  cases y with
  | str z =>
    have : z = x := by simpa [eqV] using e
    rw [← this]
    exact hy
  | _ => simp [eqV] at e
def sp_Book_refuse_new (CB CV : Addr) : Sp := fun vs H Q _ => ∃ (x dx L D U : Addr) (xs : List V) (vx : List Vx) (n : Str), vs = [.ref x, .str n] ∧ H x = some (.ins CB dx (boF L D U)) ∧ H L = some (.lst xs) ∧ Paired (VxAt CV H) xs vx ∧ vx.length < 12 ∧ nameOk n ∧ (∀ a ∈ vx, a.n ≠ n) ∧
  ∀ (H' : Hp), Same H H' → Q .non H'
theorem ok_Book_refuse_new {P : Program} {w : World} {K : PySem.W.Frag} {mg : Str → Option Value} {base : Heap} {t : Adr} (T : Txt K w mg t) : FnOk P w K mg base CX0 (0 + 2) t.f_Book_refuse_new t.d_Book_refuse_new ["self", "name"] (sp_Book_refuse_new t.C_Book t.C_Voice) := by
  have G_is_name := ok_is_name (P := P) (w := w) (base := base) T
  have G_Book_names := ok_Book_names (P := P) (w := w) (base := base) T
  refine T.F_Book_refuse_new.ok sc_Book_refuse_new (fun vs H Q E h => ?_) (fun cdv A outer s H vs Q E hr h => ?_)
  · obtain ⟨_, _, _, _, _, _, _, _, rfl, _⟩ := h
    rfl
  · obtain ⟨x, dx, L, D, U, xs, vx, n, rfl, hx, hL, g, hv, hn, hno, q⟩ := h
    refine bodyOk (pss_cons (ps_if (pt_not (pt_val (pe_call G_is_name (hr.mono (by decide)) rfl T.mg_is_name T.F_is_name.kp T.b_is_name .nil pass0 (pa_cons (pv 1) pa_nil)))) (pss_one ps_never) pss_nil) (pss_cons (ps_if (pt_cmpR (op_in_seq.or op_in_str) (pv 1) (pe_meth0 (pv 0) T.cl_Book T.me_Book_names G_Book_names (hr.mono (by decide)) T.b_Book_names .nil pass0) rfl) (pss_one ps_never) pss_nil) (pss_one (ps_if (pt_cmpR op_ge (pe_callB (call_len_seq.or call_len_str) rfl T.nb_len bt_len (pa_cons (pe_fld (pv 0) rfl) pa_nil)) (pe_glob (v := .int 12) rfl T.c_MOST_VOICES ⟨_, rfl⟩) (nomark _)) (pss_one ps_never) pss_nil)))) ?_
    have xl := plen g
    refine ⟨_, rfl, n, rfl, hn, fun H1 s1 => ⟨_, rfl, iteF ?_⟩⟩
    refine ⟨_, rfl, _, rfl, x, dx, _, rfl, s1 _ _ hx, boF_no_names _ _ _, ?_⟩
    refine ⟨x, dx, L, D, U, xs, vx, rfl, s1 _ _ hx, s1 _ _ hL, pmono (fun _ _ ⟨e1, e2⟩ => ⟨e1, s1 _ _ e2⟩) g, by omega, fun l H2 hl s2 hl2 => ?_⟩
    refine .inl ⟨l, _, rfl, .inl (SqL.of hl2), rfl, ?_, _, rfl, ?_⟩
    · rw [List.all_map]
      exact List.all_eq_true.mpr fun _ _ => rfl
    refine ite2 (fun h => ?_) (fun _ => ?_)
    · obtain ⟨a, ha, e⟩ := List.mem_map.mp (inV_mem' (show inV (.str n) (vx.map fun a => V.str a.n) = true from h))
      exact absurd (V.str.inj e) (hno a ha)
    have s3 := s1.trans s2
    refine ⟨_, rfl, x, _, dx, _, _, rfl, s3 _ _ hx, T.cl_Book, T.na_Book_voices, boF_voices _ _ _, ?_⟩
    refine .inl ⟨L, xs, rfl, .inl (SqL.of (s3 _ _ hL)), ?_⟩
    refine ⟨_, _, rfl, rfl, _, rfl, ?_⟩
    refine ite2 (fun h => ?_) (fun _ => q _ s3)
    have := of_decide_eq_true h
    omega

end Mine

namespace Mine
open PySem L2
def sp_Deed_do (C : Addr) : Sp := fun vs H Q _ => ∃ (x dx T_ B A : Addr) (i : Nat) (xs bs as : List V), vs = [.ref x] ∧ H x = some (.ins C dx (deF T_ (i : Int) B A)) ∧ H T_ = some (.lst xs) ∧ H B = some (.lst bs) ∧ H A = some (.lst as) ∧ T_ ≠ A ∧ i + bs.length ≤ xs.length ∧ xs.length + as.length ≤ 1000 ∧
  Q .non (upd H T_ (.lst (xs.take i ++ as ++ xs.drop (i + bs.length))))
theorem ok_Deed_do {P : Program} {w : World} {K : PySem.W.Frag} {mg : Str → Option Value} {base : Heap} {t : Adr} (T : Txt K w mg t) : FnOk P w K mg base CX0 (0 + 1) t.f_Deed_do t.d_Deed_do ["self"] (sp_Deed_do t.C_Deed) := by
  refine T.F_Deed_do.ok sc_Deed_do (fun vs H Q E h => ?_) (fun cdv A outer s H vs Q E hr h => ?_)
  · obtain ⟨_, _, _, _, _, _, _, _, _, rfl, _⟩ := h
    rfl
  · obtain ⟨x, dx, T_, B, A_, i, xs, bs, as, rfl, hx, hT, hB, hA, hne, hi, hz, q⟩ := h
    refine bodyOk (pss_one (ps_asg (pe_fld (pv 0) rfl) (pg_slice (pe_fld (pv 0) rfl) (po_some (pe_fld (pv 0) rfl)) (po_some (pe_op (op_add.or (op_add_str.or op_cat)) (pe_fld (pv 0) rfl) (pe_callB (call_len_seq.or call_len_str) rfl T.nb_len bt_len (pa_cons (pe_fld (pv 0) rfl) pa_nil))))))) ?_
    refine ⟨_, rfl, x, _, dx, _, _, rfl, hx, T.cl_Deed, T.na_Deed_after, deF_after _ _ _ _, ?_⟩
    refine ⟨_, rfl, x, _, dx, _, _, rfl, hx, T.cl_Deed, T.na_Deed_things, deF_things _ _ _ _, ?_⟩
    refine ⟨_, rfl, x, _, dx, _, _, rfl, hx, T.cl_Deed, T.na_Deed_at, deF_at _ _ _ _, _, rfl, ?_⟩
    refine ⟨_, rfl, x, _, dx, _, _, rfl, hx, T.cl_Deed, T.na_Deed_at, deF_at _ _ _ _, ?_⟩
    refine ⟨_, rfl, x, _, dx, _, _, rfl, hx, T.cl_Deed, T.na_Deed_before, deF_before _ _ _ _, ?_⟩
    refine .inl ⟨B, bs, rfl, .inl (SqL.of hB), .inl ⟨_, _, rfl, rfl, _, rfl, ?_⟩⟩
    refine ⟨T_, A_, xs, as, (i : Int), ((i + bs.length : Nat) : Int), rfl, rfl, rfl, by simp, hT, hA, hne, by omega, by omega, by omega, Nat.le_trans hz (by decide), ?_⟩
    rw [Int.toNat_natCast, Int.toNat_natCast]
    exact q

end Mine

namespace Mine
open PySem L2
def sp_Book_perform (CB CD : Addr) : Sp := fun vs H Q _ => ∃ (x dx L D U d dd T_ B A : Addr) (i : Nat) (ds us xs bs as : List V), vs = [.ref x, .ref d] ∧ H x = some (.ins CB dx (boF L D U)) ∧ H D = some (.lst ds) ∧ H U = some (.lst us) ∧ H d = some (.ins CD dd (deF T_ (i : Int) B A)) ∧ H T_ = some (.lst xs) ∧ H B = some (.lst bs) ∧ H A = some (.lst as) ∧ T_ ≠ A ∧ T_ ≠ D ∧ T_ ≠ U ∧ D ≠ U ∧ i + bs.length ≤ xs.length ∧ xs.length + as.length ≤ 1000 ∧ ds.length ≤ 900 ∧
  Q .non (upd (upd (upd H T_ (.lst (xs.take i ++ as ++ xs.drop (i + bs.length)))) D (.lst (ds ++ [.ref d]))) U (.lst []))
theorem ok_Book_perform {P : Program} {w : World} {K : PySem.W.Frag} {mg : Str → Option Value} {base : Heap} {t : Adr} (T : Txt K w mg t) : FnOk P w K mg base CX0 (0 + 2) t.f_Book_perform t.d_Book_perform ["self", "deed"] (sp_Book_perform t.C_Book t.C_Deed) := by
  have G_Deed_do := ok_Deed_do (P := P) (w := w) (base := base) T
  refine T.F_Book_perform.ok sc_Book_perform (fun vs H Q E h => ?_) (fun cdv A outer s H vs Q E hr h => ?_)
  · obtain ⟨_, _, _, _, _, _, _, _, _, _, _, _, _, _, _, _, rfl, _⟩ := h
    rfl
  · obtain ⟨x, dx, L, D, U, d, dd, T_, B, A_, i, ds, us, xs, bs, as, rfl, hx, hD, hU, hd, hT, hB, hA, n1, n2, n3, n4, hi, hz, hds, q⟩ := h
    refine bodyOk (pss_cons (ps_expr (pe_meth0 (pv 1) T.cl_Deed T.me_Deed_do G_Deed_do (hr.mono (by decide)) T.b_Deed_do .nil pass0)) (pss_cons (ps_expr (pe_bm PySem.F.plainAttrs_list PySem.F.slot_list_append PySem.F.type_list_append mt_append (pe_fld (pv 0) rfl) (pa_cons (pv 1) pa_nil))) (pss_one (ps_expr (pe_bm0 PySem.F.plainAttrs_list PySem.F.slot_list_clear PySem.F.type_list_clear mt_clear (pe_fld (pv 0) rfl)))))) ?_
    have xT : x ≠ T_ := ne_of hx hT (by intro z; cases z)
    have xD : x ≠ D := ne_of hx hD (by intro z; cases z)
    refine ⟨_, rfl, d, dd, _, rfl, hd, deF_no_do _ _ _ _, ?_⟩
    refine ⟨d, dd, T_, B, A_, i, xs, bs, as, rfl, hd, hT, hB, hA, n1, hi, hz, ?_⟩
    refine ⟨_, rfl, x, _, dx, _, _, rfl, by rw [upd_ne xT]; exact hx, T.cl_Book, T.na_Book_done, boF_done _ _ _, ?_⟩
    refine ⟨.inl ⟨rfl, _, SqL.of (show upd H T_ _ D = some (.lst ds) by rw [upd_ne (Ne.symm n2)]; exact hD)⟩, _, rfl, D, _, _, rfl, rfl, by rw [upd_ne (Ne.symm n2)]; exact hD, small1000 (by omega), ?_⟩
    refine ⟨_, rfl, x, _, dx, _, _, rfl, by rw [upd_ne xD, upd_ne xT]; exact hx, T.cl_Book, T.na_Book_undone, boF_undone _ _ _, ?_⟩
    have hU2 : upd (upd H T_ (.lst (xs.take i ++ as ++ xs.drop (i + bs.length)))) D (.lst (ds ++ [.ref d])) U = some (.lst us) := by rw [upd_ne (Ne.symm n4), upd_ne (Ne.symm n3)]; exact hU
    exact ⟨.inl ⟨rfl, _, SqL.of hU2⟩, U, _, rfl, rfl, hU2, q⟩

end Mine

namespace Mine
open PySem L2
def sp_Deed_init (C : Addr) : Sp := fun vs H Q _ => ∃ (x dx : Addr) (T_ : Addr) (i : Int) (B A : Addr), vs = [.ref x, .ref T_, .int i, .ref B, .ref A] ∧ H x = some (.ins C dx []) ∧
  Q .non (upd H x (.ins C dx (deF T_ i B A)))
theorem ok_Deed___init__ {P : Program} {w : World} {K : PySem.W.Frag} {mg : Str → Option Value} {base : Heap} {t : Adr} (T : Txt K w mg t) : FnOk P w K mg base CX0 (0 + 1) t.f_Deed___init__ t.d_Deed___init__ ["self", "things", "at", "before", "after"] (sp_Deed_init t.C_Deed) := by
  refine T.F_Deed___init__.ok sc_Deed___init__ (fun vs H Q E h => ?_) (fun cdv A outer s H vs Q E hr h => ?_)
  · obtain ⟨_, _, _, _, _, _, rfl, _⟩ := h
    rfl
  · obtain ⟨x, dx, T_, i, B, A_, rfl, hx, q⟩ := h
    refine bodyOk (pss_cons (ps_fld (pv 0) (pv 1) rfl) (pss_cons (ps_fld (pv 0) (pv 2) rfl) (pss_cons (ps_fld (pv 0) (pv 3) rfl) (pss_one (ps_fld (pv 0) (pv 4) rfl))))) ?_
    refine ⟨_, rfl, _, rfl, x, _, dx, _, rfl, hx, T.cl_Deed, T.na_Deed_things, by show 0 < 1000; decide, ?_⟩
    refine ⟨_, rfl, _, rfl, x, _, dx, _, rfl, upd_same, T.cl_Deed, T.na_Deed_at, by rw [deF_mk0]; show 1 < 1000; decide, ?_⟩
    refine ⟨_, rfl, _, rfl, x, _, dx, _, rfl, upd_same, T.cl_Deed, T.na_Deed_before, by rw [deF_mk0, deF_mk1]; show 2 < 1000; decide, ?_⟩
    refine ⟨_, rfl, _, rfl, x, _, dx, _, rfl, upd_same, T.cl_Deed, T.na_Deed_after, by rw [deF_mk0, deF_mk1, deF_mk2]; show 3 < 1000; decide, ?_⟩
    rw [deF_mk0, deF_mk1, deF_mk2, deF_mk3]
    simp only [upd_upd]
    exact q

end Mine

namespace Mine
open PySem L2
def sp_Book_put_in (CB : Addr) : Sp := fun vs H Q _ => ∃ (x dx L D U v : Addr) (xs ds us : List V), vs = [.ref x, .ref v] ∧ H x = some (.ins CB dx (boF L D U)) ∧ H L = some (.lst xs) ∧ H D = some (.lst ds) ∧ H U = some (.lst us) ∧ L ≠ D ∧ L ≠ U ∧ D ≠ U ∧ xs.length ≤ 12 ∧ ds.length ≤ 900 ∧
  ∀ (d : Addr) (H' : Hp), (∀ y o, H y = some o → y ≠ L → y ≠ D → y ≠ U → H' y = some o) → H' L = some (.lst (xs ++ [.ref v])) → H' D = some (.lst (ds ++ [.ref d])) → H' U = some (.lst []) → Q .non H'
theorem ok_Book_put_in {P : Program} {w : World} {K : PySem.W.Frag} {mg : Str → Option Value} {base : Heap} {t : Adr} (T : Txt K w mg t) : FnOk P w K mg base CX0 (0 + 3) t.f_Book_put_in t.d_Book_put_in ["self", "voice"] (sp_Book_put_in t.C_Book) := by
  have G_Book_perform := ok_Book_perform (P := P) (w := w) (base := base) T
  have G_Deed___init__ := ok_Deed___init__ (P := P) (w := w) (base := base) T
  refine T.F_Book_put_in.ok sc_Book_put_in (fun vs H Q E h => ?_) (fun cdv A outer s H vs Q E hr h => ?_)
  · obtain ⟨_, _, _, _, _, _, _, _, _, rfl, _⟩ := h
    rfl
  · obtain ⟨x, dx, L, D, U, v, xs, ds, us, rfl, hx, hL, hD, hU, n1, n2, n3, hxs, hds, q⟩ := h
    refine bodyOk (pss_one (ps_expr (pe_meth (pv 0) T.cl_Book T.me_Book_perform G_Book_perform (hr.mono (by decide)) T.b_Book_perform .nil pass0 (pa_cons (pe_make T.mk_Deed G_Deed___init__ (hr.mono (by decide)) rfl T.mg_Deed T.b_Deed___init__ .nil pass0 (pa_cons (pe_fld (pv 0) rfl) (pa_cons (pe_callB (call_len_seq.or call_len_str) rfl T.nb_len bt_len (pa_cons (pe_fld (pv 0) rfl) pa_nil)) (pa_cons (pe_lst pa_nil) (pa_cons (pe_lst (pa_cons (pv 1) pa_nil)) pa_nil))))) pa_nil)))) ?_
    refine ⟨_, rfl, x, dx, _, rfl, hx, boF_no_perform _ _ _, ?_⟩
    refine ⟨_, rfl, x, _, dx, _, _, rfl, hx, T.cl_Book, T.na_Book_voices, boF_voices _ _ _, ?_⟩
    refine ⟨_, rfl, x, _, dx, _, _, rfl, hx, T.cl_Book, T.na_Book_voices, boF_voices _ _ _, ?_⟩
    refine .inl ⟨L, xs, rfl, .inl (SqL.of hL), ?_⟩
    refine ⟨big (by show 0 ≤ 1000; omega), fun B hB => ?_⟩
    refine ⟨_, rfl, big (by show 1 ≤ 1000; omega), fun A_ hA => ?_⟩
    have LA : L ≠ A_ := ne_of_none (Same.upd (o := .lst []) hB _ _ hL) hA
    have sB := (Same.upd (o := .lst []) hB).trans (Same.upd (o := .lst [V.ref v]) hA)
    have hB2 := Same.upd (o := .lst [V.ref v]) hA _ _ (upd_same (H := H) (a := B) (o := .lst []))
    have hA2 := upd_same (H := upd H B (.lst [])) (a := A_) (o := .lst [V.ref v])
    generalize upd (upd H B (.lst [])) A_ (.lst [V.ref v]) = H2 at sB hB2 hA2
    intro d dd nd ndd ne
    refine ⟨d, dd, L, (xs.length : Int), B, A_, rfl, upd_same, rfl, ?_⟩
    rw [upd_upd]
    have s3 : Same H2 (upd (upd H2 dd (.own d)) d (.ins t.C_Deed dd (deF L (xs.length : Int) B A_))) := fun y o hy => by
      rw [upd_ne (ne_of_none hy nd), upd_ne (ne_of_none hy ndd)]
      exact hy
    have hd3 := upd_same (H := upd H2 dd (.own d)) (a := d) (o := .ins t.C_Deed dd (deF L (xs.length : Int) B A_))
    generalize upd (upd H2 dd (.own d)) d (.ins t.C_Deed dd (deF L (xs.length : Int) B A_)) = H3 at s3 hd3
    have s4 := sB.trans s3
    refine ⟨x, dx, L, D, U, d, dd, L, B, A_, xs.length, ds, us, xs, [], [.ref v], rfl, s4 _ _ hx, s4 _ _ hD, s4 _ _ hU, hd3, s4 _ _ hL, s3 _ _ hB2, s3 _ _ hA2, LA, n1, n2, n3, by simp, by simp; omega, hds, ?_⟩
    refine q d _ (fun y o hy y1 y2 y3 => ?_) ?_ ?_ upd_same
    · rw [upd_ne y3, upd_ne y2, upd_ne y1]
      exact s4 _ _ hy
    · rw [upd_ne n2, upd_ne n1, upd_same]
      simp
    · rw [upd_ne n3, upd_same]

end Mine

namespace Mine
open PySem L2
def sp_Voice_init (C : Addr) : Sp := fun vs H Q _ => ∃ (x dx : Addr) (n : Str) (tm : V), vs = [.ref x, .str n, tm] ∧ H x = some (.ins C dx []) ∧
  ∀ (L : Addr) (H' : Hp), (∀ y o, H y = some o → y ≠ x → H' y = some o) → H L = none → L ≠ x → H' x = some (.ins C dx (voF n tm L)) → H' L = some (.lst []) → Q .non H'
theorem ok_Voice___init__ {P : Program} {w : World} {K : PySem.W.Frag} {mg : Str → Option Value} {base : Heap} {t : Adr} (T : Txt K w mg t) : FnOk P w K mg base CX0 (0 + 1) t.f_Voice___init__ t.d_Voice___init__ ["self", "name", "terms"] (sp_Voice_init t.C_Voice) := by
  refine T.F_Voice___init__.ok sc_Voice___init__ (fun vs H Q E h => ?_) (fun cdv A outer s H vs Q E hr h => ?_)
  · obtain ⟨_, _, _, _, rfl, _⟩ := h
    rfl
  · obtain ⟨x, dx, n, tm, rfl, hx, q⟩ := h
    refine bodyOk (pss_cons (ps_fld (pv 0) (pv 1) rfl) (pss_cons (ps_fld (pv 0) (pv 2) rfl) (pss_one (ps_fld (pv 0) (pe_lst pa_nil) rfl)))) ?_
    refine ⟨_, rfl, _, rfl, x, _, dx, _, rfl, hx, T.cl_Voice, T.na_Voice_name, by show 0 < 1000; decide, ?_⟩
    refine ⟨_, rfl, _, rfl, x, _, dx, _, rfl, upd_same, T.cl_Voice, T.na_Voice_terms, by rw [voF_mk0]; show 1 < 1000; decide, ?_⟩
    refine ⟨big (by show 0 ≤ 1000; omega), fun L hL => ?_⟩
    rw [upd_upd] at hL
    have nx : x ≠ L := fun e => by rw [← e, upd_same] at hL; cases hL
    have hL0 : H L = none := by rw [upd_ne (Ne.symm nx)] at hL; exact hL
    refine ⟨_, rfl, x, _, dx, _, rfl, by rw [upd_ne nx, upd_upd]; exact upd_same, T.cl_Voice, T.na_Voice_signs, by rw [voF_mk0, voF_mk1]; show 2 < 1000; decide, ?_⟩
    rw [voF_mk0, voF_mk1, voF_mk2]
    simp only [upd_upd]
    refine q L _ (fun y o hy ny => ?_) hL0 (Ne.symm nx) upd_same ?_
    · rw [upd_ne ny, upd_ne (ne_of_none hy hL0), upd_ne ny]; exact hy
    · rw [upd_ne (Ne.symm nx)]; exact upd_same

end Mine

namespace Mine
open PySem L2
def sp_Book_add_voice (CB CV : Addr) : Sp := fun vs H Q _ => ∃ (x dx L D U : Addr) (xs ds us : List V) (vx : List Vx) (n : Str), vs = [.ref x, .str n] ∧ H x = some (.ins CB dx (boF L D U)) ∧ H L = some (.lst xs) ∧ H D = some (.lst ds) ∧ H U = some (.lst us) ∧ L ≠ D ∧ L ≠ U ∧ D ≠ U ∧ Paired (VxAt CV H) xs vx ∧ vx.length < 12 ∧ nameOk n ∧ (∀ a ∈ vx, a.n ≠ n) ∧ ds.length ≤ 900 ∧
  ∀ (a : Vx) (d : Addr) (H' : Hp), a.n = n → a.tm = .non → H a.o = none → H a.l = none → (∀ y o, H y = some o → y ≠ L → y ≠ D → y ≠ U → H' y = some o) → H' L = some (.lst (xs ++ [.ref a.o])) → VxAt CV H' (.ref a.o) a → H' a.l = some (.lst []) → H' D = some (.lst (ds ++ [.ref d])) → H' U = some (.lst []) → Q .non H'
theorem ok_Book_add_voice {P : Program} {w : World} {K : PySem.W.Frag} {mg : Str → Option Value} {base : Heap} {t : Adr} (T : Txt K w mg t) : FnOk P w K mg base CX0 (0 + 4) t.f_Book_add_voice t.d_Book_add_voice ["self", "name"] (sp_Book_add_voice t.C_Book t.C_Voice) := by
  have G_Book_refuse_new := ok_Book_refuse_new (P := P) (w := w) (base := base) T
  have G_Book_put_in := ok_Book_put_in (P := P) (w := w) (base := base) T
  have G_Voice___init__ := ok_Voice___init__ (P := P) (w := w) (base := base) T
  refine T.F_Book_add_voice.ok sc_Book_add_voice (fun vs H Q E h => ?_) (fun cdv A outer s H vs Q E hr h => ?_)
  · obtain ⟨_, _, _, _, _, _, _, _, _, _, rfl, _⟩ := h
    rfl
  · obtain ⟨x, dx, L, D, U, xs, ds, us, vx, n, rfl, hx, hL, hD, hU, n1, n2, n3, g, hv, hn, hno, hds, q⟩ := h
    refine bodyOk (pss_cons (ps_expr (pe_meth (pv 0) T.cl_Book T.me_Book_refuse_new G_Book_refuse_new (hr.mono (by decide)) T.b_Book_refuse_new .nil pass0 (pa_cons (pv 1) pa_nil))) (pss_one (ps_expr (pe_meth (pv 0) T.cl_Book T.me_Book_put_in G_Book_put_in (hr.mono (by decide)) T.b_Book_put_in .nil pass0 (pa_cons (pe_make T.mk_Voice G_Voice___init__ (hr.mono (by decide)) rfl T.mg_Voice T.b_Voice___init__ .nil pass0 (pa_cons (pv 1) (pa_cons pe_non pa_nil))) pa_nil))))) ?_
    have xl := plen g
    refine ⟨_, rfl, x, dx, _, rfl, hx, boF_no_refuse_new _ _ _, _, rfl, x, dx, L, D, U, xs, vx, n, rfl, hx, hL, g, hv, hn, hno, fun H1 s1 => ?_⟩
    refine ⟨_, rfl, x, dx, _, rfl, s1 _ _ hx, boF_no_put_in _ _ _, _, rfl, ?_⟩
    intro v dv nv ndv ne
    refine ⟨v, dv, n, .non, rfl, upd_same, fun l H2 kp hl hlv hv2 hl2 => ⟨rfl, ?_⟩⟩
    have s2 : Same H1 H2 := fun y o hy => kp y o (by rw [upd_ne (ne_of_none hy nv), upd_ne (ne_of_none hy ndv)]; exact hy) (ne_of_none hy nv)
    have s3 := s1.trans s2
    have hl1 : H1 l = none := by
      unfold upd at hl
      split at hl
      · cases hl
      · split at hl
        · cases hl
        · exact hl
    refine ⟨x, dx, L, D, U, v, xs, ds, us, rfl, s3 _ _ hx, s3 _ _ hL, s3 _ _ hD, s3 _ _ hU, n1, n2, n3, by omega, hds, fun d H' kp' e1 e2 e3 => ?_⟩
    have fr : ∀ {y : Addr}, H1 y = none → ∀ {z : Addr} {o : HO}, H z = some o → y ≠ z := fun {y} hy {z o} hz e => by
      have := s1 _ _ hz
      rw [← e, hy] at this
      cases this
    refine q ⟨v, dv, n, .non, l⟩ d H' rfl rfl ?_ ?_ (fun y o hy y1 y2 y3 => kp' y o (s3 _ _ hy) y1 y2 y3) e1 ⟨rfl, kp' _ _ hv2 (fr nv hL) (fr nv hD) (fr nv hU)⟩ (kp' _ _ hl2 (fr hl1 hL) (fr hl1 hD) (fr hl1 hU)) e2 e3
    · exact s1.free nv
    · exact s1.free hl1

end Mine

namespace Mine
open PySem L2
def l24 : List Kd := [.G, .G, .G, .G, .G, .s, .s, .s, .s, .s, .s, .s, .s, .s, .d, .d, .r, .r, .D, .R, .dot, .dot, .three, .two]
theorem cps24 : (Str.ofString "GGGGGsssssssssddrrDR..32").cps.toList = l24.map Kd.cp := by decide +kernel
theorem k_sounds (k : Kd) : inS k.str "GDsd" = k.sounds := by cases k <;> decide +kernel
def GoodT (s : Sg) : Prop := (s.1.sounds = true → 0 ≤ s.2 ∧ s.2 < 100) ∧ (s.1.sounds = false → s.2 = 0)
def sp_l_sign_by : Sp := fun vs H Q _ => ∃ m : Int, vs = [.int m] ∧ ∀ (p : Addr) (s : Sg), GoodT s → H p = none → Q (.ref p) (upd H p (.tup [.str s.1.str, .int s.2]))
theorem ok_l_sign_by {P : Program} {w : World} {K : PySem.W.Frag} {mg : Str → Option Value} {base : Heap} {t : Adr} (T : Txt K w mg t) : FnOk P w K mg base CX0 (0 + 1) t.f_l_sign_by t.d_l_sign_by ["_law_number"] sp_l_sign_by := by
  refine T.F_l_sign_by.ok sc_l_sign_by (fun vs H Q E h => ?_) (fun cdv A outer s H vs Q E hr h => ?_)
  · obtain ⟨_, rfl, _⟩ := h
    rfl
  · obtain ⟨m, rfl, q⟩ := h
    refine bodyOk (pss_cons (ps_set (i := 1) sc_l_sign_by.nd rfl (Or.inl rfl) (pe_ix ix_seq pe_str (pe_op op_mod (pv 0) pe_int) (fun _ _ => rfl))) (pss_cons (ps_if (pt_cmpR (op_in_seq.or op_in_str) (pv 1) pe_str rfl) (pss_one (ps_ret (pe_tup (pa_cons (pv 1) (pa_cons (pe_op op_mod (pe_op op_fdiv (pv 0) pe_int) pe_int) pa_nil))))) pss_nil) (pss_one (ps_ret (pe_tup (pa_cons (pv 1) (pa_cons pe_int pa_nil))))))) ?_
    obtain ⟨k, hk⟩ : ∃ k, l24[(m % 24).toNat]? = some k := by
      have h1 : (m % 24).toNat < l24.length := by
        show _ < 24
        omega
      exact ⟨_, List.getElem?_eq_getElem h1⟩
    have hat : atI (Str.ofString "GGGGGsssssssssddrrDR..32").cps.toList (m % 24) = some k.cp := by
      have e0 : m % 24 = (((m % 24).toNat : Nat) : Int) := by omega
      rw [e0, cps24]
      exact atI_nat (by rw [List.getElem?_map, hk]; rfl)
    refine ⟨_, rfl, _, _, rfl, rfl, (by decide : (0 : Int) < 24), .inr (.inr ⟨_, _, _, rfl, rfl, (by decide +kernel), hat, ?_⟩)⟩
    rw [← kd_cp k]
    (repeat array_get_dec)
    refine ite2 (fun h => ?_) (fun h => ?_)
    · have h4 : k.sounds = true := by rw [← k_sounds]; exact h
      (repeat array_get_dec)
      refine ⟨(by show 2 ≤ sizeLine; decide), fun p hp => ?_⟩
      exact q p (k, m / 24 % 100) ⟨fun _ => by show 0 ≤ m / 24 % 100 ∧ m / 24 % 100 < 100; omega, fun z => by rw [h4] at z; cases z⟩ hp
    · have h4 : k.sounds = false := by
        rw [← k_sounds]
        exact Bool.eq_false_iff.mpr h
      (repeat array_get_dec)
      refine ⟨(by show 2 ≤ sizeLine; decide), fun p hp => ?_⟩
      exact q p (k, 0) ⟨(fun z => by rw [h4] at z; cases z), fun _ => rfl⟩ hp

end Mine

namespace Mine
open PySem L2
def sp_Book_voice_called (CB CV : Addr) : Sp := fun vs H Q _ => ∃ (x dx L D U : Addr) (xs : List V) (vx : List Vx) (j : Nat) (a : Vx), vs = [.ref x, .str a.n] ∧ H x = some (.ins CB dx (boF L D U)) ∧ H L = some (.lst xs) ∧ Paired (VxAt CV H) xs vx ∧ vx[j]? = some a ∧ (∀ i b, i < j → vx[i]? = some b → b.n ≠ a.n) ∧ Q (.ref a.o) H
theorem ok_Book_voice_called {P : Program} {w : World} {K : PySem.W.Frag} {mg : Str → Option Value} {base : Heap} {t : Adr} (T : Txt K w mg t) : FnOk P w K mg base CX0 (0 + 1) t.f_Book_voice_called t.d_Book_voice_called ["self", "name"] (sp_Book_voice_called t.C_Book t.C_Voice) := by
  refine T.F_Book_voice_called.ok sc_Book_voice_called (fun vs H Q E h => ?_) (fun cdv A outer s H vs Q E hr h => ?_)
  · obtain ⟨_, _, _, _, _, _, _, _, _, rfl, _⟩ := h
    rfl
  · obtain ⟨x, dx, L, D, U, xs, vx, j, a, rfl, hx, hL, g, hj, hno, q⟩ := h
    refine bodyOk (pss_cons (ps_for PassesOwn.never rfl (pi_list (pe_fld (pv 0) rfl)) (pg_name (i := 2) sc_Book_voice_called.nd rfl (Or.inl rfl)) (pss_one (ps_if (pt_cmpR (op_eq.or (op_eqD (hu_of64 hr))) (pe_fld (pv 2) rfl) (pv 1) (nomark _)) (pss_one (ps_ret (pv 2))) pss_nil))) (pss_one ps_never)) ?_
    have xl := plen g
    have hjl : j < vx.length := (List.getElem?_eq_some_iff.mp hj).1
    refine ⟨_, rfl, x, _, dx, _, _, rfl, hx, T.cl_Book, T.na_Book_voices, boF_voices _ _ _, L, rfl, ⟨_, SqL.of hL⟩, for_list (K := K) (xs := xs) (fun i σ H' => ∃ v, σ = [some (.ref x), some (.str a.n), v] ∧ H' = H ∧ i ≤ j) ⟨none, rfl, rfl, Nat.zero_le _⟩ ?_ ?_ ?_⟩
    · rintro i σ H1 _ ⟨v, rfl, eH, _⟩
      rw [eH]
      exact SqL.of hL
    · rintro i y σ H1 hy ⟨v, rfl, eH, hi⟩
      have eH := eH.symm
      subst eH
      obtain ⟨b, e1, rfl, hb⟩ := pget g hy
      refine ⟨_, rfl, b.o, _, b.d, _, _, rfl, hb, T.cl_Voice, T.na_Voice_name, voF_name _ _ _, ?_⟩
      refine ⟨_, rfl, .inl ⟨rfl, _, rfl, ?_⟩⟩
      refine ite2 (fun h => ?_) (fun h => ?_)
      · have e : b.n = a.n := V.str.inj (of_decide_eq_true h)
        have hij : i = j := by
          rcases Nat.lt_or_ge i j with z | z
          · exact absurd e (hno i b z e1)
          · omega
        rw [hij, hj] at e1
        cases e1
        exact ⟨_, rfl, q⟩
      · refine ⟨_, rfl, rfl, ?_⟩
        rcases Nat.lt_or_ge i j with z | z
        · exact z
        · have hij : i = j := by omega
          rw [hij, hj] at e1
          cases e1
          exact absurd (decide_eq_true rfl) h
    · rintro σ H1 ⟨v, rfl, eH, hi⟩
      omega

end Mine

namespace Mine
open PySem L2
def sp_Book_canon (CB CV : Addr) : Sp := fun vs H Q _ => ∃ (x dx L D U : Addr) (xs : List V) (vx : List Vx) (j : Nat) (a : Vx), vs = [.ref x, .str a.n] ∧ H x = some (.ins CB dx (boF L D U)) ∧ H L = some (.lst xs) ∧ Paired (VxAt CV H) xs vx ∧ vx[j]? = some a ∧ (∀ i b, i < j → vx[i]? = some b → b.n ≠ a.n) ∧ Q a.tm H
theorem ok_Book_canon {P : Program} {w : World} {K : PySem.W.Frag} {mg : Str → Option Value} {base : Heap} {t : Adr} (T : Txt K w mg t) : FnOk P w K mg base CX0 (0 + 2) t.f_Book_canon t.d_Book_canon ["self", "name"] (sp_Book_canon t.C_Book t.C_Voice) := by
  have G_Book_voice_called := ok_Book_voice_called (P := P) (w := w) (base := base) T
  refine T.F_Book_canon.ok sc_Book_canon (fun vs H Q E h => ?_) (fun cdv A outer s H vs Q E hr h => ?_)
  · obtain ⟨_, _, _, _, _, _, _, _, _, rfl, _⟩ := h
    rfl
  · obtain ⟨x, dx, L, D, U, xs, vx, j, a, rfl, hx, hL, g, hj, hno, q⟩ := h
    refine bodyOk (pss_one (ps_ret (pe_fld (pe_meth (pv 0) T.cl_Book T.me_Book_voice_called G_Book_voice_called (hr.mono (by decide)) T.b_Book_voice_called .nil pass0 (pa_cons (pv 1) pa_nil)) rfl))) ?_
    obtain ⟨v, hv, rfl, ha⟩ := pgetR g hj
    refine ⟨_, rfl, x, dx, _, rfl, hx, boF_no_voice_called _ _ _, _, rfl, x, dx, L, D, U, xs, vx, j, a, rfl, hx, hL, g, hj, hno, ?_⟩
    exact ⟨a.o, _, a.d, _, _, rfl, ha, T.cl_Voice, T.na_Voice_terms, voF_terms _ _ _, q⟩

end Mine

namespace Mine
open PySem L2
def turnK : Kd → Kd
  | .three => .two
  | .two => .three
  | k => k
def turnS (s : Sg) : Sg := (turnK s.1, s.2)
theorem turn_get (k : Kd) : (([(Str.ofString "3", V.str "2"), (Str.ofString "2", V.str "3")] : List (Str × V)).lookup k.str).getD (.str k.str) = .str (turnK k).str := by cases k <;> decide +kernel
def sp_turned (K : PySem.W.Frag) : Sp := fun vs H Q _ => ∃ (l : Addr) (xs : List V) (ss : List Sg), vs = [.ref l] ∧ SqL K H l xs ∧ Sgs H xs ss ∧ ss.length ≤ 400 ∧
  ∀ (f : Addr) (ys : List V) (H' : Hp), Same H H' → H f = none → H' f = some (.lst ys) → Sgs H' ys (ss.map turnS) → Q (.ref f) H'
theorem ok_turned {P : Program} {w : World} {K : PySem.W.Frag} {mg : Str → Option Value} {base : Heap} {t : Adr} (T : Txt K w mg t) : FnOk P w K mg base CX0 (0 + 1) t.f_turned t.d_turned ["line"] (sp_turned K) := by
  refine T.F_turned.ok sc_turned (fun vs H Q E h => ?_) (fun cdv A outer s H vs Q E hr h => ?_)
  · obtain ⟨_, _, _, rfl, _⟩ := h
    rfl
  · obtain ⟨l, xs, ss, rfl, hS, hg, hn, q⟩ := h
    refine bodyOk (pss_one (ps_ret (pe_comp (cn := ["kind", "tone"]) rfl (CompFit.of rfl) (pi_list (pv 0)) (fun _ => (pg_tup rfl (pgs_cons (pg_name (i := 0) nd_turned_2 rfl (Or.inl rfl)) (pgs_cons (pg_name (i := 1) nd_turned_2 rfl (Or.inl rfl)) pgs_nil)))) (fun _ => pf_nil) (fun _ => (pe_tup (pa_cons (pe_kget2 (pe_glob (v := .ref t.a_TURNED_KINDS) rfl T.c_TURNED_KINDS rfl) (pv 0) (pv 0)) (pa_cons (pv 1) pa_nil))))))) ?_
    (repeat array_get_dec)
    refine ⟨⟨xs, hS⟩, fun D b hD => ?_⟩
    refine comp_list (K := K) (xs := xs) (fun i ys σ H' => ∃ (v w : Option V), σ = [v, w, some (.ref l)] ∧ Same H H' ∧ H' D = some (.lst ys) ∧ Sgs H' ys ((ss.take i).map turnS))
      ⟨none, none, rfl, Same.upd hD, upd_same, .nil⟩ ?_ ?_ ?_
    · rintro i ys σ H' ⟨v, w, rfl, s2, _⟩
      exact s2.seq hS
    · rintro i ys x σ H' hx ⟨v, w, rfl, s2, hDl, hsg⟩ N hN
      obtain ⟨s, hs, p, rfl, hp⟩ := pget hg hx
      have hi : i < ss.length := (List.getElem?_eq_some_iff.mp hs).1
      refine ⟨p, _, rfl, SqT.of (s2 _ _ hp), rfl, _, _, rfl, _, _, rfl, rfl, ?_⟩
      refine ⟨_, _, rfl, T.kd_TURNED_KINDS, ?_⟩
      (repeat array_get_dec)
      rw [turn_get]
      refine ⟨by show 2 ≤ sizeLine; decide, fun z hz => ?_⟩
      have sz := Same.upd (o := .tup [.str (turnK s.1).str, .int s.2]) hz
      have hD3 := sz _ _ hDl
      refine ⟨hD3, ?_, ?_⟩
      · rw [plen hsg, List.length_map, List.length_take]
        exact small1000 (by omega)
      · refine hN _ _ _ ⟨_, _, rfl, sameOwn (s2.trans sz) hD, upd_same, ?_⟩
        rw [List.take_succ, hs, List.map_append]
        exact psnoc (sgsUpd hD3 (hsg.same sz)) (sgUpd hD3 ⟨z, rfl, upd_same⟩)
    · rintro ys σ H' ⟨v, w, rfl, s2, hDl, hsg⟩
      rw [plen hg, List.take_length] at hsg
      exact q D ys H' s2 hD hDl hsg

end Mine

namespace Mine
open PySem L2
def sp_Book_line (CB CV : Addr) : Sp := fun vs H Q _ => ∃ (x dx L D U : Addr) (xs ys : List V) (vx : List Vx) (j : Nat) (a : Vx), vs = [.ref x, .str a.n] ∧ H x = some (.ins CB dx (boF L D U)) ∧ H L = some (.lst xs) ∧ Paired (VxAt CV H) xs vx ∧ vx[j]? = some a ∧ (∀ i b, i < j → vx[i]? = some b → b.n ≠ a.n) ∧ a.tm = .non ∧ H a.l = some (.lst ys) ∧ ∀ l, H l = none → Q (.ref l) (upd H l (.lst ys))
theorem ok_Book_line {P : Program} {w : World} {K : PySem.W.Frag} {mg : Str → Option Value} {base : Heap} {t : Adr} (T : Txt K w mg t) : FnOk P w K mg base CX0 (0 + 4) t.f_Book_line t.d_Book_line ["self", "name"] (sp_Book_line t.C_Book t.C_Voice) := by
  have G_Book_canon := ok_Book_canon (P := P) (w := w) (base := base) T
  have G_turned := ok_turned (P := P) (w := w) (base := base) T
  have G_Book_voice_called := ok_Book_voice_called (P := P) (w := w) (base := base) T
  refine T.F_Book_line.ok sc_Book_line (fun vs H Q E h => ?_) (fun cdv A outer s H vs Q E hr h => ?_)
  · obtain ⟨_, _, _, _, _, _, _, _, _, _, rfl, _⟩ := h
    rfl
  · obtain ⟨x, dx, L, D, U, xs, ys, vx, j, a, rfl, hx, hL, g, hj, hno, hn, hl, q⟩ := h
    refine bodyOk (pss_cons (ps_set (i := 2) sc_Book_line.nd rfl (Or.inl rfl) (pe_meth (pv 0) T.cl_Book T.me_Book_canon G_Book_canon (hr.mono (by decide)) T.b_Book_canon .nil pass0 (pa_cons (pv 1) pa_nil))) (pss_cons (ps_if (pt_cmpR op_isN (pv 2) pe_non (nomark _)) (pss_one (ps_ret (pe_callTy call_list_of rfl T.nb_list bt_list (pa_cons (pe_fld (pe_meth (pv 0) T.cl_Book T.me_Book_voice_called G_Book_voice_called (hr.mono (by decide)) T.b_Book_voice_called .nil pass0 (pa_cons (pv 1) pa_nil)) rfl) pa_nil)))) pss_nil) (pss_cons (ps_asg (pv 2) (pg_tup rfl (pgs_cons (pg_name (i := 3) sc_Book_line.nd rfl (Or.inl rfl)) (pgs_cons (pg_name (i := 4) sc_Book_line.nd rfl (Or.inl rfl)) (pgs_cons (pg_name (i := 5) sc_Book_line.nd rfl (Or.inl rfl)) (pgs_cons (pg_name (i := 6) sc_Book_line.nd rfl (Or.inl rfl)) pgs_nil)))))) (pss_cons (ps_set (i := 7) sc_Book_line.nd rfl (Or.inl rfl) pe_never) (pss_one (ps_ret (pe_mid (pe_ifExp (pt_val (pv 6)) (pe_call G_turned (hr.mono (by decide)) rfl T.mg_turned T.F_turned.kp T.b_turned .nil pass0 (pa_cons (pv 7) pa_nil)) (pv 7))))))))) ?_
    obtain ⟨v, hv, rfl, ha⟩ := pgetR g hj
    refine ⟨_, rfl, x, dx, _, rfl, hx, boF_no_canon _ _ _, _, rfl, x, dx, L, D, U, xs, vx, j, a, rfl, hx, hL, g, hj, hno, ?_⟩
    rw [hn]
    refine ⟨_, rfl, rfl, _, rfl, ?_⟩
    refine ite2 (fun _ => ?_) (fun h => absurd (by decide) h)
    refine ⟨_, rfl, x, dx, _, rfl, hx, boF_no_voice_called _ _ _, _, rfl, x, dx, L, D, U, xs, vx, j, a, rfl, hx, hL, g, hj, hno, ?_⟩
    refine ⟨a.o, _, a.d, _, _, rfl, ha, T.cl_Voice, T.na_Voice_signs, voF_signs _ _ _, ?_⟩
    exact ⟨_, _, rfl, .inl (SqL.of hl), q⟩

end Mine

namespace Mine
open PySem L2
def sp_l_whole : Sp := fun vs H Q _ => ∃ n : Int, vs = [.int n] ∧ Q (.bl true) H
theorem ok_l_whole {P : Program} {w : World} {K : PySem.W.Frag} {mg : Str → Option Value} {base : Heap} {t : Adr} (T : Txt K w mg t) : FnOk P w K mg base CX0 (0 + 1) t.f_l_whole t.d_l_whole ["_law_found"] sp_l_whole := by
  refine T.F_l_whole.ok sc_l_whole (fun vs H Q E h => ?_) (fun cdv A outer s H vs Q E hr h => ?_)
  · obtain ⟨_, rfl, _⟩ := h
    rfl
  · obtain ⟨n, rfl, q⟩ := h
    refine bodyOk (pss_one (ps_ret (pe_mid (pe_and (pe_callB call_isT rfl T.nb_isinstance bt_isinstance (pa_cons (pv 0) (pa_cons (pe_bltn (v := .ty "int") rfl T.nb_int bt_int rfl) pa_nil))) (pe_one (pe_not (pe_callB call_isT rfl T.nb_isinstance bt_isinstance (pa_cons (pv 0) (pa_cons (pe_bltn (v := .ty "bool") rfl T.nb_bool bt_bool rfl) pa_nil))))))))) ?_
    refine midV (.bl true) ?_ q
    exact ⟨_, rfl, _, _, _, _, rfl, TyOf.int _, rfl, _, rfl, iteT ⟨_, rfl, _, _, _, _, rfl, TyOf.int _, rfl, _, rfl, endV rfl⟩⟩

end Mine

namespace Mine
open PySem L2
def sp_l_signs (K : PySem.W.Frag) : Sp := fun vs H Q _ => ∃ (l1 l2 : Addr) (xs ys : List V) (ss : List Sg), vs = [.ref l1, .ref l2] ∧ H l1 = some (.lst xs) ∧ SqL K H l2 ys ∧ Sgs H xs ss ∧ Sgs H ys ss ∧ ∀ H', Same H H' → Q (.bl true) H'
theorem ok_l_signs {P : Program} {w : World} {K : PySem.W.Frag} {mg : Str → Option Value} {base : Heap} {t : Adr} (T : Txt K w mg t) : FnOk P w K mg base CX0 (0 + 2) t.f_l_signs t.d_l_signs ["_law_found", "_law_due"] (sp_l_signs K) := by
  have G_l_whole := ok_l_whole (P := P) (w := w) (base := base) T
  refine T.F_l_signs.ok sc_l_signs (fun vs H Q E h => ?_) (fun cdv A outer s H vs Q E hr h => ?_)
  · obtain ⟨_, _, _, _, _, rfl, _⟩ := h
    rfl
  · obtain ⟨l1, l2, xs, ys, ss, rfl, h1, h2, g1, g2, q⟩ := h
    have el : xs.length = ys.length := (plen g1).trans (plen g2).symm
    refine bodyOk (pss_cons (ps_if (pt_mid (PW.pt (pw_or (pt_not (pt_val (pe_callB call_isT rfl T.nb_isinstance bt_isinstance (pa_cons (pv 0) (pa_cons (pe_bltn (v := .ty "list") rfl T.nb_list bt_list rfl) pa_nil))))) (pw_or1 (pt_cmpR (op_ne.or (op_neD (hu_of64 hr))) (pe_callB (call_len_seq.or call_len_str) rfl T.nb_len bt_len (pa_cons (pv 0) pa_nil)) (pe_callB (call_len_seq.or call_len_str) rfl T.nb_len bt_len (pa_cons (pv 1) pa_nil)) (nomark _)))))) (pss_one (ps_ret pe_bl)) pss_nil) (pss_cons (ps_for PassesOwn.never rfl (pi_zip rfl T.nb_zip (pv 0) (pv 1)) (pg_tup rfl (pgs_cons (pg_name (i := 2) sc_l_signs.nd rfl (Or.inl rfl)) (pgs_cons (pg_name (i := 3) sc_l_signs.nd rfl (Or.inl rfl)) pgs_nil))) (pss_cons (ps_if (pt_mid (PW.pt (pw_or (pt_not (pt_val (pe_callB call_isT rfl T.nb_isinstance bt_isinstance (pa_cons (pv 2) (pa_cons (pe_bltn (v := .ty "tuple") rfl T.nb_tuple bt_tuple rfl) pa_nil))))) (pw_or1 (pt_cmpR (op_ne.or (op_neD (hu_of64 hr))) (pe_callB (call_len_seq.or call_len_str) rfl T.nb_len bt_len (pa_cons (pv 2) pa_nil)) pe_int (nomark _)))))) (pss_one (ps_ret pe_bl)) pss_nil) (pss_one (ps_if (pt_mid (PW.pt (pw_or (pt_not (pt_val (pe_callB call_isT rfl T.nb_isinstance bt_isinstance (pa_cons (pe_ix ix_seq (pv 2) pe_int (fun _ _ => rfl)) (pa_cons (pe_bltn (v := .ty "str") rfl T.nb_str bt_str rfl) pa_nil))))) (pw_or (pt_not (pt_val (pe_call G_l_whole (hr.mono (by decide)) rfl T.mg_l_whole T.F_l_whole.kp T.b_l_whole .nil pass0 (pa_cons (pe_ix ix_seq (pv 2) pe_int (fun _ _ => rfl)) pa_nil)))) (pw_or1 (pt_cmpR (op_ne.or (op_neD (hu_of64 hr))) (pv 2) (pv 3) (nomark _))))))) (pss_one (ps_ret pe_bl)) pss_nil)))) (pss_one (ps_ret pe_bl)))) ?_
    refine midB false ?_ ?_
    · (repeat array_get_dec)
      refine ⟨_, _, _, _, rfl, TyOf.lst h1, rfl, _, rfl, iteF ?_⟩
      (repeat array_get_dec)
      refine .inl ⟨_, _, rfl, .inl (SqL.of h1), ?_⟩
      (repeat array_get_dec)
      refine .inl ⟨_, _, rfl, .inl h2, ?_⟩
      (repeat array_get_dec)
      exact endB (by rw [el]; simp)
    refine iteF ?_
    (repeat array_get_dec)
    refine ⟨⟨_, SqL.of h1⟩, ⟨_, h2⟩, for_zip (K := K) (xs := xs) (ys := ys) (fun i σ H' => ∃ v1 v2, σ = [some (.ref l1), some (.ref l2), v1, v2] ∧ Same H H') el ⟨none, none, rfl, Same.refl _⟩ ?_ ?_ ?_⟩
    · rintro i σ H' ⟨v1, v2, rfl, s2⟩
      exact ⟨s2.seq (SqL.of h1), s2.seq h2⟩
    · rintro i x y tt σ H' hx hy ⟨v1, v2, rfl, s2⟩ hn
      obtain ⟨sg, e1, p, rfl, hp⟩ := pget g1 hx
      obtain ⟨sg', e2, p2, rfl, hp2⟩ := pget g2 hy
      have es : sg' = sg := Option.some.inj (e2.symm.trans e1)
      subst es
      have s3 : Same H (upd H' tt (.tup [.ref p, .ref p2])) := s2.trans (Same.upd hn)
      have hp' := s3 _ _ hp
      have hp2' := s3 _ _ hp2
      refine ⟨tt, _, rfl, SqT.of upd_same, rfl, _, _, rfl, _, _, rfl, rfl, ?_⟩
      generalize upd H' tt (.tup [.ref p, .ref p2]) = H3 at s3 hp' hp2'
      refine midB false ?_ ?_
      · (repeat array_get_dec)
        refine ⟨_, _, _, _, rfl, TyOf.tup hp', rfl, _, rfl, iteF ?_⟩
        (repeat array_get_dec)
        refine .inl ⟨_, _, rfl, .inr (SqT.of hp'), ?_⟩
        (repeat array_get_dec)
        exact endB rfl
      refine iteF ?_
      refine midB false ?_ ?_
      · (repeat array_get_dec)
        refine ⟨_, _, _, _, rfl, TyOf.str _, rfl, _, rfl, iteF ?_⟩
        (repeat array_get_dec)
        refine ⟨sgDeq 59 hp' hp2', ?_⟩
        (repeat array_get_dec)
        exact endB rfl
      refine iteF ?_
      exact ⟨_, _, rfl, s3⟩
    · rintro σ H' ⟨v1, v2, rfl, s2⟩
      exact q _ s2

end Mine

namespace Mine
open PySem L2
/-! ### a cell of the script -/
def cellN (ns : List Int) (k : Nat) : Int := ns.getD k 0
def sp_l_cell_at (K : PySem.W.Frag) : Sp := fun vs H Q _ => ∃ (a : Addr) (ns : List Int) (k : Nat), vs = [.ref a, .int (k : Int)] ∧ SqL K H a (ns.map V.int) ∧ ns.length ≤ 63 ∧ Q (.int (cellN ns k)) H
theorem ok_l_cell_at {P : Program} {w : World} {K : PySem.W.Frag} {mg : Str → Option Value} {base : Heap} {t : Adr} (T : Txt K w mg t) : FnOk P w K mg base CX0 (0 + 1) t.f_l_cell_at t.d_l_cell_at ["_law_script", "_law_k"] (sp_l_cell_at K) := by
  refine T.F_l_cell_at.ok sc_l_cell_at (fun vs H Q E h => ?_) (fun cdv A outer s H vs Q E hr h => ?_)
  · obtain ⟨a, ns, k, rfl, _⟩ := h
    rfl
  · obtain ⟨a, ns, k, rfl, hS, hl, q⟩ := h
    refine bodyOk (pss_cons (ps_if (pt_cmpR op_lt (pv 1) (pe_callB (call_min2 rfl) rfl T.nb_min bt_min (pa_cons pe_int (pa_cons (pe_callB (call_len_seq.or call_len_str) rfl T.nb_len bt_len (pa_cons (pv 0) pa_nil)) pa_nil))) (nomark _)) (pss_one (ps_ret (pe_ix ix_seq (pv 0) (pv 1) (fun _ _ => rfl)))) pss_nil) (pss_one (ps_ret pe_int))) ?_
    refine ⟨_, rfl, _, rfl, .inl ⟨_, _, rfl, .inl hS, _, _, rfl, _, _, rfl, rfl, _, rfl, ?_⟩⟩
    rw [List.length_map]
    refine ite2 (fun h => ?_) (fun h => ?_)
    · have hk : k < ns.length := by
        have := of_decide_eq_true h
        split at this <;> omega
      have e : (ns.map V.int)[k]? = some (V.int (cellN ns k)) := by
        rw [List.getElem?_map, List.getElem?_eq_getElem hk]
        unfold cellN
        rw [List.getD_eq_getElem?_getD, List.getElem?_eq_getElem hk]
        rfl
      exact ⟨_, rfl, _, rfl, .inl ⟨_, _, _, _, rfl, rfl, hS, atI_nat e, q⟩⟩
    · have hk : ns.length ≤ k := by
        have h' : ¬ ((k : Int) < if (ns.length : Int) < 63 then (ns.length : Int) else 63) := fun z => h (decide_eq_true z)
        split at h' <;> omega
      have e : cellN ns k = 0 := by
        unfold cellN
        rw [List.getD_eq_getElem?_getD, List.getElem?_eq_none hk]
        rfl
      rw [e] at q
      exact q

end Mine

namespace Mine
open PySem L2
def sp_l_mixed : Sp := fun vs H Q _ => ∃ seed k : Int, vs = [.int seed, .int k] ∧ ∀ r : Int, 0 ≤ r → r < 65521 → Q (.int r) H
theorem ok_l_mixed {P : Program} {w : World} {K : PySem.W.Frag} {mg : Str → Option Value} {base : Heap} {t : Adr} (T : Txt K w mg t) : FnOk P w K mg base CX0 (0 + 1) t.f_l_mixed t.d_l_mixed ["_law_seed", "_law_k"] sp_l_mixed := by
  refine T.F_l_mixed.ok sc_l_mixed (fun vs H Q E h => ?_) (fun cdv A outer s H vs Q E hr h => ?_)
  · obtain ⟨_, _, rfl, _⟩ := h
    rfl
  · obtain ⟨seed, k, rfl, q⟩ := h
    refine bodyOk (pss_cons (ps_set (i := 2) sc_l_mixed.nd rfl (Or.inl rfl) (pe_op op_mod (pe_op (op_add.or (op_add_str.or op_cat)) (pe_op (op_add.or (op_add_str.or op_cat)) (pe_op (op_mul.or op_rep) (pe_op op_mod (pv 0) pe_int) pe_int) (pe_op (op_mul.or op_rep) (pv 1) pe_int)) pe_int) pe_int)) (pss_cons (ps_set (i := 3) sc_l_mixed.nd rfl (Or.inl rfl) (pe_op op_mod (pe_op (op_add.or (op_add_str.or op_cat)) (pe_op (op_add.or (op_add_str.or op_cat)) (pe_op (op_mul.or op_rep) (pv 2) (pv 2)) (pe_op (op_mul.or op_rep) (pv 1) pe_int)) (pe_op op_mod (pe_op op_fdiv (pv 0) pe_int) pe_int)) pe_int)) (pss_one (ps_ret (pe_op op_mod (pe_op (op_add.or (op_add_str.or op_cat)) (pe_op op_fdiv (pe_op (op_mul.or op_rep) (pv 3) (pv 3)) pe_int) (pv 3)) pe_int))))) ?_
    have p2 : (2 : Int) ^ 64 = 18446744073709551616 := by decide
    refine ⟨_, rfl, _, _, rfl, rfl, (by decide : (0 : Int) < 1000003), .inl ⟨_, _, rfl, rfl, .inr ⟨by decide, by decide⟩, _, rfl, .inl ⟨_, _, rfl, rfl, .inr ⟨by decide, by decide⟩, .inl ⟨_, _, rfl, rfl, .inl ⟨_, _, rfl, rfl, _, _, rfl, rfl, (by decide : (0 : Int) < 1000033), ?_⟩⟩⟩⟩⟩
    generalize hone : (seed % 1000003 * 48271 + k * 30011 + 17) % 1000033 = one
    have b1 : 0 ≤ one ∧ one < 1000033 := by omega
    refine ⟨_, rfl, _, rfl, .inl ⟨_, _, rfl, rfl, .inl ⟨by rw [p2]; omega, by rw [p2]; omega⟩, _, rfl, .inl ⟨_, _, rfl, rfl, .inr ⟨by decide, by decide⟩, .inl ⟨_, _, rfl, rfl, _, rfl, _, _, rfl, rfl, ⟨by decide, by decide⟩, _, _, rfl, rfl, (by decide : (0 : Int) < 997), .inl ⟨_, _, rfl, rfl, _, _, rfl, rfl, (by decide : (0 : Int) < 999983), ?_⟩⟩⟩⟩⟩
    generalize htwo : (one * one + k * 613 + seed / 1000003 % 997) % 999983 = two
    have b2 : 0 ≤ two ∧ two < 999983 := by omega
    refine ⟨_, rfl, _, rfl, .inl ⟨_, _, rfl, rfl, .inl ⟨by rw [p2]; omega, by rw [p2]; omega⟩, _, _, rfl, rfl, ⟨by decide, by decide⟩, _, rfl, .inl ⟨_, _, rfl, rfl, _, _, rfl, rfl, (by decide : (0 : Int) < 65521), ?_⟩⟩⟩
    exact q _ (by omega) (by omega)

end Mine

namespace Mine
open PySem L2
/-! ### numbers -/
def sp_l_numbers (K : PySem.W.Frag) : Sp := fun vs H Q _ => ∃ (a : Addr) (ns : List Int) (k m : Nat), vs = [.ref a, .int (k : Int), .int (m : Int)] ∧ SqL K H a (ns.map V.int) ∧ ns.length ≤ 63 ∧ m ≤ 48 ∧
  ∀ (l : Addr) (ms : List Int) (H' : Hp), Same H H' → H' l = some (.lst (ms.map V.int)) → ms.length ≤ 60 → (∀ x ∈ ms, 0 ≤ x) → Q (.ref l) H'
theorem ok_l_numbers {P : Program} {w : World} {K : PySem.W.Frag} {mg : Str → Option Value} {base : Heap} {t : Adr} (T : Txt K w mg t) : FnOk P w K mg base CX0 (0 + 2) t.f_l_numbers t.d_l_numbers ["_law_script", "_law_at", "_law_many"] (sp_l_numbers K) := by
  have G_l_cell_at := ok_l_cell_at (P := P) (w := w) (base := base) T
  have G_l_mixed := ok_l_mixed (P := P) (w := w) (base := base) T
  refine T.F_l_numbers.ok sc_l_numbers (fun vs H Q E h => ?_) (fun cdv A outer s H vs Q E hr h => ?_)
  · obtain ⟨_, _, _, _, rfl, _⟩ := h
    rfl
  · obtain ⟨a, ns, k, m, rfl, hS, hl, hm, q⟩ := h
    refine bodyOk (pss_cons (ps_set (i := 3) sc_l_numbers.nd rfl (Or.inr rfl) (pe_call G_l_cell_at (hr.mono (by decide)) rfl T.mg_l_cell_at T.F_l_cell_at.kp T.b_l_cell_at .nil pass0 (pa_cons (pv 0) (pa_cons (pv 1) pa_nil)))) (pss_cons (ps_if (pt_cmpR op_lt (pv 3) (pe_op op_pow pe_int pe_int) (nomark _)) (pss_one (ps_ret (pe_comp (cn := ["_law_k"]) rfl (CompFit.of rfl) (pi_range1 rfl T.nb_range (pa_cons (pv 2) pa_nil)) (fun _ => (pg_name (i := 0) nd_l_numbers_3 rfl (Or.inl rfl))) (fun _ => pf_nil) (fun _ => (pe_call G_l_mixed (hr.mono (by decide)) rfl T.mg_l_mixed T.F_l_mixed.kp T.b_l_mixed .nil pass0 (pa_cons (pe_op (op_add.or (op_add_str.or op_cat)) (pv 4) (pe_op (op_mul.or op_rep) pe_int (pe_call G_l_cell_at (hr.mono (by decide)) rfl T.mg_l_cell_at T.F_l_cell_at.kp T.b_l_cell_at .nil pass0 (pa_cons (pv 1) (pa_cons (pe_op (op_add.or (op_add_str.or op_cat)) (pe_op (op_add.or (op_add_str.or op_cat)) (pv 2) pe_int) (pv 0)) pa_nil))))) (pa_cons (pv 0) pa_nil))))))) pss_nil) (pss_cons (ps_set (i := 4) sc_l_numbers.nd rfl (Or.inl rfl) (pe_op op_sub (pv 3) (pe_op op_pow pe_int pe_int))) (pss_cons (ps_set (i := 5) sc_l_numbers.nd rfl (Or.inl rfl) (pe_lst pa_nil)) (pss_cons (ps_while PassesOwn.never (pt_mid (PW.pt (pw_and (pt_cmpR op_gt (pv 4) pe_int (nomark _)) (pw_and1 (pt_cmpR op_lt (pe_callB (call_len_seq.or call_len_str) rfl T.nb_len bt_len (pa_cons (pv 5) pa_nil)) pe_int (nomark _)))))) (pss_cons (ps_expr (pe_bm PySem.F.plainAttrs_list PySem.F.slot_list_append PySem.F.type_list_append mt_append (pv 5) (pa_cons (pe_op op_mod (pv 4) pe_int) pa_nil))) (pss_one (ps_set (i := 4) sc_l_numbers.nd rfl (Or.inl rfl) (pe_op op_fdiv (pv 4) pe_int))))) (pss_one (ps_ret (pv 5)))))))) ?_
    refine ⟨_, rfl, _, rfl, a, ns, k, rfl, hS, hl, ?_⟩
    refine ⟨_, rfl, _, _, rfl, rfl, ⟨by decide, by decide, by decide⟩, _, _, rfl, rfl, _, rfl, ?_⟩
    refine ite2 (fun _ => ?_) (fun _ => ?_)
    · refine ⟨_, rfl, (m : Int), rfl, (by omega), (by omega), fun D b hD => ?_⟩
      refine comp_range (lo := 0) (n := ((m : Int)).toNat) (fun i ys σ H' => ∃ (v : Option V) (ms : List Int), σ = [v, some (.ref a), some (.int (k : Int)), some (.int (m : Int)), some (.int (cellN ns k)), none, none] ∧ H' = upd H D (.lst ys) ∧ ys = ms.map V.int ∧ ms.length = i ∧ ∀ x ∈ ms, 0 ≤ x) ⟨none, [], rfl, rfl, rfl, rfl, fun _ h => nomatch h⟩ ?_ ?_
      · rintro i ys σ H' hi ⟨v, ms, rfl, rfl, rfl, hlen, hpos⟩ N hN
        refine compT_name ?_
        refine ⟨_, rfl, _, rfl, _, rfl, .inl ⟨_, _, rfl, rfl, _, rfl, .inl ⟨_, _, rfl, rfl, a, ns, k + 1 + i, ?_, seq_upd hS hD, hl, .inl ⟨_, _, rfl, rfl, .inl ⟨by decide, by decide⟩, ?_⟩⟩⟩⟩
        · show [V.ref a, V.int ((k : Int) + 1 + (0 + (i : Int)))] = [V.ref a, V.int ((k + 1 + i : Nat) : Int)]
          have e : (k : Int) + 1 + (0 + (i : Int)) = ((k + 1 + i : Nat) : Int) := by omega
          rw [e]
        · refine .inl ⟨_, _, rfl, rfl, _, rfl, _, _, rfl, fun r h0 h1 => ⟨upd_same, ?_, ?_⟩⟩
          · rw [List.length_map]
            exact small1000 (by omega)
          · refine hN _ _ _ ⟨some _, ms ++ [r], rfl, upd_upd, by simp, by simp [hlen], fun x hx => ?_⟩
            rcases List.mem_append.mp hx with z | z
            · exact hpos x z
            · have : x = r := by simpa using z
              omega
      · rintro ys σ H' ⟨v, ms, rfl, rfl, rfl, hlen, hpos⟩
        exact q D ms _ (Same.upd hD) upd_same (by omega) hpos
    · refine ⟨_, rfl, _, _, rfl, rfl, ⟨by decide, by decide, by decide⟩, _, _, rfl, rfl, (by decide), fun l hl0 => ?_⟩
      refine ⟨fun mm σ H' => ∃ (left : Int) (ms : List Int), σ = [some (.ref a), some (.int (k : Int)), some (.int (m : Int)), some (.int (cellN ns k)), some (.int left), some (.ref l)] ∧ H' = upd H l (.lst (ms.map V.int)) ∧ mm = 60 - ms.length ∧ ms.length ≤ 60 ∧ ∀ x ∈ ms, 0 ≤ x,
        ⟨60, _, [], rfl, rfl, rfl, Nat.zero_le _, fun _ h => nomatch h⟩, ?_⟩
      rintro mm σ H' ⟨left, ms, rfl, rfl, rfl, hlen, hpos⟩
      refine midB (decide (0 < left) && decide ((ms.length : Int) < 60)) ?_ ?_
      · refine ⟨_, rfl, _, _, rfl, rfl, _, rfl, ?_⟩
        refine ite2 (fun h => ?_) (fun h => ?_)
        · refine ⟨_, rfl, .inl ⟨l, _, rfl, .inl (SqL.of upd_same), _, _, rfl, rfl, _, rfl, ?_⟩⟩
          rw [List.length_map]
          exact ⟨by rw [h, Bool.true_and], rfl⟩
        · exact ⟨by rw [Bool.eq_false_iff.mpr h]; rfl, rfl⟩
      refine ite2 (fun h60 => ?_) (fun _ => ?_)
      · have h60' : ms.length < 60 := by
          have := of_decide_eq_true (Bool.and_eq_true_iff.mp h60).2
          omega
        refine ⟨fun σ' H' => ∃ m', m' < 60 - ms.length ∧ ∃ (left : Int) (ms : List Int), σ' = [some (.ref a), some (.int (k : Int)), some (.int (m : Int)), some (.int (cellN ns k)), some (.int left), some (.ref l)] ∧ H' = upd H l (.lst (ms.map V.int)) ∧ m' = 60 - ms.length ∧ ms.length ≤ 60 ∧ ∀ x ∈ ms, 0 ≤ x, fun _ _ h => h, ?_⟩
        refine ⟨_, rfl, .inl ⟨rfl, _, SqL.of upd_same⟩, _, rfl, _, _, rfl, rfl, (by decide : (0 : Int) < 2400), l, _, _, rfl, rfl, upd_same, (by rw [List.length_map]; exact small1000 (by omega)), _, rfl, _, _, rfl, rfl, ⟨by decide, by decide⟩, 60 - (ms.length + 1), by omega, _, ms ++ [left % 2400], rfl, ?_, by simp, by simp; omega, fun x hx => ?_⟩
        · rw [upd_upd, List.map_append]
          rfl
        · rcases List.mem_append.mp hx with z | z
          · exact hpos x z
          · have : x = left % 2400 := by simpa using z
            omega
      · exact ⟨_, rfl, q l ms _ (Same.upd hl0) upd_same (by omega) hpos⟩

end Mine

namespace Mine
open PySem L2
def sp_l_line (K : PySem.W.Frag) : Sp := fun vs H Q _ => ∃ (a : Addr) (ns : List Int) (k m : Nat), vs = [.ref a, .int (k : Int), .int (m : Int)] ∧ SqL K H a (ns.map V.int) ∧ ns.length ≤ 63 ∧ m ≤ 48 ∧
  ∀ (l : Addr) (xs : List V) (ss : List Sg) (H' : Hp), Same H H' → H l = none → H' l = some (.lst xs) → Sgs H' xs ss → (∀ s ∈ ss, GoodT s) → ss.length ≤ 60 → Q (.ref l) H'
theorem ok_l_line {P : Program} {w : World} {K : PySem.W.Frag} {mg : Str → Option Value} {base : Heap} {t : Adr} (T : Txt K w mg t) : FnOk P w K mg base CX0 (0 + 3) t.f_l_line t.d_l_line ["_law_script", "_law_at", "_law_many"] (sp_l_line K) := by
  have G_l_sign_by := ok_l_sign_by (P := P) (w := w) (base := base) T
  have G_l_numbers := ok_l_numbers (P := P) (w := w) (base := base) T
  refine T.F_l_line.ok sc_l_line (fun vs H Q E h => ?_) (fun cdv A outer s H vs Q E hr h => ?_)
  · obtain ⟨_, _, _, _, rfl, _⟩ := h
    rfl
  · obtain ⟨a, ns, k, m, rfl, hS, hl, hm, q⟩ := h
    refine bodyOk (pss_one (ps_ret (pe_comp (cn := ["_law_number"]) rfl (CompFit.of rfl) (pi_list (pe_call G_l_numbers (hr.mono (by decide)) rfl T.mg_l_numbers T.F_l_numbers.kp T.b_l_numbers .nil pass0 (pa_cons (pv 0) (pa_cons (pv 1) (pa_cons (pv 2) pa_nil))))) (fun _ => (pg_name (i := 0) nd_l_line_4 rfl (Or.inl rfl))) (fun _ => pf_nil) (fun _ => (pe_call G_l_sign_by (hr.mono (by decide)) rfl T.mg_l_sign_by T.F_l_sign_by.kp T.b_l_sign_by .nil pass0 (pa_cons (pv 0) pa_nil)))))) ?_
    refine ⟨_, rfl, _, rfl, _, rfl, a, ns, k, m, rfl, hS, hl, hm, fun l ms H1 s1 hl1 hlen hpos => ⟨l, rfl, ⟨_, SqL.of hl1⟩, fun D b hD => ?_⟩⟩
    refine comp_list (K := K) (xs := ms.map V.int) (fun i ys σ H' => ∃ (v : Option V) (ss : List Sg), σ = [v, some (.ref a), some (.int (k : Int)), some (.int (m : Int))] ∧ Same H1 H' ∧ H' D = some (.lst ys) ∧ Sgs H' ys ss ∧ ss.length = i ∧ i ≤ ms.length ∧ ∀ s ∈ ss, GoodT s)
      ⟨none, [], rfl, Same.upd hD, upd_same, .nil, rfl, Nat.zero_le _, fun _ h => nomatch h⟩ ?_ ?_ ?_
    · rintro i ys σ H' ⟨v, ss, rfl, s2, _⟩
      exact s2.seq (SqL.of hl1)
    · rintro i ys x σ H' hx ⟨v, ss, rfl, s2, hDl, hsg, hsl, hi, hg⟩ N hN
      have hil : i < ms.length := by
        have := (List.getElem?_eq_some_iff.mp hx).1
        rw [List.length_map] at this
        exact this
      obtain ⟨z, hz, rfl⟩ := intsAt hx
      refine compT_name ?_
      refine ⟨_, rfl, z, rfl, fun p s gs hp => ⟨Same.upd hp _ _ hDl, ?_, ?_⟩⟩
      · rw [plen hsg, hsl]
        exact small1000 (by omega)
      · have hD4 := Same.upd (o := .tup [.str s.1.str, .int s.2]) hp _ _ hDl
        refine hN _ _ _ ⟨_, ss ++ [s], rfl, sameOwn (s2.trans (Same.upd hp)) hD, upd_same, psnoc (sgsUpd hD4 (hsg.same (Same.upd hp))) (sgUpd hD4 ⟨p, rfl, upd_same⟩), by simp [hsl], hil, fun y hy => ?_⟩
        rcases List.mem_append.mp hy with z | z
        · exact hg y z
        · have : y = s := by simpa using z
          rw [this]
          exact gs
    · rintro ys σ H' ⟨v, ss, rfl, s2, hDl, hsg, hsl, hi, hg⟩
      refine q D ys ss H' (s1.trans s2) (s1.free hD) hDl hsg hg ?_
      rw [hsl, List.length_map]
      omega

end Mine

namespace Mine
open PySem L2
def sp_refuse_other_places : Sp := fun vs H Q _ => ∃ i n : Int, vs = [.int i, .int n] ∧ 0 ≤ i ∧ i ≤ n ∧ Q .non H
theorem ok_refuse_other_places {P : Program} {w : World} {K : PySem.W.Frag} {mg : Str → Option Value} {base : Heap} {t : Adr} (T : Txt K w mg t) : FnOk P w K mg base CX0 (0 + 1) t.f_refuse_other_places t.d_refuse_other_places ["at", "last"] sp_refuse_other_places := by
  refine T.F_refuse_other_places.ok sc_refuse_other_places (fun vs H Q E h => ?_) (fun cdv A outer s H vs Q E hr h => ?_)
  · obtain ⟨_, _, rfl, _⟩ := h
    rfl
  · obtain ⟨i, n, rfl, h0, h1, q⟩ := h
    refine bodyOk (pss_one (ps_if (pt_not (pt_chain op_le op_le pe_int (pv 0) (pv 1))) (pss_one ps_never) pss_nil)) ?_
    refine ⟨_, rfl, _, _, rfl, rfl, _, rfl, ?_⟩
    refine ite2 (fun _ => ?_) (fun h => absurd (decide_eq_true h0) h)
    refine ⟨_, rfl, _, _, rfl, rfl, _, rfl, ?_⟩
    refine ite2 (fun h => ?_) (fun _ => q)
    have h' : (!decide (i ≤ n)) = true := h
    rw [decide_eq_true h1] at h'
    cases h'

end Mine

namespace Mine
open PySem L2
theorem k_soundT (k : Kd) : inV (.str k.str) [.str "G", .str "D", .str "s", .str "d"] = k.sounds := by cases k <;> decide +kernel
theorem k_silentT (k : Kd) : inV (.str k.str) [.str "R", .str "r", .str ".", .str "3", .str "2"] = !k.sounds := by cases k <;> decide +kernel
def sp_good : Sp := fun vs H Q _ => ∃ (p : Addr) (s : Sg), vs = [.ref p] ∧ H p = some (.tup [.str s.1.str, .int s.2]) ∧ GoodT s ∧ Q (.bl true) H
theorem ok_good {P : Program} {w : World} {K : PySem.W.Frag} {mg : Str → Option Value} {base : Heap} {t : Adr} (T : Txt K w mg t) : FnOk P w K mg base CX0 (0 + 1) t.f_good t.d_good ["sign"] sp_good := by
  refine T.F_good.ok sc_good (fun vs H Q E h => ?_) (fun cdv A outer s H vs Q E hr h => ?_)
  · obtain ⟨_, _, rfl, _⟩ := h
    rfl
  · obtain ⟨p, g, rfl, hp, ⟨g1, g2⟩, q⟩ := h
    refine bodyOk (pss_cons (ps_asg (pv 0) (pg_tup rfl (pgs_cons (pg_name (i := 1) sc_good.nd rfl (Or.inl rfl)) (pgs_cons (pg_name (i := 2) sc_good.nd rfl (Or.inl rfl)) pgs_nil)))) (pss_cons (ps_if (pt_cmpR (op_in_seq.or op_in_str) (pv 1) (pe_glob (v := .ref t.a_SOUNDING_KINDS) rfl T.c_SOUNDING_KINDS rfl) rfl) (pss_one (ps_ret (pe_chain op_le op_le pe_int (pv 2) (pe_glob (v := .int 99) rfl T.c_HIGHEST_TONE ⟨_, rfl⟩)))) pss_nil) (pss_one (ps_ret (pe_mid (pe_and (pe_cmpR (op_in_seq.or op_in_str) (pv 1) (pe_glob (v := .ref t.a_SILENT_KINDS) rfl T.c_SILENT_KINDS rfl) rfl) (pe_one (pe_cmpR (op_eq.or (op_eqD (hu_of64 hr))) (pv 2) pe_int (nomark _))))))))) ?_
    refine ⟨_, rfl, _, _, rfl, SqT.of hp, rfl, _, _, rfl, _, _, rfl, rfl, _, rfl, .inl ⟨_, _, rfl, .inr (T.q_SOUNDING_KINDS _), rfl, rfl, _, rfl, ?_⟩⟩
    have m1 := k_soundT g.1
    have m2 := k_silentT g.1
    cases hs : g.1.sounds with
    | true =>
      rw [hs] at m1
      obtain ⟨n0, n1⟩ := g1 hs
      refine ite2 (fun _ => ?_) (fun h => absurd m1 h)
      refine ⟨_, rfl, _, _, rfl, rfl, _, rfl, ?_⟩
      refine ite2 (fun _ => ?_) (fun h => absurd (decide_eq_true n0) h)
      refine ⟨_, _, rfl, rfl, ?_⟩
      have e : decide (g.2 ≤ 99) = true := decide_eq_true (by omega)
      show Q (.bl (decide (g.2 ≤ 99))) H
      rw [e]
      exact q
    | false =>
      rw [hs] at m1 m2
      have n0 := g2 hs
      refine ite2 (fun h => ?_) (fun _ => ?_)
      · have h' : inV (.str g.1.str) [.str "G", .str "D", .str "s", .str "d"] = true := h
        rw [m1] at h'
        cases h'
      refine ⟨fun v H' => v = .bl true ∧ H' = H, ?_, fun _ _ ⟨e1, e2⟩ => by rw [e1, e2]; exact q⟩
      refine ⟨_, rfl, .inl ⟨_, _, rfl, .inr (T.q_SILENT_KINDS _), rfl, rfl, _, rfl, ?_⟩⟩
      refine ite2 (fun _ => ?_) (fun h => absurd m2 h)
      refine ⟨_, rfl, .inl ⟨rfl, ?_⟩⟩
      rw [dec_int', decide_eq_true n0]
      exact ⟨rfl, rfl⟩

end Mine

namespace Mine
open PySem L2
def sp_refuse_bad_sign : Sp := fun vs H Q _ => ∃ (p : Addr) (s : Sg), vs = [.ref p] ∧ H p = some (.tup [.str s.1.str, .int s.2]) ∧ GoodT s ∧ Q .non H
theorem ok_refuse_bad_sign {P : Program} {w : World} {K : PySem.W.Frag} {mg : Str → Option Value} {base : Heap} {t : Adr} (T : Txt K w mg t) : FnOk P w K mg base CX0 (0 + 2) t.f_refuse_bad_sign t.d_refuse_bad_sign ["sign"] sp_refuse_bad_sign := by
  have G_good := ok_good (P := P) (w := w) (base := base) T
  refine T.F_refuse_bad_sign.ok sc_refuse_bad_sign (fun vs H Q E h => ?_) (fun cdv A outer s H vs Q E hr h => ?_)
  · obtain ⟨_, _, rfl, _⟩ := h
    rfl
  · obtain ⟨p, g, rfl, hp, gg, q⟩ := h
    refine bodyOk (pss_one (ps_if (pt_not (pt_val (pe_call G_good (hr.mono (by decide)) rfl T.mg_good T.F_good.kp T.b_good .nil pass0 (pa_cons (pv 0) pa_nil)))) (pss_one ps_never) pss_nil)) ?_
    exact ⟨_, rfl, p, g, rfl, hp, gg, _, rfl, iteF q⟩

end Mine

namespace Mine
open PySem L2
def sp_small : Sp := fun vs H Q _ => ∃ (p : Addr) (s : Sg), vs = [.ref p] ∧ H p = some (.tup [.str s.1.str, .int s.2]) ∧ Q (.bl s.1.small) H
theorem k_small (k : Kd) : inV (.str k.str) [.str "s", .str "d", .str "r"] = k.small := by cases k <;> decide +kernel
theorem ok_small {P : Program} {w : World} {K : PySem.W.Frag} {mg : Str → Option Value} {base : Heap} {t : Adr} (T : Txt K w mg t) : FnOk P w K mg base CX0 (0 + 1) t.f_small t.d_small ["sign"] sp_small := by
  refine T.F_small.ok sc_small (fun vs H Q E h => ?_) (fun cdv A outer s H vs Q E hr h => ?_)
  · obtain ⟨_, _, rfl, _⟩ := h
    rfl
  · obtain ⟨p, s, rfl, hp, q⟩ := h
    rw [← k_small] at q
    refine bodyOk (pss_one (ps_ret (pe_cmpR (op_in_seq.or op_in_str) (pe_ix ix_seq (pv 0) pe_int (fun _ _ => rfl)) (pe_glob (v := .ref t.a_SMALL_KINDS) rfl T.c_SMALL_KINDS rfl) rfl))) ?_
    (repeat array_get_dec)
    exact .inl ⟨_, _, rfl, .inr (T.q_SMALL_KINDS _), rfl, rfl, q⟩

end Mine

namespace Mine
open PySem L2
def sp_low_end (K : PySem.W.Frag) : Sp := fun vs H Q _ => ∃ (l : Addr) (xs : List V) (ss : List Sg) (i : Nat), vs = [.ref l, .int (i : Int)] ∧ SqL K H l xs ∧ Sgs H xs ss ∧ ss.length ≤ 200 ∧ i ≤ ss.length ∧ ∀ r : Int, Q (.int r) H
theorem ok_low_end {P : Program} {w : World} {K : PySem.W.Frag} {mg : Str → Option Value} {base : Heap} {t : Adr} (T : Txt K w mg t) : FnOk P w K mg base CX0 (0 + 2) t.f_low_end t.d_low_end ["line", "at"] (sp_low_end K) := by
  have G_small := ok_small (P := P) (w := w) (base := base) T
  refine T.F_low_end.ok sc_low_end (fun vs H Q E h => ?_) (fun cdv A outer s H vs Q E hr h => ?_)
  · obtain ⟨_, _, _, _, rfl, _⟩ := h
    rfl
  · obtain ⟨l, xs, ss, i, rfl, hS, g, hl, hi, q⟩ := h
    refine bodyOk (pss_cons (ps_set (i := 2) sc_low_end.nd rfl (Or.inl rfl) pe_int) (pss_cons (ps_for PassesOwn.never rfl (pi_range3 rfl T.nb_range (pa_cons (pe_op op_sub (pv 1) pe_int) (pa_cons (pe_un un_neg pe_int) (pa_cons (pe_un un_neg pe_int) pa_nil)))) (pg_name (i := 3) sc_low_end.nd rfl (Or.inl rfl)) (pss_cons (ps_mid (ps_if (pt_not (pt_val (pe_call G_small (hr.mono (by decide)) rfl T.mg_small T.F_small.kp T.b_small .nil pass0 (pa_cons (pe_ix ix_seq (pv 0) (pv 3) (fun _ _ => rfl)) pa_nil)))) (pss_one (ps_aug (i := 2) sc_low_end.nd rfl (Or.inl rfl) pe_int ip_add)) pss_nil)) (pss_one (ps_if (pt_cmpR (op_eq.or (op_eqD (hu_of64 hr))) (pv 2) pe_int (nomark _)) (pss_one (ps_ret (pv 3))) pss_nil)))) (pss_one (ps_ret pe_int)))) ?_
    (repeat array_get_dec)
    have xl := plen g
    refine ⟨(i : Int) - 1, -1, rfl, ⟨by omega, by omega, by omega, by omega⟩, for_down (fun j σ H' => ∃ (met : Int) (v : Option V), σ = [some (.ref l), some (.int (i : Int)), some (.int met), v] ∧ H' = H) ⟨0, none, rfl, rfl⟩ ?_ ?_⟩
    · rintro j σ H1 hj ⟨met, v, rfl, eH⟩
      have eH := eH.symm
      subst eH
      obtain ⟨sg, hsg⟩ : ∃ sg, ss[i - 1 - j]? = some sg := ⟨_, List.getElem?_eq_getElem (by omega)⟩
      refine ⟨fun σ H' => ∃ (met : Int), σ = [some (.ref l), some (.int (i : Int)), some (.int met), some (.int ((i : Int) - 1 - (j : Int)))] ∧ H' = H, ?_, ?_⟩
      · (repeat array_get_dec)
        refine ixSg hS g (n := i - 1 - j) (by omega) hsg fun b hb => ?_
        refine ⟨b, sg, rfl, hb, ?_⟩
        refine ⟨_, rfl, ?_⟩
        refine ite2 (fun _ => ?_) (fun _ => ?_)
        · (repeat array_get_dec)
          rfl
        · exact ⟨_, rfl, rfl⟩
      · rintro _ H1 ⟨met, rfl, eH⟩
        have eH := eH.symm
        subst eH
        (repeat array_get_dec)
        refine ite2 (fun _ => ?_) (fun _ => ?_)
        · exact ⟨_, rfl, q _⟩
        · exact ⟨_, _, rfl, rfl⟩
    · rintro σ H1 ⟨met, v, rfl, eH⟩
      have eH := eH.symm
      subst eH
      exact q _

end Mine

namespace Mine
open PySem L2
def sp_high_end (K : PySem.W.Frag) : Sp := fun vs H Q _ => ∃ (l kp : Addr) (xs kv : List V) (ss : List Sg) (i : Nat), vs = [.ref l, .int (i : Int), .ref kp] ∧ SqL K H l xs ∧ Sgs H xs ss ∧ ss.length ≤ 200 ∧ SqT K H kp kv ∧ kv.all flatV = true ∧ i ≤ 1000 ∧ ∀ r : Int, Q (.int r) H
theorem ok_high_end {P : Program} {w : World} {K : PySem.W.Frag} {mg : Str → Option Value} {base : Heap} {t : Adr} (T : Txt K w mg t) : FnOk P w K mg base CX0 (0 + 1) t.f_high_end t.d_high_end ["line", "first", "kinds"] (sp_high_end K) := by
  refine T.F_high_end.ok sc_high_end (fun vs H Q E h => ?_) (fun cdv A outer s H vs Q E hr h => ?_)
  · obtain ⟨_, _, _, _, _, _, rfl, _⟩ := h
    rfl
  · obtain ⟨l, kp, xs, kv, ss, i, rfl, hS, g, hl, hT, hf, hi, q⟩ := h
    refine bodyOk (pss_cons (ps_for PassesOwn.never rfl (pi_range2 rfl T.nb_range (pa_cons (pv 1) (pa_cons (pe_callB (call_len_seq.or call_len_str) rfl T.nb_len bt_len (pa_cons (pv 0) pa_nil)) pa_nil))) (pg_name (i := 3) sc_high_end.nd rfl (Or.inl rfl)) (pss_one (ps_if (pt_cmpR (op_in_seq.or op_in_str) (pe_ix ix_seq (pe_ix ix_seq (pv 0) (pv 3) (fun _ _ => rfl)) pe_int (fun _ _ => rfl)) (pv 2) rfl) (pss_one (ps_ret (pv 3))) pss_nil))) (pss_one (ps_ret (pe_callB (call_len_seq.or call_len_str) rfl T.nb_len bt_len (pa_cons (pv 0) pa_nil))))) ?_
    have xl := plen g
    (repeat array_get_dec)
    refine .inl ⟨l, xs, rfl, .inl hS, ?_⟩
    refine ⟨(i : Int), (xs.length : Int), rfl, ⟨by omega, by omega, by omega, by omega⟩, for_range (fun j σ H' => ∃ (v : Option V), σ = [some (.ref l), some (.int (i : Int)), some (.ref kp), v] ∧ H' = H) ⟨none, rfl, rfl⟩ ?_ ?_⟩
    · rintro j σ H1 hj ⟨v, rfl, eH⟩
      have eH := eH.symm
      subst eH
      obtain ⟨sg, hsg⟩ : ∃ sg, ss[i + j]? = some sg := ⟨_, List.getElem?_eq_getElem (by omega)⟩
      (repeat array_get_dec)
      refine ixSg hS g (n := i + j) (by omega) hsg fun b hb => ?_
      (repeat array_get_dec)
      refine .inl ⟨kp, kv, rfl, .inr hT, rfl, hf, _, rfl, ?_⟩
      refine ite2 (fun _ => ?_) (fun _ => ?_)
      · exact ⟨_, rfl, q _⟩
      · exact ⟨_, rfl, rfl⟩
    · rintro σ H1 ⟨v, rfl, eH⟩
      have eH := eH.symm
      subst eH
      exact ⟨_, rfl, .inl ⟨l, _, rfl, .inl hS, q _⟩⟩

end Mine

namespace Mine
open PySem L2
def sp_sets_measure : Sp := fun vs H Q _ => ∃ (p : Addr) (s : Sg), vs = [.ref p] ∧ H p = some (.tup [.str s.1.str, .int s.2]) ∧ Q (.bl s.1.meas) H
theorem k_meas (k : Kd) : inV (.str k.str) [.str "3", .str "2"] = k.meas := by cases k <;> decide +kernel
theorem ok_sets_measure {P : Program} {w : World} {K : PySem.W.Frag} {mg : Str → Option Value} {base : Heap} {t : Adr} (T : Txt K w mg t) : FnOk P w K mg base CX0 (0 + 1) t.f_sets_measure t.d_sets_measure ["sign"] sp_sets_measure := by
  refine T.F_sets_measure.ok sc_sets_measure (fun vs H Q E h => ?_) (fun cdv A outer s H vs Q E hr h => ?_)
  · obtain ⟨_, _, rfl, _⟩ := h
    rfl
  · obtain ⟨p, s, rfl, hp, q⟩ := h
    rw [← k_meas] at q
    refine bodyOk (pss_one (ps_ret (pe_cmpR (op_in_seq.or op_in_str) (pe_ix ix_seq (pv 0) pe_int (fun _ _ => rfl)) (pe_glob (v := .ref t.a_MEASURE_KINDS) rfl T.c_MEASURE_KINDS rfl) rfl))) ?_
    (repeat array_get_dec)
    exact .inl ⟨_, _, rfl, .inr (T.q_MEASURE_KINDS _), rfl, rfl, q⟩

end Mine

namespace Mine
open PySem L2
def sp_window (K : PySem.W.Frag) : Sp := fun vs H Q _ => ∃ (l ch : Addr) (xs cx : List V) (ss cs : List Sg) (i b : Nat), vs = [.ref l, .int (i : Int), .int (b : Int), .ref ch] ∧ SqL K H l xs ∧ Sgs H xs ss ∧ ss.length ≤ 200 ∧ i ≤ ss.length ∧ b ≤ 1000 ∧ SqL K H ch cx ∧ Sgs H cx cs ∧ cs.length ≤ 100 ∧ ∀ (p : Addr) (H' : Hp), Same H H' → Q (.ref p) H'
theorem ok_window {P : Program} {w : World} {K : PySem.W.Frag} {mg : Str → Option Value} {base : Heap} {t : Adr} (T : Txt K w mg t) : FnOk P w K mg base CX0 (0 + 3) t.f_window t.d_window ["line", "at", "behind", "changed"] (sp_window K) := by
  have G_low_end := ok_low_end (P := P) (w := w) (base := base) T
  have G_high_end := ok_high_end (P := P) (w := w) (base := base) T
  have G_sets_measure := ok_sets_measure (P := P) (w := w) (base := base) T
  refine T.F_window.ok sc_window (fun vs H Q E h => ?_) (fun cdv A outer s H vs Q E hr h => ?_)
  · obtain ⟨_, _, _, _, _, _, _, _, rfl, _⟩ := h
    rfl
  · obtain ⟨l, ch, xs, cx, ss, cs, i, b, rfl, hS, g, hl, hi, hb, hC, gc, hcl, q⟩ := h
    refine bodyOk (pss_cons (ps_set (i := 4) sc_window.nd rfl (Or.inl rfl) (pe_mid (pe_ifExp (pt_val (pe_callB call_any rfl T.nb_any bt_any (pa_cons (pe_comp (cn := ["sign"]) rfl (CompFit.of rfl) (pi_list (pv 3)) (fun _ => (pg_name (i := 0) nd_window_5 rfl (Or.inl rfl))) (fun _ => pf_nil) (fun _ => (pe_call G_sets_measure (hr.mono (by decide)) rfl T.mg_sets_measure T.F_sets_measure.kp T.b_sets_measure .nil pass0 (pa_cons (pv 0) pa_nil)))) pa_nil))) (pe_glob (v := .ref t.a_MEASURE_KINDS) rfl T.c_MEASURE_KINDS rfl) (pe_glob (v := .ref t.a_PARTING_KINDS) rfl T.c_PARTING_KINDS rfl)))) (pss_one (ps_ret (pe_tup (pa_cons (pe_call G_low_end (hr.mono (by decide)) rfl T.mg_low_end T.F_low_end.kp T.b_low_end .nil pass0 (pa_cons (pv 0) (pa_cons (pv 1) pa_nil))) (pa_cons (pe_call G_high_end (hr.mono (by decide)) rfl T.mg_high_end T.F_high_end.kp T.b_high_end .nil pass0 (pa_cons (pv 0) (pa_cons (pv 2) (pa_cons (pv 4) pa_nil)))) pa_nil)))))) ?_
    have cl := plen gc
    refine ⟨fun v H' => ∃ kp kv, v = .ref kp ∧ (∀ H'' , SqT K H'' kp kv) ∧ kv.all flatV = true ∧ Same H H', ?_, ?_⟩
    · refine ⟨_, rfl, ch, rfl, ⟨_, hC⟩, fun D b2 hD => ?_⟩
      refine comp_list (K := K) (xs := cx) (fun ii ys σ H' => ∃ v, σ = [v, some (.ref l), some (.int (i : Int)), some (.int (b : Int)), some (.ref ch), none] ∧ H' = upd H D (.lst ys) ∧ ∃ bs : List Bool, ys = bs.map V.bl ∧ bs.length = ii) ⟨none, rfl, rfl, [], rfl, rfl⟩ ?_ ?_ ?_
      · rintro ii ys σ H' ⟨v, rfl, rfl, _⟩
        exact seq_upd hC hD
      · rintro ii ys x σ H' hx ⟨v, rfl, rfl, bs, rfl, hbs⟩ N hN
        obtain ⟨sg, e1, p, rfl, hp⟩ := pget gc hx
        have hii : ii < cs.length := (List.getElem?_eq_some_iff.mp e1).1
        refine compT_name ?_
        refine ⟨_, rfl, p, sg, rfl, (by rw [upd_ne (ne_of_none hp hD)]; exact hp), upd_same, ?_, ?_⟩
        · rw [List.length_map]
          exact small1000 (by omega)
        · exact hN _ _ _ ⟨_, rfl, upd_upd, bs ++ [sg.1.meas], by simp, by simp [hbs]⟩
      · rintro ys σ H' ⟨v, rfl, rfl, bs, rfl, hbs⟩
        refine ⟨rfl, D, bs, rfl, SqL.of upd_same, _, rfl, ?_⟩
        refine ite2 (fun _ => ?_) (fun _ => ?_)
        · exact ⟨_, _, rfl, fun H'' => T.q_MEASURE_KINDS H'', rfl, Same.upd hD⟩
        · exact ⟨_, _, rfl, fun H'' => T.q_PARTING_KINDS H'', rfl, Same.upd hD⟩
    · rintro _ H1 ⟨kp, kv, rfl, hk, hf, s1⟩
      refine ⟨_, rfl, _, rfl, l, xs, ss, i, rfl, s1.seq hS, g.same s1, hl, hi, fun r => ?_⟩
      refine ⟨_, rfl, _, rfl, _, rfl, l, kp, xs, kv, ss, b, rfl, s1.seq hS, g.same s1, hl, hk _, hf, hb, fun r2 => ?_⟩
      refine ⟨by show 2 ≤ sizeLine; decide, fun p hp => q p _ (s1.trans (Same.upd hp))⟩

end Mine

namespace Mine
open PySem L2
def sp_Book_plain_voice (CB CV : Addr) : Sp := fun vs H Q _ => ∃ (x dx L D U : Addr) (xs : List V) (vx : List Vx) (j : Nat) (a : Vx), vs = [.ref x, .str a.n] ∧ H x = some (.ins CB dx (boF L D U)) ∧ H L = some (.lst xs) ∧ Paired (VxAt CV H) xs vx ∧ vx[j]? = some a ∧ (∀ i b, i < j → vx[i]? = some b → b.n ≠ a.n) ∧ a.tm = .non ∧ Q (.ref a.o) H
theorem ok_Book_plain_voice {P : Program} {w : World} {K : PySem.W.Frag} {mg : Str → Option Value} {base : Heap} {t : Adr} (T : Txt K w mg t) : FnOk P w K mg base CX0 (0 + 2) t.f_Book_plain_voice t.d_Book_plain_voice ["self", "name"] (sp_Book_plain_voice t.C_Book t.C_Voice) := by
  have G_Book_voice_called := ok_Book_voice_called (P := P) (w := w) (base := base) T
  refine T.F_Book_plain_voice.ok sc_Book_plain_voice (fun vs H Q E h => ?_) (fun cdv A outer s H vs Q E hr h => ?_)
  · obtain ⟨_, _, _, _, _, _, _, _, _, rfl, _⟩ := h
    rfl
  · obtain ⟨x, dx, L, D, U, xs, vx, j, a, rfl, hx, hL, g, hj, hno, hn, q⟩ := h
    refine bodyOk (pss_cons (ps_set (i := 2) sc_Book_plain_voice.nd rfl (Or.inl rfl) (pe_meth (pv 0) T.cl_Book T.me_Book_voice_called G_Book_voice_called (hr.mono (by decide)) T.b_Book_voice_called .nil pass0 (pa_cons (pv 1) pa_nil))) (pss_cons (ps_if (pt_cmpR op_notN (pe_fld (pv 2) rfl) pe_non (nomark _)) (pss_one ps_never) pss_nil) (pss_one (ps_ret (pv 2))))) ?_
    obtain ⟨v, hv, rfl, ha⟩ := pgetR g hj
    refine ⟨_, rfl, x, dx, _, rfl, hx, boF_no_voice_called _ _ _, _, rfl, x, dx, L, D, U, xs, vx, j, a, rfl, hx, hL, g, hj, hno, ?_⟩
    refine ⟨_, rfl, a.o, _, a.d, _, _, rfl, ha, T.cl_Voice, T.na_Voice_terms, voF_terms _ _ _, ?_⟩
    rw [hn]
    refine ⟨rfl, _, rfl, ?_⟩
    exact ite2 (fun h => absurd h (by decide)) (fun _ => ⟨_, rfl, q⟩)

end Mine

namespace Mine
open PySem L2
/-- a plain voice's line in a book, and what a deed needs -/
structure Pl (CB CV : Addr) (H : Hp) (x L D U : Addr) (a : Vx) (ds : List V) (ys : List V) (ss : List Sg) : Prop where
  ex : ∃ (dx : Addr) (xs us : List V) (vx : List Vx) (j : Nat), H x = some (.ins CB dx (boF L D U)) ∧ H L = some (.lst xs) ∧ H D = some (.lst ds) ∧ H U = some (.lst us) ∧ Paired (VxAt CV H) xs vx ∧ vx[j]? = some a ∧ (∀ i b, i < j → vx[i]? = some b → b.n ≠ a.n)
  tm : a.tm = .non
  l : H a.l = some (.lst ys)
  sg : Sgs H ys ss
  d1 : a.l ≠ D
  d2 : a.l ≠ U
  d3 : D ≠ U
  dl : ds.length ≤ 900
  sl : ss.length ≤ 200
def sp_Book_put (CB CV : Addr) : Sp := fun vs H Q _ => ∃ (x L D U p : Addr) (a : Vx) (ds ys : List V) (ss : List Sg) (i : Nat) (s : Sg), vs = [.ref x, .str a.n, .int (i : Int), .ref p] ∧ Pl CB CV H x L D U a ds ys ss ∧ i ≤ ss.length ∧ ss.length < 200 ∧ H p = some (.tup [.str s.1.str, .int s.2]) ∧ GoodT s ∧
  ∀ (w d : Addr) (H' : Hp), (∀ y o, H y = some o → y ≠ a.l → y ≠ D → y ≠ U → H' y = some o) → H' a.l = some (.lst (ys.take i ++ [.ref p] ++ ys.drop i)) → H' D = some (.lst (ds ++ [.ref d])) → H' U = some (.lst []) → Q (.ref w) H'
theorem ok_Book_put {P : Program} {w : World} {K : PySem.W.Frag} {mg : Str → Option Value} {base : Heap} {t : Adr} (T : Txt K w mg t) : FnOk P w K mg base CX0 (0 + 4) t.f_Book_put t.d_Book_put ["self", "name", "at", "sign"] (sp_Book_put t.C_Book t.C_Voice) := by
  have G_refuse_other_places := ok_refuse_other_places (P := P) (w := w) (base := base) T
  have G_refuse_bad_sign := ok_refuse_bad_sign (P := P) (w := w) (base := base) T
  have G_Book_perform := ok_Book_perform (P := P) (w := w) (base := base) T
  have G_window := ok_window (P := P) (w := w) (base := base) T
  have G_Book_plain_voice := ok_Book_plain_voice (P := P) (w := w) (base := base) T
  have G_Deed___init__ := ok_Deed___init__ (P := P) (w := w) (base := base) T
  refine T.F_Book_put.ok sc_Book_put (fun vs H Q E h => ?_) (fun cdv A outer s H vs Q E hr h => ?_)
  · obtain ⟨_, _, _, _, _, _, _, _, _, _, _, rfl, _⟩ := h
    rfl
  · obtain ⟨x, L, D, U, p, a, ds, ys, ss, i, sg, rfl, ⟨⟨dx, xs, us, vx, j, hx, hL, hD, hU, g, hj, hno⟩, htm, hl, hg, d1, d2, d3, dl, sl⟩, hi, hlt, hp, gt, q⟩ := h
    refine bodyOk (pss_cons (ps_set (i := 4) sc_Book_put.nd rfl (Or.inl rfl) (pe_fld (pe_meth (pv 0) T.cl_Book T.me_Book_plain_voice G_Book_plain_voice (hr.mono (by decide)) T.b_Book_plain_voice .nil pass0 (pa_cons (pv 1) pa_nil)) rfl)) (pss_cons (ps_expr (pe_call G_refuse_other_places (hr.mono (by decide)) rfl T.mg_refuse_other_places T.F_refuse_other_places.kp T.b_refuse_other_places .nil pass0 (pa_cons (pv 2) (pa_cons (pe_callB (call_len_seq.or call_len_str) rfl T.nb_len bt_len (pa_cons (pv 4) pa_nil)) pa_nil)))) (pss_cons (ps_expr (pe_call G_refuse_bad_sign (hr.mono (by decide)) rfl T.mg_refuse_bad_sign T.F_refuse_bad_sign.kp T.b_refuse_bad_sign .nil pass0 (pa_cons (pv 3) pa_nil))) (pss_cons (ps_if (pt_cmpR op_ge (pe_callB (call_len_seq.or call_len_str) rfl T.nb_len bt_len (pa_cons (pv 4) pa_nil)) (pe_glob (v := .int 200) rfl T.c_MOST_SIGNS ⟨_, rfl⟩) (nomark _)) (pss_one ps_never) pss_nil) (pss_cons (ps_expr (pe_meth (pv 0) T.cl_Book T.me_Book_perform G_Book_perform (hr.mono (by decide)) T.b_Book_perform .nil pass0 (pa_cons (pe_make T.mk_Deed G_Deed___init__ (hr.mono (by decide)) rfl T.mg_Deed T.b_Deed___init__ .nil pass0 (pa_cons (pv 4) (pa_cons (pv 2) (pa_cons (pe_lst pa_nil) (pa_cons (pe_lst (pa_cons (pv 3) pa_nil)) pa_nil))))) pa_nil))) (pss_one (ps_ret (pe_call G_window (hr.mono (by decide)) rfl T.mg_window T.F_window.kp T.b_window .nil pass0 (pa_cons (pv 4) (pa_cons (pv 2) (pa_cons (pe_op (op_add.or (op_add_str.or op_cat)) (pv 2) pe_int) (pa_cons (pe_lst (pa_cons (pv 3) pa_nil)) pa_nil)))))))))))) ?_
    have yl := plen hg
    obtain ⟨v, hv, rfl, ha⟩ := pgetR g hj
    refine ⟨_, rfl, x, dx, _, rfl, hx, boF_no_plain_voice _ _ _, _, rfl, x, dx, L, D, U, xs, vx, j, a, rfl, hx, hL, g, hj, hno, htm, ?_⟩
    refine ⟨a.o, _, a.d, _, _, rfl, ha, T.cl_Voice, T.na_Voice_signs, voF_signs _ _ _, ?_⟩
    refine ⟨_, rfl, _, rfl, .inl ⟨a.l, ys, rfl, .inl (SqL.of hl), ?_⟩⟩
    refine ⟨(i : Int), (ys.length : Int), rfl, by omega, by omega, ?_⟩
    refine ⟨_, rfl, p, sg, rfl, hp, gt, ?_⟩
    refine ⟨_, rfl, .inl ⟨a.l, ys, rfl, .inl (SqL.of hl), ?_⟩⟩
    refine ⟨_, _, rfl, rfl, _, rfl, ?_⟩
    refine ite2 (fun h => ?_) (fun _ => ?_)
    · have := of_decide_eq_true h
      omega
    refine ⟨_, rfl, x, dx, _, rfl, hx, boF_no_perform _ _ _, ?_⟩
    refine ⟨_, rfl, _, rfl, big (by show 0 ≤ 1000; omega), fun B hB => ?_⟩
    refine ⟨_, rfl, big (by show 1 ≤ 1000; omega), fun A_ hA => ?_⟩
    have lA : a.l ≠ A_ := ne_of_none (Same.upd (o := .lst []) hB _ _ hl) hA
    have sB := (Same.upd (o := .lst []) hB).trans (Same.upd (o := .lst [V.ref p]) hA)
    have hB2 := Same.upd (o := .lst [V.ref p]) hA _ _ (upd_same (H := H) (a := B) (o := .lst []))
    have hA2 := upd_same (H := upd H B (.lst [])) (a := A_) (o := .lst [V.ref p])
    generalize upd (upd H B (.lst [])) A_ (.lst [V.ref p]) = H2 at sB hB2 hA2
    intro d dd nd ndd ne
    refine ⟨d, dd, a.l, (i : Int), B, A_, rfl, upd_same, rfl, ?_⟩
    rw [upd_upd]
    have s3 : Same H2 (upd (upd H2 dd (.own d)) d (.ins t.C_Deed dd (deF a.l (i : Int) B A_))) := fun y o hy => by
      rw [upd_ne (ne_of_none hy nd), upd_ne (ne_of_none hy ndd)]
      exact hy
    have hd3 := upd_same (H := upd H2 dd (.own d)) (a := d) (o := .ins t.C_Deed dd (deF a.l (i : Int) B A_))
    generalize upd (upd H2 dd (.own d)) d (.ins t.C_Deed dd (deF a.l (i : Int) B A_)) = H3 at s3 hd3
    have s4 := sB.trans s3
    refine ⟨x, dx, L, D, U, d, dd, a.l, B, A_, i, ds, us, ys, [], [.ref p], rfl, s4 _ _ hx, s4 _ _ hD, s4 _ _ hU, hd3, s4 _ _ hl, s3 _ _ hB2, s3 _ _ hA2, lA, d1, d2, d3, by simp; omega, by simp; omega, dl, ?_⟩
    have keep : ∀ y o, H y = some o → y ≠ a.l → y ≠ D → y ≠ U → (upd (upd (upd H3 a.l (.lst (ys.take i ++ [.ref p] ++ ys.drop (i + 0)))) D (.lst (ds ++ [.ref d]))) U (.lst [])) y = some o := fun y o hy y1 y2 y3 => by
      rw [upd_ne y3, upd_ne y2, upd_ne y1]
      exact s4 _ _ hy
    have k1 : (upd (upd (upd H3 a.l (.lst (ys.take i ++ [.ref p] ++ ys.drop (i + 0)))) D (.lst (ds ++ [.ref d]))) U (.lst [])) a.l = some (.lst (ys.take i ++ [.ref p] ++ ys.drop i)) := by
      rw [upd_ne d2, upd_ne d1, upd_same]
      rfl
    have k2 : (upd (upd (upd H3 a.l (.lst (ys.take i ++ [.ref p] ++ ys.drop (i + 0)))) D (.lst (ds ++ [.ref d]))) U (.lst [])) D = some (.lst (ds ++ [.ref d])) := by
      rw [upd_ne d3, upd_same]
    have k3 : (upd (upd (upd H3 a.l (.lst (ys.take i ++ [.ref p] ++ ys.drop (i + 0)))) D (.lst (ds ++ [.ref d]))) U (.lst [])) U = some (.lst []) := upd_same
    generalize (upd (upd (upd H3 a.l (.lst (ys.take i ++ [.ref p] ++ ys.drop (i + 0)))) D (.lst (ds ++ [.ref d]))) U (.lst [])) = H4 at keep k1 k2 k3
    have tupKeep : ∀ y us, H y = some (.tup us) → H4 y = some (.tup us) := fun y us hy => keep y _ hy (ne_of hy hl (by intro z; cases z)) (ne_of hy hD (by intro z; cases z)) (ne_of hy hU (by intro z; cases z))
    have sgK : ∀ {vs : List V} {zs : List Sg}, Sgs H vs zs → Sgs H4 vs zs := fun h => pmono (fun _ _ ⟨b, e1, e2⟩ => ⟨b, e1, tupKeep _ _ e2⟩) h
    refine ⟨_, rfl, _, rfl, _, rfl, .inl ⟨_, _, rfl, rfl, _, rfl, big (by show 1 ≤ 1000; omega), fun lc hlc => ?_⟩⟩
    have sc := Same.upd (o := .lst [V.ref p]) hlc
    have sgN : Sgs H4 (ys.take i ++ [.ref p] ++ ys.drop i) (ss.take i ++ [sg] ++ ss.drop i) := papp (papp (sgK (ptake i hg)) (.cons ⟨p, rfl, tupKeep _ _ hp⟩ .nil)) (sgK (pdrop i hg))
    refine ⟨a.l, lc, _, [.ref p], ss.take i ++ [sg] ++ ss.drop i, [sg], i, i + 1, rfl, SqL.of (sc _ _ k1), sgN.same sc, by simp; omega, by simp; omega, by omega, SqL.of upd_same, .cons ⟨p, rfl, sc _ _ (tupKeep _ _ hp)⟩ .nil, by simp, fun w H5 s5 => ?_⟩
    have s6 := sc.trans s5
    exact q w d H5 (fun y o hy y1 y2 y3 => s6 _ _ (keep y o hy y1 y2 y3)) (s6 _ _ k1) (s6 _ _ k2) (s6 _ _ k3)

end Mine

namespace Mine
open PySem L2
def sp_Book_swap (CB CV : Addr) : Sp := fun vs H Q _ => ∃ (x L D U p : Addr) (a : Vx) (ds ys : List V) (ss : List Sg) (i : Nat) (s : Sg), vs = [.ref x, .str a.n, .int (i : Int), .ref p] ∧ Pl CB CV H x L D U a ds ys ss ∧ i < ss.length ∧ H p = some (.tup [.str s.1.str, .int s.2]) ∧ GoodT s ∧
  ∀ (w d : Addr) (H' : Hp), (∀ y o, H y = some o → y ≠ a.l → y ≠ D → y ≠ U → H' y = some o) → H' a.l = some (.lst (ys.take i ++ [.ref p] ++ ys.drop (i + 1))) → H' D = some (.lst (ds ++ [.ref d])) → H' U = some (.lst []) → Q (.ref w) H'
theorem ok_Book_swap {P : Program} {w : World} {K : PySem.W.Frag} {mg : Str → Option Value} {base : Heap} {t : Adr} (T : Txt K w mg t) : FnOk P w K mg base CX0 (0 + 4) t.f_Book_swap t.d_Book_swap ["self", "name", "at", "sign"] (sp_Book_swap t.C_Book t.C_Voice) := by
  have G_refuse_other_places := ok_refuse_other_places (P := P) (w := w) (base := base) T
  have G_refuse_bad_sign := ok_refuse_bad_sign (P := P) (w := w) (base := base) T
  have G_Book_perform := ok_Book_perform (P := P) (w := w) (base := base) T
  have G_window := ok_window (P := P) (w := w) (base := base) T
  have G_Book_plain_voice := ok_Book_plain_voice (P := P) (w := w) (base := base) T
  have G_Deed___init__ := ok_Deed___init__ (P := P) (w := w) (base := base) T
  refine T.F_Book_swap.ok sc_Book_swap (fun vs H Q E h => ?_) (fun cdv A outer s H vs Q E hr h => ?_)
  · obtain ⟨_, _, _, _, _, _, _, _, _, _, _, rfl, _⟩ := h
    rfl
  · obtain ⟨x, L, D, U, p, a, ds, ys, ss, i, sg, rfl, ⟨⟨dx, xs, us, vx, j, hx, hL, hD, hU, g, hj, hno⟩, htm, hl, hg, d1, d2, d3, dl, sl⟩, hi, hp, gt, q⟩ := h
    refine bodyOk (pss_cons (ps_set (i := 4) sc_Book_swap.nd rfl (Or.inl rfl) (pe_fld (pe_meth (pv 0) T.cl_Book T.me_Book_plain_voice G_Book_plain_voice (hr.mono (by decide)) T.b_Book_plain_voice .nil pass0 (pa_cons (pv 1) pa_nil)) rfl)) (pss_cons (ps_expr (pe_call G_refuse_other_places (hr.mono (by decide)) rfl T.mg_refuse_other_places T.F_refuse_other_places.kp T.b_refuse_other_places .nil pass0 (pa_cons (pv 2) (pa_cons (pe_op op_sub (pe_callB (call_len_seq.or call_len_str) rfl T.nb_len bt_len (pa_cons (pv 4) pa_nil)) pe_int) pa_nil)))) (pss_cons (ps_expr (pe_call G_refuse_bad_sign (hr.mono (by decide)) rfl T.mg_refuse_bad_sign T.F_refuse_bad_sign.kp T.b_refuse_bad_sign .nil pass0 (pa_cons (pv 3) pa_nil))) (pss_cons (ps_set (i := 5) sc_Book_swap.nd rfl (Or.inl rfl) (pe_ix ix_seq (pv 4) (pv 2) (fun _ _ => rfl))) (pss_cons (ps_expr (pe_meth (pv 0) T.cl_Book T.me_Book_perform G_Book_perform (hr.mono (by decide)) T.b_Book_perform .nil pass0 (pa_cons (pe_make T.mk_Deed G_Deed___init__ (hr.mono (by decide)) rfl T.mg_Deed T.b_Deed___init__ .nil pass0 (pa_cons (pv 4) (pa_cons (pv 2) (pa_cons (pe_lst (pa_cons (pv 5) pa_nil)) (pa_cons (pe_lst (pa_cons (pv 3) pa_nil)) pa_nil))))) pa_nil))) (pss_one (ps_ret (pe_call G_window (hr.mono (by decide)) rfl T.mg_window T.F_window.kp T.b_window .nil pass0 (pa_cons (pv 4) (pa_cons (pv 2) (pa_cons (pe_op (op_add.or (op_add_str.or op_cat)) (pv 2) pe_int) (pa_cons (pe_lst (pa_cons (pv 5) (pa_cons (pv 3) pa_nil))) pa_nil)))))))))))) ?_
    have yl := plen hg
    obtain ⟨v, hv, rfl, ha⟩ := pgetR g hj
    refine ⟨_, rfl, x, dx, _, rfl, hx, boF_no_plain_voice _ _ _, _, rfl, x, dx, L, D, U, xs, vx, j, a, rfl, hx, hL, g, hj, hno, htm, ?_⟩
    refine ⟨a.o, _, a.d, _, _, rfl, ha, T.cl_Voice, T.na_Voice_signs, voF_signs _ _ _, ?_⟩
    refine ⟨_, rfl, _, rfl, .inl ⟨a.l, ys, rfl, .inl (SqL.of hl), ?_⟩⟩
    refine ⟨_, _, rfl, rfl, ?_⟩
    refine ⟨(i : Int), ((ys.length : Int) - 1), rfl, by omega, by omega, ?_⟩
    refine ⟨_, rfl, p, sg, rfl, hp, gt, ?_⟩
    obtain ⟨sg0, hsg⟩ : ∃ sg, ss[i]? = some sg := ⟨_, List.getElem?_eq_getElem hi⟩
    obtain ⟨vp, hvp, p0, rfl, hp0⟩ := pgetR hg hsg
    refine ⟨_, rfl, _, rfl, ixL (SqL.of hl) (n := i) rfl hvp ?_⟩
    refine ⟨_, rfl, x, dx, _, rfl, hx, boF_no_perform _ _ _, ?_⟩
    refine ⟨_, rfl, _, rfl, _, rfl, big (by show 1 ≤ 1000; omega), fun B hB => ?_⟩
    refine ⟨_, rfl, big (by show 1 ≤ 1000; omega), fun A_ hA => ?_⟩
    have lA : a.l ≠ A_ := ne_of_none (Same.upd (o := .lst [V.ref p0]) hB _ _ hl) hA
    have sB := (Same.upd (o := .lst [V.ref p0]) hB).trans (Same.upd (o := .lst [V.ref p]) hA)
    have hB2 := Same.upd (o := .lst [V.ref p]) hA _ _ (upd_same (H := H) (a := B) (o := .lst [V.ref p0]))
    have hA2 := upd_same (H := upd H B (.lst [V.ref p0])) (a := A_) (o := .lst [V.ref p])
    generalize upd (upd H B (.lst [V.ref p0])) A_ (.lst [V.ref p]) = H2 at sB hB2 hA2
    intro d dd nd ndd ne
    refine ⟨d, dd, a.l, (i : Int), B, A_, rfl, upd_same, rfl, ?_⟩
    rw [upd_upd]
    have s3 : Same H2 (upd (upd H2 dd (.own d)) d (.ins t.C_Deed dd (deF a.l (i : Int) B A_))) := fun y o hy => by
      rw [upd_ne (ne_of_none hy nd), upd_ne (ne_of_none hy ndd)]
      exact hy
    have hd3 := upd_same (H := upd H2 dd (.own d)) (a := d) (o := .ins t.C_Deed dd (deF a.l (i : Int) B A_))
    generalize upd (upd H2 dd (.own d)) d (.ins t.C_Deed dd (deF a.l (i : Int) B A_)) = H3 at s3 hd3
    have s4 := sB.trans s3
    refine ⟨x, dx, L, D, U, d, dd, a.l, B, A_, i, ds, us, ys, [.ref p0], [.ref p], rfl, s4 _ _ hx, s4 _ _ hD, s4 _ _ hU, hd3, s4 _ _ hl, s3 _ _ hB2, s3 _ _ hA2, lA, d1, d2, d3, by simp; omega, by simp; omega, dl, ?_⟩
    have keep : ∀ y o, H y = some o → y ≠ a.l → y ≠ D → y ≠ U → (upd (upd (upd H3 a.l (.lst (ys.take i ++ [.ref p] ++ ys.drop (i + 1)))) D (.lst (ds ++ [.ref d]))) U (.lst [])) y = some o := fun y o hy y1 y2 y3 => by
      rw [upd_ne y3, upd_ne y2, upd_ne y1]
      exact s4 _ _ hy
    have k1 : (upd (upd (upd H3 a.l (.lst (ys.take i ++ [.ref p] ++ ys.drop (i + 1)))) D (.lst (ds ++ [.ref d]))) U (.lst [])) a.l = some (.lst (ys.take i ++ [.ref p] ++ ys.drop (i + 1))) := by
      rw [upd_ne d2, upd_ne d1, upd_same]
    have k2 : (upd (upd (upd H3 a.l (.lst (ys.take i ++ [.ref p] ++ ys.drop (i + 1)))) D (.lst (ds ++ [.ref d]))) U (.lst [])) D = some (.lst (ds ++ [.ref d])) := by
      rw [upd_ne d3, upd_same]
    have k3 : (upd (upd (upd H3 a.l (.lst (ys.take i ++ [.ref p] ++ ys.drop (i + 1)))) D (.lst (ds ++ [.ref d]))) U (.lst [])) U = some (.lst []) := upd_same
    generalize (upd (upd (upd H3 a.l (.lst (ys.take i ++ [.ref p] ++ ys.drop (i + 1)))) D (.lst (ds ++ [.ref d]))) U (.lst [])) = H4 at keep k1 k2 k3
    have tupKeep : ∀ y us, H y = some (.tup us) → H4 y = some (.tup us) := fun y us hy => keep y _ hy (ne_of hy hl (by intro z; cases z)) (ne_of hy hD (by intro z; cases z)) (ne_of hy hU (by intro z; cases z))
    have sgK : ∀ {vs : List V} {zs : List Sg}, Sgs H vs zs → Sgs H4 vs zs := fun h => pmono (fun _ _ ⟨b, e1, e2⟩ => ⟨b, e1, tupKeep _ _ e2⟩) h
    refine ⟨_, rfl, _, rfl, _, rfl, .inl ⟨_, _, rfl, rfl, _, rfl, _, rfl, big (by show 2 ≤ 1000; omega), fun lc hlc => ?_⟩⟩
    have sc := Same.upd (o := .lst [V.ref p0, V.ref p]) hlc
    have sgN : Sgs H4 (ys.take i ++ [.ref p] ++ ys.drop (i + 1)) (ss.take i ++ [sg] ++ ss.drop (i + 1)) := papp (papp (sgK (ptake i hg)) (.cons ⟨p, rfl, tupKeep _ _ hp⟩ .nil)) (sgK (pdrop (i + 1) hg))
    refine ⟨a.l, lc, _, [.ref p0, .ref p], ss.take i ++ [sg] ++ ss.drop (i + 1), [sg0, sg], i, i + 1, rfl, SqL.of (sc _ _ k1), sgN.same sc, by simp; omega, by simp; omega, by omega, SqL.of upd_same, .cons ⟨p0, rfl, sc _ _ (tupKeep _ _ hp0)⟩ (.cons ⟨p, rfl, sc _ _ (tupKeep _ _ hp)⟩ .nil), by simp, fun w H5 s5 => ?_⟩
    have s6 := sc.trans s5
    exact q w d H5 (fun y o hy y1 y2 y3 => s6 _ _ (keep y o hy y1 y2 y3)) (s6 _ _ k1) (s6 _ _ k2) (s6 _ _ k3)

end Mine

namespace Mine
open PySem L2
def sp_Book_cut (CB CV : Addr) : Sp := fun vs H Q _ => ∃ (x L D U : Addr) (a : Vx) (ds ys : List V) (ss : List Sg) (i : Nat), vs = [.ref x, .str a.n, .int (i : Int)] ∧ Pl CB CV H x L D U a ds ys ss ∧ i < ss.length ∧
  ∀ (w d : Addr) (H' : Hp), (∀ y o, H y = some o → y ≠ a.l → y ≠ D → y ≠ U → H' y = some o) → H' a.l = some (.lst (ys.take i ++ [] ++ ys.drop (i + 1))) → H' D = some (.lst (ds ++ [.ref d])) → H' U = some (.lst []) → Q (.ref w) H'
theorem ok_Book_cut {P : Program} {w : World} {K : PySem.W.Frag} {mg : Str → Option Value} {base : Heap} {t : Adr} (T : Txt K w mg t) : FnOk P w K mg base CX0 (0 + 4) t.f_Book_cut t.d_Book_cut ["self", "name", "at"] (sp_Book_cut t.C_Book t.C_Voice) := by
  have G_refuse_other_places := ok_refuse_other_places (P := P) (w := w) (base := base) T
  have G_Book_perform := ok_Book_perform (P := P) (w := w) (base := base) T
  have G_window := ok_window (P := P) (w := w) (base := base) T
  have G_Book_plain_voice := ok_Book_plain_voice (P := P) (w := w) (base := base) T
  have G_Deed___init__ := ok_Deed___init__ (P := P) (w := w) (base := base) T
  refine T.F_Book_cut.ok sc_Book_cut (fun vs H Q E h => ?_) (fun cdv A outer s H vs Q E hr h => ?_)
  · obtain ⟨_, _, _, _, _, _, _, _, _, rfl, _⟩ := h
    rfl
  · obtain ⟨x, L, D, U, a, ds, ys, ss, i, rfl, ⟨⟨dx, xs, us, vx, j, hx, hL, hD, hU, g, hj, hno⟩, htm, hl, hg, d1, d2, d3, dl, sl⟩, hi, q⟩ := h
    refine bodyOk (pss_cons (ps_set (i := 3) sc_Book_cut.nd rfl (Or.inl rfl) (pe_fld (pe_meth (pv 0) T.cl_Book T.me_Book_plain_voice G_Book_plain_voice (hr.mono (by decide)) T.b_Book_plain_voice .nil pass0 (pa_cons (pv 1) pa_nil)) rfl)) (pss_cons (ps_expr (pe_call G_refuse_other_places (hr.mono (by decide)) rfl T.mg_refuse_other_places T.F_refuse_other_places.kp T.b_refuse_other_places .nil pass0 (pa_cons (pv 2) (pa_cons (pe_op op_sub (pe_callB (call_len_seq.or call_len_str) rfl T.nb_len bt_len (pa_cons (pv 3) pa_nil)) pe_int) pa_nil)))) (pss_cons (ps_set (i := 4) sc_Book_cut.nd rfl (Or.inl rfl) (pe_ix ix_seq (pv 3) (pv 2) (fun _ _ => rfl))) (pss_cons (ps_expr (pe_meth (pv 0) T.cl_Book T.me_Book_perform G_Book_perform (hr.mono (by decide)) T.b_Book_perform .nil pass0 (pa_cons (pe_make T.mk_Deed G_Deed___init__ (hr.mono (by decide)) rfl T.mg_Deed T.b_Deed___init__ .nil pass0 (pa_cons (pv 3) (pa_cons (pv 2) (pa_cons (pe_lst (pa_cons (pv 4) pa_nil)) (pa_cons (pe_lst pa_nil) pa_nil))))) pa_nil))) (pss_one (ps_ret (pe_call G_window (hr.mono (by decide)) rfl T.mg_window T.F_window.kp T.b_window .nil pass0 (pa_cons (pv 3) (pa_cons (pv 2) (pa_cons (pv 2) (pa_cons (pe_lst (pa_cons (pv 4) pa_nil)) pa_nil))))))))))) ?_
    have yl := plen hg
    obtain ⟨v, hv, rfl, ha⟩ := pgetR g hj
    refine ⟨_, rfl, x, dx, _, rfl, hx, boF_no_plain_voice _ _ _, _, rfl, x, dx, L, D, U, xs, vx, j, a, rfl, hx, hL, g, hj, hno, htm, ?_⟩
    refine ⟨a.o, _, a.d, _, _, rfl, ha, T.cl_Voice, T.na_Voice_signs, voF_signs _ _ _, ?_⟩
    refine ⟨_, rfl, _, rfl, .inl ⟨a.l, ys, rfl, .inl (SqL.of hl), ?_⟩⟩
    refine ⟨_, _, rfl, rfl, ?_⟩
    refine ⟨(i : Int), ((ys.length : Int) - 1), rfl, by omega, by omega, ?_⟩
    obtain ⟨sg, hsg⟩ : ∃ sg, ss[i]? = some sg := ⟨_, List.getElem?_eq_getElem hi⟩
    obtain ⟨vp, hvp, p, rfl, hp⟩ := pgetR hg hsg
    refine ⟨_, rfl, _, rfl, ixL (SqL.of hl) (n := i) rfl hvp ?_⟩
    refine ⟨_, rfl, x, dx, _, rfl, hx, boF_no_perform _ _ _, ?_⟩
    refine ⟨_, rfl, _, rfl, _, rfl, big (by show 1 ≤ 1000; omega), fun B hB => ?_⟩
    refine ⟨big (by show 0 ≤ 1000; omega), fun A_ hA => ?_⟩
    have lA : a.l ≠ A_ := ne_of_none (Same.upd (o := .lst [V.ref p]) hB _ _ hl) hA
    have sB := (Same.upd (o := .lst [V.ref p]) hB).trans (Same.upd (o := .lst []) hA)
    have hB2 := Same.upd (o := .lst []) hA _ _ (upd_same (H := H) (a := B) (o := .lst [V.ref p]))
    have hA2 := upd_same (H := upd H B (.lst [V.ref p])) (a := A_) (o := .lst [])
    generalize upd (upd H B (.lst [V.ref p])) A_ (.lst []) = H2 at sB hB2 hA2
    intro d dd nd ndd ne
    refine ⟨d, dd, a.l, (i : Int), B, A_, rfl, upd_same, rfl, ?_⟩
    rw [upd_upd]
    have s3 : Same H2 (upd (upd H2 dd (.own d)) d (.ins t.C_Deed dd (deF a.l (i : Int) B A_))) := fun y o hy => by
      rw [upd_ne (ne_of_none hy nd), upd_ne (ne_of_none hy ndd)]
      exact hy
    have hd3 := upd_same (H := upd H2 dd (.own d)) (a := d) (o := .ins t.C_Deed dd (deF a.l (i : Int) B A_))
    generalize upd (upd H2 dd (.own d)) d (.ins t.C_Deed dd (deF a.l (i : Int) B A_)) = H3 at s3 hd3
    have s4 := sB.trans s3
    refine ⟨x, dx, L, D, U, d, dd, a.l, B, A_, i, ds, us, ys, [.ref p], [], rfl, s4 _ _ hx, s4 _ _ hD, s4 _ _ hU, hd3, s4 _ _ hl, s3 _ _ hB2, s3 _ _ hA2, lA, d1, d2, d3, by simp; omega, by simp; omega, dl, ?_⟩
    have keep : ∀ y o, H y = some o → y ≠ a.l → y ≠ D → y ≠ U → (upd (upd (upd H3 a.l (.lst (ys.take i ++ [] ++ ys.drop (i + 1)))) D (.lst (ds ++ [.ref d]))) U (.lst [])) y = some o := fun y o hy y1 y2 y3 => by
      rw [upd_ne y3, upd_ne y2, upd_ne y1]
      exact s4 _ _ hy
    have k1 : (upd (upd (upd H3 a.l (.lst (ys.take i ++ [] ++ ys.drop (i + 1)))) D (.lst (ds ++ [.ref d]))) U (.lst [])) a.l = some (.lst (ys.take i ++ [] ++ ys.drop (i + 1))) := by
      rw [upd_ne d2, upd_ne d1, upd_same]
    have k2 : (upd (upd (upd H3 a.l (.lst (ys.take i ++ [] ++ ys.drop (i + 1)))) D (.lst (ds ++ [.ref d]))) U (.lst [])) D = some (.lst (ds ++ [.ref d])) := by
      rw [upd_ne d3, upd_same]
    have k3 : (upd (upd (upd H3 a.l (.lst (ys.take i ++ [] ++ ys.drop (i + 1)))) D (.lst (ds ++ [.ref d]))) U (.lst [])) U = some (.lst []) := upd_same
    generalize (upd (upd (upd H3 a.l (.lst (ys.take i ++ [] ++ ys.drop (i + 1)))) D (.lst (ds ++ [.ref d]))) U (.lst [])) = H4 at keep k1 k2 k3
    have tupKeep : ∀ y us, H y = some (.tup us) → H4 y = some (.tup us) := fun y us hy => keep y _ hy (ne_of hy hl (by intro z; cases z)) (ne_of hy hD (by intro z; cases z)) (ne_of hy hU (by intro z; cases z))
    have sgK : ∀ {vs : List V} {zs : List Sg}, Sgs H vs zs → Sgs H4 vs zs := fun h => pmono (fun _ _ ⟨b, e1, e2⟩ => ⟨b, e1, tupKeep _ _ e2⟩) h
    refine ⟨_, rfl, _, rfl, _, rfl, _, rfl, big (by show 1 ≤ 1000; omega), fun lc hlc => ?_⟩
    have sc := Same.upd (o := .lst [V.ref p]) hlc
    have sgN : Sgs H4 (ys.take i ++ [] ++ ys.drop (i + 1)) (ss.take i ++ [] ++ ss.drop (i + 1)) := papp (papp (sgK (ptake i hg)) .nil) (sgK (pdrop (i + 1) hg))
    refine ⟨a.l, lc, _, [.ref p], ss.take i ++ [] ++ ss.drop (i + 1), [sg], i, i, rfl, SqL.of (sc _ _ k1), sgN.same sc, by simp; omega, by simp; omega, by omega, SqL.of upd_same, .cons ⟨p, rfl, sc _ _ (tupKeep _ _ hp)⟩ .nil, by simp, fun w H5 s5 => ?_⟩
    have s6 := sc.trans s5
    exact q w d H5 (fun y o hy y1 y2 y3 => s6 _ _ (keep y o hy y1 y2 y3)) (s6 _ _ k1) (s6 _ _ k2) (s6 _ _ k3)

end Mine

namespace Mine
open PySem L2
/-- a book with a voice, or two, the first one's line told -/
structure Bk2 (CB CV : Addr) (H0 H : Hp) (x L D U : Addr) (a : Vx) (ob : Option Vx) (ds ys : List V) (n : Nat) : Prop where
  sm : Same H0 H
  nL : H0 L = none
  nD : H0 D = none
  nU : H0 U = none
  nl : H0 a.l = none
  hx : ∃ dx, H x = some (.ins CB dx (boF L D U))
  hL : H L = some (.lst (.ref a.o :: ob.toList.map fun b => .ref b.o))
  hD : H D = some (.lst ds)
  hU : ∃ us, H U = some (.lst us)
  ha : H a.o = some (.ins CV a.d (voF a.n a.tm a.l))
  an : a.n = "ann"
  at' : a.tm = .non
  hl : H a.l = some (.lst ys)
  hb : ∀ b, ob = some b → H b.o = some (.ins CV b.d (voF b.n b.tm b.l)) ∧ H b.l = some (.lst []) ∧ b.n = "bo" ∧ b.tm = .non ∧ b.l ≠ a.l ∧ b.l ≠ D ∧ b.l ≠ U
  d1 : a.l ≠ D
  d2 : a.l ≠ U
  d3 : D ≠ U
  d4 : L ≠ a.l
  d5 : L ≠ D
  d6 : L ≠ U
  dl : ds.length ≤ n
section
variable {CB CV : Addr} {H0 H H' : Hp} {x L D U : Addr} {a : Vx} {ob : Option Vx} {ds ys : List V} {n : Nat}
theorem Bk2.same (h : Bk2 CB CV H0 H x L D U a ob ds ys n) (s : Same H H') : Bk2 CB CV H0 H' x L D U a ob ds ys n :=
  { h with
    sm := h.sm.trans s
    hx := let ⟨dx, e⟩ := h.hx; ⟨dx, s _ _ e⟩
    hL := s _ _ h.hL
    hD := s _ _ h.hD
    hU := let ⟨us, e⟩ := h.hU; ⟨us, s _ _ e⟩
    ha := s _ _ h.ha
    hl := s _ _ h.hl
    hb := fun b e => let ⟨p, q, r⟩ := h.hb b e; ⟨s _ _ p, s _ _ q, r⟩ }
theorem Bk2.step (h : Bk2 CB CV H0 H x L D U a ob ds ys n) {d : Addr} {zs : List V} (fr : ∀ y o, H y = some o → y ≠ a.l → y ≠ D → y ≠ U → H' y = some o) (e1 : H' a.l = some (.lst zs)) (e2 : H' D = some (.lst (ds ++ [.ref d]))) (e3 : H' U = some (.lst [])) :
    Bk2 CB CV H0 H' x L D U a ob (ds ++ [.ref d]) zs (n + 1) := by
  obtain ⟨us, hU⟩ := h.hU
  have k : ∀ {y : Addr} {C dx : Addr} {fs}, H y = some (.ins C dx fs) → H' y = some (.ins C dx fs) := fun {y C dx fs} hy => fr _ _ hy (ne_of hy h.hl (by intro z; cases z)) (ne_of hy h.hD (by intro z; cases z)) (ne_of hy hU (by intro z; cases z))
  exact { h with
    sm := fun y o hy => fr y o (h.sm y o hy) (ne_of_none hy h.nl) (ne_of_none hy h.nD) (ne_of_none hy h.nU)
    hx := let ⟨dx, e⟩ := h.hx; ⟨dx, k e⟩
    hL := fr _ _ h.hL h.d4 h.d5 h.d6
    hD := e2
    hU := ⟨_, e3⟩
    ha := k h.ha
    hl := e1
    hb := fun b e => let ⟨p, q, r⟩ := h.hb b e; ⟨k p, fr _ _ q r.2.2.1 r.2.2.2.1 r.2.2.2.2, r⟩
    dl := by rw [List.length_append]; exact Nat.succ_le_succ h.dl }
def vxs (a : Vx) (ob : Option Vx) : List Vx := a :: ob.toList
theorem Bk2.prd (h : Bk2 CB CV H0 H x L D U a ob ds ys n) : Paired (VxAt CV H) (.ref a.o :: ob.toList.map fun b => .ref b.o) (vxs a ob) := by
  refine .cons ⟨rfl, h.ha⟩ ?_
  cases e : ob with
  | none => exact .nil
  | some b => exact .cons ⟨rfl, (h.hb b e).1⟩ .nil
theorem Bk2.pl (h : Bk2 CB CV H0 H x L D U a ob ds ys n) {ss : List Sg} (g : Sgs H ys ss) (hn : n ≤ 900) (hs : ss.length ≤ 200) : Pl CB CV H x L D U a ds ys ss := by
  obtain ⟨us, hU⟩ := h.hU
  obtain ⟨dx, hx⟩ := h.hx
  exact ⟨⟨dx, _, us, vxs a ob, 0, hx, h.hL, h.hD, hU, h.prd, rfl, fun i b hi => by omega⟩, h.at', h.hl, g, h.d1, h.d2, h.d3, Nat.le_trans h.dl hn, hs⟩
theorem Bk2.sg (h : Bk2 CB CV H0 H x L D U a ob ds ys n) (fr : ∀ y o, H y = some o → y ≠ a.l → y ≠ D → y ≠ U → H' y = some o) {vs : List V} {ss : List Sg} (g : Sgs H vs ss) : Sgs H' vs ss := by
  obtain ⟨us, hU⟩ := h.hU
  exact pmono (fun _ _ ⟨b, e1, e2⟩ => ⟨b, e1, fr _ _ e2 (ne_of e2 h.hl (by intro z; cases z)) (ne_of e2 h.hD (by intro z; cases z)) (ne_of e2 hU (by intro z; cases z))⟩) g
end
theorem mkSame {H H' : Hp} {x dx C : Addr} (hx : H x = none) (hdx : H dx = none) (kp : ∀ y o, (upd (upd H dx (.own x)) x (.ins C dx [])) y = some o → y ≠ x → H' y = some o) : Same H H' := fun y o hy =>
  kp y o (by rw [upd_ne (ne_of_none hy hx), upd_ne (ne_of_none hy hdx)]; exact hy) (ne_of_none hy hx)
theorem mkFree {H : Hp} {x dx D : Addr} {o1 o2 : HO} (h : upd (upd H dx o1) x o2 D = none) : H D = none := by
  unfold upd at h
  split at h
  · cases h
  · split at h
    · cases h
    · exact h
theorem modN (z : Int) {k : Int} (hk : 0 < k) : ∃ m : Nat, z % k = (m : Int) ∧ (m : Int) < k := by
  have z1 := Int.emod_nonneg z (show k ≠ 0 by omega)
  have z2 := Int.emod_lt_of_pos z hk
  exact ⟨(z % k).toNat, by omega, by omega⟩
theorem put_end {xs : List V} {i : Nat} {y : V} (h : xs[i]? = some y) : (xs.take i).take i ++ [y] ++ (xs.take i).drop i = xs.take (i + 1) := by
  rw [List.take_take, Nat.min_self, List.drop_eq_nil_of_le (by rw [List.length_take]; omega), List.append_nil, List.take_succ, h]
  rfl
theorem cutB (v : V) (w : Nat) : cutV [v] none (some (if decide (V.int (w : Int) = V.int 2) = true then 1 else 0)) = if w = 2 then [v] else [] := by
  by_cases h : w = 2
  · subst h
    rfl
  · rw [if_neg h, if_neg (fun e => h (by have := V.int.inj (of_decide_eq_true e); omega))]
    rfl
theorem ok_law {P : Program} {w : World} {K : PySem.W.Frag} {mg : Str → Option Value} {base : Heap} {t : Adr} (T : Txt K w mg t) : FnOk P w K mg base CX0 (0 + 5) t.f_law t.d_law ["_law_script"] (sp_law K) := by
  have G_Book___init__ := ok_Book___init__ (P := P) (w := w) (base := base) T
  have G_Book_add_voice := ok_Book_add_voice (P := P) (w := w) (base := base) T
  have G_l_sign_by := ok_l_sign_by (P := P) (w := w) (base := base) T
  have G_Book_line := ok_Book_line (P := P) (w := w) (base := base) T
  have G_l_signs := ok_l_signs (P := P) (w := w) (base := base) T
  have G_l_line := ok_l_line (P := P) (w := w) (base := base) T
  have G_Book_put := ok_Book_put (P := P) (w := w) (base := base) T
  have G_l_cell_at := ok_l_cell_at (P := P) (w := w) (base := base) T
  have G_Book_swap := ok_Book_swap (P := P) (w := w) (base := base) T
  have G_Book_cut := ok_Book_cut (P := P) (w := w) (base := base) T
  refine T.F_law.ok sc_law (fun vs H Q E h => ?_) (fun cdv A outer s H vs Q E hr h => ?_)
  · obtain ⟨a, ns, rfl, _⟩ := h
    rfl
  · obtain ⟨a, ns, rfl, hS, hl, q⟩ := h
    refine bodyOk (pss_cons (ps_set (i := 1) sc_law.nd rfl (Or.inl rfl) (pe_slice (sl_list.or (sl_tup.or sl_str)) (pe_call G_l_line (hr.mono (by decide)) rfl T.mg_l_line T.F_l_line.kp T.b_l_line .nil pass0 (pa_cons (pv 0) (pa_cons pe_int (pa_cons (pe_op op_mod (pe_call G_l_cell_at (hr.mono (by decide)) rfl T.mg_l_cell_at T.F_l_cell_at.kp T.b_l_cell_at .nil pass0 (pa_cons (pv 0) (pa_cons pe_int pa_nil))) pe_int) pa_nil)))) po_none (po_some pe_int))) (pss_cons (ps_set (i := 2) sc_law.nd rfl (Or.inl rfl) (pe_make0 T.mk_Book G_Book___init__ (hr.mono (by decide)) rfl T.mg_Book T.b_Book___init__ .nil pass0)) (pss_cons (ps_expr (pe_meth (pv 2) T.cl_Book T.me_Book_add_voice G_Book_add_voice (hr.mono (by decide)) T.b_Book_add_voice .nil pass0 (pa_cons pe_str pa_nil))) (pss_cons (ps_mid (ps_if (pt_cmpR (op_eq.or (op_eqD (hu_of64 hr))) (pe_op op_mod (pe_op op_fdiv (pe_call G_l_cell_at (hr.mono (by decide)) rfl T.mg_l_cell_at T.F_l_cell_at.kp T.b_l_cell_at .nil pass0 (pa_cons (pv 0) (pa_cons pe_int pa_nil))) pe_int) pe_int) pe_int (nomark _)) (pss_one (ps_expr (pe_meth (pv 2) T.cl_Book T.me_Book_add_voice G_Book_add_voice (hr.mono (by decide)) T.b_Book_add_voice .nil pass0 (pa_cons pe_str pa_nil)))) pss_nil)) (pss_cons (ps_for PassesOwn.never rfl (pi_enum rfl T.nb_enumerate (pv 1)) (pg_tup rfl (pgs_cons (pg_name (i := 3) sc_law.nd rfl (Or.inl rfl)) (pgs_cons (pg_name (i := 4) sc_law.nd rfl (Or.inl rfl)) pgs_nil))) (pss_one (ps_expr (pe_meth (pv 2) T.cl_Book T.me_Book_put G_Book_put (hr.mono (by decide)) T.b_Book_put .nil pass0 (pa_cons pe_str (pa_cons (pv 3) (pa_cons (pv 4) pa_nil))))))) (pss_cons (ps_if (pt_not (pt_val (pe_call G_l_signs (hr.mono (by decide)) rfl T.mg_l_signs T.F_l_signs.kp T.b_l_signs .nil pass0 (pa_cons (pe_meth (pv 2) T.cl_Book T.me_Book_line G_Book_line (hr.mono (by decide)) T.b_Book_line .nil pass0 (pa_cons pe_str pa_nil)) (pa_cons (pv 1) pa_nil))))) (pss_one (ps_ret pe_bl)) pss_nil) (pss_cons (ps_set (i := 5) sc_law.nd rfl (Or.inl rfl) (pe_op op_mod (pe_call G_l_cell_at (hr.mono (by decide)) rfl T.mg_l_cell_at T.F_l_cell_at.kp T.b_l_cell_at .nil pass0 (pa_cons (pv 0) (pa_cons pe_int pa_nil))) pe_int)) (pss_cons (ps_set (i := 4) sc_law.nd rfl (Or.inl rfl) (pe_call G_l_sign_by (hr.mono (by decide)) rfl T.mg_l_sign_by T.F_l_sign_by.kp T.b_l_sign_by .nil pass0 (pa_cons (pe_call G_l_cell_at (hr.mono (by decide)) rfl T.mg_l_cell_at T.F_l_cell_at.kp T.b_l_cell_at .nil pass0 (pa_cons (pv 0) (pa_cons pe_int pa_nil))) pa_nil))) (pss_cons (ps_mid (ps_if (pt_mid (PW.pt (pw_or (pt_cmpR (op_eqE (hu_of64 hr)) (pv 1) (pe_lst pa_nil) (nomark _)) (pw_or1 (pt_cmpR (op_eq.or (op_eqD (hu_of64 hr))) (pv 5) pe_int (nomark _)))))) (pss_cons (ps_set (i := 3) sc_law.nd rfl (Or.inl rfl) (pe_op op_mod (pe_call G_l_cell_at (hr.mono (by decide)) rfl T.mg_l_cell_at T.F_l_cell_at.kp T.b_l_cell_at .nil pass0 (pa_cons (pv 0) (pa_cons pe_int pa_nil))) (pe_op (op_add.or (op_add_str.or op_cat)) (pe_callB (call_len_seq.or call_len_str) rfl T.nb_len bt_len (pa_cons (pv 1) pa_nil)) pe_int))) (pss_cons (ps_expr (pe_meth (pv 2) T.cl_Book T.me_Book_put G_Book_put (hr.mono (by decide)) T.b_Book_put .nil pass0 (pa_cons pe_str (pa_cons (pv 3) (pa_cons (pv 4) pa_nil))))) (pss_one (ps_set (i := 6) sc_law.nd rfl (Or.inl rfl) (pe_op (op_add.or (op_add_str.or op_cat)) (pe_op (op_add.or (op_add_str.or op_cat)) (pe_slice (sl_list.or (sl_tup.or sl_str)) (pv 1) po_none (po_some (pv 3))) (pe_lst (pa_cons (pv 4) pa_nil))) (pe_slice (sl_list.or (sl_tup.or sl_str)) (pv 1) (po_some (pv 3)) po_none)))))) (pss_cons (ps_set (i := 3) sc_law.nd rfl (Or.inl rfl) (pe_op op_mod (pe_call G_l_cell_at (hr.mono (by decide)) rfl T.mg_l_cell_at T.F_l_cell_at.kp T.b_l_cell_at .nil pass0 (pa_cons (pv 0) (pa_cons pe_int pa_nil))) (pe_callB (call_len_seq.or call_len_str) rfl T.nb_len bt_len (pa_cons (pv 1) pa_nil)))) (pss_cons (ps_set (i := 6) sc_law.nd rfl (Or.inl rfl) (pe_op (op_add.or (op_add_str.or op_cat)) (pe_op (op_add.or (op_add_str.or op_cat)) (pe_slice (sl_list.or (sl_tup.or sl_str)) (pv 1) po_none (po_some (pv 3))) (pe_slice (sl_list.or (sl_tup.or sl_str)) (pe_lst (pa_cons (pv 4) pa_nil)) po_none (po_some (pe_callTy (call_int1.or call_int_text) rfl T.nb_int bt_int (pa_cons (pe_cmpR (op_eq.or (op_eqD (hu_of64 hr))) (pv 5) pe_int (nomark _)) pa_nil))))) (pe_slice (sl_list.or (sl_tup.or sl_str)) (pv 1) (po_some (pe_op (op_add.or (op_add_str.or op_cat)) (pv 3) pe_int)) po_none))) (pss_one (ps_if (pt_cmpR (op_eq.or (op_eqD (hu_of64 hr))) (pv 5) pe_int (nomark _)) (pss_one (ps_expr (pe_meth (pv 2) T.cl_Book T.me_Book_swap G_Book_swap (hr.mono (by decide)) T.b_Book_swap .nil pass0 (pa_cons pe_str (pa_cons (pv 3) (pa_cons (pv 4) pa_nil)))))) (pss_one (ps_expr (pe_meth (pv 2) T.cl_Book T.me_Book_cut G_Book_cut (hr.mono (by decide)) T.b_Book_cut .nil pass0 (pa_cons pe_str (pa_cons (pv 3) pa_nil))))))))))) (pss_cons (ps_set (i := 7) sc_law.nd rfl (Or.inl rfl) (pe_meth (pv 2) T.cl_Book T.me_Book_line G_Book_line (hr.mono (by decide)) T.b_Book_line .nil pass0 (pa_cons pe_str pa_nil))) (pss_cons (ps_if (pt_not (pt_val (pe_call G_l_signs (hr.mono (by decide)) rfl T.mg_l_signs T.F_l_signs.kp T.b_l_signs .nil pass0 (pa_cons (pv 7) (pa_cons (pv 6) pa_nil))))) (pss_one (ps_ret pe_bl)) pss_nil) (pss_cons (ps_expr (pe_bm PySem.F.plainAttrs_list PySem.F.slot_list_append PySem.F.type_list_append mt_append (pv 7) (pa_cons (pe_tup (pa_cons pe_str (pa_cons pe_int pa_nil))) pa_nil))) (pss_cons (ps_if (pt_mid (PW.pt (pw_and (pt_cmpR (op_eq.or (op_eqD (hu_of64 hr))) (pe_op op_mod (pe_op op_fdiv (pe_call G_l_cell_at (hr.mono (by decide)) rfl T.mg_l_cell_at T.F_l_cell_at.kp T.b_l_cell_at .nil pass0 (pa_cons (pv 0) (pa_cons pe_int pa_nil))) pe_int) pe_int) pe_int (nomark _)) (pw_and1 (pt_cmpR (op_neE (hu_of64 hr)) (pe_meth (pv 2) T.cl_Book T.me_Book_line G_Book_line (hr.mono (by decide)) T.b_Book_line .nil pass0 (pa_cons pe_str pa_nil)) (pe_lst pa_nil) (nomark _)))))) (pss_one (ps_ret pe_bl)) pss_nil) (pss_one (ps_ret (pe_call G_l_signs (hr.mono (by decide)) rfl T.mg_l_signs T.F_l_signs.kp T.b_l_signs .nil pass0 (pa_cons (pe_meth (pv 2) T.cl_Book T.me_Book_line G_Book_line (hr.mono (by decide)) T.b_Book_line .nil pass0 (pa_cons pe_str pa_nil)) (pa_cons (pv 6) pa_nil)))))))))))))))))) ?_
    (repeat array_get_dec)
    refine ⟨a, ns, 1, rfl, hS, hl, ?_⟩
    obtain ⟨m, hm, hm31⟩ := modN (cellN ns 1) (k := 31) (by decide)
    have hm' : (fun i j : Int => V.int (i % j)) (cellN ns 1) 31 = V.int (m : Int) := congrArg V.int hm
    (repeat array_get_dec)
    rw [hm']
    refine ⟨a, ns, 4, m, rfl, hS, hl, by omega, fun l0 xs0 ss0 H1 s1 n1 h1 g1 gt1 len1 => ?_⟩
    (repeat array_get_dec)
    refine .inl ⟨l0, xs0, rfl, SqL.of h1, fun l hl0 => ?_⟩
    rw [show cutV xs0 none (some 30) = xs0.take 30 from cutTo xs0 30]
    have s2 := s1.trans (Same.upd (o := .lst (xs0.take 30)) hl0)
    have h2 : upd H1 l (.lst (xs0.take 30)) l = some (.lst (xs0.take 30)) := upd_same
    have g2 : Sgs (upd H1 l (.lst (xs0.take 30))) (xs0.take 30) (ss0.take 30) := Sgs.same (Same.upd (o := .lst (xs0.take 30)) hl0) (ptake 30 g1)
    have gt2 : ∀ s ∈ ss0.take 30, GoodT s := fun s hs => gt1 s (List.mem_of_mem_take hs)
    have len2 : (ss0.take 30).length ≤ 30 := by rw [List.length_take]; omega
    generalize upd H1 l (.lst (xs0.take 30)) = H2 at s2 h2 g2
    generalize xs0.take 30 = xs at h2 g2
    generalize ss0.take 30 = ss at g2 gt2 len2
    have xl := plen g2
    intro x dx nx ndx _
    refine ⟨x, dx, rfl, upd_same, fun L D U H3 kp3 nL nD nU LD LU DU hx3 hL3 hD3 hU3 => ⟨rfl, ?_⟩⟩
    have s3 := mkSame nx ndx kp3
    refine ⟨_, rfl, x, dx, _, rfl, hx3, boF_no_add_voice _ _ _, x, dx, L, D, U, [], [], [], [], "ann", rfl, hx3, hL3, hD3, hU3, LD, LU, DU, .nil, by decide, by unfold nameOk; decide +kernel, (fun a ha => by cases ha), by simp, fun va d H4 e1 e2 na1 na2 fr4 hL4 hva hvl hD4 hU4 => ?_⟩
    have notL : ∀ {y : Addr} {C dx : Addr} {fs}, H3 y = some (.ins C dx fs) → H4 y = some (.ins C dx fs) := fun {y C dx fs} hy => fr4 _ _ hy (ne_of hy hL3 (by intro z; cases z)) (ne_of hy hD3 (by intro z; cases z)) (ne_of hy hU3 (by intro z; cases z))
    have nL2 := mkFree nL
    have nD2 := mkFree nD
    have nU2 := mkFree nU
    have B4 : Bk2 t.C_Book t.C_Voice H2 H4 x L D U va none [.ref d] [] 1 :=
      { sm := fun y o hy => fr4 y o (s3 y o hy) (ne_of_none hy nL2) (ne_of_none hy nD2) (ne_of_none hy nU2)
        nL := nL2, nD := nD2, nU := nU2, nl := s3.free na2, hx := ⟨dx, notL hx3⟩, hL := hL4, hD := hD4, hU := ⟨_, hU4⟩, ha := hva.2, an := e1, at' := e2, hl := hvl
        hb := fun b e => by cases e
        d1 := Ne.symm (ne_of_none hD3 na2), d2 := Ne.symm (ne_of_none hU3 na2), d3 := DU, d4 := ne_of_none hL3 na2, d5 := LD, d6 := LU, dl := by simp }
    clear fr4 hL4 hva hvl hD4 hU4 notL na1 na2 e1 e2 kp3 hx3 hL3 hD3 hU3 s3 nL nD nU nL2 nD2 nU2 LD LU DU
    refine ⟨fun σ H5 => ∃ ob ds, σ = [some (.ref a), some (.ref l), some (.ref x), none, none, none, none, none] ∧ Bk2 t.C_Book t.C_Voice H2 H5 x L D U va ob ds [] 2 ∧ ds.length ≤ 2 ∧ (cellN ns 0 / 3 % 2 = 1 → ob ≠ none), ?_, ?_⟩
    · (repeat array_get_dec)
      refine ⟨a, ns, 0, rfl, (s2.trans B4.sm).seq hS, hl, ?_⟩
      (repeat array_get_dec)
      refine ite2 (fun hc => ?_) (fun hc => ?_)
      · obtain ⟨dx', hx4⟩ := B4.hx
        obtain ⟨us, hU4⟩ := B4.hU
        refine ⟨_, rfl, x, dx', _, rfl, hx4, boF_no_add_voice _ _ _, x, dx', L, D, U, [.ref va.o], [.ref d], us, [va], "bo", rfl, hx4, B4.hL, B4.hD, hU4, B4.d5, B4.d6, B4.d3, .cons ⟨rfl, B4.ha⟩ .nil, by show 1 < 12; decide, by unfold nameOk; decide +kernel, ?_, by simp, fun vb d2 H5 e1 e2 na1 na2 fr5 hL5 hvb hvl hD5 hU5 => ?_⟩
        · intro z hz
          have : z = va := by simpa using hz
          rw [this, B4.an]
          decide +kernel
        · have kp : ∀ {y : Addr} {C dx : Addr} {fs}, H4 y = some (.ins C dx fs) → H5 y = some (.ins C dx fs) := fun {y C dx fs} hy => fr5 _ _ hy (ne_of hy B4.hL (by intro z; cases z)) (ne_of hy B4.hD (by intro z; cases z)) (ne_of hy hU4 (by intro z; cases z))
          have B5 : Bk2 t.C_Book t.C_Voice H2 H5 x L D U va (some vb) [.ref d, .ref d2] [] 2 :=
            { sm := fun y o hy => fr5 y o (B4.sm y o hy) (ne_of_none hy B4.nL) (ne_of_none hy B4.nD) (ne_of_none hy B4.nU)
              nL := B4.nL, nD := B4.nD, nU := B4.nU, nl := B4.nl, hx := ⟨dx', kp hx4⟩, hL := hL5, hD := hD5, hU := ⟨_, hU5⟩, ha := kp B4.ha, an := B4.an, at' := B4.at', hl := fr5 _ _ B4.hl (Ne.symm B4.d4) B4.d1 B4.d2
              hb := fun b e => by cases e; exact ⟨hvb.2, hvl, e1, e2, Ne.symm (ne_of_none B4.hl na2), Ne.symm (ne_of_none B4.hD na2), Ne.symm (ne_of_none hU4 na2)⟩
              d1 := B4.d1, d2 := B4.d2, d3 := B4.d3, d4 := B4.d4, d5 := B4.d5, d6 := B4.d6, dl := by simp }
          exact ⟨some vb, [.ref d, .ref d2], rfl, B5, by simp, fun _ e => by cases e⟩
      · exact ⟨none, [.ref d], rfl, { B4 with dl := by simp }, by simp, fun e => absurd (show decide ((fun i j => V.int (i % j)) (cellN ns 0 / 3) 2 = V.int 1) = true from decide_eq_true (congrArg V.int e)) hc⟩
    rintro σ H5 ⟨ob, ds, rfl, B5, hds5, hob⟩
    (repeat array_get_dec)
    refine ⟨⟨_, SqL.of (B5.sm _ _ h2)⟩, for_enum (K := K) (xs := xs) (fun i σ H' => ∃ (u v : Option V) (ds : List V), σ = [some (.ref a), some (.ref l), some (.ref x), u, v, none, none, none] ∧ Bk2 t.C_Book t.C_Voice H2 H' x L D U va ob ds (xs.take i) (2 + i)) ⟨none, none, ds, rfl, by simpa using B5⟩ ?_ ?_ ?_⟩
    · rintro i σ H6 ⟨u, v, ds, rfl, B6⟩
      exact SqL.of (B6.sm _ _ h2)
    · rintro i y τ σ H6 hy ⟨u, v, ds, rfl, B6⟩ hτ
      obtain ⟨sg, hsg, p, rfl, hp⟩ := pget g2 hy
      have hi : i < ss.length := (List.getElem?_eq_some_iff.mp hsg).1
      have B7 := B6.same (Same.upd (o := .tup [.int (i : Int), .ref p]) hτ)
      have hτ7 := upd_same (H := H6) (a := τ) (o := .tup [.int (i : Int), .ref p])
      generalize upd H6 τ (.tup [.int (i : Int), .ref p]) = H7 at B7 hτ7
      have gi : Sgs H7 (xs.take i) (ss.take i) := (ptake i (g2.same B7.sm))
      have hil : (ss.take i).length = i := by rw [List.length_take]; omega
      have xil : (xs.take i).length = i := by rw [List.length_take]; omega
      obtain ⟨dx7, hx7⟩ := B7.hx
      refine ⟨τ, _, rfl, SqT.of hτ7, rfl, _, _, rfl, _, _, rfl, rfl, ?_⟩
      refine ⟨_, rfl, x, dx7, _, rfl, hx7, boF_no_put _ _ _, _, rfl, _, rfl, ?_⟩
      refine ⟨x, L, D, U, p, va, ds, xs.take i, ss.take i, i, sg, by rw [B7.an]; rfl, B7.pl gi (by omega) (by omega), by omega, by omega, B7.sm _ _ hp, gt2 _ (List.mem_of_getElem? hsg), fun w d H8 fr e1 e2 e3 => ?_⟩
      rw [put_end hy] at e1
      exact ⟨_, _, _, rfl, B7.step fr e1 e2 e3⟩
    rintro σ H6 ⟨u, v, ds6, rfl, B6⟩
    rw [List.take_length] at B6
    obtain ⟨dx6, hx6⟩ := B6.hx
    refine ⟨_, rfl, x, dx6, _, rfl, hx6, boF_no_line _ _ _, ?_⟩
    refine ⟨x, dx6, L, D, U, _, xs, vxs va ob, 0, va, by rw [B6.an]; rfl, hx6, B6.hL, B6.prd, rfl, (fun i b hi => by omega), B6.at', B6.hl, fun l7 hl7 => ?_⟩
    have B7 := B6.same (Same.upd (o := .lst xs) hl7)
    have h7 := upd_same (H := H6) (a := l7) (o := .lst xs)
    generalize upd H6 l7 (.lst xs) = H7 at B7 h7
    refine ⟨_, rfl, l7, l, xs, xs, ss, rfl, h7, SqL.of (B7.sm _ _ h2), g2.same B7.sm, g2.same B7.sm, fun H8 s8 => ?_⟩
    have B8 := B7.same s8
    refine ⟨_, rfl, iteF ?_⟩
    (repeat array_get_dec)
    refine ⟨a, ns, 0, rfl, (s2.trans B8.sm).seq hS, hl, ?_⟩
    (repeat array_get_dec)
    obtain ⟨w3, hw3, hw3'⟩ := modN (cellN ns 0) (k := 3) (by decide)
    rw [show (fun i j : Int => V.int (i % j)) (cellN ns 0) 3 = V.int (w3 : Int) from congrArg V.int hw3]
    refine ⟨a, ns, 3, rfl, (s2.trans B8.sm).seq hS, hl, ?_⟩
    refine ⟨_, rfl, fun ps sg gts hps => ?_⟩
    have B9 := B8.same (Same.upd (o := .tup [.str sg.1.str, .int sg.2]) hps)
    have hp9 := upd_same (H := H8) (a := ps) (o := .tup [.str sg.1.str, .int sg.2])
    generalize upd H8 ps (.tup [.str sg.1.str, .int sg.2]) = H9 at B9 hp9
    have lenx : ∀ {n : Nat} {zs : List V}, zs.length ≤ n → n ≤ 1000 → zs.length ≤ sizeLine := fun h1 h2 => big (Nat.le_trans h1 h2)
    refine ⟨fun σ H' => ∃ (wv at_ : Option V) (du : Addr) (ds zs : List V) (tt : List Sg) (n : Nat), σ = [some (.ref a), some (.ref l), some (.ref x), at_, some (.ref ps), wv, some (.ref du), none] ∧ Bk2 t.C_Book t.C_Voice H2 H' x L D U va ob ds zs n ∧ H' du = some (.lst zs) ∧ Sgs H' zs tt ∧ tt.length ≤ 31, ?_, ?_⟩
    · refine ⟨fun b H' => Same H9 H' ∧ (b = false → xs ≠ []), ?_, ?_⟩
      · refine ⟨_, rfl, big (by show 0 ≤ 1000; omega), fun e he => ?_⟩
        refine ⟨l, e, xs, rfl, rfl, SqL.of (Same.upd he _ _ (B9.sm _ _ h2)), SqL.of upd_same, ?_⟩
        refine ⟨_, rfl, ?_⟩
        refine ite2 (fun h => ⟨Same.upd he, fun z => by cases z⟩) (fun h => ?_)
        (repeat array_get_dec)
        exact ⟨Same.upd he, fun _ e => h (by rw [e]; rfl)⟩
      · rintro b H10 ⟨s10, hb⟩
        have B10 := B9.same s10
        have hp10 := s10 _ _ hp9
        have g10 := g2.same B10.sm
        have h10 := B10.sm _ _ h2
        obtain ⟨dx10, hx10⟩ := B10.hx
        refine ite2 (fun _ => ?_) (fun hb' => ?_)
        · (repeat array_get_dec)
          refine ⟨a, ns, 2, rfl, (s2.trans B10.sm).seq hS, hl, ?_⟩
          refine ⟨_, rfl, .inl ⟨l, xs, rfl, .inl (SqL.of h10), .inl ⟨_, _, rfl, rfl, _, _, rfl, rfl, (by omega), ?_⟩⟩⟩
          obtain ⟨c, hcI, hc⟩ := modN (cellN ns 2) (k := (xs.length : Int) + 1) (by omega)
          have hcI' : (fun i j : Int => V.int (i % j)) (cellN ns 2) ((xs.length : Int) + 1) = V.int (c : Int) := congrArg V.int hcI
          rw [hcI']
          refine ⟨_, rfl, x, dx10, _, rfl, hx10, boF_no_put _ _ _, _, rfl, _, rfl, ?_⟩
          refine ⟨x, L, D, U, ps, va, ds6, xs, ss, c, sg, by rw [B10.an]; rfl, B10.pl g10 (by omega) (by omega), by omega, by omega, hp10, gts, fun w d H11 fr e1 e2 e3 => ?_⟩
          have B11 := B10.step fr e1 e2 e3
          have g11 := B10.sg fr (papp (papp (ptake c g10) (.cons ⟨ps, rfl, hp10⟩ .nil)) (pdrop c g10))
          have h11 := B11.sm _ _ h2
          refine ⟨_, rfl, _, rfl, c, rfl, .inl ⟨l, xs, rfl, SqL.of h11, fun c1 hc1 => ?_⟩⟩
          rw [cutTo]
          have S1 := Same.upd (o := .lst (xs.take c)) hc1
          have k1 := upd_same (H := H11) (a := c1) (o := .lst (xs.take c))
          generalize upd H11 c1 (.lst (xs.take c)) = H12 at S1 k1
          refine ⟨_, rfl, big (by show 1 ≤ 1000; omega), fun c2 hc2 => ?_⟩
          have S2 := Same.upd (o := .lst [V.ref ps]) hc2
          have k2 := upd_same (H := H12) (a := c2) (o := .lst [V.ref ps])
          generalize upd H12 c2 (.lst [V.ref ps]) = H13 at S2 k2
          refine .inr (.inr ⟨c1, c2, _, _, rfl, rfl, S2 _ _ k1, k2, ?_, fun c3 hc3 => ?_⟩)
          · exact big (by rw [List.length_take]; show _ + 1 ≤ 1000; omega)
          have S3 := Same.upd (o := .lst (xs.take c ++ [V.ref ps])) hc3
          have k3 := upd_same (H := H13) (a := c3) (o := .lst (xs.take c ++ [V.ref ps]))
          generalize upd H13 c3 (.lst (xs.take c ++ [V.ref ps])) = H14 at S3 k3
          have SS := (S1.trans S2).trans S3
          refine ⟨_, rfl, _, rfl, c, rfl, .inl ⟨l, xs, rfl, SqL.of (SS _ _ h11), fun c4 hc4 => ?_⟩⟩
          rw [cutFrom xs c (by omega)]
          have S4 := Same.upd (o := .lst (xs.drop c)) hc4
          have k4 := upd_same (H := H14) (a := c4) (o := .lst (xs.drop c))
          generalize upd H14 c4 (.lst (xs.drop c)) = H15 at S4 k4
          refine .inr (.inr ⟨c3, c4, _, _, rfl, rfl, S4 _ _ k3, k4, ?_, fun c5 hc5 => ?_⟩)
          · exact big (by simp only [List.length_append, List.length_take, List.length_drop, List.length_singleton]; omega)
          have S5 := (SS.trans S4).trans (Same.upd (o := .lst (xs.take c ++ [V.ref ps] ++ xs.drop c)) hc5)
          exact ⟨_, _, c5, _, _, _, _, rfl, B11.same S5, upd_same, g11.same S5, by simp; omega⟩
        · have hne : xs ≠ [] := hb (Bool.eq_false_iff.mpr hb')
          have hpos : 0 < xs.length := List.length_pos_iff.mpr hne
          (repeat array_get_dec)
          refine ⟨a, ns, 2, rfl, (s2.trans B10.sm).seq hS, hl, ?_⟩
          refine ⟨_, rfl, .inl ⟨l, xs, rfl, .inl (SqL.of h10), _, _, rfl, rfl, (by omega), ?_⟩⟩
          obtain ⟨c, hcI, hc⟩ := modN (cellN ns 2) (k := (xs.length : Int)) (by omega)
          have hcI' : (fun i j : Int => V.int (i % j)) (cellN ns 2) (xs.length : Int) = V.int (c : Int) := congrArg V.int hcI
          rw [hcI']
          refine ⟨_, rfl, _, rfl, c, rfl, .inl ⟨l, xs, rfl, SqL.of h10, fun c1 hc1 => ?_⟩⟩
          rw [cutTo]
          have S1 := Same.upd (o := .lst (xs.take c)) hc1
          have k1 := upd_same (H := H10) (a := c1) (o := .lst (xs.take c))
          generalize upd H10 c1 (.lst (xs.take c)) = H12 at S1 k1
          refine ⟨_, rfl, big (by show 1 ≤ 1000; omega), fun c2 hc2 => ?_⟩
          have S2 := Same.upd (o := .lst [V.ref ps]) hc2
          have k2 := upd_same (H := H12) (a := c2) (o := .lst [V.ref ps])
          generalize upd H12 c2 (.lst [V.ref ps]) = H13 at S2 k2
          (repeat array_get_dec)
          refine .inl (.inr ⟨_, rfl, _, rfl, .inl ⟨c2, _, rfl, SqL.of k2, fun c3 hc3 => ?_⟩⟩)
          rw [cutB]
          generalize hmid : (if w3 = 2 then [V.ref ps] else []) = mid
          have ml : mid.length ≤ 1 := by rw [← hmid]; split <;> simp
          have S3 := Same.upd (o := .lst mid) hc3
          have k3 := upd_same (H := H13) (a := c3) (o := .lst mid)
          generalize upd H13 c3 (.lst mid) = H14 at S3 k3
          refine .inr (.inr ⟨c1, c3, _, _, rfl, rfl, S3 _ _ (S2 _ _ k1), k3, ?_, fun c4 hc4 => ?_⟩)
          · exact big (by rw [List.length_take]; omega)
          have S4 := Same.upd (o := .lst (xs.take c ++ mid)) hc4
          have k4 := upd_same (H := H14) (a := c4) (o := .lst (xs.take c ++ mid))
          generalize upd H14 c4 (.lst (xs.take c ++ mid)) = H15 at S4 k4
          have SS := ((S1.trans S2).trans S3).trans S4
          refine ⟨_, rfl, _, rfl, .inl ⟨_, _, rfl, rfl, _, rfl, .inl ⟨l, xs, rfl, SqL.of (SS _ _ h10), fun c5 hc5 => ?_⟩⟩⟩
          rw [show cutV xs (some ((c : Int) + 1)) none = xs.drop (c + 1) from cutFrom xs (c + 1) (by omega)]
          have S5 := Same.upd (o := .lst (xs.drop (c + 1))) hc5
          have k5 := upd_same (H := H15) (a := c5) (o := .lst (xs.drop (c + 1)))
          generalize upd H15 c5 (.lst (xs.drop (c + 1))) = H16 at S5 k5
          refine .inr (.inr ⟨c4, c5, _, _, rfl, rfl, S5 _ _ k4, k5, ?_, fun du hdu => ?_⟩)
          · exact big (by simp only [List.length_append, List.length_take, List.length_drop]; omega)
          have S6 := (SS.trans S5).trans (Same.upd (o := .lst (xs.take c ++ mid ++ xs.drop (c + 1))) hdu)
          have B16 := B10.same (SS.trans S5)
          have nd1 : du ≠ va.l := Ne.symm (ne_of_none B16.hl hdu)
          have nd2 : du ≠ D := Ne.symm (ne_of_none B16.hD hdu)
          have nd3 : du ≠ U := let ⟨us, e⟩ := B16.hU; Ne.symm (ne_of_none e hdu)
          have k6 := upd_same (H := H16) (a := du) (o := .lst (xs.take c ++ mid ++ xs.drop (c + 1)))
          generalize upd H16 du (.lst (xs.take c ++ mid ++ xs.drop (c + 1))) = H17 at S6 k6
          have B17 := B10.same S6
          have g17 := g10.same S6
          obtain ⟨dx17, hx17⟩ := B17.hx
          (repeat array_get_dec)
          refine ite2 (fun hw => ?_) (fun hw => ?_)
          · have hw2 : w3 = 2 := by have := V.int.inj (of_decide_eq_true hw); omega
            rw [if_pos hw2] at hmid
            subst hmid
            refine ⟨_, rfl, x, dx17, _, rfl, hx17, boF_no_swap _ _ _, _, rfl, _, rfl, ?_⟩
            refine ⟨x, L, D, U, ps, va, ds6, xs, ss, c, sg, by rw [B17.an]; rfl, B17.pl g17 (by omega) (by omega), by omega, S6 _ _ hp10, gts, fun w d H18 fr e1 e2 e3 => ?_⟩
            have g18 := B17.sg fr (papp (papp (ptake c g17) (.cons ⟨ps, rfl, S6 _ _ hp10⟩ .nil)) (pdrop (c + 1) g17))
            exact ⟨_, _, du, _, _, _, _, rfl, B17.step fr e1 e2 e3, fr _ _ k6 nd1 nd2 nd3, g18, by simp; omega⟩
          · have hw2 : ¬ w3 = 2 := fun e => hw (by rw [e]; rfl)
            rw [if_neg hw2] at hmid
            subst hmid
            refine ⟨_, rfl, x, dx17, _, rfl, hx17, boF_no_cut _ _ _, _, rfl, ?_⟩
            refine ⟨x, L, D, U, va, ds6, xs, ss, c, by rw [B17.an]; rfl, B17.pl g17 (by omega) (by omega), by omega, fun w d H18 fr e1 e2 e3 => ?_⟩
            have g18 := B17.sg fr (papp (papp (ptake c g17) .nil) (pdrop (c + 1) g17))
            exact ⟨_, _, du, _, _, _, _, rfl, B17.step fr e1 e2 e3, fr _ _ k6 nd1 nd2 nd3, g18, by simp; omega⟩
    rintro σ H11 ⟨wv, at_, du, ds11, zs, tt, n11, rfl, B11, hdu, gtt, ltt⟩
    obtain ⟨dx11, hx11⟩ := B11.hx
    have zl := plen gtt
    refine ⟨_, rfl, x, dx11, _, rfl, hx11, boF_no_line _ _ _, ?_⟩
    refine ⟨x, dx11, L, D, U, _, zs, vxs va ob, 0, va, by rw [B11.an]; rfl, hx11, B11.hL, B11.prd, rfl, (fun i b hi => by omega), B11.at', B11.hl, fun fo hfo => ?_⟩
    have S12 := Same.upd (o := .lst zs) hfo
    have hfo12 := upd_same (H := H11) (a := fo) (o := .lst zs)
    have nfd : du ≠ fo := ne_of_none hdu hfo
    have nfl : va.l ≠ fo := ne_of_none B11.hl hfo
    have nfD : D ≠ fo := ne_of_none B11.hD hfo
    generalize upd H11 fo (.lst zs) = H12 at S12 hfo12
    have B12 := B11.same S12
    refine ⟨_, rfl, _, rfl, fo, du, zs, zs, tt, rfl, hfo12, SqL.of (S12 _ _ hdu), gtt.same S12, gtt.same S12, fun H13 s13 => ?_⟩
    refine ⟨_, rfl, iteF ?_⟩
    have B13 := B12.same s13
    refine ⟨_, rfl, .inl ⟨rfl, _, SqL.of (s13 _ _ hfo12)⟩, (by show 2 ≤ sizeLine; decide), fun tp htp => ?_⟩
    have S14 := Same.upd (o := .tup [V.str "R", V.int 0]) htp
    refine ⟨fo, _, _, rfl, rfl, S14 _ _ (s13 _ _ hfo12), small1000 (by omega), ?_⟩
    have S15 : Same H11 (upd (upd H13 tp (.tup [V.str "R", V.int 0])) fo (.lst (zs ++ [.ref tp]))) := sameOwn ((S12.trans s13).trans S14) hfo
    generalize upd (upd H13 tp (.tup [V.str "R", V.int 0])) fo (.lst (zs ++ [.ref tp])) = H15 at S15
    have B15 := B11.same S15
    refine ⟨fun b H' => b = false ∧ Same H15 H', ?_, ?_⟩
    · (repeat array_get_dec)
      refine ⟨a, ns, 0, rfl, (s2.trans B15.sm).seq hS, hl, ?_⟩
      (repeat array_get_dec)
      refine ite2 (fun hc => ?_) (fun hc => ?_)
      · have hc' : cellN ns 0 / 3 % 2 = 1 := V.int.inj (of_decide_eq_true hc)
        cases hob' : ob with
        | none => exact absurd hob' (hob hc')
        | some b =>
          subst hob'
          obtain ⟨hbo, hbl, hbn, hbt, _⟩ := B15.hb b rfl
          obtain ⟨dx15, hx15⟩ := B15.hx
          refine ⟨_, rfl, x, dx15, _, rfl, hx15, boF_no_line _ _ _, ?_⟩
          refine ⟨x, dx15, L, D, U, _, [], vxs va (some b), 1, b, by rw [hbn]; rfl, hx15, B15.hL, B15.prd, rfl, ?_, hbt, hbl, fun l1 hl1 => ?_⟩
          · intro i z hi hz
            have hi0 : i = 0 := by omega
            subst hi0
            have : z = va := by cases hz; rfl
            rw [this, B15.an, hbn]
            decide +kernel
          refine ⟨big (by show 0 ≤ 1000; omega), fun l2 hl2 => ?_⟩
          refine ⟨l1, l2, [], rfl, rfl, SqL.of (Same.upd hl2 _ _ upd_same), SqL.of upd_same, ?_⟩
          exact ⟨_, rfl, rfl, (Same.upd hl1).trans (Same.upd hl2)⟩
      · exact ⟨rfl, Same.refl _⟩
    rintro b H16 ⟨rfl, s16⟩
    refine iteF ?_
    have B16 := B15.same s16
    obtain ⟨dx16, hx16⟩ := B16.hx
    refine ⟨_, rfl, x, dx16, _, rfl, hx16, boF_no_line _ _ _, ?_⟩
    refine ⟨x, dx16, L, D, U, _, zs, vxs va ob, 0, va, by rw [B16.an]; rfl, hx16, B16.hL, B16.prd, rfl, (fun i b hi => by omega), B16.at', B16.hl, fun f2 hf2 => ?_⟩
    have S17 := (S15.trans s16).trans (Same.upd (o := .lst zs) hf2)
    refine ⟨_, rfl, f2, du, zs, zs, tt, rfl, upd_same, SqL.of (S17 _ _ hdu), gtt.same S17, gtt.same S17, fun H18 s18 => ?_⟩
    exact q _

end Mine

namespace Mine
open PySem L2
theorem all_mk {l : PySem.W.OpenLaw} {w : World} {K : PySem.W.Frag} {h : Heap} {mg : Str → Option Value} {fa C_Voice C_Deed C_Book f_Book___init__ f_is_name f_Book_names f_Book_refuse_new f_Deed_do f_Book_perform f_Deed___init__ f_Book_put_in f_Voice___init__ f_Book_add_voice f_l_sign_by f_Book_voice_called f_Book_canon f_turned f_Book_line f_l_whole f_l_signs f_l_cell_at f_l_mixed f_l_numbers f_l_line f_refuse_other_places f_good f_refuse_bad_sign f_small f_low_end f_high_end f_sets_measure f_window f_Book_plain_voice f_Book_put f_Book_swap f_Book_cut f_law a_SMALL_KINDS a_PARTING_KINDS a_MEASURE_KINDS a_SOUNDING_KINDS a_SILENT_KINDS a_TURNED_KINDS : Addr} (X : K.In h) (G : h.Ns mainGlobals mg) (hfa : mg "law" = some (.ref fa))
    {od_Book___init__ an_Book___init__ od_is_name an_is_name od_Book_names an_Book_names od_Book_refuse_new an_Book_refuse_new od_Deed_do an_Deed_do od_Book_perform an_Book_perform od_Deed___init__ an_Deed___init__ od_Book_put_in an_Book_put_in od_Voice___init__ an_Voice___init__ od_Book_add_voice an_Book_add_voice od_l_sign_by an_l_sign_by od_Book_voice_called an_Book_voice_called od_Book_canon an_Book_canon od_turned an_turned od_Book_line an_Book_line od_l_whole an_l_whole od_l_signs an_l_signs od_l_cell_at an_l_cell_at od_l_mixed an_l_mixed od_l_numbers an_l_numbers od_l_line an_l_line od_refuse_other_places an_refuse_other_places od_good an_good od_refuse_bad_sign an_refuse_bad_sign od_small an_small od_low_end an_low_end od_high_end an_high_end od_sets_measure an_sets_measure od_window an_window od_Book_plain_voice an_Book_plain_voice od_Book_put an_Book_put od_Book_swap an_Book_swap od_Book_cut an_Book_cut od_law an_law od_SMALL_KINDS od_PARTING_KINDS od_MEASURE_KINDS od_SOUNDING_KINDS od_SILENT_KINDS : Option Addr} {sl_Book___init__ sl_is_name sl_Book_names sl_Book_refuse_new sl_Deed_do sl_Book_perform sl_Deed___init__ sl_Book_put_in sl_Voice___init__ sl_Book_add_voice sl_l_sign_by sl_Book_voice_called sl_Book_canon sl_turned sl_Book_line sl_l_whole sl_l_signs sl_l_cell_at sl_l_mixed sl_l_numbers sl_l_line sl_refuse_other_places sl_good sl_refuse_bad_sign sl_small sl_low_end sl_high_end sl_sets_measure sl_window sl_Book_plain_voice sl_Book_put sl_Book_swap sl_Book_cut sl_law sl_SMALL_KINDS sl_PARTING_KINDS sl_MEASURE_KINDS sl_SOUNDING_KINDS sl_SILENT_KINDS : Array (Option Value)} {oc_Book___init__ kV_Book___init__ dc_Book___init__ pm_Book___init__ cd_Book___init__ ct_Book___init__ oc_is_name kV_is_name dc_is_name pm_is_name cd_is_name ct_is_name oc_Book_names kV_Book_names dc_Book_names pm_Book_names cd_Book_names ct_Book_names oc_Book_refuse_new kV_Book_refuse_new dc_Book_refuse_new pm_Book_refuse_new cd_Book_refuse_new ct_Book_refuse_new oc_Deed_do kV_Deed_do dc_Deed_do pm_Deed_do cd_Deed_do ct_Deed_do oc_Book_perform kV_Book_perform dc_Book_perform pm_Book_perform cd_Book_perform ct_Book_perform oc_Deed___init__ kV_Deed___init__ dc_Deed___init__ pm_Deed___init__ cd_Deed___init__ ct_Deed___init__ oc_Book_put_in kV_Book_put_in dc_Book_put_in pm_Book_put_in cd_Book_put_in ct_Book_put_in oc_Voice___init__ kV_Voice___init__ dc_Voice___init__ pm_Voice___init__ cd_Voice___init__ ct_Voice___init__ oc_Book_add_voice kV_Book_add_voice dc_Book_add_voice pm_Book_add_voice cd_Book_add_voice ct_Book_add_voice oc_l_sign_by kV_l_sign_by dc_l_sign_by pm_l_sign_by cd_l_sign_by ct_l_sign_by oc_Book_voice_called kV_Book_voice_called dc_Book_voice_called pm_Book_voice_called cd_Book_voice_called ct_Book_voice_called oc_Book_canon kV_Book_canon dc_Book_canon pm_Book_canon cd_Book_canon ct_Book_canon oc_turned kV_turned dc_turned pm_turned cd_turned ct_turned oc_Book_line kV_Book_line dc_Book_line pm_Book_line cd_Book_line ct_Book_line oc_l_whole kV_l_whole dc_l_whole pm_l_whole cd_l_whole ct_l_whole oc_l_signs kV_l_signs dc_l_signs pm_l_signs cd_l_signs ct_l_signs oc_l_cell_at kV_l_cell_at dc_l_cell_at pm_l_cell_at cd_l_cell_at ct_l_cell_at oc_l_mixed kV_l_mixed dc_l_mixed pm_l_mixed cd_l_mixed ct_l_mixed oc_l_numbers kV_l_numbers dc_l_numbers pm_l_numbers cd_l_numbers ct_l_numbers oc_l_line kV_l_line dc_l_line pm_l_line cd_l_line ct_l_line oc_refuse_other_places kV_refuse_other_places dc_refuse_other_places pm_refuse_other_places cd_refuse_other_places ct_refuse_other_places oc_good kV_good dc_good pm_good cd_good ct_good oc_refuse_bad_sign kV_refuse_bad_sign dc_refuse_bad_sign pm_refuse_bad_sign cd_refuse_bad_sign ct_refuse_bad_sign oc_small kV_small dc_small pm_small cd_small ct_small oc_low_end kV_low_end dc_low_end pm_low_end cd_low_end ct_low_end oc_high_end kV_high_end dc_high_end pm_high_end cd_high_end ct_high_end oc_sets_measure kV_sets_measure dc_sets_measure pm_sets_measure cd_sets_measure ct_sets_measure oc_window kV_window dc_window pm_window cd_window ct_window oc_Book_plain_voice kV_Book_plain_voice dc_Book_plain_voice pm_Book_plain_voice cd_Book_plain_voice ct_Book_plain_voice oc_Book_put kV_Book_put dc_Book_put pm_Book_put cd_Book_put ct_Book_put oc_Book_swap kV_Book_swap dc_Book_swap pm_Book_swap cd_Book_swap ct_Book_swap oc_Book_cut kV_Book_cut dc_Book_cut pm_Book_cut cd_Book_cut ct_Book_cut oc_law kV_law dc_law pm_law cd_law ct_law : Value}
    {t0_SMALL_KINDS t1_SMALL_KINDS t2_SMALL_KINDS t0_PARTING_KINDS t1_PARTING_KINDS t2_PARTING_KINDS t0_MEASURE_KINDS t1_MEASURE_KINDS t0_SOUNDING_KINDS t1_SOUNDING_KINDS t2_SOUNDING_KINDS t3_SOUNDING_KINDS t0_SILENT_KINDS t1_SILENT_KINDS t2_SILENT_KINDS t3_SILENT_KINDS t4_SILENT_KINDS t_HIGHEST_TONE tv0_TURNED_KINDS tv1_TURNED_KINDS tk0_TURNED_KINDS tk1_TURNED_KINDS t_LETTERS t_LONGEST_NAME t_MOST_VOICES t_MOST_SIGNS : Tok}
    {n_SMALL_KINDS n_PARTING_KINDS n_MEASURE_KINDS n_SOUNDING_KINDS n_SILENT_KINDS n_TURNED_KINDS : Nat}
    (aC_Voice : PySem.W.nsIn K mainGlobals "Voice" = some (some (.ref C_Voice)))
    (aC_Deed : PySem.W.nsIn K mainGlobals "Deed" = some (some (.ref C_Deed)))
    (aC_Book : PySem.W.nsIn K mainGlobals "Book" = some (some (.ref C_Book)))
    (a_Book___init__ : PySem.W.findIn K (.ref C_Book) "__init__" = some (some (.ref f_Book___init__)))
    (l_Book___init__ : K.lookup f_Book___init__ = some ⟨oc_Book___init__, od_Book___init__, .func (PySem.W.fnOf "__init__" "Book.__init__" (defArgs s_Book___init__) (defBody s_Book___init__) (defScope s_Book___init__) .none kV_Book___init__ dc_Book___init__ pm_Book___init__ an_Book___init__ cd_Book___init__ ct_Book___init__), sl_Book___init__⟩)
    (c_Book___init__ : PySem.W.codeIn K cd_Book___init__ "Book.__init__" = true)
    (k_Book___init__ : PySem.W.keepIn K (.ref f_Book___init__) = true)
    (fn_Book___init__ : PySem.W.isFn K (.ref f_Book___init__) = true)
    (a_is_name : PySem.W.nsIn K mainGlobals "is_name" = some (some (.ref f_is_name)))
    (l_is_name : K.lookup f_is_name = some ⟨oc_is_name, od_is_name, .func (PySem.W.fnOf "is_name" "is_name" (defArgs s_is_name) (defBody s_is_name) (defScope s_is_name) .none kV_is_name dc_is_name pm_is_name an_is_name cd_is_name ct_is_name), sl_is_name⟩)
    (c_is_name : PySem.W.codeIn K cd_is_name "is_name" = true)
    (k_is_name : PySem.W.keepIn K (.ref f_is_name) = true)
    (a_Book_names : PySem.W.findIn K (.ref C_Book) "names" = some (some (.ref f_Book_names)))
    (l_Book_names : K.lookup f_Book_names = some ⟨oc_Book_names, od_Book_names, .func (PySem.W.fnOf "names" "Book.names" (defArgs s_Book_names) (defBody s_Book_names) (defScope s_Book_names) .none kV_Book_names dc_Book_names pm_Book_names an_Book_names cd_Book_names ct_Book_names), sl_Book_names⟩)
    (c_Book_names : PySem.W.codeIn K cd_Book_names "Book.names" = true)
    (k_Book_names : PySem.W.keepIn K (.ref f_Book_names) = true)
    (fn_Book_names : PySem.W.isFn K (.ref f_Book_names) = true)
    (a_Book_refuse_new : PySem.W.findIn K (.ref C_Book) "refuse_new" = some (some (.ref f_Book_refuse_new)))
    (l_Book_refuse_new : K.lookup f_Book_refuse_new = some ⟨oc_Book_refuse_new, od_Book_refuse_new, .func (PySem.W.fnOf "refuse_new" "Book.refuse_new" (defArgs s_Book_refuse_new) (defBody s_Book_refuse_new) (defScope s_Book_refuse_new) .none kV_Book_refuse_new dc_Book_refuse_new pm_Book_refuse_new an_Book_refuse_new cd_Book_refuse_new ct_Book_refuse_new), sl_Book_refuse_new⟩)
    (c_Book_refuse_new : PySem.W.codeIn K cd_Book_refuse_new "Book.refuse_new" = true)
    (k_Book_refuse_new : PySem.W.keepIn K (.ref f_Book_refuse_new) = true)
    (fn_Book_refuse_new : PySem.W.isFn K (.ref f_Book_refuse_new) = true)
    (a_Deed_do : PySem.W.findIn K (.ref C_Deed) "do" = some (some (.ref f_Deed_do)))
    (l_Deed_do : K.lookup f_Deed_do = some ⟨oc_Deed_do, od_Deed_do, .func (PySem.W.fnOf "do" "Deed.do" (defArgs s_Deed_do) (defBody s_Deed_do) (defScope s_Deed_do) .none kV_Deed_do dc_Deed_do pm_Deed_do an_Deed_do cd_Deed_do ct_Deed_do), sl_Deed_do⟩)
    (c_Deed_do : PySem.W.codeIn K cd_Deed_do "Deed.do" = true)
    (k_Deed_do : PySem.W.keepIn K (.ref f_Deed_do) = true)
    (fn_Deed_do : PySem.W.isFn K (.ref f_Deed_do) = true)
    (a_Book_perform : PySem.W.findIn K (.ref C_Book) "perform" = some (some (.ref f_Book_perform)))
    (l_Book_perform : K.lookup f_Book_perform = some ⟨oc_Book_perform, od_Book_perform, .func (PySem.W.fnOf "perform" "Book.perform" (defArgs s_Book_perform) (defBody s_Book_perform) (defScope s_Book_perform) .none kV_Book_perform dc_Book_perform pm_Book_perform an_Book_perform cd_Book_perform ct_Book_perform), sl_Book_perform⟩)
    (c_Book_perform : PySem.W.codeIn K cd_Book_perform "Book.perform" = true)
    (k_Book_perform : PySem.W.keepIn K (.ref f_Book_perform) = true)
    (fn_Book_perform : PySem.W.isFn K (.ref f_Book_perform) = true)
    (a_Deed___init__ : PySem.W.findIn K (.ref C_Deed) "__init__" = some (some (.ref f_Deed___init__)))
    (l_Deed___init__ : K.lookup f_Deed___init__ = some ⟨oc_Deed___init__, od_Deed___init__, .func (PySem.W.fnOf "__init__" "Deed.__init__" (defArgs s_Deed___init__) (defBody s_Deed___init__) (defScope s_Deed___init__) .none kV_Deed___init__ dc_Deed___init__ pm_Deed___init__ an_Deed___init__ cd_Deed___init__ ct_Deed___init__), sl_Deed___init__⟩)
    (c_Deed___init__ : PySem.W.codeIn K cd_Deed___init__ "Deed.__init__" = true)
    (k_Deed___init__ : PySem.W.keepIn K (.ref f_Deed___init__) = true)
    (fn_Deed___init__ : PySem.W.isFn K (.ref f_Deed___init__) = true)
    (a_Book_put_in : PySem.W.findIn K (.ref C_Book) "put_in" = some (some (.ref f_Book_put_in)))
    (l_Book_put_in : K.lookup f_Book_put_in = some ⟨oc_Book_put_in, od_Book_put_in, .func (PySem.W.fnOf "put_in" "Book.put_in" (defArgs s_Book_put_in) (defBody s_Book_put_in) (defScope s_Book_put_in) .none kV_Book_put_in dc_Book_put_in pm_Book_put_in an_Book_put_in cd_Book_put_in ct_Book_put_in), sl_Book_put_in⟩)
    (c_Book_put_in : PySem.W.codeIn K cd_Book_put_in "Book.put_in" = true)
    (k_Book_put_in : PySem.W.keepIn K (.ref f_Book_put_in) = true)
    (fn_Book_put_in : PySem.W.isFn K (.ref f_Book_put_in) = true)
    (a_Voice___init__ : PySem.W.findIn K (.ref C_Voice) "__init__" = some (some (.ref f_Voice___init__)))
    (l_Voice___init__ : K.lookup f_Voice___init__ = some ⟨oc_Voice___init__, od_Voice___init__, .func (PySem.W.fnOf "__init__" "Voice.__init__" (defArgs s_Voice___init__) (defBody s_Voice___init__) (defScope s_Voice___init__) .none kV_Voice___init__ dc_Voice___init__ pm_Voice___init__ an_Voice___init__ cd_Voice___init__ ct_Voice___init__), sl_Voice___init__⟩)
    (c_Voice___init__ : PySem.W.codeIn K cd_Voice___init__ "Voice.__init__" = true)
    (k_Voice___init__ : PySem.W.keepIn K (.ref f_Voice___init__) = true)
    (fn_Voice___init__ : PySem.W.isFn K (.ref f_Voice___init__) = true)
    (a_Book_add_voice : PySem.W.findIn K (.ref C_Book) "add_voice" = some (some (.ref f_Book_add_voice)))
    (l_Book_add_voice : K.lookup f_Book_add_voice = some ⟨oc_Book_add_voice, od_Book_add_voice, .func (PySem.W.fnOf "add_voice" "Book.add_voice" (defArgs s_Book_add_voice) (defBody s_Book_add_voice) (defScope s_Book_add_voice) .none kV_Book_add_voice dc_Book_add_voice pm_Book_add_voice an_Book_add_voice cd_Book_add_voice ct_Book_add_voice), sl_Book_add_voice⟩)
    (c_Book_add_voice : PySem.W.codeIn K cd_Book_add_voice "Book.add_voice" = true)
    (k_Book_add_voice : PySem.W.keepIn K (.ref f_Book_add_voice) = true)
    (fn_Book_add_voice : PySem.W.isFn K (.ref f_Book_add_voice) = true)
    (a_l_sign_by : PySem.W.nsIn K mainGlobals "_law_sign_by" = some (some (.ref f_l_sign_by)))
    (l_l_sign_by : K.lookup f_l_sign_by = some ⟨oc_l_sign_by, od_l_sign_by, .func (PySem.W.fnOf "_law_sign_by" "_law_sign_by" (defArgs s_l_sign_by) (defBody s_l_sign_by) (defScope s_l_sign_by) .none kV_l_sign_by dc_l_sign_by pm_l_sign_by an_l_sign_by cd_l_sign_by ct_l_sign_by), sl_l_sign_by⟩)
    (c_l_sign_by : PySem.W.codeIn K cd_l_sign_by "_law_sign_by" = true)
    (k_l_sign_by : PySem.W.keepIn K (.ref f_l_sign_by) = true)
    (a_Book_voice_called : PySem.W.findIn K (.ref C_Book) "voice_called" = some (some (.ref f_Book_voice_called)))
    (l_Book_voice_called : K.lookup f_Book_voice_called = some ⟨oc_Book_voice_called, od_Book_voice_called, .func (PySem.W.fnOf "voice_called" "Book.voice_called" (defArgs s_Book_voice_called) (defBody s_Book_voice_called) (defScope s_Book_voice_called) .none kV_Book_voice_called dc_Book_voice_called pm_Book_voice_called an_Book_voice_called cd_Book_voice_called ct_Book_voice_called), sl_Book_voice_called⟩)
    (c_Book_voice_called : PySem.W.codeIn K cd_Book_voice_called "Book.voice_called" = true)
    (k_Book_voice_called : PySem.W.keepIn K (.ref f_Book_voice_called) = true)
    (fn_Book_voice_called : PySem.W.isFn K (.ref f_Book_voice_called) = true)
    (a_Book_canon : PySem.W.findIn K (.ref C_Book) "canon" = some (some (.ref f_Book_canon)))
    (l_Book_canon : K.lookup f_Book_canon = some ⟨oc_Book_canon, od_Book_canon, .func (PySem.W.fnOf "canon" "Book.canon" (defArgs s_Book_canon) (defBody s_Book_canon) (defScope s_Book_canon) .none kV_Book_canon dc_Book_canon pm_Book_canon an_Book_canon cd_Book_canon ct_Book_canon), sl_Book_canon⟩)
    (c_Book_canon : PySem.W.codeIn K cd_Book_canon "Book.canon" = true)
    (k_Book_canon : PySem.W.keepIn K (.ref f_Book_canon) = true)
    (fn_Book_canon : PySem.W.isFn K (.ref f_Book_canon) = true)
    (a_turned : PySem.W.nsIn K mainGlobals "turned" = some (some (.ref f_turned)))
    (l_turned : K.lookup f_turned = some ⟨oc_turned, od_turned, .func (PySem.W.fnOf "turned" "turned" (defArgs s_turned) (defBody s_turned) (defScope s_turned) .none kV_turned dc_turned pm_turned an_turned cd_turned ct_turned), sl_turned⟩)
    (c_turned : PySem.W.codeIn K cd_turned "turned" = true)
    (k_turned : PySem.W.keepIn K (.ref f_turned) = true)
    (a_Book_line : PySem.W.findIn K (.ref C_Book) "line" = some (some (.ref f_Book_line)))
    (l_Book_line : K.lookup f_Book_line = some ⟨oc_Book_line, od_Book_line, .func (PySem.W.fnOf "line" "Book.line" (defArgs s_Book_line) (defBody s_Book_line) (defScope s_Book_line) .none kV_Book_line dc_Book_line pm_Book_line an_Book_line cd_Book_line ct_Book_line), sl_Book_line⟩)
    (c_Book_line : PySem.W.codeIn K cd_Book_line "Book.line" = true)
    (k_Book_line : PySem.W.keepIn K (.ref f_Book_line) = true)
    (fn_Book_line : PySem.W.isFn K (.ref f_Book_line) = true)
    (a_l_whole : PySem.W.nsIn K mainGlobals "_law_whole" = some (some (.ref f_l_whole)))
    (l_l_whole : K.lookup f_l_whole = some ⟨oc_l_whole, od_l_whole, .func (PySem.W.fnOf "_law_whole" "_law_whole" (defArgs s_l_whole) (defBody s_l_whole) (defScope s_l_whole) .none kV_l_whole dc_l_whole pm_l_whole an_l_whole cd_l_whole ct_l_whole), sl_l_whole⟩)
    (c_l_whole : PySem.W.codeIn K cd_l_whole "_law_whole" = true)
    (k_l_whole : PySem.W.keepIn K (.ref f_l_whole) = true)
    (a_l_signs : PySem.W.nsIn K mainGlobals "_law_signs" = some (some (.ref f_l_signs)))
    (l_l_signs : K.lookup f_l_signs = some ⟨oc_l_signs, od_l_signs, .func (PySem.W.fnOf "_law_signs" "_law_signs" (defArgs s_l_signs) (defBody s_l_signs) (defScope s_l_signs) .none kV_l_signs dc_l_signs pm_l_signs an_l_signs cd_l_signs ct_l_signs), sl_l_signs⟩)
    (c_l_signs : PySem.W.codeIn K cd_l_signs "_law_signs" = true)
    (k_l_signs : PySem.W.keepIn K (.ref f_l_signs) = true)
    (a_l_cell_at : PySem.W.nsIn K mainGlobals "_law_cell_at" = some (some (.ref f_l_cell_at)))
    (l_l_cell_at : K.lookup f_l_cell_at = some ⟨oc_l_cell_at, od_l_cell_at, .func (PySem.W.fnOf "_law_cell_at" "_law_cell_at" (defArgs s_l_cell_at) (defBody s_l_cell_at) (defScope s_l_cell_at) .none kV_l_cell_at dc_l_cell_at pm_l_cell_at an_l_cell_at cd_l_cell_at ct_l_cell_at), sl_l_cell_at⟩)
    (c_l_cell_at : PySem.W.codeIn K cd_l_cell_at "_law_cell_at" = true)
    (k_l_cell_at : PySem.W.keepIn K (.ref f_l_cell_at) = true)
    (a_l_mixed : PySem.W.nsIn K mainGlobals "_law_mixed" = some (some (.ref f_l_mixed)))
    (l_l_mixed : K.lookup f_l_mixed = some ⟨oc_l_mixed, od_l_mixed, .func (PySem.W.fnOf "_law_mixed" "_law_mixed" (defArgs s_l_mixed) (defBody s_l_mixed) (defScope s_l_mixed) .none kV_l_mixed dc_l_mixed pm_l_mixed an_l_mixed cd_l_mixed ct_l_mixed), sl_l_mixed⟩)
    (c_l_mixed : PySem.W.codeIn K cd_l_mixed "_law_mixed" = true)
    (k_l_mixed : PySem.W.keepIn K (.ref f_l_mixed) = true)
    (a_l_numbers : PySem.W.nsIn K mainGlobals "_law_numbers" = some (some (.ref f_l_numbers)))
    (l_l_numbers : K.lookup f_l_numbers = some ⟨oc_l_numbers, od_l_numbers, .func (PySem.W.fnOf "_law_numbers" "_law_numbers" (defArgs s_l_numbers) (defBody s_l_numbers) (defScope s_l_numbers) .none kV_l_numbers dc_l_numbers pm_l_numbers an_l_numbers cd_l_numbers ct_l_numbers), sl_l_numbers⟩)
    (c_l_numbers : PySem.W.codeIn K cd_l_numbers "_law_numbers" = true)
    (k_l_numbers : PySem.W.keepIn K (.ref f_l_numbers) = true)
    (a_l_line : PySem.W.nsIn K mainGlobals "_law_line" = some (some (.ref f_l_line)))
    (l_l_line : K.lookup f_l_line = some ⟨oc_l_line, od_l_line, .func (PySem.W.fnOf "_law_line" "_law_line" (defArgs s_l_line) (defBody s_l_line) (defScope s_l_line) .none kV_l_line dc_l_line pm_l_line an_l_line cd_l_line ct_l_line), sl_l_line⟩)
    (c_l_line : PySem.W.codeIn K cd_l_line "_law_line" = true)
    (k_l_line : PySem.W.keepIn K (.ref f_l_line) = true)
    (a_refuse_other_places : PySem.W.nsIn K mainGlobals "refuse_other_places" = some (some (.ref f_refuse_other_places)))
    (l_refuse_other_places : K.lookup f_refuse_other_places = some ⟨oc_refuse_other_places, od_refuse_other_places, .func (PySem.W.fnOf "refuse_other_places" "refuse_other_places" (defArgs s_refuse_other_places) (defBody s_refuse_other_places) (defScope s_refuse_other_places) .none kV_refuse_other_places dc_refuse_other_places pm_refuse_other_places an_refuse_other_places cd_refuse_other_places ct_refuse_other_places), sl_refuse_other_places⟩)
    (c_refuse_other_places : PySem.W.codeIn K cd_refuse_other_places "refuse_other_places" = true)
    (k_refuse_other_places : PySem.W.keepIn K (.ref f_refuse_other_places) = true)
    (a_good : PySem.W.nsIn K mainGlobals "good" = some (some (.ref f_good)))
    (l_good : K.lookup f_good = some ⟨oc_good, od_good, .func (PySem.W.fnOf "good" "good" (defArgs s_good) (defBody s_good) (defScope s_good) .none kV_good dc_good pm_good an_good cd_good ct_good), sl_good⟩)
    (c_good : PySem.W.codeIn K cd_good "good" = true)
    (k_good : PySem.W.keepIn K (.ref f_good) = true)
    (a_refuse_bad_sign : PySem.W.nsIn K mainGlobals "refuse_bad_sign" = some (some (.ref f_refuse_bad_sign)))
    (l_refuse_bad_sign : K.lookup f_refuse_bad_sign = some ⟨oc_refuse_bad_sign, od_refuse_bad_sign, .func (PySem.W.fnOf "refuse_bad_sign" "refuse_bad_sign" (defArgs s_refuse_bad_sign) (defBody s_refuse_bad_sign) (defScope s_refuse_bad_sign) .none kV_refuse_bad_sign dc_refuse_bad_sign pm_refuse_bad_sign an_refuse_bad_sign cd_refuse_bad_sign ct_refuse_bad_sign), sl_refuse_bad_sign⟩)
    (c_refuse_bad_sign : PySem.W.codeIn K cd_refuse_bad_sign "refuse_bad_sign" = true)
    (k_refuse_bad_sign : PySem.W.keepIn K (.ref f_refuse_bad_sign) = true)
    (a_small : PySem.W.nsIn K mainGlobals "small" = some (some (.ref f_small)))
    (l_small : K.lookup f_small = some ⟨oc_small, od_small, .func (PySem.W.fnOf "small" "small" (defArgs s_small) (defBody s_small) (defScope s_small) .none kV_small dc_small pm_small an_small cd_small ct_small), sl_small⟩)
    (c_small : PySem.W.codeIn K cd_small "small" = true)
    (k_small : PySem.W.keepIn K (.ref f_small) = true)
    (a_low_end : PySem.W.nsIn K mainGlobals "low_end" = some (some (.ref f_low_end)))
    (l_low_end : K.lookup f_low_end = some ⟨oc_low_end, od_low_end, .func (PySem.W.fnOf "low_end" "low_end" (defArgs s_low_end) (defBody s_low_end) (defScope s_low_end) .none kV_low_end dc_low_end pm_low_end an_low_end cd_low_end ct_low_end), sl_low_end⟩)
    (c_low_end : PySem.W.codeIn K cd_low_end "low_end" = true)
    (k_low_end : PySem.W.keepIn K (.ref f_low_end) = true)
    (a_high_end : PySem.W.nsIn K mainGlobals "high_end" = some (some (.ref f_high_end)))
    (l_high_end : K.lookup f_high_end = some ⟨oc_high_end, od_high_end, .func (PySem.W.fnOf "high_end" "high_end" (defArgs s_high_end) (defBody s_high_end) (defScope s_high_end) .none kV_high_end dc_high_end pm_high_end an_high_end cd_high_end ct_high_end), sl_high_end⟩)
    (c_high_end : PySem.W.codeIn K cd_high_end "high_end" = true)
    (k_high_end : PySem.W.keepIn K (.ref f_high_end) = true)
    (a_sets_measure : PySem.W.nsIn K mainGlobals "sets_measure" = some (some (.ref f_sets_measure)))
    (l_sets_measure : K.lookup f_sets_measure = some ⟨oc_sets_measure, od_sets_measure, .func (PySem.W.fnOf "sets_measure" "sets_measure" (defArgs s_sets_measure) (defBody s_sets_measure) (defScope s_sets_measure) .none kV_sets_measure dc_sets_measure pm_sets_measure an_sets_measure cd_sets_measure ct_sets_measure), sl_sets_measure⟩)
    (c_sets_measure : PySem.W.codeIn K cd_sets_measure "sets_measure" = true)
    (k_sets_measure : PySem.W.keepIn K (.ref f_sets_measure) = true)
    (a_window : PySem.W.nsIn K mainGlobals "window" = some (some (.ref f_window)))
    (l_window : K.lookup f_window = some ⟨oc_window, od_window, .func (PySem.W.fnOf "window" "window" (defArgs s_window) (defBody s_window) (defScope s_window) .none kV_window dc_window pm_window an_window cd_window ct_window), sl_window⟩)
    (c_window : PySem.W.codeIn K cd_window "window" = true)
    (k_window : PySem.W.keepIn K (.ref f_window) = true)
    (a_Book_plain_voice : PySem.W.findIn K (.ref C_Book) "plain_voice" = some (some (.ref f_Book_plain_voice)))
    (l_Book_plain_voice : K.lookup f_Book_plain_voice = some ⟨oc_Book_plain_voice, od_Book_plain_voice, .func (PySem.W.fnOf "plain_voice" "Book.plain_voice" (defArgs s_Book_plain_voice) (defBody s_Book_plain_voice) (defScope s_Book_plain_voice) .none kV_Book_plain_voice dc_Book_plain_voice pm_Book_plain_voice an_Book_plain_voice cd_Book_plain_voice ct_Book_plain_voice), sl_Book_plain_voice⟩)
    (c_Book_plain_voice : PySem.W.codeIn K cd_Book_plain_voice "Book.plain_voice" = true)
    (k_Book_plain_voice : PySem.W.keepIn K (.ref f_Book_plain_voice) = true)
    (fn_Book_plain_voice : PySem.W.isFn K (.ref f_Book_plain_voice) = true)
    (a_Book_put : PySem.W.findIn K (.ref C_Book) "put" = some (some (.ref f_Book_put)))
    (l_Book_put : K.lookup f_Book_put = some ⟨oc_Book_put, od_Book_put, .func (PySem.W.fnOf "put" "Book.put" (defArgs s_Book_put) (defBody s_Book_put) (defScope s_Book_put) .none kV_Book_put dc_Book_put pm_Book_put an_Book_put cd_Book_put ct_Book_put), sl_Book_put⟩)
    (c_Book_put : PySem.W.codeIn K cd_Book_put "Book.put" = true)
    (k_Book_put : PySem.W.keepIn K (.ref f_Book_put) = true)
    (fn_Book_put : PySem.W.isFn K (.ref f_Book_put) = true)
    (a_Book_swap : PySem.W.findIn K (.ref C_Book) "swap" = some (some (.ref f_Book_swap)))
    (l_Book_swap : K.lookup f_Book_swap = some ⟨oc_Book_swap, od_Book_swap, .func (PySem.W.fnOf "swap" "Book.swap" (defArgs s_Book_swap) (defBody s_Book_swap) (defScope s_Book_swap) .none kV_Book_swap dc_Book_swap pm_Book_swap an_Book_swap cd_Book_swap ct_Book_swap), sl_Book_swap⟩)
    (c_Book_swap : PySem.W.codeIn K cd_Book_swap "Book.swap" = true)
    (k_Book_swap : PySem.W.keepIn K (.ref f_Book_swap) = true)
    (fn_Book_swap : PySem.W.isFn K (.ref f_Book_swap) = true)
    (a_Book_cut : PySem.W.findIn K (.ref C_Book) "cut" = some (some (.ref f_Book_cut)))
    (l_Book_cut : K.lookup f_Book_cut = some ⟨oc_Book_cut, od_Book_cut, .func (PySem.W.fnOf "cut" "Book.cut" (defArgs s_Book_cut) (defBody s_Book_cut) (defScope s_Book_cut) .none kV_Book_cut dc_Book_cut pm_Book_cut an_Book_cut cd_Book_cut ct_Book_cut), sl_Book_cut⟩)
    (c_Book_cut : PySem.W.codeIn K cd_Book_cut "Book.cut" = true)
    (k_Book_cut : PySem.W.keepIn K (.ref f_Book_cut) = true)
    (fn_Book_cut : PySem.W.isFn K (.ref f_Book_cut) = true)
    (a_law : PySem.W.nsIn K mainGlobals "law" = some (some (.ref f_law)))
    (l_law : K.lookup f_law = some ⟨oc_law, od_law, .func (PySem.W.fnOf "law" "law" (defArgs s_law) (defBody s_law) (defScope s_law) .none kV_law dc_law pm_law an_law cd_law ct_law), sl_law⟩)
    (c_law : PySem.W.codeIn K cd_law "law" = true)
    (k_law : PySem.W.keepIn K (.ref f_law) = true)
    (z_all : PySem.W.nsIn K mainGlobals "all" = some none)
    (z_any : PySem.W.nsIn K mainGlobals "any" = some none)
    (z_bool : PySem.W.nsIn K mainGlobals "bool" = some none)
    (z_enumerate : PySem.W.nsIn K mainGlobals "enumerate" = some none)
    (z_int : PySem.W.nsIn K mainGlobals "int" = some none)
    (z_isinstance : PySem.W.nsIn K mainGlobals "isinstance" = some none)
    (z_len : PySem.W.nsIn K mainGlobals "len" = some none)
    (z_list : PySem.W.nsIn K mainGlobals "list" = some none)
    (z_min : PySem.W.nsIn K mainGlobals "min" = some none)
    (z_range : PySem.W.nsIn K mainGlobals "range" = some none)
    (z_str : PySem.W.nsIn K mainGlobals "str" = some none)
    (z_tuple : PySem.W.nsIn K mainGlobals "tuple" = some none)
    (z_zip : PySem.W.nsIn K mainGlobals "zip" = some none)
    (a_SMALL_KINDS_ : PySem.W.nsIn K mainGlobals "SMALL_KINDS" = some (some (.ref a_SMALL_KINDS)))
    (l_SMALL_KINDS_ : K.lookup a_SMALL_KINDS = some ⟨.type "tuple", od_SMALL_KINDS, .seq #[.str (Str.ofString "s") t0_SMALL_KINDS, .str (Str.ofString "d") t1_SMALL_KINDS, .str (Str.ofString "r") t2_SMALL_KINDS] n_SMALL_KINDS, sl_SMALL_KINDS⟩)
    (a_PARTING_KINDS_ : PySem.W.nsIn K mainGlobals "PARTING_KINDS" = some (some (.ref a_PARTING_KINDS)))
    (l_PARTING_KINDS_ : K.lookup a_PARTING_KINDS = some ⟨.type "tuple", od_PARTING_KINDS, .seq #[.str (Str.ofString ".") t0_PARTING_KINDS, .str (Str.ofString "3") t1_PARTING_KINDS, .str (Str.ofString "2") t2_PARTING_KINDS] n_PARTING_KINDS, sl_PARTING_KINDS⟩)
    (a_MEASURE_KINDS_ : PySem.W.nsIn K mainGlobals "MEASURE_KINDS" = some (some (.ref a_MEASURE_KINDS)))
    (l_MEASURE_KINDS_ : K.lookup a_MEASURE_KINDS = some ⟨.type "tuple", od_MEASURE_KINDS, .seq #[.str (Str.ofString "3") t0_MEASURE_KINDS, .str (Str.ofString "2") t1_MEASURE_KINDS] n_MEASURE_KINDS, sl_MEASURE_KINDS⟩)
    (a_SOUNDING_KINDS_ : PySem.W.nsIn K mainGlobals "SOUNDING_KINDS" = some (some (.ref a_SOUNDING_KINDS)))
    (l_SOUNDING_KINDS_ : K.lookup a_SOUNDING_KINDS = some ⟨.type "tuple", od_SOUNDING_KINDS, .seq #[.str (Str.ofString "G") t0_SOUNDING_KINDS, .str (Str.ofString "D") t1_SOUNDING_KINDS, .str (Str.ofString "s") t2_SOUNDING_KINDS, .str (Str.ofString "d") t3_SOUNDING_KINDS] n_SOUNDING_KINDS, sl_SOUNDING_KINDS⟩)
    (a_SILENT_KINDS_ : PySem.W.nsIn K mainGlobals "SILENT_KINDS" = some (some (.ref a_SILENT_KINDS)))
    (l_SILENT_KINDS_ : K.lookup a_SILENT_KINDS = some ⟨.type "tuple", od_SILENT_KINDS, .seq #[.str (Str.ofString "R") t0_SILENT_KINDS, .str (Str.ofString "r") t1_SILENT_KINDS, .str (Str.ofString ".") t2_SILENT_KINDS, .str (Str.ofString "3") t3_SILENT_KINDS, .str (Str.ofString "2") t4_SILENT_KINDS] n_SILENT_KINDS, sl_SILENT_KINDS⟩)
    (a_HIGHEST_TONE_ : PySem.W.nsIn K mainGlobals "HIGHEST_TONE" = some (some (.int 99 t_HIGHEST_TONE)))
    (a_TURNED_KINDS_ : PySem.W.nsIn K mainGlobals "TURNED_KINDS" = some (some (.ref a_TURNED_KINDS)))
    (l_TURNED_KINDS_ : K.lookup a_TURNED_KINDS = some ⟨.type "dict", none, .dict #[⟨PyData.keyHash w.params (Str.ofString "3"), .str (Str.ofString "3") tk0_TURNED_KINDS, .str (Str.ofString "2") tv0_TURNED_KINDS⟩, ⟨PyData.keyHash w.params (Str.ofString "2"), .str (Str.ofString "2") tk1_TURNED_KINDS, .str (Str.ofString "3") tv1_TURNED_KINDS⟩] n_TURNED_KINDS, #[]⟩)
    (y_TURNED_KINDS_ : (a_TURNED_KINDS == sysModules) = false)
    (a_LETTERS_ : PySem.W.nsIn K mainGlobals "LETTERS" = some (some (.str (Str.ofString "abcdefghijklmnopqrstuvwxyz") t_LETTERS)))
    (a_LONGEST_NAME_ : PySem.W.nsIn K mainGlobals "LONGEST_NAME" = some (some (.int 8 t_LONGEST_NAME)))
    (a_MOST_VOICES_ : PySem.W.nsIn K mainGlobals "MOST_VOICES" = some (some (.int 12 t_MOST_VOICES)))
    (a_MOST_SIGNS_ : PySem.W.nsIn K mainGlobals "MOST_SIGNS" = some (some (.int 200 t_MOST_SIGNS)))
    (mkm_Voice : PySem.W.makesIn K C_Voice = true)
    (mkk_Voice : PySem.W.keepIn K (.ref C_Voice) = true)
    (pg_Voice : PySem.W.plainGet K C_Voice Str.empty = true)
    (hd_Voice : PySem.W.hasDictIn K C_Voice = true)
    (po_Voice : PySem.W.plainOver K C_Voice = true)
    (sa_Voice : PySem.W.findIn K (.ref C_Voice) "__setattr__" = some (some (.builtin "object.__setattr__")))
    (na_Voice_name : PySem.W.findIn K (.ref C_Voice) "name" = some none)
    (na_Voice_terms : PySem.W.findIn K (.ref C_Voice) "terms" = some none)
    (na_Voice_signs : PySem.W.findIn K (.ref C_Voice) "signs" = some none)
    (mkm_Deed : PySem.W.makesIn K C_Deed = true)
    (mkk_Deed : PySem.W.keepIn K (.ref C_Deed) = true)
    (pg_Deed : PySem.W.plainGet K C_Deed Str.empty = true)
    (hd_Deed : PySem.W.hasDictIn K C_Deed = true)
    (po_Deed : PySem.W.plainOver K C_Deed = true)
    (sa_Deed : PySem.W.findIn K (.ref C_Deed) "__setattr__" = some (some (.builtin "object.__setattr__")))
    (na_Deed_things : PySem.W.findIn K (.ref C_Deed) "things" = some none)
    (na_Deed_at : PySem.W.findIn K (.ref C_Deed) "at" = some none)
    (na_Deed_before : PySem.W.findIn K (.ref C_Deed) "before" = some none)
    (na_Deed_after : PySem.W.findIn K (.ref C_Deed) "after" = some none)
    (mkm_Book : PySem.W.makesIn K C_Book = true)
    (mkk_Book : PySem.W.keepIn K (.ref C_Book) = true)
    (pg_Book : PySem.W.plainGet K C_Book Str.empty = true)
    (hd_Book : PySem.W.hasDictIn K C_Book = true)
    (po_Book : PySem.W.plainOver K C_Book = true)
    (sa_Book : PySem.W.findIn K (.ref C_Book) "__setattr__" = some (some (.builtin "object.__setattr__")))
    (na_Book_voices : PySem.W.findIn K (.ref C_Book) "voices" = some none)
    (na_Book_done : PySem.W.findIn K (.ref C_Book) "done" = some none)
    (na_Book_undone : PySem.W.findIn K (.ref C_Book) "undone" = some none) :
    ∃ fd : FuncData, (∀ (s : Shared) (v : Value), BindsTo s fd ⟨[v], []⟩ [("_law_script", v)]) ∧ ∀ base : Heap, K.In base → base.Ns mainGlobals mg → FnOk l.prog w K mg base CX0 5 fa fd ["_law_script"] (sp_law K) := by
  have e := hfa.symm.trans (PySem.W.mg_of X G a_law)
  cases e
  have F_Book___init__ := fun_mk (st := s_Book___init__) l_Book___init__ c_Book___init__ k_Book___init__
  have b_Book___init__ := F_Book___init__.binds (ps := ["self"]) fun _ _ _ _ _ _ us hl => match us, hl with | [_], _ => rfl
  have F_is_name := fun_mk (st := s_is_name) l_is_name c_is_name k_is_name
  have b_is_name := F_is_name.binds (ps := ["name"]) fun _ _ _ _ _ _ us hl => match us, hl with | [_], _ => rfl
  have F_Book_names := fun_mk (st := s_Book_names) l_Book_names c_Book_names k_Book_names
  have b_Book_names := F_Book_names.binds (ps := ["self"]) fun _ _ _ _ _ _ us hl => match us, hl with | [_], _ => rfl
  have F_Book_refuse_new := fun_mk (st := s_Book_refuse_new) l_Book_refuse_new c_Book_refuse_new k_Book_refuse_new
  have b_Book_refuse_new := F_Book_refuse_new.binds (ps := ["self", "name"]) fun _ _ _ _ _ _ us hl => match us, hl with | [_, _], _ => rfl
  have F_Deed_do := fun_mk (st := s_Deed_do) l_Deed_do c_Deed_do k_Deed_do
  have b_Deed_do := F_Deed_do.binds (ps := ["self"]) fun _ _ _ _ _ _ us hl => match us, hl with | [_], _ => rfl
  have F_Book_perform := fun_mk (st := s_Book_perform) l_Book_perform c_Book_perform k_Book_perform
  have b_Book_perform := F_Book_perform.binds (ps := ["self", "deed"]) fun _ _ _ _ _ _ us hl => match us, hl with | [_, _], _ => rfl
  have F_Deed___init__ := fun_mk (st := s_Deed___init__) l_Deed___init__ c_Deed___init__ k_Deed___init__
  have b_Deed___init__ := F_Deed___init__.binds (ps := ["self", "things", "at", "before", "after"]) fun _ _ _ _ _ _ us hl => match us, hl with | [_, _, _, _, _], _ => rfl
  have F_Book_put_in := fun_mk (st := s_Book_put_in) l_Book_put_in c_Book_put_in k_Book_put_in
  have b_Book_put_in := F_Book_put_in.binds (ps := ["self", "voice"]) fun _ _ _ _ _ _ us hl => match us, hl with | [_, _], _ => rfl
  have F_Voice___init__ := fun_mk (st := s_Voice___init__) l_Voice___init__ c_Voice___init__ k_Voice___init__
  have b_Voice___init__ := F_Voice___init__.binds (ps := ["self", "name", "terms"]) fun _ _ _ _ _ _ us hl => match us, hl with | [_, _, _], _ => rfl
  have F_Book_add_voice := fun_mk (st := s_Book_add_voice) l_Book_add_voice c_Book_add_voice k_Book_add_voice
  have b_Book_add_voice := F_Book_add_voice.binds (ps := ["self", "name"]) fun _ _ _ _ _ _ us hl => match us, hl with | [_, _], _ => rfl
  have F_l_sign_by := fun_mk (st := s_l_sign_by) l_l_sign_by c_l_sign_by k_l_sign_by
  have b_l_sign_by := F_l_sign_by.binds (ps := ["_law_number"]) fun _ _ _ _ _ _ us hl => match us, hl with | [_], _ => rfl
  have F_Book_voice_called := fun_mk (st := s_Book_voice_called) l_Book_voice_called c_Book_voice_called k_Book_voice_called
  have b_Book_voice_called := F_Book_voice_called.binds (ps := ["self", "name"]) fun _ _ _ _ _ _ us hl => match us, hl with | [_, _], _ => rfl
  have F_Book_canon := fun_mk (st := s_Book_canon) l_Book_canon c_Book_canon k_Book_canon
  have b_Book_canon := F_Book_canon.binds (ps := ["self", "name"]) fun _ _ _ _ _ _ us hl => match us, hl with | [_, _], _ => rfl
  have F_turned := fun_mk (st := s_turned) l_turned c_turned k_turned
  have b_turned := F_turned.binds (ps := ["line"]) fun _ _ _ _ _ _ us hl => match us, hl with | [_], _ => rfl
  have F_Book_line := fun_mk (st := s_Book_line) l_Book_line c_Book_line k_Book_line
  have b_Book_line := F_Book_line.binds (ps := ["self", "name"]) fun _ _ _ _ _ _ us hl => match us, hl with | [_, _], _ => rfl
  have F_l_whole := fun_mk (st := s_l_whole) l_l_whole c_l_whole k_l_whole
  have b_l_whole := F_l_whole.binds (ps := ["_law_found"]) fun _ _ _ _ _ _ us hl => match us, hl with | [_], _ => rfl
  have F_l_signs := fun_mk (st := s_l_signs) l_l_signs c_l_signs k_l_signs
  have b_l_signs := F_l_signs.binds (ps := ["_law_found", "_law_due"]) fun _ _ _ _ _ _ us hl => match us, hl with | [_, _], _ => rfl
  have F_l_cell_at := fun_mk (st := s_l_cell_at) l_l_cell_at c_l_cell_at k_l_cell_at
  have b_l_cell_at := F_l_cell_at.binds (ps := ["_law_script", "_law_k"]) fun _ _ _ _ _ _ us hl => match us, hl with | [_, _], _ => rfl
  have F_l_mixed := fun_mk (st := s_l_mixed) l_l_mixed c_l_mixed k_l_mixed
  have b_l_mixed := F_l_mixed.binds (ps := ["_law_seed", "_law_k"]) fun _ _ _ _ _ _ us hl => match us, hl with | [_, _], _ => rfl
  have F_l_numbers := fun_mk (st := s_l_numbers) l_l_numbers c_l_numbers k_l_numbers
  have b_l_numbers := F_l_numbers.binds (ps := ["_law_script", "_law_at", "_law_many"]) fun _ _ _ _ _ _ us hl => match us, hl with | [_, _, _], _ => rfl
  have F_l_line := fun_mk (st := s_l_line) l_l_line c_l_line k_l_line
  have b_l_line := F_l_line.binds (ps := ["_law_script", "_law_at", "_law_many"]) fun _ _ _ _ _ _ us hl => match us, hl with | [_, _, _], _ => rfl
  have F_refuse_other_places := fun_mk (st := s_refuse_other_places) l_refuse_other_places c_refuse_other_places k_refuse_other_places
  have b_refuse_other_places := F_refuse_other_places.binds (ps := ["at", "last"]) fun _ _ _ _ _ _ us hl => match us, hl with | [_, _], _ => rfl
  have F_good := fun_mk (st := s_good) l_good c_good k_good
  have b_good := F_good.binds (ps := ["sign"]) fun _ _ _ _ _ _ us hl => match us, hl with | [_], _ => rfl
  have F_refuse_bad_sign := fun_mk (st := s_refuse_bad_sign) l_refuse_bad_sign c_refuse_bad_sign k_refuse_bad_sign
  have b_refuse_bad_sign := F_refuse_bad_sign.binds (ps := ["sign"]) fun _ _ _ _ _ _ us hl => match us, hl with | [_], _ => rfl
  have F_small := fun_mk (st := s_small) l_small c_small k_small
  have b_small := F_small.binds (ps := ["sign"]) fun _ _ _ _ _ _ us hl => match us, hl with | [_], _ => rfl
  have F_low_end := fun_mk (st := s_low_end) l_low_end c_low_end k_low_end
  have b_low_end := F_low_end.binds (ps := ["line", "at"]) fun _ _ _ _ _ _ us hl => match us, hl with | [_, _], _ => rfl
  have F_high_end := fun_mk (st := s_high_end) l_high_end c_high_end k_high_end
  have b_high_end := F_high_end.binds (ps := ["line", "first", "kinds"]) fun _ _ _ _ _ _ us hl => match us, hl with | [_, _, _], _ => rfl
  have F_sets_measure := fun_mk (st := s_sets_measure) l_sets_measure c_sets_measure k_sets_measure
  have b_sets_measure := F_sets_measure.binds (ps := ["sign"]) fun _ _ _ _ _ _ us hl => match us, hl with | [_], _ => rfl
  have F_window := fun_mk (st := s_window) l_window c_window k_window
  have b_window := F_window.binds (ps := ["line", "at", "behind", "changed"]) fun _ _ _ _ _ _ us hl => match us, hl with | [_, _, _, _], _ => rfl
  have F_Book_plain_voice := fun_mk (st := s_Book_plain_voice) l_Book_plain_voice c_Book_plain_voice k_Book_plain_voice
  have b_Book_plain_voice := F_Book_plain_voice.binds (ps := ["self", "name"]) fun _ _ _ _ _ _ us hl => match us, hl with | [_, _], _ => rfl
  have F_Book_put := fun_mk (st := s_Book_put) l_Book_put c_Book_put k_Book_put
  have b_Book_put := F_Book_put.binds (ps := ["self", "name", "at", "sign"]) fun _ _ _ _ _ _ us hl => match us, hl with | [_, _, _, _], _ => rfl
  have F_Book_swap := fun_mk (st := s_Book_swap) l_Book_swap c_Book_swap k_Book_swap
  have b_Book_swap := F_Book_swap.binds (ps := ["self", "name", "at", "sign"]) fun _ _ _ _ _ _ us hl => match us, hl with | [_, _, _, _], _ => rfl
  have F_Book_cut := fun_mk (st := s_Book_cut) l_Book_cut c_Book_cut k_Book_cut
  have b_Book_cut := F_Book_cut.binds (ps := ["self", "name", "at"]) fun _ _ _ _ _ _ us hl => match us, hl with | [_, _, _], _ => rfl
  have F_law := fun_mk (st := s_law) l_law c_law k_law
  have b_law := F_law.binds (ps := ["_law_script"]) fun _ _ _ _ _ _ us hl => match us, hl with | [_], _ => rfl
  have T : Txt K w mg ⟨_, _, _, _, _, _, _, _, _, _, _, _, _, _, _, _, _, _, _, _, _, _, _, _, _, _, _, _, _, _, _, _, _, _, _, _, _, _, _, _, _, _, _, _, _, _, _, _, _, _, _, _, _, _, _, _, _, _, _, _, _, _, _, _, _, _, _, _, a_SMALL_KINDS, a_PARTING_KINDS, a_MEASURE_KINDS, a_SOUNDING_KINDS, a_SILENT_KINDS, t_HIGHEST_TONE, a_TURNED_KINDS, t_LETTERS, t_LONGEST_NAME, t_MOST_VOICES, t_MOST_SIGNS, C_Voice, C_Deed, C_Book⟩ := ⟨F_Book___init__, b_Book___init__, F_is_name, b_is_name, PySem.W.mg_of X G a_is_name, F_Book_names, b_Book_names, ⟨a_Book_names, fn_Book_names, k_Book_names⟩, F_Book_refuse_new, b_Book_refuse_new, ⟨a_Book_refuse_new, fn_Book_refuse_new, k_Book_refuse_new⟩, F_Deed_do, b_Deed_do, ⟨a_Deed_do, fn_Deed_do, k_Deed_do⟩, F_Book_perform, b_Book_perform, ⟨a_Book_perform, fn_Book_perform, k_Book_perform⟩, F_Deed___init__, b_Deed___init__, F_Book_put_in, b_Book_put_in, ⟨a_Book_put_in, fn_Book_put_in, k_Book_put_in⟩, F_Voice___init__, b_Voice___init__, F_Book_add_voice, b_Book_add_voice, ⟨a_Book_add_voice, fn_Book_add_voice, k_Book_add_voice⟩, F_l_sign_by, b_l_sign_by, PySem.W.mg_of X G a_l_sign_by, F_Book_voice_called, b_Book_voice_called, ⟨a_Book_voice_called, fn_Book_voice_called, k_Book_voice_called⟩, F_Book_canon, b_Book_canon, ⟨a_Book_canon, fn_Book_canon, k_Book_canon⟩, F_turned, b_turned, PySem.W.mg_of X G a_turned, F_Book_line, b_Book_line, ⟨a_Book_line, fn_Book_line, k_Book_line⟩, F_l_whole, b_l_whole, PySem.W.mg_of X G a_l_whole, F_l_signs, b_l_signs, PySem.W.mg_of X G a_l_signs, F_l_cell_at, b_l_cell_at, PySem.W.mg_of X G a_l_cell_at, F_l_mixed, b_l_mixed, PySem.W.mg_of X G a_l_mixed, F_l_numbers, b_l_numbers, PySem.W.mg_of X G a_l_numbers, F_l_line, b_l_line, PySem.W.mg_of X G a_l_line, F_refuse_other_places, b_refuse_other_places, PySem.W.mg_of X G a_refuse_other_places, F_good, b_good, PySem.W.mg_of X G a_good, F_refuse_bad_sign, b_refuse_bad_sign, PySem.W.mg_of X G a_refuse_bad_sign, F_small, b_small, PySem.W.mg_of X G a_small, F_low_end, b_low_end, PySem.W.mg_of X G a_low_end, F_high_end, b_high_end, PySem.W.mg_of X G a_high_end, F_sets_measure, b_sets_measure, PySem.W.mg_of X G a_sets_measure, F_window, b_window, PySem.W.mg_of X G a_window, F_Book_plain_voice, b_Book_plain_voice, ⟨a_Book_plain_voice, fn_Book_plain_voice, k_Book_plain_voice⟩, F_Book_put, b_Book_put, ⟨a_Book_put, fn_Book_put, k_Book_put⟩, F_Book_swap, b_Book_swap, ⟨a_Book_swap, fn_Book_swap, k_Book_swap⟩, F_Book_cut, b_Book_cut, ⟨a_Book_cut, fn_Book_cut, k_Book_cut⟩, F_law, b_law, PySem.W.mg_of X G a_law, PySem.W.mg_none_of X G z_all, PySem.W.mg_none_of X G z_any, PySem.W.mg_none_of X G z_bool, PySem.W.mg_none_of X G z_enumerate, PySem.W.mg_none_of X G z_int, PySem.W.mg_none_of X G z_isinstance, PySem.W.mg_none_of X G z_len, PySem.W.mg_none_of X G z_list, PySem.W.mg_none_of X G z_min, PySem.W.mg_none_of X G z_range, PySem.W.mg_none_of X G z_str, PySem.W.mg_none_of X G z_tuple, PySem.W.mg_none_of X G z_zip, PySem.W.mg_of X G a_SMALL_KINDS_, (fun H => .inr ⟨_, _, _, l_SMALL_KINDS_, rfl, rfl, (by show 3 ≤ sizeLine; decide), (.cons ⟨_, rfl⟩ (.cons ⟨_, rfl⟩ (.cons ⟨_, rfl⟩ .nil)))⟩), PySem.W.mg_of X G a_PARTING_KINDS_, (fun H => .inr ⟨_, _, _, l_PARTING_KINDS_, rfl, rfl, (by show 3 ≤ sizeLine; decide), (.cons ⟨_, rfl⟩ (.cons ⟨_, rfl⟩ (.cons ⟨_, rfl⟩ .nil)))⟩), PySem.W.mg_of X G a_MEASURE_KINDS_, (fun H => .inr ⟨_, _, _, l_MEASURE_KINDS_, rfl, rfl, (by show 2 ≤ sizeLine; decide), (.cons ⟨_, rfl⟩ (.cons ⟨_, rfl⟩ .nil))⟩), PySem.W.mg_of X G a_SOUNDING_KINDS_, (fun H => .inr ⟨_, _, _, l_SOUNDING_KINDS_, rfl, rfl, (by show 4 ≤ sizeLine; decide), (.cons ⟨_, rfl⟩ (.cons ⟨_, rfl⟩ (.cons ⟨_, rfl⟩ (.cons ⟨_, rfl⟩ .nil))))⟩), PySem.W.mg_of X G a_SILENT_KINDS_, (fun H => .inr ⟨_, _, _, l_SILENT_KINDS_, rfl, rfl, (by show 5 ≤ sizeLine; decide), (.cons ⟨_, rfl⟩ (.cons ⟨_, rfl⟩ (.cons ⟨_, rfl⟩ (.cons ⟨_, rfl⟩ (.cons ⟨_, rfl⟩ .nil)))))⟩), PySem.W.mg_of X G a_HIGHEST_TONE_, PySem.W.mg_of X G a_TURNED_KINDS_, ⟨y_TURNED_KINDS_, _, _, l_TURNED_KINDS_, (.cons ⟨_, rfl⟩ (.cons ⟨_, rfl⟩ .nil)), by decide +kernel⟩, PySem.W.mg_of X G a_LETTERS_, PySem.W.mg_of X G a_LONGEST_NAME_, PySem.W.mg_of X G a_MOST_VOICES_, PySem.W.mg_of X G a_MOST_SIGNS_, PySem.W.mg_of X G aC_Voice, ⟨mkm_Voice, a_Voice___init__, fn_Voice___init__, mkk_Voice⟩, ⟨pg_Voice, hd_Voice, po_Voice, sa_Voice⟩, na_Voice_name, na_Voice_terms, na_Voice_signs, PySem.W.mg_of X G aC_Deed, ⟨mkm_Deed, a_Deed___init__, fn_Deed___init__, mkk_Deed⟩, ⟨pg_Deed, hd_Deed, po_Deed, sa_Deed⟩, na_Deed_things, na_Deed_at, na_Deed_before, na_Deed_after, PySem.W.mg_of X G aC_Book, ⟨mkm_Book, a_Book___init__, fn_Book___init__, mkk_Book⟩, ⟨pg_Book, hd_Book, po_Book, sa_Book⟩, na_Book_voices, na_Book_done, na_Book_undone⟩
  exact ⟨_, fun s v => .of_eq rfl, fun base _ _ => ok_law T⟩
theorem walk {l : PySem.W.OpenLaw} {q : Program} {loose : List Str} {XP : (Str → Option Value) → Heap → Prop} {YP : World → Heap → Prop} {d : DefRec} {K : Params → PySem.W.Frag} (hn : l.most = some 63) (hdf : d.params.defaults = [])
    (hY : ∀ (w : World) (h : Heap), YP w h → (K w.params).In h)
    (F : ∀ (w : World) (mg : Str → Option Value) (fa : Addr) (h : Heap), (K w.params).In h → h.Ns mainGlobals mg → mg d.name = some (.ref fa) →
      ∃ fd : FuncData, (∀ (s : Shared) (u : Value), BindsTo s fd ⟨[u], []⟩ [("_law_script", u)]) ∧ ∀ base : Heap, (K w.params).In base → base.Ns mainGlobals mg → FnOk l.prog w (K w.params) mg base CX0 5 fa fd ["_law_script"] (sp_law (K w.params))) :
    PySem.W.WalkO q loose XP YP l.row.toRowW d [] (fun f vs => PySem.call f vs) :=
  L2.walk_of (n := 63) (k := 5) (x := "_law_script") (CX := fun _ => CX0) (sp := fun w => sp_law (K w.params)) hn (by decide) hdf ⟨rfl, by decide, by decide⟩ hY F (fun _ H a ns hl hO hS => law_start hl hO hS) fun _ _ _ _ _ z => z
end Mine
def PySem.W.Fast.tw13907849188217133602 : Unit := ()
def PySem.W.Fast.tw3463991775879941564 : Unit := ()
def PySem.W.Fast.tw13300494342053019867 : Unit := ()
def PySem.W.Fast.tw3419465786295392358 : Unit := ()
def PySem.W.Fast.tw12674566349857508121 : Unit := ()
def PySem.W.Fast.tw7296261243688060677 : Unit := ()
def PySem.W.Fast.tw16510119585354819175 : Unit := ()
def PySem.W.Fast.tw2264083771838168669 : Unit := ()
def PySem.W.Fast.tw13842246720091337876 : Unit := ()
def PySem.W.Fast.tw5575346768832864057 : Unit := ()
def PySem.W.Fast.tw6214953823049836177 : Unit := ()
def PySem.W.Fast.tw13754109722167760010 : Unit := ()
def PySem.W.Fast.tw14707544731939612047 : Unit := ()
open PySem PySem.W PyProof.Rows
set_option maxRecDepth 100000 in
set_option maxHeartbeats 0 in
theorem PySem.Challenge.cw_noteworth_k31_deeds_in_a_line_holds : PySem.Challenge.rw_noteworth_k31_deeds_in_a_line.Holds := by
  w_on; o_law; k_head; (case hw => w_witness2)
  k_fill
  refine Mine.walk (l := PySem.Challenge.rw_noteworth_k31_deeds_in_a_line) rfl rfl (fun w h Y => PySem.W.kIn_of Y) ?F
  case F =>
    intro w mg fa h KX G hmg
    refine' Mine.all_mk KX G hmg ?aC_Voice ?aC_Deed ?aC_Book ?a_Book___init__ ?l_Book___init__ ?c_Book___init__ ?k_Book___init__ ?fn_Book___init__ ?a_is_name ?l_is_name ?c_is_name ?k_is_name ?a_Book_names ?l_Book_names ?c_Book_names ?k_Book_names ?fn_Book_names ?a_Book_refuse_new ?l_Book_refuse_new ?c_Book_refuse_new ?k_Book_refuse_new ?fn_Book_refuse_new ?a_Deed_do ?l_Deed_do ?c_Deed_do ?k_Deed_do ?fn_Deed_do ?a_Book_perform ?l_Book_perform ?c_Book_perform ?k_Book_perform ?fn_Book_perform ?a_Deed___init__ ?l_Deed___init__ ?c_Deed___init__ ?k_Deed___init__ ?fn_Deed___init__ ?a_Book_put_in ?l_Book_put_in ?c_Book_put_in ?k_Book_put_in ?fn_Book_put_in ?a_Voice___init__ ?l_Voice___init__ ?c_Voice___init__ ?k_Voice___init__ ?fn_Voice___init__ ?a_Book_add_voice ?l_Book_add_voice ?c_Book_add_voice ?k_Book_add_voice ?fn_Book_add_voice ?a_l_sign_by ?l_l_sign_by ?c_l_sign_by ?k_l_sign_by ?a_Book_voice_called ?l_Book_voice_called ?c_Book_voice_called ?k_Book_voice_called ?fn_Book_voice_called ?a_Book_canon ?l_Book_canon ?c_Book_canon ?k_Book_canon ?fn_Book_canon ?a_turned ?l_turned ?c_turned ?k_turned ?a_Book_line ?l_Book_line ?c_Book_line ?k_Book_line ?fn_Book_line ?a_l_whole ?l_l_whole ?c_l_whole ?k_l_whole ?a_l_signs ?l_l_signs ?c_l_signs ?k_l_signs ?a_l_cell_at ?l_l_cell_at ?c_l_cell_at ?k_l_cell_at ?a_l_mixed ?l_l_mixed ?c_l_mixed ?k_l_mixed ?a_l_numbers ?l_l_numbers ?c_l_numbers ?k_l_numbers ?a_l_line ?l_l_line ?c_l_line ?k_l_line ?a_refuse_other_places ?l_refuse_other_places ?c_refuse_other_places ?k_refuse_other_places ?a_good ?l_good ?c_good ?k_good ?a_refuse_bad_sign ?l_refuse_bad_sign ?c_refuse_bad_sign ?k_refuse_bad_sign ?a_small ?l_small ?c_small ?k_small ?a_low_end ?l_low_end ?c_low_end ?k_low_end ?a_high_end ?l_high_end ?c_high_end ?k_high_end ?a_sets_measure ?l_sets_measure ?c_sets_measure ?k_sets_measure ?a_window ?l_window ?c_window ?k_window ?a_Book_plain_voice ?l_Book_plain_voice ?c_Book_plain_voice ?k_Book_plain_voice ?fn_Book_plain_voice ?a_Book_put ?l_Book_put ?c_Book_put ?k_Book_put ?fn_Book_put ?a_Book_swap ?l_Book_swap ?c_Book_swap ?k_Book_swap ?fn_Book_swap ?a_Book_cut ?l_Book_cut ?c_Book_cut ?k_Book_cut ?fn_Book_cut ?a_law ?l_law ?c_law ?k_law ?z_all ?z_any ?z_bool ?z_enumerate ?z_int ?z_isinstance ?z_len ?z_list ?z_min ?z_range ?z_str ?z_tuple ?z_zip ?a_SMALL_KINDS_ ?l_SMALL_KINDS_ ?a_PARTING_KINDS_ ?l_PARTING_KINDS_ ?a_MEASURE_KINDS_ ?l_MEASURE_KINDS_ ?a_SOUNDING_KINDS_ ?l_SOUNDING_KINDS_ ?a_SILENT_KINDS_ ?l_SILENT_KINDS_ ?a_HIGHEST_TONE_ ?a_TURNED_KINDS_ ?l_TURNED_KINDS_ ?y_TURNED_KINDS_ ?a_LETTERS_ ?a_LONGEST_NAME_ ?a_MOST_VOICES_ ?a_MOST_SIGNS_ ?mkm_Voice ?mkk_Voice ?pg_Voice ?hd_Voice ?po_Voice ?sa_Voice ?na_Voice_name ?na_Voice_terms ?na_Voice_signs ?mkm_Deed ?mkk_Deed ?pg_Deed ?hd_Deed ?po_Deed ?sa_Deed ?na_Deed_things ?na_Deed_at ?na_Deed_before ?na_Deed_after ?mkm_Book ?mkk_Book ?pg_Book ?hd_Book ?po_Book ?sa_Book ?na_Book_voices ?na_Book_done ?na_Book_undone
    (case aC_Voice => k_is)
    (case aC_Deed => k_is)
    (case aC_Book => k_is)
    (case a_Book___init__ => k_is)
    (case l_Book___init__ => k_is)
    (case c_Book___init__ => k_is)
    (case k_Book___init__ => k_is)
    (case fn_Book___init__ => k_is)
    (case a_is_name => k_is)
    (case l_is_name => k_is)
    (case c_is_name => k_is)
    (case k_is_name => k_is)
    (case a_Book_names => k_is)
    (case l_Book_names => k_is)
    (case c_Book_names => k_is)
    (case k_Book_names => k_is)
    (case fn_Book_names => k_is)
    (case a_Book_refuse_new => k_is)
    (case l_Book_refuse_new => k_is)
    (case c_Book_refuse_new => k_is)
    (case k_Book_refuse_new => k_is)
    (case fn_Book_refuse_new => k_is)
    (case a_Deed_do => k_is)
    (case l_Deed_do => k_is)
    (case c_Deed_do => k_is)
    (case k_Deed_do => k_is)
    (case fn_Deed_do => k_is)
    (case a_Book_perform => k_is)
    (case l_Book_perform => k_is)
    (case c_Book_perform => k_is)
    (case k_Book_perform => k_is)
    (case fn_Book_perform => k_is)
    (case a_Deed___init__ => k_is)
    (case l_Deed___init__ => k_is)
    (case c_Deed___init__ => k_is)
    (case k_Deed___init__ => k_is)
    (case fn_Deed___init__ => k_is)
    (case a_Book_put_in => k_is)
    (case l_Book_put_in => k_is)
    (case c_Book_put_in => k_is)
    (case k_Book_put_in => k_is)
    (case fn_Book_put_in => k_is)
    (case a_Voice___init__ => k_is)
    (case l_Voice___init__ => k_is)
    (case c_Voice___init__ => k_is)
    (case k_Voice___init__ => k_is)
    (case fn_Voice___init__ => k_is)
    (case a_Book_add_voice => k_is)
    (case l_Book_add_voice => k_is)
    (case c_Book_add_voice => k_is)
    (case k_Book_add_voice => k_is)
    (case fn_Book_add_voice => k_is)
    (case a_l_sign_by => k_is)
    (case l_l_sign_by => k_is)
    (case c_l_sign_by => k_is)
    (case k_l_sign_by => k_is)
    (case a_Book_voice_called => k_is)
    (case l_Book_voice_called => k_is)
    (case c_Book_voice_called => k_is)
    (case k_Book_voice_called => k_is)
    (case fn_Book_voice_called => k_is)
    (case a_Book_canon => k_is)
    (case l_Book_canon => k_is)
    (case c_Book_canon => k_is)
    (case k_Book_canon => k_is)
    (case fn_Book_canon => k_is)
    (case a_turned => k_is)
    (case l_turned => k_is)
    (case c_turned => k_is)
    (case k_turned => k_is)
    (case a_Book_line => k_is)
    (case l_Book_line => k_is)
    (case c_Book_line => k_is)
    (case k_Book_line => k_is)
    (case fn_Book_line => k_is)
    (case a_l_whole => k_is)
    (case l_l_whole => k_is)
    (case c_l_whole => k_is)
    (case k_l_whole => k_is)
    (case a_l_signs => k_is)
    (case l_l_signs => k_is)
    (case c_l_signs => k_is)
    (case k_l_signs => k_is)
    (case a_l_cell_at => k_is)
    (case l_l_cell_at => k_is)
    (case c_l_cell_at => k_is)
    (case k_l_cell_at => k_is)
    (case a_l_mixed => k_is)
    (case l_l_mixed => k_is)
    (case c_l_mixed => k_is)
    (case k_l_mixed => k_is)
    (case a_l_numbers => k_is)
    (case l_l_numbers => k_is)
    (case c_l_numbers => k_is)
    (case k_l_numbers => k_is)
    (case a_l_line => k_is)
    (case l_l_line => k_is)
    (case c_l_line => k_is)
    (case k_l_line => k_is)
    (case a_refuse_other_places => k_is)
    (case l_refuse_other_places => k_is)
    (case c_refuse_other_places => k_is)
    (case k_refuse_other_places => k_is)
    (case a_good => k_is)
    (case l_good => k_is)
    (case c_good => k_is)
    (case k_good => k_is)
    (case a_refuse_bad_sign => k_is)
    (case l_refuse_bad_sign => k_is)
    (case c_refuse_bad_sign => k_is)
    (case k_refuse_bad_sign => k_is)
    (case a_small => k_is)
    (case l_small => k_is)
    (case c_small => k_is)
    (case k_small => k_is)
    (case a_low_end => k_is)
    (case l_low_end => k_is)
    (case c_low_end => k_is)
    (case k_low_end => k_is)
    (case a_high_end => k_is)
    (case l_high_end => k_is)
    (case c_high_end => k_is)
    (case k_high_end => k_is)
    (case a_sets_measure => k_is)
    (case l_sets_measure => k_is)
    (case c_sets_measure => k_is)
    (case k_sets_measure => k_is)
    (case a_window => k_is)
    (case l_window => k_is)
    (case c_window => k_is)
    (case k_window => k_is)
    (case a_Book_plain_voice => k_is)
    (case l_Book_plain_voice => k_is)
    (case c_Book_plain_voice => k_is)
    (case k_Book_plain_voice => k_is)
    (case fn_Book_plain_voice => k_is)
    (case a_Book_put => k_is)
    (case l_Book_put => k_is)
    (case c_Book_put => k_is)
    (case k_Book_put => k_is)
    (case fn_Book_put => k_is)
    (case a_Book_swap => k_is)
    (case l_Book_swap => k_is)
    (case c_Book_swap => k_is)
    (case k_Book_swap => k_is)
    (case fn_Book_swap => k_is)
    (case a_Book_cut => k_is)
    (case l_Book_cut => k_is)
    (case c_Book_cut => k_is)
    (case k_Book_cut => k_is)
    (case fn_Book_cut => k_is)
    (case a_law => k_is)
    (case l_law => k_is)
    (case c_law => k_is)
    (case k_law => k_is)
    (case z_all => k_is)
    (case z_any => k_is)
    (case z_bool => k_is)
    (case z_enumerate => k_is)
    (case z_int => k_is)
    (case z_isinstance => k_is)
    (case z_len => k_is)
    (case z_list => k_is)
    (case z_min => k_is)
    (case z_range => k_is)
    (case z_str => k_is)
    (case z_tuple => k_is)
    (case z_zip => k_is)
    (case a_SMALL_KINDS_ => k_is)
    (case l_SMALL_KINDS_ => k_is)
    (case a_PARTING_KINDS_ => k_is)
    (case l_PARTING_KINDS_ => k_is)
    (case a_MEASURE_KINDS_ => k_is)
    (case l_MEASURE_KINDS_ => k_is)
    (case a_SOUNDING_KINDS_ => k_is)
    (case l_SOUNDING_KINDS_ => k_is)
    (case a_SILENT_KINDS_ => k_is)
    (case l_SILENT_KINDS_ => k_is)
    (case a_HIGHEST_TONE_ => k_is)
    (case a_TURNED_KINDS_ => k_is)
    (case l_TURNED_KINDS_ => k_is)
    (case y_TURNED_KINDS_ => rfl)
    (case a_LETTERS_ => k_is)
    (case a_LONGEST_NAME_ => k_is)
    (case a_MOST_VOICES_ => k_is)
    (case a_MOST_SIGNS_ => k_is)
    (case mkm_Voice => k_is)
    (case mkk_Voice => k_is)
    (case pg_Voice => k_is)
    (case hd_Voice => k_is)
    (case po_Voice => k_is)
    (case sa_Voice => k_is)
    (case na_Voice_name => k_is)
    (case na_Voice_terms => k_is)
    (case na_Voice_signs => k_is)
    (case mkm_Deed => k_is)
    (case mkk_Deed => k_is)
    (case pg_Deed => k_is)
    (case hd_Deed => k_is)
    (case po_Deed => k_is)
    (case sa_Deed => k_is)
    (case na_Deed_things => k_is)
    (case na_Deed_at => k_is)
    (case na_Deed_before => k_is)
    (case na_Deed_after => k_is)
    (case mkm_Book => k_is)
    (case mkk_Book => k_is)
    (case pg_Book => k_is)
    (case hd_Book => k_is)
    (case po_Book => k_is)
    (case sa_Book => k_is)
    (case na_Book_voices => k_is)
    (case na_Book_done => k_is)
    (case na_Book_undone => k_is)
