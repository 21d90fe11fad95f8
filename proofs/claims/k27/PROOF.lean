import PyProof.Rows.All
import Wide.All
import OpenK.AllK
import Wide.FinOn
import Lean
import PyProof.EqAt
import PyProof.EqKinds
import PyProof.TupleCall
import PySem.Challenge.RW_noteworth_k27_never_written
set_option Elab.async false
set_option linter.all false
set_option maxRecDepth 100000
/-! THE HAND LAYER, for ints, bools, texts, own classes, LISTS and tuples (index, slices, in, append, pop ..), calls, loops. Paste it whole ahead of your own text; what your proof does not reach may be deleted. -/
namespace L2
open PySem PySem.Spec PyProof.Rows

/-- a key: an int or a str -/
abbrev Key := Sum Int Str
def keyIs : Key → Value → Bool
  | .inl k, v => Value.isInt k v
  | .inr x, v => Value.isStrOf x v
def keyH (w : World) : Key → Int
  | .inl k => hashInt k
  | .inr x => hashStr w x
theorem keyIs_shape : ∀ {k : Key} {v : Value}, keyIs k v = true → (∃ i t, k = Sum.inl i ∧ v = Value.int i t) ∨ (∃ x t, k = Sum.inr x ∧ v = Value.str x t)
  | .inl i, v, h => by
    obtain ⟨t, e⟩ := Value.isInt_shape (k := i) (v := v) h
    exact .inl ⟨i, t, rfl, e⟩
  | .inr x, v, h => by
    obtain ⟨t, e⟩ := Value.isStrOf_shape (x := x) (v := v) h
    exact .inr ⟨x, t, rfl, e⟩
theorem keyIs_int (i : Int) (t : Tok) : keyIs (.inl i) (.int i t) = true := by simp [keyIs, Value.isInt]
theorem keyIs_str (x : Str) (t : Tok) : keyIs (.inr x) (.str x t) = true := by simp [keyIs, Value.isStrOf]
theorem key_ll (a b : Int) : decide ((Sum.inl a : Key) = Sum.inl b) = (a == b) := by
  by_cases e : a = b
  · subst e; simp
  · have h : ¬ (Sum.inl a : Key) = Sum.inl b := fun q => e (Sum.inl.inj q)
    rw [decide_eq_false h]
    exact (beq_eq_false_iff_ne.mpr e).symm
theorem key_rr (a b : Str) : decide ((Sum.inr a : Key) = Sum.inr b) = decide (a = b) := by
  by_cases e : a = b
  · subst e; simp
  · have h : ¬ (Sum.inr a : Key) = Sum.inr b := fun q => e (Sum.inr.inj q)
    rw [decide_eq_false h, decide_eq_false e]
theorem key_lr (a : Int) (b : Str) : decide ((Sum.inl a : Key) = Sum.inr b) = false := decide_eq_false (fun q => nomatch q)
theorem key_rl (a : Str) (b : Int) : decide ((Sum.inr a : Key) = Sum.inl b) = false := decide_eq_false (fun q => nomatch q)

def mixKind (prog : Program) (w : World) : PySem.KeyKind prog w Key where
  is := keyIs
  hash := keyH w
  inj := fun v a b ha hb => by
    rcases keyIs_shape ha with ⟨i, t, rfl, rfl⟩ | ⟨x, t, rfl, rfl⟩
    · rcases keyIs_shape hb with ⟨j, u, rfl, e⟩ | ⟨y, u, rfl, e⟩
      · injection e with e1 _; rw [e1]
      · exact nomatch e
    · rcases keyIs_shape hb with ⟨j, u, rfl, e⟩ | ⟨y, u, rfl, e⟩
      · exact nomatch e
      · injection e with e1 _; rw [e1]
  byValue := fun k v h => by
    rcases keyIs_shape h with ⟨i, t, rfl, rfl⟩ | ⟨x, t, rfl, rfl⟩ <;> rfl
  pyHash := fun hv h => by
    rcases keyIs_shape hv with ⟨i, t, rfl, rfl⟩ | ⟨x, t, rfl, rfl⟩
    · exact wpAny_pyHash_int h
    · exact wpAny_pyHash_str h
  eqBool := fun hu hv h => by
    rcases keyIs_shape hu with ⟨i, t, rfl, rfl⟩ | ⟨x, t, rfl, rfl⟩
    · rcases keyIs_shape hv with ⟨j, u, rfl, rfl⟩ | ⟨y, u, rfl, rfl⟩
      · rw [key_ll] at h; exact wpAny_eqBool_int h
      · rw [key_lr] at h; exact SeqAt.EqAt.int_str i t y u _ _ _ _ h
    · rcases keyIs_shape hv with ⟨j, u, rfl, rfl⟩ | ⟨y, u, rfl, rfl⟩
      · rw [key_rl] at h; exact SeqAt.EqAt.str_int x t j u _ _ _ _ h
      · rw [key_rr] at h; exact wpAny_eqBool_str h
  «strs» := fun k x t v h => by
    rcases keyIs_shape h with ⟨i, u, rfl, e⟩ | ⟨y, u, rfl, e⟩
    · exact nomatch e
    · injection e with e1 _
      subst e1
      cases v <;> rfl

theorem mixKind_int (prog : Program) (w : World) (i : Int) (t : Tok) : (mixKind prog w).is (.inl i) (.int i t) = true := keyIs_int i t
theorem mixKind_str (prog : Program) (w : World) (x : Str) (t : Tok) : (mixKind prog w).is (.inr x) (.str x t) = true := keyIs_str x t
end L2

namespace L2
open PySem PySem.Spec PyProof.Rows

/-- a value, without the heap -/
inductive V where
  | non | bl (b : Bool) | int (i : Int) | str (x : Str) | byt (b : Array UInt8) | flt (b : UInt64) | ref (a : Addr) | ty (n : String)
  deriving DecidableEq

def RelV : V → Value → Prop
  | .non, u => u = Value.none
  | .bl b, u => u = Value.bool b
  | .int i, u => ∃ t, u = Value.int i t
  | .str x, u => ∃ t, u = Value.str x t
  | .byt b, u => ∃ t, u = Value.bytes b t
  | .flt b, u => ∃ t, u = Value.float b t
  | .ref a, u => u = Value.ref a
  | .ty n, u => u = Value.type n

abbrev Vals : List V → List Value → Prop := Paired RelV
theorem Vals.length {xs : List V} {us : List Value} (r : Vals xs us) : xs.length = us.length := Paired.length r
theorem Vals.get : ∀ {xs : List V} {us : List Value} {i : Nat} {x : V}, Vals xs us → xs[i]? = some x → ∃ u, us[i]? = some u ∧ RelV x u
  | _, _, _, _, .nil, e => by simp at e
  | _, _, 0, _, .cons r _, e => by simp at e; subst e; exact ⟨_, rfl, r⟩
  | _, _, i + 1, x, .cons _ t, e => by
    obtain ⟨u, h1, h2⟩ := Vals.get (i := i) (x := x) t (by simpa using e)
    exact ⟨u, by simpa using h1, h2⟩
theorem Vals.append : ∀ {xs ys : List V} {us ws : List Value}, Vals xs us → Vals ys ws → Vals (xs ++ ys) (us ++ ws)
  | _, _, _, _, .nil, s => s
  | _, _, _, _, .cons r t, s => .cons r (Vals.append t s)
theorem Vals.take : ∀ {xs : List V} {us : List Value} (n : Nat), Vals xs us → Vals (xs.take n) (us.take n)
  | _, _, 0, _ => .nil
  | _, _, _ + 1, .nil => .nil
  | _, _, n + 1, .cons r t => .cons r (Vals.take n t)
theorem Vals.drop : ∀ {xs : List V} {us : List Value} (n : Nat), Vals xs us → Vals (xs.drop n) (us.drop n)
  | _, _, 0, r => r
  | _, _, _ + 1, .nil => .nil
  | _, _, n + 1, .cons _ t => Vals.drop n t
def RelO : Option V → Option Value → Prop
  | some v, some u => RelV v u
  | none, none => True
  | _, _ => False
def KV {κ : Type} : List (κ × V) → List (κ × Value) → Prop := Paired fun (p : κ × V) (q : κ × Value) => p.1 = q.1 ∧ RelV p.2 q.2

/-- a key of a dict (00_mix): an int or a text -/
def kV : Key → V
  | .inl i => .int i
  | .inr x => .str x

/-- what stands at a tracked address -/
inductive HO where
  /-- a list -/
  | lst (xs : List V)
  /-- a tuple (never changes) -/
  | tup (xs : List V)
  /-- a dict whose keys are ints and texts; one whose keys are tuples of ints and texts (the empty one is both) -/
  | dK (kvs : List (Key × V)) | dT (kvs : List (List Key × V))
  /-- a set of ints: its members, its size -/
  | set (S : Int → Bool) (n : Nat)
  /-- an instance of the class at C, its dict at dx, its attributes -/
  | ins (C dx : Addr) (fs : List (Str × V))
  /-- the dict of the instance at x -/
  | own (x : Addr)
  /-- the dict of an exception -/
  | xd (fs : List (Str × V))
  /-- a bound method, f of x -/
  | met (f x : Addr)
  /-- a range object lo, lo + 1, .. below hi -/
  | rng (lo hi : Int)
  /-- a thing that is known to the object (the script; a dict while a loop walks it): read, never written while it is so -/
  | frz (o : Obj) (u : HO)
  /-- a code object's table -/
  | tbl (ps : Array Value)
  /-- any other thing, by what is true of its one object (a def of one's own: SetO a S n := HO.ext fun h => ..) -/
  | ext (φ : Heap → Prop)

abbrev Hp := Addr → Option HO
def upd (H : Hp) (a : Addr) (o : HO) : Hp := fun b => if b = a then some o else H b
theorem upd_same {H : Hp} {a : Addr} {o : HO} : upd H a o a = some o := by unfold upd; rw [if_pos rfl]
theorem upd_ne {H : Hp} {a b : Addr} {o : HO} (h : b ≠ a) : upd H a o b = H b := by unfold upd; rw [if_neg h]
theorem upd_upd {H : Hp} {a : Addr} {o u : HO} : upd (upd H a o) a u = upd H a u := by
  funext b; unfold upd; split <;> rfl
/-- two objects of different content stand apart -/
theorem ne_of {H : Hp} {a b : Addr} {o u : HO} (h : H a = some o) (h' : H b = some u) (d : o ≠ u) : a ≠ b := by
  intro e; subst e; rw [h] at h'; exact d (Option.some.inj h')
theorem ne_of_none {H : Hp} {a b : Addr} {o : HO} (h : H a = some o) (h' : H b = none) : a ≠ b := by
  intro e; subst e; rw [h] at h'; cases h'

section
variable (P : Program) (w : World)
def ObjOk (H : Hp) (h : Heap) (a : Addr) : HO → Prop
  | .lst xs => xs.length ≤ sizeLine ∧ ∃ (its : List Value) (n : Nat), Vals xs its ∧ h.get? a = some { cls := .type "list", data := .seq its.toArray n }
  | .tup xs => xs.length ≤ sizeLine ∧ ∃ its : List Value, Vals xs its ∧ IsTup h a its.toArray
  | .dK kvs => kvs.length ≤ sizeLine ∧ (a == sysModules) = false ∧ ∃ vs, KV kvs vs ∧ h.DictOf (mixKind P w) a vs
  | .dT kvs => kvs.length ≤ sizeLine ∧ (a == sysModules) = false ∧ ∃ xs : List (List Key × Addr × Value),
      Paired (fun (p : List Key × V) (q : List Key × Addr × Value) => p.1 = q.1 ∧ H q.2.1 = some (.tup (p.1.map kV)) ∧ RelV p.2 q.2.2) kvs xs ∧
      ∃ o es ep, h.get? a = some o ∧ o.ExactDict ∧ o.data = .dict es ep ∧ es.toList = xs.map (entryOfKey (tupleKind (mixKind P w))) ∧ (xs.map (·.1)).Nodup
  | .set S n => h.SetOf (intKind P w) a S n
  | .ins C dx fs => H dx = some (.own a) ∧ fs.length ≤ 1000 ∧ dx ≠ a ∧ h.get? a = some (PySem.W.instObj C dx) ∧
      ∃ mA, h.Ns1 dx mA ∧ (∀ f, RelO (fs.lookup f) (mA f)) ∧ PySem.Within mA (fs.map (·.1))
  | .own _ => ∃ o, h.get? a = some o
  | .xd fs => ∃ mA, h.Ns1 a mA ∧ ∀ f, RelO (fs.lookup f) (mA f)
  | .rng lo hi => ∃ t u v, h.get? a = some { cls := .type "range", data := .fields #[.int lo t, .int hi u, .int 1 v] }
  | .frz o u => h.get? a = some o ∧ ObjOk H h a u
  | .tbl ps => h.get? a = some { cls := .none, data := .fields ps }
  | .met f x => h.get? a = some (PySem.W.methodObj (.ref f) (.ref x))
  | .ext φ => φ h ∧ (∃ o, h.get? a = some o) ∧ ∀ h1 h2 : Heap, φ h1 → (∀ o, h1.get? a = some o → h2.get? a = some o) → φ h2
/-- the abstract heap is held -/
def HOk (H : Hp) (h : Heap) : Prop := ∀ a o, H a = some o → ObjOk P w H h a o
end

section
variable {P : Program} {w : World} {H H' : Hp} {h h' : Heap} {a : Addr} {o : HO}
theorem ObjOk.lt (x : ObjOk P w H h a o) : a < h.objs.size := by
  cases o with
  | lst xs => obtain ⟨_, _, _, _, e⟩ := x; exact Heap.lt_size e
  | tup xs => obtain ⟨_, _, _, p⟩ := x; exact p.lt
  | dK kvs => obtain ⟨_, _, _, _, o, _, _, e, _⟩ := x; exact Heap.lt_size e
  | dT kvs => obtain ⟨_, _, _, _, o, _, _, e, _⟩ := x; exact Heap.lt_size e
  | set S n => obtain ⟨o, _, _, _, e, _⟩ := x; exact Heap.lt_size e
  | ins C dx fs => obtain ⟨_, _, _, e, _⟩ := x; exact Heap.lt_size e
  | own y => obtain ⟨_, e⟩ := x; exact Heap.lt_size e
  | xd fs => obtain ⟨_, ⟨_, _, _, e, _⟩, _⟩ := x; exact Heap.lt_size e
  | rng lo hi => obtain ⟨_, _, _, e⟩ := x; exact Heap.lt_size e
  | frz ob u => obtain ⟨e, _⟩ := x; exact Heap.lt_size e
  | tbl ps => exact Heap.lt_size (show h.get? a = some _ from x)
  | met f y => exact Heap.lt_size (show h.get? a = some _ from x)
  | ext φ => obtain ⟨_, ⟨_, e⟩, _⟩ := x; exact Heap.lt_size e
theorem Paired.mapP {α β : Type} {F G : α → β → Prop} : ∀ {l₁ : List α} {l₂ : List β}, Paired F l₁ l₂ → (∀ a b, F a b → G a b) → Paired G l₁ l₂
  | _, _, .nil, _ => .nil
  | _, _, .cons r t, f => .cons (f _ _ r) (Paired.mapP t f)
/-- what an object's description leans on: its own object, its own dict, the tuples -/
theorem ObjOk.stay (x : ObjOk P w H h a o) (k : ∀ b u, (b = a ∨ H b = some (.own a)) → h.get? b = some u → h'.get? b = some u)
    (ho : ∀ b, H b = some (.own a) → H' b = some (.own a)) (ht : ∀ b xs, H b = some (.tup xs) → H' b = some (.tup xs)) : ObjOk P w H' h' a o := by
  induction o with
  | lst xs => obtain ⟨z, its, n, r, e⟩ := x; exact ⟨z, its, n, r, k _ _ (.inl rfl) e⟩
  | tup xs => obtain ⟨z, its, r, ob, e, c⟩ := x; exact ⟨z, its, r, ob, k _ _ (.inl rfl) e, c⟩
  | dK kvs => obtain ⟨z, y, vs, r, ob, es, ep, e, c⟩ := x; exact ⟨z, y, vs, r, ob, es, ep, k _ _ (.inl rfl) e, c⟩
  | dT kvs =>
    obtain ⟨z, y, xs, r, ob, es, ep, e, c⟩ := x
    exact ⟨z, y, xs, Paired.mapP r fun p q z => ⟨z.1, ht _ _ z.2.1, z.2.2⟩, ob, es, ep, k _ _ (.inl rfl) e, c⟩
  | set S n => obtain ⟨ob, es, ep, t, e, c⟩ := x; exact ⟨ob, es, ep, t, k _ _ (.inl rfl) e, c⟩
  | ins C dx fs =>
    obtain ⟨d, z, ne, e, mA, ⟨od, es, ep, e2, c⟩, r⟩ := x
    exact ⟨ho _ d, z, ne, k _ _ (.inl rfl) e, mA, ⟨od, es, ep, k _ _ (.inr d) e2, c⟩, r⟩
  | own y => obtain ⟨ob, e⟩ := x; exact ⟨ob, k _ _ (.inl rfl) e⟩
  | xd fs => obtain ⟨mA, ⟨od, es, ep, e, c⟩, r⟩ := x; exact ⟨mA, ⟨od, es, ep, k _ _ (.inl rfl) e, c⟩, r⟩
  | rng lo hi => obtain ⟨t, u, v, e⟩ := x; exact ⟨t, u, v, k _ _ (.inl rfl) e⟩
  | frz ob u ih => obtain ⟨e, q⟩ := x; exact ⟨k _ _ (.inl rfl) e, ih q⟩
  | tbl ps =>
    have e : h.get? a = some { cls := .none, data := .fields ps } := x
    show h'.get? a = some { cls := .none, data := .fields ps }
    exact k a _ (.inl rfl) e
  | met f y =>
    have e : h.get? a = some (PySem.W.methodObj (.ref f) (.ref y)) := x
    show h'.get? a = some (PySem.W.methodObj (.ref f) (.ref y))
    exact k a _ (.inl rfl) e
  | ext φ => obtain ⟨p, ⟨o, e⟩, st⟩ := x; exact ⟨st _ _ p fun o q => k _ _ (.inl rfl) q, ⟨o, k _ _ (.inl rfl) e⟩, st⟩
theorem HOk.lt (x : HOk P w H h) (e : H a = some o) : a < h.objs.size := (x a o e).lt
theorem HOk.fresh (x : HOk P w H h) (e : h.objs.size ≤ a) : H a = none := by
  cases q : H a with
  | none => rfl
  | some u => exact absurd (Nat.lt_of_lt_of_le (x.lt q) e) (Nat.lt_irrefl _)
/-- every object of the heap is kept -/
theorem HOk.kept (x : HOk P w H h) (k : ∀ b u, h.get? b = some u → h'.get? b = some u) : HOk P w H h' := fun a o e =>
  (x a o e).stay (fun b u _ q => k b u q) (fun _ q => q) fun _ _ q => q
/-- a new object is laid and tracked -/
theorem HOk.laid (x : HOk P w H h) (k : ∀ b u, h.get? b = some u → h'.get? b = some u) (hp : h.objs.size ≤ a) (new : ObjOk P w (upd H a o) h' a o) : HOk P w (upd H a o) h' := fun b u e => by
  have hn := x.fresh hp
  by_cases hb : b = a
  · subst hb; rw [upd_same] at e; cases e; exact new
  · rw [upd_ne hb] at e
    exact (x b u e).stay (fun c v _ q => k c v q) (fun c q => by rw [upd_ne (ne_of_none q hn)]; exact q) fun c xs q => by rw [upd_ne (ne_of_none q hn)]; exact q
end

/-- what may be read as u: it is u, or a known u -/
def Rd (H : Hp) (a : Addr) (u : HO) : Prop := H a = some u ∨ ∃ o, H a = some (.frz o u)
theorem Rd.ok {P : Program} {w : World} {H : Hp} {h : Heap} {a : Addr} {u : HO} (r : Rd H a u) (x : HOk P w H h) : ObjOk P w H h a u := by
  rcases r with r | ⟨o, r⟩
  · exact x a u r
  · obtain ⟨_, q⟩ := x a _ r
    exact q
/-- what may be written -/
def Mut : Option HO → Prop
  | some (.lst _) => True
  | some (.dK _) => True
  | some (.dT _) => True
  | some (.set _ _) => True
  | some (.ins _ _ _) => True
  | some (.ext _) => True
  | _ => False
section
variable {P : Program} {w : World} {H : Hp} {h h' : Heap} {x e : Addr} {o' : HO}
/-- the object at e is changed: x itself, or the dict of the instance x -/
theorem HOk.write (ok : HOk P w H h) (mu : Mut (H x)) (he : e = x ∨ H e = some (.own x)) (k : ∀ b u, b ≠ e → h.get? b = some u → h'.get? b = some u) (heo : ∃ u, h'.get? e = some u)
    (new : ObjOk P w (upd H x o') h' x o') : HOk P w (upd H x o') h' := fun b u q => by
  have nown : ∀ c y, H c = some (.own y) → c ≠ x := fun c y r z => by subst z; rw [r] at mu; exact mu
  have ntup : ∀ c xs, H c = some (.tup xs) → c ≠ x := fun c xs r z => by subst z; rw [r] at mu; exact mu
  by_cases hb : b = x
  · subst hb; rw [upd_same] at q; cases q; exact new
  · rw [upd_ne hb] at q
    by_cases hbe : b = e
    · have q' : H b = some (.own x) := by
        rcases he with z | z
        · exact absurd (hbe.trans z) hb
        · rw [hbe]; exact z
      rw [q] at q'; cases q'
      obtain ⟨v, hv⟩ := heo
      exact ⟨v, by rw [hbe]; exact hv⟩
    · refine (ok b u q).stay (fun c v hc r => k c v ?_ r) (fun c r => by rw [upd_ne (nown c b r)]; exact r) fun c xs r => by rw [upd_ne (ntup c xs r)]; exact r
      rcases hc with rfl | hc
      · exact hbe
      · rintro rfl
        rcases he with z | z
        · exact nown c b hc z
        · rw [hc] at z; cases z; exact hb rfl
end

/-! ### kept unless tracked; of the frames at fs (the callers') the slots may change (an exception that passes writes there); of the records at ex (iterators) nothing is said -/
structure Un (fs ex : List Addr) (H H' : Hp) (h h' : Heap) : Prop where
  keep : ∀ b o, h.get? b = some o → H b = none → b ∉ fs → b ∉ ex → h'.get? b = some o
  slot : ∀ b o, h.get? b = some o → H b = none → b ∈ fs → b ∉ ex → ∃ sl, h'.get? b = some { o with slots := sl }
  free : ∀ b o, h.get? b = some o → H b = none → b ∉ ex → H' b = none
  there : ∀ b o, h.get? b = some o → b ∉ ex → ∃ o', h'.get? b = some o'
  tups : ∀ b xs, H b = some (.tup xs) → H' b = some (.tup xs)
  frzs : ∀ b o u, H b = some (.frz o u) → H' b = some (.frz o u)
  tbls : ∀ b ps, H b = some (.tbl ps) → ∃ more, H' b = some (.tbl (ps ++ more))
section
variable {fs fs' ex ex' : List Addr} {H H1 H2 : Hp} {h h1 h2 h' : Heap} {a x e : Addr} {o : HO}
theorem Un.any (u : Un fs ex H H1 h h1) {b : Addr} {ob : Obj} (q : h.get? b = some ob) (n : H b = none) (hx : b ∉ ex) : ∃ sl, h1.get? b = some { ob with slots := sl } := by
  by_cases hb : b ∈ fs
  · exact u.slot b ob q n hb hx
  · exact ⟨ob.slots, u.keep b ob q n hb hx⟩
theorem Un.kept (k : ∀ b u, h.get? b = some u → h'.get? b = some u) : Un fs ex H H h h' :=
  ⟨fun b ob q _ _ _ => k b ob q, fun b ob q _ _ _ => ⟨ob.slots, k b ob q⟩, fun _ _ _ n _ => n, fun b ob q _ => ⟨ob, k b ob q⟩, fun _ _ q => q, fun _ _ _ q => q, fun _ ps q => ⟨#[], by rw [q]; simp⟩⟩
theorem Un.refl : Un fs ex H H h h := Un.kept fun _ _ q => q
theorem Un.laid (k : ∀ b u, h.get? b = some u → h'.get? b = some u) (hp : h.objs.size ≤ a) (hn : H a = none) : Un fs ex H (upd H a o) h h' where
  keep := fun b u q _ _ _ => k b u q
  slot := fun b u q _ _ _ => ⟨u.slots, k b u q⟩
  free := fun b u q n _ => by rw [upd_ne (Nat.ne_of_lt (Nat.lt_of_lt_of_le (Heap.lt_size q) hp))]; exact n
  there := fun b u q _ => ⟨u, k b u q⟩
  tups := fun b xs q => by rw [upd_ne (ne_of_none q hn)]; exact q
  frzs := fun b u xs q => by rw [upd_ne (ne_of_none q hn)]; exact q
  tbls := fun b ps q => ⟨#[], by rw [upd_ne (ne_of_none q hn), q]; simp⟩
theorem Un.write (mu : Mut (H x)) (he : e = x ∨ H e = some (.own x)) (k : ∀ b u, b ≠ e → h.get? b = some u → h'.get? b = some u) (heo : ∃ u, h'.get? e = some u) : Un fs ex H (upd H x o) h h' := by
  have hx : ∀ b, H b = none → b ≠ x := fun b n z => by subst z; rw [n] at mu; exact mu
  have hb : ∀ b, H b = none → b ≠ e := fun b n z => by
    subst z
    rcases he with r | r
    · exact hx b n r
    · rw [n] at r; cases r
  have hm : ∀ b u, H b = some u → ¬ Mut (some u) → b ≠ x := fun b u q nm z => by subst z; rw [q] at mu; exact nm mu
  refine ⟨fun b u q n _ _ => k b u (hb b n) q, fun b u q n _ _ => ⟨u.slots, k b u (hb b n) q⟩, fun b u q n _ => by rw [upd_ne (hx b n)]; exact n, fun b u q _ => ?_,
    fun b xs q => by rw [upd_ne (hm b _ q fun z => z)]; exact q, fun b u xs q => by rw [upd_ne (hm b _ q fun z => z)]; exact q, fun b ps q => ⟨#[], by rw [upd_ne (hm b _ q fun z => z), q]; simp⟩⟩
  by_cases hbe : b = e
  · subst hbe; exact heo
  · exact ⟨u, k b u hbe q⟩
end

/-! ### the heap without what is tracked -/
def trk (h : Heap) (H : Hp) : List Addr := (List.range h.objs.size).filter fun a => (H a).isSome
def hidT (h : Heap) (H : Hp) : Heap := PySem.W.hideAll h (trk h H)
theorem hidT_size (h : Heap) (H : Hp) : (hidT h H).objs.size = h.objs.size := PySem.W.hideAll_size _ _
theorem hidT_get {h : Heap} {H : Hp} {b : Addr} {o : Obj} (e : h.get? b = some o) (n : H b = none) : (hidT h H).get? b = some o :=
  PySem.W.hideAll_get _ e fun hm => by
    have q : (H b).isSome = true := (List.mem_filter.mp hm).2
    rw [n] at q; simp at q
theorem of_hidT {h : Heap} {H : Hp} {b : Addr} {o : Obj} (e : (hidT h H).get? b = some o) : h.get? b = some o ∧ H b = none := by
  have e' : h.get? b = some o := PySem.W.of_hideAll (trk h H) e
  refine ⟨e', ?_⟩
  cases q : H b with
  | none => rfl
  | some x =>
    have hm : b ∈ trk h H := List.mem_filter.mpr ⟨List.mem_range.mpr (Heap.lt_size e'), by simp [q]⟩
    have z : (hidT h H).get? b = none := PySem.W.hideAll_none (trk h H) hm
    rw [z] at e; cases e

/-! ### OpenK's ledger, filled with every new object but one -/
def allNews (g h : Heap) (L : Addr) : List (Addr × Obj) := (List.range h.objs.size).filterMap fun a => if a = L ∨ (g.get? a).isSome = true then none else (h.get? a).map fun o => (a, o)
def rest (g h : Heap) (L d : Addr) : List (Addr × Obj) := (allNews g h L).filter fun p => decide (p.1 ≠ d)
end L2

namespace L2
open PySem PySem.Spec PyProof.Rows

/-- the module's facts, over the base: the heap at the law's entry without what is tracked there -/
structure Mod (K : PySem.W.Frag) (mg : Str → Option Value) (base : Heap) : Prop where
  kin : K.In base
  glob : base.Ns mainGlobals mg
  blt : ∃ mb, base.Ns builtinsNs mb ∧ ∀ x : Str, x ≠ "__name__" → mb x = bootBuiltins x
  nolimit : base.NoLimit

/-- the context: a def's body (or a comprehension's block) running. base: fixed through the whole law; s₀, H₀: the entry; outer: the frames whose slots others may change (a def's callers); stack: all frames that run;
   ex: iterators that were made ahead of the entry and are walked here (a comprehension's); fn: the names whose cells were made at the entry (a def: all; a comprehension's block: its own); calm: not within an except suite; pn: pins that every state bears; xe: what is wanted of an exception that leaves the code -/
structure Cx where
  prog : Program
  w : World
  K : PySem.W.Frag
  mg : Str → Option Value
  base : Heap
  A : Around
  N : List Str
  s₀ : Shared
  H₀ : Hp
  env : Env
  outer : List Env
  stack : List Env
  ex : List Addr
  fn : Str → Bool
  calm : Bool
  pn : List (Addr × Obj)
  xe : Value → Shared → Prop
/-- the callers' frames -/
def frs (l : List Env) : List Addr := l.filterMap (·.frame)
abbrev Cx.fs (X : Cx) : List Addr := frs X.outer

def Vis (sc : Scope) (x : Str) : Prop := sc.names.lookup x = some .local ∨ sc.names.lookup x = some .cell ∨ sc.names.lookup x = some .free
def Loc (sc : Scope) (x : Str) : Prop := sc.names.lookup x = some .local ∨ sc.names.lookup x = some .cell
def Look (env : Env) (h : Heap) (m : Str → Option Value) (x : Str) (u : Value) : Prop :=
  (env.kindOf x = some .local ∧ m x = some u) ∨ ((env.kindOf x = some .cell ∨ env.kindOf x = some .free) ∧ ∃ c, env.cells.lookup x = some c ∧ h.IsCell c (some u))

structure Cx.Ok (X : Cx) : Prop where
  mod : Mod X.K X.mg X.base
  kind : X.env.scope.kind = .function
  glob : X.env.globals = mainGlobals
  blt : X.env.builtins = builtinsNs
  above : X.s₀.heap.objs.size ≤ X.env.locals
  inj : ∀ x y c, X.env.cells.lookup x = some c → X.env.cells.lookup y = some c → x = y
  has : ∀ x, (X.env.kindOf x = some .cell ∨ X.env.kindOf x = some .free) → ∃ c, X.env.cells.lookup x = some c
  cab : ∀ x c, X.fn x = true → X.env.cells.lookup x = some c → X.s₀.heap.objs.size ≤ c
  hd : X.calm = true → X.A.handled = none
  frames : X.A.frames = some X.stack
  stk : X.stack = X.outer ∨ (X.stack = X.env :: X.outer ∧ X.env.frame = some X.env.locals)
  exf : ∀ b ∈ X.ex, b ≠ X.env.locals ∧ ∀ x c, X.env.cells.lookup x = some c → c ≠ b
  bs : ∀ b o, X.base.get? b = some o → X.s₀.heap.get? b = some o ∧ X.H₀ b = none
  bsz : X.base.objs.size ≤ X.s₀.heap.objs.size
  noex : ∀ b o, X.base.get? b = some o → b ∉ X.ex
  exfs : ∀ b ∈ X.ex, b ∉ X.fs
  funs : X.s₀.heap.FunFrames X.base X.outer
  frf : ∀ b ∈ X.fs, X.H₀ b = none

structure Inv (X : Cx) (pins : List (Addr × Obj)) (σ : List (Option V)) (H : Hp) (s : Shared) : Prop where
  ok : X.Ok
  os : s.os = X.s₀.os
  bare : AllBare s.gens
  base : Un X.fs X.ex X.H₀ H X.s₀.heap s.heap
  loc : ∃ m, s.heap.Ns X.env.locals m ∧ ∀ (i : Nat) (x : Str) (v : V), X.N[i]? = some x → σ[i]? = some (some v) → Vis X.env.scope x → ∃ u, RelV v u ∧ Look X.env s.heap m x u
  cell : ∀ x c, X.env.cells.lookup x = some c → ∃ v, s.heap.IsCell c v
  free : H X.env.locals = none
  freeC : ∀ x c, X.env.cells.lookup x = some c → H c = none
  pin : ∀ p ∈ X.pn ++ pins, s.heap.get? p.1 = some p.2 ∧ H p.1 = none ∧ p.1 ≠ X.env.locals ∧ p.1 ∉ X.fs ∧ ∀ v, p.2.data ≠ .cell v
  hok : HOk X.prog X.w H s.heap
  len : σ.length = X.N.length

section
variable {X : Cx} {pins : List (Addr × Obj)} {σ : List (Option V)} {H H' : Hp} {s : Shared} {h' : Heap}

theorem Cx.Ok.nofr (ok : X.Ok) {b : Addr} {o : Obj} (e : X.base.get? b = some o) : b ∉ X.fs := fun hb => by
  have := (ok.funs.mem hb).1
  rw [e] at this; cases this
theorem Inv.bs (I : Inv X pins σ H s) : ∀ b o, X.base.get? b = some o → s.heap.get? b = some o ∧ H b = none := fun b o e =>
  ⟨I.base.keep b o (I.ok.bs b o e).1 (I.ok.bs b o e).2 (I.ok.nofr e) (I.ok.noex b o e), I.base.free b o (I.ok.bs b o e).1 (I.ok.bs b o e).2 (I.ok.noex b o e)⟩
theorem Inv.bk (I : Inv X pins σ H s) : ∀ b o, X.base.get? b = some o → s.heap.get? b = some o := fun b o e => (I.bs b o e).1
theorem Inv.mod (I : Inv X pins σ H s) : Mod X.K X.mg X.base := I.ok.mod
theorem Inv.kIn (I : Inv X pins σ H s) : X.K.In s.heap := I.ok.mod.kin.keeps I.bk
theorem Inv.lt (I : Inv X pins σ H s) : X.env.locals < s.heap.objs.size := let ⟨_, hn, _⟩ := I.loc; hn.lt
theorem Inv.sz (I : Inv X pins σ H s) : X.s₀.heap.objs.size ≤ s.heap.objs.size := Nat.le_trans I.ok.above (Nat.le_of_lt I.lt)
theorem Inv.nofs (I : Inv X pins σ H s) {a : Addr} (h : s.heap.objs.size ≤ a) : a ∉ X.fs := fun hb => by
  obtain ⟨_, o, ho, _⟩ := I.ok.funs.mem hb
  exact absurd (Nat.lt_of_lt_of_le (Heap.lt_size ho) (Nat.le_trans I.sz h)) (Nat.lt_irrefl _)
theorem Inv.cne (I : Inv X pins σ H s) : ∀ x c, X.env.cells.lookup x = some c → c ≠ X.env.locals := fun x c e z => by
  obtain ⟨v, o, ho, hd⟩ := I.cell x c e
  obtain ⟨m, ⟨o', es, ep, ho', hd', _⟩, _⟩ := I.loc
  rw [z, ho'] at ho; cases ho; rw [hd'] at hd; cases hd
theorem Inv.funs (I : Inv X pins σ H s) : s.heap.FunFrames X.base X.outer := by
  have all : ∀ (l : List Env), (∀ b ∈ frs l, b ∈ X.fs) → X.s₀.heap.FunFrames X.base l → s.heap.FunFrames X.base l := by
    intro l
    induction l with
    | nil => intro _ _; trivial
    | cons env r ih =>
      intro hs hl
      obtain ⟨hk, ⟨L, o, hf, hn, ho, hd⟩, hr⟩ := hl
      have hL : L ∈ X.fs := hs L (by unfold frs; rw [List.filterMap_cons, hf]; exact List.mem_cons_self)
      obtain ⟨sl, e⟩ := I.base.slot L o ho (I.ok.frf L hL) hL fun z => I.ok.exfs L z hL
      exact ⟨hk, ⟨L, _, hf, hn, e, hd⟩, ih (fun b hb => hs b (by unfold frs; rw [List.filterMap_cons, hf]; exact List.mem_cons_of_mem _ hb)) hr⟩
  exact all X.outer (fun _ hb => hb) I.ok.funs

/-- the frames that run, for a call -/
theorem Inv.stack (I : Inv X pins σ H s) : s.heap.FunFrames X.base X.stack := by
  rcases I.ok.stk with e | ⟨e, hf⟩
  · rw [e]; exact I.funs
  · rw [e]
    obtain ⟨m, hn, _⟩ := I.loc
    refine .cons (by rw [I.ok.kind]; decide) hf hn ?_ I.funs
    exact Heap.get?_none_of_le (Nat.le_trans I.ok.bsz I.ok.above)
theorem Inv.stkSub (I : Inv X pins σ H s) : ∀ b ∈ frs X.stack, b ∈ X.env.locals :: X.fs := fun b hb => by
  rcases I.ok.stk with e | ⟨e, hf⟩
  · rw [e] at hb; exact List.mem_cons_of_mem _ hb
  · rw [e] at hb
    unfold frs at hb
    rw [List.filterMap_cons, hf] at hb
    exact hb
theorem Inv.stkFree (I : Inv X pins σ H s) : ∀ b ∈ frs X.stack, H b = none := fun b hb => by
  rcases List.mem_cons.mp (I.stkSub b hb) with e | hb
  · rw [e]; exact I.free
  · obtain ⟨_, o, ho, _⟩ := I.ok.funs.mem hb
    exact I.base.free b o ho (I.ok.frf b hb) fun z => I.ok.exfs b z hb

/-- THE STEP: the untracked objects but the frame and the records at ch are kept (the callers' frames up to slots), the frame's map is kept, the new abstract heap is held -/
theorem Inv.step {g' : Array GenState} {t' : Nat} {d' : Drawn} {ch : List Addr} (I : Inv X pins σ H s)
    (hch : ∀ b ∈ ch, (b ∈ X.ex ∨ X.s₀.heap.objs.size ≤ b) ∧ b ≠ X.env.locals ∧ (∀ x c, X.env.cells.lookup x = some c → c ≠ b) ∧ ∀ p ∈ X.pn ++ pins, p.1 ≠ b)
    (keep : ∀ b o, b ≠ X.env.locals → b ∉ X.fs → b ∉ ch → s.heap.get? b = some o → H b = none → h'.get? b = some o)
    (slot : ∀ b o, b ≠ X.env.locals → b ∈ X.fs → b ∉ ch → s.heap.get? b = some o → H b = none → ∃ sl, h'.get? b = some { o with slots := sl }) (free : ∀ b o, b ∉ ch → s.heap.get? b = some o → H b = none → H' b = none)
    (there : ∀ b o, b ∉ ch → s.heap.get? b = some o → ∃ o', h'.get? b = some o')
    (tups : ∀ b xs, H b = some (.tup xs) → H' b = some (.tup xs)) (frzs : ∀ b o u, H b = some (.frz o u) → H' b = some (.frz o u)) (tbls : ∀ b ps, H b = some (.tbl ps) → ∃ more, H' b = some (.tbl (ps ++ more)))
    (ns : ∀ m, s.heap.Ns X.env.locals m → h'.Ns X.env.locals m) (hok : HOk X.prog X.w H' h') (hg : AllBare g') :
    Inv X pins σ H' { s with heap := h', gens := g', drawn := d', toks := t' } := by
  have neL : ∀ b o, X.s₀.heap.get? b = some o → b ≠ X.env.locals := fun b o e => Nat.ne_of_lt (Nat.lt_of_lt_of_le (Heap.lt_size e) I.ok.above)
  have neC : ∀ b o, X.s₀.heap.get? b = some o → b ∉ X.ex → b ∉ ch := fun b o e hx hb => by
    rcases (hch b hb).1 with z | z
    · exact hx z
    · exact absurd (Nat.lt_of_lt_of_le (Heap.lt_size e) z) (Nat.lt_irrefl _)
  have cellK : ∀ x c, X.env.cells.lookup x = some c → ∀ v, s.heap.IsCell c v → h'.IsCell c v := fun x c e v ⟨o, ho, hd⟩ => by
    have nch : c ∉ ch := fun z => (hch c z).2.2.1 x c e rfl
    by_cases hc : c ∈ X.fs
    · obtain ⟨sl, q⟩ := slot c o (I.cne x c e) hc nch ho (I.freeC x c e)
      exact ⟨_, q, hd⟩
    · exact ⟨o, keep c o (I.cne x c e) hc nch ho (I.freeC x c e), hd⟩
  refine ⟨I.ok, I.os, hg, ⟨fun b o e n hb hx => ?_, fun b o e n hb hx => ?_, fun b o e n hx => ?_, fun b o e hx => ?_, fun b xs e => tups b xs (I.base.tups b xs e), fun b o xs e => frzs b o xs (I.base.frzs b o xs e), fun b ps e => ?_⟩, ?_, fun x c e => ?_, ?_, fun x c e => ?_, fun p hp => ?_, hok, I.len⟩
  · exact keep b o (neL b o e) hb (neC b o e hx) (I.base.keep b o e n hb hx) (I.base.free b o e n hx)
  · obtain ⟨sl, e1⟩ := I.base.slot b o e n hb hx
    obtain ⟨sl', e2⟩ := slot b _ (neL b o e) hb (neC b o e hx) e1 (I.base.free b o e n hx)
    exact ⟨sl', e2⟩
  · obtain ⟨o', e1⟩ := I.base.there b o e hx
    exact free b o' (neC b o e hx) e1 (I.base.free b o e n hx)
  · obtain ⟨o', e1⟩ := I.base.there b o e hx
    exact there b o' (neC b o e hx) e1
  · obtain ⟨m1, e1⟩ := I.base.tbls b ps e
    obtain ⟨m2, e2⟩ := tbls b _ e1
    exact ⟨m1 ++ m2, by rw [e2, Array.append_assoc]⟩
  · obtain ⟨m, hn, hl⟩ := I.loc
    refine ⟨m, ns m hn, fun i x v e1 e2 e3 => ?_⟩
    obtain ⟨u, r, l⟩ := hl i x v e1 e2 e3
    refine ⟨u, r, ?_⟩
    rcases l with l | ⟨k, c, e, z⟩
    · exact .inl l
    · exact .inr ⟨k, c, e, cellK x c e _ z⟩
  · obtain ⟨v, z⟩ := I.cell x c e
    exact ⟨v, cellK x c e v z⟩
  · obtain ⟨m, ⟨o, _, _, ho, _⟩, _⟩ := I.loc
    exact free _ o (fun z => (hch _ z).2.1 rfl) ho I.free
  · obtain ⟨v, o, ho, hd⟩ := I.cell x c e
    exact free c o (fun z => (hch c z).2.2.1 x c e rfl) ho (I.freeC x c e)
  · obtain ⟨e, n, ne, nf, d⟩ := I.pin p hp
    have nch : p.1 ∉ ch := fun z => (hch p.1 z).2.2.2 p hp rfl
    exact ⟨keep p.1 p.2 ne nf nch e n, free p.1 p.2 nch e n, ne, nf, d⟩
/-- .. where the frame's own object is kept too -/
theorem Inv.un {t' : Nat} (I : Inv X pins σ H s) (u : Un X.fs [] H H' s.heap h') (hok : HOk X.prog X.w H' h') : Inv X pins σ H' { s with heap := h', toks := t' } := by
  obtain ⟨m, ⟨o, es, ep, ho, r⟩, _⟩ := id I.loc
  obtain ⟨sl, hL⟩ := u.any ho I.free (by simp)
  exact I.step (g' := s.gens) (d' := s.drawn) (ch := []) (fun _ z => nomatch z) (fun b o _ hb _ e n => u.keep b o e n hb (by simp)) (fun b o _ hb _ e n => u.slot b o e n hb (by simp)) (fun b o _ e n => u.free b o e n (by simp)) (fun b o _ e => u.there b o e (by simp)) u.tups u.frzs u.tbls (fun m' hm => by
    obtain ⟨o', es', ep', ho', r'⟩ := hm
    rw [ho] at ho'; cases ho'
    exact ⟨_, es', ep', hL, r'⟩) hok I.bare
/-- behind a call (or a comprehension's block): the slots of this frame may have changed too, the records at ch may have turned -/
theorem Inv.call {g' : Array GenState} {t' : Nat} {d' : Drawn} {ch : List Addr} (I : Inv X pins σ H s) (u : Un (frs X.stack) ch H H' s.heap h') (hok : HOk X.prog X.w H' h') (hg : AllBare g')
    (hch : ∀ b ∈ ch, (b ∈ X.ex ∨ X.s₀.heap.objs.size ≤ b) ∧ b ≠ X.env.locals ∧ (∀ x c, X.env.cells.lookup x = some c → c ≠ b) ∧ ∀ p ∈ X.pn ++ pins, p.1 ≠ b) :
    Inv X pins σ H' { s with heap := h', gens := g', drawn := d', toks := t' } := by
  obtain ⟨m, ⟨o, es, ep, ho, r⟩, _⟩ := id I.loc
  obtain ⟨sl, hL⟩ := u.any ho I.free fun z => (hch _ z).2.1 rfl
  exact I.step (ch := ch) hch (fun b o hL hb hc e n => u.keep b o e n (fun z => (List.mem_cons.mp (I.stkSub b z)).elim hL hb) hc) (fun b o _ _ hc e n => u.any e n hc) (fun b o hc e n => u.free b o e n hc) (fun b o hc e => u.there b o e hc) u.tups u.frzs u.tbls (fun m' hm => by
    obtain ⟨o', es', ep', ho', r'⟩ := hm
    rw [ho] at ho'; cases ho'
    exact ⟨_, es', ep', hL, r'⟩) hok hg
/-- an untracked record of ours (an iterator) has turned -/
theorem Inv.turned {t' : Nat} {it : Addr} (I : Inv X pins σ H s) (k : ∀ b o, b ≠ it → s.heap.get? b = some o → h'.get? b = some o) (hn : H it = none) (hL : it ≠ X.env.locals)
    (h1 : it ∈ X.ex ∨ X.s₀.heap.objs.size ≤ it) (h2 : ∀ x c, X.env.cells.lookup x = some c → c ≠ it) (h3 : ∀ p ∈ X.pn ++ pins, p.1 ≠ it) : Inv X pins σ H { s with heap := h', toks := t' } := by
  have nit : ∀ b u, H b = some u → b ≠ it := fun b u e z => by rw [z, hn] at e; cases e
  refine I.step (g' := s.gens) (d' := s.drawn) (ch := [it]) (fun b hb => ?_) (fun b o _ _ hc e _ => k b o (fun z => hc (by simp [z])) e) (fun b o _ _ hc e _ => ⟨o.slots, k b o (fun z => hc (by simp [z])) e⟩) (fun _ _ _ _ n => n)
    (fun b o hc e => ⟨o, k b o (fun z => hc (by simp [z])) e⟩) (fun _ _ e => e) (fun _ _ _ e => e) (fun b ps e => ⟨#[], by rw [e]; simp⟩) (fun m hm => ?_) (fun b u e => ?_) I.bare
  · have e : b = it := by simpa using hb
    subst e
    exact ⟨h1, hL, h2, h3⟩
  · obtain ⟨o, es, ep, ho, r⟩ := hm
    exact ⟨o, es, ep, k _ o (Ne.symm hL) ho, r⟩
  · refine (I.hok b u e).stay (fun c v hc q => k c v ?_ q) (fun _ q => q) fun _ _ q => q
    rcases hc with z | z
    · rw [z]; exact nit b u e
    · exact nit c _ z
theorem Inv.tok (I : Inv X pins σ H s) (t : Nat) : Inv X pins σ H { s with toks := t } := I.un (h' := s.heap) (t' := t) Un.refl I.hok
/-- all objects kept -/
theorem Inv.kept {t' : Nat} (I : Inv X pins σ H s) (k : ∀ b u, s.heap.get? b = some u → h'.get? b = some u) : Inv X pins σ H { s with heap := h', toks := t' } := I.un (Un.kept k) (I.hok.kept k)
/-- a new object laid and tracked -/
theorem Inv.laid {a : Addr} {o : HO} {t' : Nat} (I : Inv X pins σ H s) (k : ∀ b u, s.heap.get? b = some u → h'.get? b = some u) (hp : s.heap.objs.size ≤ a) (new : ObjOk X.prog X.w (upd H a o) h' a o) :
    Inv X pins σ (upd H a o) { s with heap := h', toks := t' } := I.un (Un.laid k hp (I.hok.fresh hp)) (I.hok.laid k hp new)
/-- an object written -/
theorem Inv.write {x e : Addr} {o : HO} {t' : Nat} (I : Inv X pins σ H s) (mu : Mut (H x)) (he : e = x ∨ H e = some (.own x)) (k : ∀ b u, b ≠ e → s.heap.get? b = some u → h'.get? b = some u) (heo : ∃ u, h'.get? e = some u)
    (new : ObjOk X.prog X.w (upd H x o) h' x o) : Inv X pins σ (upd H x o) { s with heap := h', toks := t' } := I.un (Un.write mu he k heo) (I.hok.write mu he k heo new)
theorem Inv.pins_of {pins' : List (Addr × Obj)} (I : Inv X pins σ H s) (h : ∀ p ∈ pins', s.heap.get? p.1 = some p.2 ∧ H p.1 = none ∧ p.1 ≠ X.env.locals ∧ p.1 ∉ X.fs ∧ ∀ v, p.2.data ≠ .cell v) : Inv X pins' σ H s :=
  ⟨I.ok, I.os, I.bare, I.base, I.loc, I.cell, I.free, I.freeC, fun p hp => (List.mem_append.mp hp).elim (fun z => I.pin p (List.mem_append_left _ z)) (h p), I.hok, I.len⟩

theorem nodup_ix {N : List Str} (hN : N.Nodup) {i j : Nat} {x : Str} (a : N[i]? = some x) (b : N[j]? = some x) : i = j := by
  obtain ⟨h1, e1⟩ := List.getElem?_eq_some_iff.mp a
  obtain ⟨h2, e2⟩ := List.getElem?_eq_some_iff.mp b
  exact (List.getElem_inj hN).mp (e1.trans e2.symm)

/-- a name is stored; what changed -/
theorem store_ok2 {M : Model} {A : Around} {E : Value → Shared → Prop} {i : Nat} {x : Str} {v : V} {u : Value} {Q : Unit → Shared → Prop} (I : Inv X pins σ H s) (hN : X.N.Nodup) (hi : X.N[i]? = some x) (hx : Loc X.env.scope x) (r : RelV v u)
    (h : ∀ s', Inv X pins (σ.set i (some v)) H s' → (∃ a, Heap.SameBut a s.heap s'.heap ∧ (a = X.env.locals ∨ X.env.cells.lookup x = some a)) → Q () s') (hf : X.fn x = true ∨ X.env.scope.names.lookup x = some .local := by first | exact .inl rfl | exact .inr rfl | assumption) : wpAny M A (storeName X.env x u) Q E s := by
  obtain ⟨m, hn, hl⟩ := id I.loc
  have hcls : (X.env.scope.kind == .class || (X.env.scope.kind == .module && X.env.locals != X.env.globals)) = false := by rw [I.ok.kind]; rfl
  have hiσ : i < σ.length := by rw [I.len]; exact (List.getElem?_eq_some_iff.mp hi).1
  have cne := I.cne
  have tracked : ∀ {a : Addr} {h' : Heap}, (∃ o, s.heap.get? a = some o ∧ H a = none) → Heap.SameBut a s.heap h' → HOk X.prog X.w H h' := fun {a h'} ha hs b ob e => by
    obtain ⟨_, _, hfree⟩ := ha
    refine (I.hok b ob e).stay (fun c w' hc q => (hs.2 c ?_).trans q) (fun _ q => q) fun _ _ q => q
    rintro rfl
    rcases hc with rfl | hc
    · rw [hfree] at e; cases e
    · rw [hfree] at hc; cases hc
  rcases hx with hk | hk
  · refine wpAny_storeName_local hk hn (fun h' hn' hs => ?_) hcls
    obtain ⟨oL, _, _, hoL, _⟩ := id hn
    refine h _ ⟨I.ok, I.os, I.bare, ⟨fun b o e n hb hx => ?_, fun b o e n hb hx => ?_, I.base.free, fun b o e hx => ?_, I.base.tups, I.base.frzs, I.base.tbls⟩, ⟨_, hn', fun j y v' e1 e2 e3 => ?_⟩, fun y c e => ?_, I.free, I.freeC, fun p hp => ?_, tracked ⟨oL, hoL, I.free⟩ hs, by simpa using I.len⟩ ⟨_, hs, .inl rfl⟩
    · exact (hs.2 b (Nat.ne_of_lt (Nat.lt_of_lt_of_le (Heap.lt_size e) I.ok.above))).trans (I.base.keep b o e n hb hx)
    · obtain ⟨sl, e1⟩ := I.base.slot b o e n hb hx
      exact ⟨sl, (hs.2 b (Nat.ne_of_lt (Nat.lt_of_lt_of_le (Heap.lt_size e) I.ok.above))).trans e1⟩
    · obtain ⟨o', e1⟩ := I.base.there b o e hx
      exact ⟨o', (hs.2 b (Nat.ne_of_lt (Nat.lt_of_lt_of_le (Heap.lt_size e) I.ok.above))).trans e1⟩
    · by_cases hj : j = i
      · subst hj
        rw [hi] at e1; cases e1
        rw [List.getElem?_set_self hiσ] at e2
        cases e2
        exact ⟨u, r, .inl ⟨hk, by simp⟩⟩
      · rw [List.getElem?_set_ne (Ne.symm hj)] at e2
        obtain ⟨u', r', q⟩ := hl j y v' e1 e2 e3
        refine ⟨u', r', ?_⟩
        rcases q with ⟨k, e⟩ | ⟨k, c, e, z⟩
        · refine .inl ⟨k, ?_⟩
          have : y ≠ x := fun e => hj (nodup_ix hN e1 (e ▸ hi))
          simp [this, e]
        · exact .inr ⟨k, c, e, z.sameBut hs (cne y c e)⟩
    · obtain ⟨w', z⟩ := I.cell y c e
      exact ⟨w', z.sameBut hs (cne y c e)⟩
    · obtain ⟨e, n, ne, nf, d⟩ := I.pin p hp
      exact ⟨(hs.2 p.1 ne).trans e, n, ne, nf, d⟩
  · have hfn : X.fn x = true := by
      rcases hf with z | z
      · exact z
      · rw [z] at hk; cases hk
    obtain ⟨c, hc⟩ := I.ok.has x (.inl hk)
    obtain ⟨w', z⟩ := I.cell x c hc
    refine wpAny_storeName_cell I.ok.kind hk hc z (fun h' hc' hs => ?_)
    obtain ⟨oc, hoc, hocd⟩ := id z
    refine h { s with heap := h' } ⟨I.ok, I.os, I.bare, ⟨fun b o e n hb hx => ?_, fun b o e n hb hx => ?_, I.base.free, fun b o e hx => ?_, I.base.tups, I.base.frzs, I.base.tbls⟩, ⟨m, hn.sameBut hs (Ne.symm (cne x c hc)), fun j y v' e1 e2 e3 => ?_⟩, fun y c' e => ?_, I.free, I.freeC, fun p hp => ?_, tracked ⟨oc, hoc, I.freeC x c hc⟩ hs, by simpa using I.len⟩ ⟨c, hs, .inr hc⟩
    · exact (hs.2 b (Nat.ne_of_lt (Nat.lt_of_lt_of_le (Heap.lt_size e) (I.ok.cab x c hfn hc)))).trans (I.base.keep b o e n hb hx)
    · obtain ⟨sl, e1⟩ := I.base.slot b o e n hb hx
      exact ⟨sl, (hs.2 b (Nat.ne_of_lt (Nat.lt_of_lt_of_le (Heap.lt_size e) (I.ok.cab x c hfn hc)))).trans e1⟩
    · obtain ⟨o', e1⟩ := I.base.there b o e hx
      exact ⟨o', (hs.2 b (Nat.ne_of_lt (Nat.lt_of_lt_of_le (Heap.lt_size e) (I.ok.cab x c hfn hc)))).trans e1⟩
    · by_cases hj : j = i
      · subst hj
        rw [hi] at e1; cases e1
        rw [List.getElem?_set_self hiσ] at e2
        cases e2
        exact ⟨u, r, .inr ⟨.inl hk, c, hc, hc'⟩⟩
      · rw [List.getElem?_set_ne (Ne.symm hj)] at e2
        obtain ⟨u', r', q⟩ := hl j y v' e1 e2 e3
        refine ⟨u', r', ?_⟩
        rcases q with q | ⟨k, c', e, z'⟩
        · exact .inl q
        · refine .inr ⟨k, c', e, z'.sameBut hs ?_⟩
          rintro rfl
          exact hj (nodup_ix hN e1 (I.ok.inj _ _ _ e hc ▸ hi))
    · by_cases hcc : c' = c
      · subst hcc; exact ⟨_, hc'⟩
      · obtain ⟨w2, z2⟩ := I.cell y c' e
        exact ⟨w2, z2.sameBut hs hcc⟩
    · obtain ⟨e, n, ne, nf, d⟩ := I.pin p hp
      refine ⟨(hs.2 p.1 ?_).trans e, n, ne, nf, d⟩
      intro q
      rw [q, hoc] at e
      have q' : oc = p.2 := Option.some.inj e
      exact d w' (by rw [← q']; exact hocd)
theorem store_ok {M : Model} {A : Around} {E : Value → Shared → Prop} {i : Nat} {x : Str} {v : V} {u : Value} {Q : Unit → Shared → Prop} (I : Inv X pins σ H s) (hN : X.N.Nodup) (hi : X.N[i]? = some x) (hx : Loc X.env.scope x) (r : RelV v u)
    (h : ∀ s', Inv X pins (σ.set i (some v)) H s' → Q () s') (hf : X.fn x = true ∨ X.env.scope.names.lookup x = some .local := by first | exact .inl rfl | exact .inr rfl | assumption) : wpAny M A (storeName X.env x u) Q E s :=
  store_ok2 I hN hi hx r (fun s' I' _ => h s' I') hf
/-- behind a call or a block, the state as it is -/
theorem Inv.call' {s' : Shared} {ch : List Addr} (I : Inv X pins σ H s) (ho : s'.os = s.os) (u : Un (frs X.stack) ch H H' s.heap s'.heap) (hok : HOk X.prog X.w H' s'.heap) (hg : AllBare s'.gens)
    (hch : ∀ b ∈ ch, (b ∈ X.ex ∨ X.s₀.heap.objs.size ≤ b) ∧ b ≠ X.env.locals ∧ (∀ x c, X.env.cells.lookup x = some c → c ≠ b) ∧ ∀ p ∈ X.pn ++ pins, p.1 ≠ b) : Inv X pins σ H' s' := by
  obtain ⟨h', g', d', t', o'⟩ := s'
  have e : o' = s.os := ho
  subst e
  exact I.call (g' := g') (t' := t') (d' := d') u hok hg hch
end

/-! ### the judgements -/
/-- an exception: its class, its own dict's address (where it has one), the abstract heap behind it -/
abbrev XK := Value → Option Addr → Hp → Prop
abbrev St := List (Option V)
abbrev VK := V → Hp → Prop
/-- an expression's reading; a test's; an argument list's -/
abbrev TE := St → Hp → VK → Prop
abbrev TT := St → Hp → (Bool → Hp → Prop) → Prop
abbrev TA := St → Hp → (List V → Hp → Prop) → Prop
/-- what is wanted behind a statement -/
structure Ends where
  nx : St → Hp → Prop
  rt : VK
  bk : St → Hp → Prop := fun _ _ => False
  ct : St → Hp → Prop := fun _ _ => False
abbrev TS := Ends → St → Hp → Prop

def EP (X : Cx) (pins : List (Addr × Obj)) (σ : St) (Q : VK) (u : Value) (s' : Shared) : Prop := ∃ v H', Inv X pins σ H' s' ∧ RelV v u ∧ Q v H'
def TP (X : Cx) (pins : List (Addr × Obj)) (σ : St) (Q : Bool → Hp → Prop) (b : Bool) (s' : Shared) : Prop := ∃ H', Inv X pins σ H' s' ∧ Q b H'
def AP (X : Cx) (pins : List (Addr × Obj)) (σ : St) (Q : List V → Hp → Prop) (us : List Value) (s' : Shared) : Prop := ∃ vs H', Inv X pins σ H' s' ∧ Vals vs us ∧ Q vs H'
def SP (X : Cx) (pins : List (Addr × Obj)) (D : Ends) (f : Flow) (s' : Shared) : Prop :=
  match f with
  | .next => ∃ σ' H', Inv X pins σ' H' s' ∧ D.nx σ' H'
  | .brk => ∃ σ' H', Inv X pins σ' H' s' ∧ D.bk σ' H'
  | .cont => ∃ σ' H', Inv X pins σ' H' s' ∧ D.ct σ' H'
  | .ret u => ∃ v σ' H', Inv X pins σ' H' s' ∧ RelV v u ∧ D.rt v H'

def PE (X : Cx) (e : Expr) (t : TE) : Prop :=
  ∀ (pins : List (Addr × Obj)) (s : Shared) (σ : St) (H : Hp) (Q : VK), Inv X pins σ H s → t σ H Q → wpAny (model X.prog X.w) X.A (eval e X.env) (EP X pins σ Q) X.xe s
def PT (X : Cx) (e : Expr) (t : TT) : Prop :=
  ∀ (pins : List (Addr × Obj)) (s : Shared) (σ : St) (H : Hp) (Q : Bool → Hp → Prop), Inv X pins σ H s → t σ H Q → wpAny (model X.prog X.w) X.A (isTrue e X.env (eval e X.env)) (TP X pins σ Q) X.xe s
/-- a test whatever its 'whole' is (and, or) -/
def PW (X : Cx) (e : Expr) (t : TT) : Prop :=
  ∀ (whole : Sem Value) (pins : List (Addr × Obj)) (s : Shared) (σ : St) (H : Hp) (Q : Bool → Hp → Prop), Inv X pins σ H s → t σ H Q → wpAny (model X.prog X.w) X.A (isTrue e X.env whole) (TP X pins σ Q) X.xe s
theorem PW.pt {X : Cx} {e : Expr} {t : TT} (h : PW X e t) : PT X e t := h _
/-- an argument list (no star), from the left -/
def PA (X : Cx) (es : List Expr) (t : TA) : Prop :=
  ∀ (pos : Pos) (pins : List (Addr × Obj)) (s : Shared) (σ : St) (H : Hp) (Q : List V → Hp → Prop), Inv X pins σ H s → t σ H Q → wpAny (model X.prog X.w) X.A (spliced (backTo pos (starEach es X.env))) (AP X pins σ Q) X.xe s
def PS (X : Cx) (st : Stmt) (t : TS) : Prop :=
  ∀ (pins : List (Addr × Obj)) (s : Shared) (σ : St) (H : Hp) (D : Ends), Inv X pins σ H s → t D σ H → wpAny (model X.prog X.w) X.A (exec st X.env) (SP X pins D) X.xe s
def PSs (X : Cx) (st : List Stmt) (t : TS) : Prop :=
  ∀ (pins : List (Addr × Obj)) (s : Shared) (σ : St) (H : Hp) (D : Ends), Inv X pins σ H s → t D σ H → wpAny (model X.prog X.w) X.A (execs st X.env) (SP X pins D) X.xe s
/-- weaken the end -/
theorem thn {α : Type} {t : Sem α} {Q Q' : α → Shared → Prop} {M : Model} {A : Around} {E : Value → Shared → Prop} {s : Shared} (h : wpAny M A t Q E s) (hQ : ∀ a s, Q a s → Q' a s) : wpAny M A t Q' E s := wpAny_mono h hQ fun _ _ x => x
end L2

namespace L2
open PySem PySem.Spec PyProof.Rows
section
variable {X : Cx}

/-! ### names and constants -/
inductive tVarI (i : Nat) (σ : St) (H : Hp) (Q : VK) : Prop
  | mk (v : _) (h0_ : σ[i]? = some (some v)) (h1_ : Q v H) : tVarI i σ H Q
def tVar (i : Nat) : TE := fun σ H Q => tVarI i σ H Q
def tC (v : V) : TE := fun _ H Q => Q v H
theorem pe_var {i : Nat} {x : Str} {pos : Pos} (hN : X.N[i]? = some x) (hv : Vis X.env.scope x) (hd : (x == ("__debug__" : Str)) = false := by decide) (hcd : (x == ("__classdict__" : Str)) = false := by decide) : PE X (.Name x pos) (tVar i) := by
  intro pins s σ H Q I h
  obtain ⟨v, e, h⟩ := h
  obtain ⟨m, hn, hl⟩ := I.loc
  obtain ⟨u, r, l⟩ := hl i x v hN e hv
  have fin : EP X pins σ Q u s := ⟨v, H, I, r, h⟩
  rcases l with ⟨hk, hm⟩ | ⟨hk, c, hc, hcell⟩
  · exact wpAny_Name (wpAny_loadName_local I.ok.kind hk hn hm fin) hd
  · rcases hk with hk | hk
    · exact wpAny_Name (wpAny_loadName_cell I.ok.kind hk hc hcell fin) hd
    · exact wpAny_Name (wpAny_loadName_free I.ok.kind hk hc hcell fin hcd) hd
theorem pe_int {i j pos} : PE X (.Constant (.int i) j pos) (tC (.int i)) := fun _ _ _ H _ I h => wpAny_Constant_int ⟨.int i, H, I.tok _, ⟨_, rfl⟩, h⟩
theorem pe_bl {b j pos} : PE X (.Constant (.bool b) j pos) (tC (.bl b)) := fun _ _ _ H _ I h => Constant_bool ⟨.bl b, H, I, rfl, h⟩
theorem pe_non {j pos} : PE X (.Constant .none j pos) (tC .non) := fun _ _ _ H _ I h => Constant_none ⟨.non, H, I, rfl, h⟩
theorem pe_str {x j pos} : PE X (.Constant (.str x) j pos) (tC (.str x)) := fun _ _ _ H _ I h => Calls.Constant_str ⟨.str x, H, I.tok _, ⟨_, rfl⟩, h⟩

/-- a global name of the def -/
def Gl (X : Cx) (x : Str) : Prop := X.env.kindOf x = some .globalImplicit
theorem ld_glob {E : Value → Shared → Prop} {pins : List (Addr × Obj)} {s : Shared} {σ : St} {H : Hp} {x : Str} {u : Value} {pos : Pos} {Q : Value → Shared → Prop} (I : Inv X pins σ H s) (hg : Gl X x) (hm : X.mg x = some u) (h : Q u s)
    (hd : (x == ("__debug__" : Str)) = false := by decide) : wpAny (model X.prog X.w) X.A (eval (.Name x pos) X.env) Q E s :=
  Calls.Name_function_global I.ok.kind hg (Calls.loadGlobal_global (by rw [I.ok.glob]; exact I.mod.glob.keeps I.bk) hm h) hd
theorem ld_blt {E : Value → Shared → Prop} {pins : List (Addr × Obj)} {s : Shared} {σ : St} {H : Hp} {x : Str} {u : Value} {pos : Pos} {Q : Value → Shared → Prop} (I : Inv X pins σ H s) (hg : Gl X x) (hm : X.mg x = none) (hv : bootBuiltins x = some u) (h : Q u s)
    (hn : x ≠ "__name__" := by decide) (hd : (x == ("__debug__" : Str)) = false := by decide) : wpAny (model X.prog X.w) X.A (eval (.Name x pos) X.env) Q E s := by
  obtain ⟨mb, h1, h2⟩ := I.mod.blt
  exact Calls.Name_function_global I.ok.kind hg (Calls.loadGlobal_builtin (by rw [I.ok.glob]; exact I.mod.glob.keeps I.bk) hm (by rw [I.ok.blt]; exact h1.keeps I.bk) ((h2 x hn).trans hv) h) hd
/-- a module's constant, a class, a function, as a value -/
theorem pe_glob {x : Str} {v : V} {u : Value} {pos : Pos} (hg : Gl X x) (hm : X.mg x = some u) (r : RelV v u) (hd : (x == ("__debug__" : Str)) = false := by decide) : PE X (.Name x pos) (tC v) :=
  fun _ _ _ H _ I h => ld_glob I hg hm ⟨v, H, I, r, h⟩ hd
theorem pe_bltn {x : Str} {v : V} {u : Value} {pos : Pos} (hg : Gl X x) (hm : X.mg x = none) (hv : bootBuiltins x = some u) (r : RelV v u) (hn : x ≠ "__name__" := by decide) (hd : (x == ("__debug__" : Str)) = false := by decide) : PE X (.Name x pos) (tC v) :=
  fun _ _ _ H _ I h => ld_blt I hg hm hv ⟨v, H, I, r, h⟩ hn hd

/-! ### arithmetic -/
/-- two ints -/
def t2I (ta tb : TE) (k : Int → Int → Hp → Prop) : St → Hp → Prop := fun σ H => ta σ H fun x H1 => tb σ H1 fun y H2 => ∃ i j, x = .int i ∧ y = .int j ∧ k i j H2
def tAdd (ta tb : TE) : TE := fun σ H Q => t2I ta tb (fun i j H2 => Q (.int (i + j)) H2) σ H
def tSub (ta tb : TE) : TE := fun σ H Q => t2I ta tb (fun i j H2 => Q (.int (i - j)) H2) σ H
/-- the left factor below 2^64 -/
def tMul (ta tb : TE) : TE := fun σ H Q => t2I ta tb (fun i j H2 => (-(2 ^ 64) < i ∧ i < 2 ^ 64) ∧ Q (.int (i * j)) H2) σ H
variable {a b : Expr} {ta tb : TE} {pos : Pos}
/-! ### comparisons -/
def PC (X : Cx) (op : CmpOp) (a b : Expr) (t : TE) : Prop :=
  ∀ (pins : List (Addr × Obj)) (s : Shared) (σ : St) (H : Hp) (Q : VK), Inv X pins σ H s → t σ H Q →
    wpAny (model X.prog X.w) X.A (eval a X.env) (fun v s₁ => wpAny (model X.prog X.w) X.A (eval b X.env) (fun u s₂ => wpAny (model X.prog X.w) X.A (compareOp op v u) (EP X pins σ Q) X.xe s₂) X.xe s₁) X.xe s
def tCmp (p : Int → Int → Bool) (ta tb : TE) : TE := fun σ H Q => t2I ta tb (fun i j H2 => Q (.bl (p i j)) H2) σ H
abbrev tLt : TE → TE → TE := tCmp fun i j => decide (i < j)
abbrev tLe : TE → TE → TE := tCmp fun i j => decide (i ≤ j)
abbrev tGt : TE → TE → TE := tCmp fun i j => decide (j < i)
abbrev tGe : TE → TE → TE := tCmp fun i j => decide (j ≤ i)
abbrev tEqI : TE → TE → TE := tCmp fun i j => decide (i = j)
abbrev tNeI : TE → TE → TE := tCmp fun i j => !decide (i = j)
/-- is None -/
def tIsN (ta : TE) : TE := fun σ H Q => ta σ H fun x H1 => Q (.bl (decide (x = .non))) H1
def tNotN (ta : TE) : TE := fun σ H Q => ta σ H fun x H1 => Q (.bl (!decide (x = .non))) H1
/-- a comparison as a value, as a test -/
def tB (t : TE) : TT := fun σ H Q => t σ H fun x H1 => ∃ c, x = .bl c ∧ Q c H1
theorem pt_cmp {op : CmpOp} {t : TE} (h : PC X op a b t) (h1 : behindInMarks op b = false := by first | exact nobehind _ (by decide) (by decide) | rfl) : PT X (.Compare a [op] [b] pos) (tB t) := by
  intro pins s σ H Q I hw
  refine wpAny_isTrue_Compare1 (thn (h pins s σ H _ I hw) fun v s1 h1 => thn h1 fun u s2 h2 => thn h2 fun c s3 ⟨x, H1, I1, r1, q1⟩ => ?_) h1
  obtain ⟨d, rfl, q⟩ := q1
  cases r1
  exact wpAny_truthy_bool ⟨H1, I1, q⟩
/-- an expression whose value is a bool, as a test -/
theorem pt_val {e : Expr} {t : TE} (h : PE X e t) (he : ∀ whole, isTrue e X.env whole = (do let v ← whole; standAt e.pos; holding [v] (truthy v)) := by intro _; rfl) : PT X e (tB t) := by
  intro pins s σ H Q I hw
  refine isTrue_plain (thn (h pins s σ H _ I hw) fun v s1 ⟨x, H1, I1, r1, q1⟩ => ?_) (he _)
  obtain ⟨d, rfl, q⟩ := q1
  cases r1
  exact wpAny_truthy_bool ⟨H1, I1, q⟩

/-! ### and, or, not -/
variable {tA tB' : TT} {rest : List Expr}
def tAnd (t u : TT) : TT := fun σ H Q => t σ H fun c H1 => if c = true then u σ H1 Q else Q false H1
def tOr (t u : TT) : TT := fun σ H Q => t σ H fun c H1 => if c = true then Q true H1 else u σ H1 Q
def tNot (t : TT) : TT := fun σ H Q => t σ H fun c H1 => Q (!c) H1
theorem pw_and1 (ha : PT X a tA) : PW X (.BoolOp .And [a] pos) tA := by
  intro wh pins s σ H Q I h
  refine isTrue_and (thn (ha pins s σ H Q I h) fun c s1 e => ?_)
  cases c with
  | true => exact isTrue_and_nil e
  | false => exact e
theorem pw_or1 (ha : PT X a tA) : PW X (.BoolOp .Or [a] pos) tA := by
  intro wh pins s σ H Q I h
  refine isTrue_or (thn (ha pins s σ H Q I h) fun c s1 e => ?_)
  cases c with
  | false => exact isTrue_or_nil e
  | true => exact e
theorem pw_and (ha : PT X a tA) (hb : PW X (.BoolOp .And (b :: rest) pos) tB') : PW X (.BoolOp .And (a :: b :: rest) pos) (tAnd tA tB') := by
  intro wh pins s σ H Q I h
  refine isTrue_and (thn (ha pins s σ H _ I h) fun c s1 ⟨H1, I1, q1⟩ => ?_)
  cases c with
  | true => exact hb wh pins s1 σ H1 Q I1 q1
  | false => exact ⟨H1, I1, q1⟩
theorem pw_or (ha : PT X a tA) (hb : PW X (.BoolOp .Or (b :: rest) pos) tB') : PW X (.BoolOp .Or (a :: b :: rest) pos) (tOr tA tB') := by
  intro wh pins s σ H Q I h
  refine isTrue_or (thn (ha pins s σ H _ I h) fun c s1 ⟨H1, I1, q1⟩ => ?_)
  cases c with
  | true => exact ⟨H1, I1, q1⟩
  | false => exact hb wh pins s1 σ H1 Q I1 q1
theorem pt_not (ha : PT X a tA) : PT X (.UnaryOp .Not a pos) (tNot tA) := by
  intro pins s σ H Q I h
  exact isTrue_not (ha pins s σ H (fun c H1 => Q (!c) H1) I h)
/-- .. as values (bools) -/
def tAndV (ta tb : TE) : TE := fun σ H Q => ta σ H fun x H1 => ∃ c, x = .bl c ∧ if c = true then tb σ H1 Q else Q (.bl false) H1
def tOrV (ta tb : TE) : TE := fun σ H Q => ta σ H fun x H1 => ∃ c, x = .bl c ∧ if c = true then Q (.bl true) H1 else tb σ H1 Q
def tNotV (ta : TE) : TE := fun σ H Q => ta σ H fun x H1 => ∃ c, x = .bl c ∧ Q (.bl (!c)) H1
theorem pe_one {op} {t : TE} (h : PE X a t) : PE X (.BoolOp op [a] pos) t := fun pins s σ H Q I hw => BoolOp_one (h pins s σ H Q I hw)
theorem pe_and (ha : PE X a ta) (hb : PE X (.BoolOp .And (b :: rest) pos) tb) : PE X (.BoolOp .And (a :: b :: rest) pos) (tAndV ta tb) := by
  intro pins s σ H Q I h
  refine BoolOp_and (thn (ha pins s σ H _ I h) fun v s1 ⟨x, H1, I1, r1, q1⟩ => ?_)
  obtain ⟨c, rfl, q1⟩ := q1
  cases r1
  refine wpAny_truthy_bool ?_
  cases c with
  | true => exact hb pins s1 σ H1 Q I1 q1
  | false => exact ⟨.bl false, H1, I1, rfl, q1⟩
/-- a if t else b -/
def tIf (t : TT) (ta tb : TE) : TE := fun σ H Q => t σ H fun c H1 => if c = true then ta σ H1 Q else tb σ H1 Q
theorem pe_ifExp {c : Expr} (hc : PT X c tA) (ha : PE X a ta) (hb : PE X b tb) : PE X (.IfExp c a b pos) (tIf tA ta tb) := by
  intro pins s σ H Q I h
  refine wpAny_IfExp (thn (hc pins s σ H _ I h) fun d s1 ⟨H1, I1, q1⟩ => ?_)
  cases d with
  | true => exact ha pins s1 σ H1 Q I1 q1
  | false => exact hb pins s1 σ H1 Q I1 q1
end
end L2

namespace L2
open PySem PySem.Spec PyProof.Rows

/-! ### a list, a tuple that is read: tracked, frozen, or an object of the module -/
def SqL (K : PySem.W.Frag) (H : Hp) (a : Addr) (xs : List V) : Prop :=
  Rd H a (.lst xs) ∨
    ∃ (o : Obj) (its : Array Value) (n : Nat), K.lookup a = some o ∧ o.cls = .type "list" ∧ o.dict = none ∧ o.data = .seq its n ∧ its.size ≤ sizeLine ∧ Vals xs its.toList
def SqT (K : PySem.W.Frag) (H : Hp) (a : Addr) (xs : List V) : Prop :=
  Rd H a (.tup xs) ∨
    ∃ (o : Obj) (its : Array Value) (n : Nat), K.lookup a = some o ∧ o.cls = .type "tuple" ∧ o.data = .seq its n ∧ its.size ≤ sizeLine ∧ Vals xs its.toList
def absV : Value → Option V
  | .none => some .non
  | .bool b => some (.bl b)
  | .int i _ => some (.int i)
  | .str x _ => some (.str x)
  | .bytes b _ => some (.byt b)
  | .float b _ => some (.flt b)
  | .ref a => some (.ref a)
  | .type n => some (.ty n)
  | _ => none
theorem RelV.abs {x : V} {u : Value} (r : RelV x u) : absV u = some x := by
  cases x with
  | non => cases r; rfl
  | bl _ => cases r; rfl
  | int _ => obtain ⟨t, rfl⟩ := r; rfl
  | str _ => obtain ⟨t, rfl⟩ := r; rfl
  | byt _ => obtain ⟨t, rfl⟩ := r; rfl
  | flt _ => obtain ⟨t, rfl⟩ := r; rfl
  | ref _ => cases r; rfl
  | ty _ => cases r; rfl
theorem RelV.inj {x y : V} {u : Value} (r : RelV x u) (q : RelV y u) : x = y := Option.some.inj (r.abs.symm.trans q.abs)
theorem Vals.inj : ∀ {xs ys : List V} {us : List Value}, Vals xs us → Vals ys us → xs = ys
  | _, _, _, .nil, .nil => rfl
  | _, _, _, .cons r t, .cons r' t' => by rw [r.inj r', Vals.inj t t']
section
variable {X : Cx} {pins : List (Addr × Obj)} {σ : St} {H : Hp} {s : Shared} {a : Addr} {xs ys : List V}
theorem SqL.of {K : PySem.W.Frag} (h : H a = some (.lst xs)) : SqL K H a xs := .inl (.inl h)
theorem SqT.of {K : PySem.W.Frag} (h : H a = some (.tup xs)) : SqT K H a xs := .inl (.inl h)
theorem Inv.list (I : Inv X pins σ H s) (h : SqL X.K H a xs) : ∃ its : List Value, Vals xs its ∧ PlainL s.heap a its.toArray ∧ xs.length ≤ sizeLine := by
  rcases h with h | ⟨o, its, n, hk, hc, hd, hs, hz, r⟩
  · obtain ⟨z, its, n, r, e⟩ := h.ok I.hok
    exact ⟨its, r, ⟨_, n, e, rfl, rfl, rfl⟩, z⟩
  · refine ⟨its.toList, r, ⟨o, n, I.kIn a o hk, hc, hd, by simpa using hs⟩, ?_⟩
    have e := r.length
    simp only [Array.length_toList] at e
    omega
theorem Inv.tuple (I : Inv X pins σ H s) (h : SqT X.K H a xs) : ∃ its : List Value, Vals xs its ∧ IsTup s.heap a its.toArray ∧ xs.length ≤ sizeLine := by
  rcases h with h | ⟨o, its, n, hk, hc, hs, hz, r⟩
  · obtain ⟨z, its, r, p⟩ := h.ok I.hok
    exact ⟨its, r, p, z⟩
  · refine ⟨its.toList, r, ⟨o, I.kIn a o hk, hc, n, by simpa using hs⟩, ?_⟩
    have e := r.length
    simp only [Array.length_toList] at e
    omega
theorem Inv.list_inj (I : Inv X pins σ H s) (h : SqL X.K H a xs) (h' : SqL X.K H a ys) : xs = ys := by
  obtain ⟨its, r, ⟨o, n, e, _, _, d⟩, _⟩ := I.list h
  obtain ⟨its', r', ⟨o', n', e', _, _, d'⟩, _⟩ := I.list h'
  rw [e] at e'; cases e'
  rw [d] at d'
  injection d' with d1 _
  have : its = its' := by simpa using congrArg Array.toList d1
  subst this
  exact r.inj r'
theorem Inv.tuple_inj (I : Inv X pins σ H s) (h : SqT X.K H a xs) (h' : SqT X.K H a ys) : xs = ys := by
  obtain ⟨its, r, ⟨o, e, _, n, d⟩, _⟩ := I.tuple h
  obtain ⟨its', r', ⟨o', e', _, n', d'⟩, _⟩ := I.tuple h'
  rw [e] at e'; cases e'
  rw [d] at d'
  injection d' with d1 _
  have : its = its' := by simpa using congrArg Array.toList d1
  subst this
  exact r.inj r'
end

/-! ### another wish about exceptions -/
abbrev Cx.wish (X : Cx) (E : Value → Shared → Prop) : Cx := { X with xe := E }
/-- no exception leaves -/
abbrev Cx.nox (X : Cx) : Cx := X.wish fun _ _ => False
theorem Cx.Ok.wish {X : Cx} (ok : X.Ok) (E : Value → Shared → Prop) : (X.wish E).Ok :=
  ⟨ok.mod, ok.kind, ok.glob, ok.blt, ok.above, ok.inj, ok.has, ok.cab, ok.hd, ok.frames, ok.stk, ok.exf, ok.bs, ok.bsz, ok.noex, ok.exfs, ok.funs, ok.frf⟩
theorem Cx.Ok.unwish {X : Cx} {E : Value → Shared → Prop} (ok : (X.wish E).Ok) : X.Ok :=
  ⟨ok.mod, ok.kind, ok.glob, ok.blt, ok.above, ok.inj, ok.has, ok.cab, ok.hd, ok.frames, ok.stk, ok.exf, ok.bs, ok.bsz, ok.noex, ok.exfs, ok.funs, ok.frf⟩
section
variable {X : Cx} {pins : List (Addr × Obj)} {σ : St} {H : Hp} {s : Shared} {E : Value → Shared → Prop}
theorem Inv.wish (I : Inv X pins σ H s) (E : Value → Shared → Prop) : Inv (X.wish E) pins σ H s := ⟨I.ok.wish E, I.os, I.bare, I.base, I.loc, I.cell, I.free, I.freeC, I.pin, I.hok, I.len⟩
theorem Inv.unwish (I : Inv (X.wish E) pins σ H s) : Inv X pins σ H s := ⟨I.ok.unwish, I.os, I.bare, I.base, I.loc, I.cell, I.free, I.freeC, I.pin, I.hok, I.len⟩
theorem SP.unwish {D : Ends} {f : Flow} {s' : Shared} (h : SP (X.wish E) pins D f s') : SP X pins D f s' := by
  cases f with
  | next => obtain ⟨σ', H', I, q⟩ := h; exact ⟨σ', H', I.unwish, q⟩
  | brk => obtain ⟨σ', H', I, q⟩ := h; exact ⟨σ', H', I.unwish, q⟩
  | cont => obtain ⟨σ', H', I, q⟩ := h; exact ⟨σ', H', I.unwish, q⟩
  | ret u => obtain ⟨v, σ', H', I, r, q⟩ := h; exact ⟨v, σ', H', I.unwish, r, q⟩
theorem PSs.nox {st : List Stmt} {t : TS} (h : PSs X.nox st t) : PSs X st t := fun pins s σ H D I hw =>
  wpAny_mono (h pins s σ H D (I.wish _) hw) (fun _ _ q => q.unwish) fun _ _ z => False.elim z
end

/-! ### blocks and small statements -/
section
variable {X : Cx} {st : Stmt} {rest : List Stmt} {t u : TS} {e : Expr} {te : TE} {pos : Pos}
def tNext : TS := fun D σ H => D.nx σ H
def tSeq (t u : TS) : TS := fun D σ H => t { D with nx := u D } σ H
theorem pss_nil : PSs X [] tNext := fun _ _ σ H _ I h => wpAny_execs_nil ⟨σ, H, I, h⟩
theorem pss_cons (h1 : PS X st t) (h2 : PSs X rest u) : PSs X (st :: rest) (tSeq t u) := by
  intro pins s σ H D I h
  refine wpAny_execs_cons (thn (h1 pins s σ H { D with nx := u D } I h) fun f s1 q => ?_)
  cases f with
  | next =>
    obtain ⟨σ', H', I', q⟩ := q
    exact h2 pins s1 σ' H' D I' q
  | ret v => exact q
  | brk => exact q
  | cont => exact q
theorem pss_one (h1 : PS X st t) : PSs X [st] t := by
  intro pins s σ H D I h
  refine wpAny_execs_cons (thn (h1 pins s σ H D I h) fun f s1 q => ?_)
  cases f with
  | next => exact wpAny_execs_nil q
  | ret v => exact q
  | brk => exact q
  | cont => exact q
def tBreak : TS := fun D σ H => D.bk σ H
def tCont : TS := fun D σ H => D.ct σ H
/-- in a def's body nothing is shown -/
theorem Inv.quiet {pins : List (Addr × Obj)} {σ : St} {H : Hp} {s : Shared} (I : Inv X pins σ H s) : interactive X.env = false := by simp [interactive, I.ok.kind]
/-- an expression whose value is dropped -/
def tDrop (te : TE) : TS := fun D σ H => te σ H fun _ H1 => D.nx σ H1
theorem ps_expr (he : PE X e te) (hs : swapsWith e none pos.line X.env = pure false := by rfl) : PS X (.Expr e pos) (tDrop te) := by
  intro pins s σ H D I h
  exact wpAny_Expr_any (thn (he pins s σ H _ I h) fun v s1 ⟨x, H1, I1, r1, q1⟩ => ⟨σ, H1, I1, q1⟩) I.quiet hs
def tRet (te : TE) : TS := fun D σ H => te σ H D.rt
theorem ps_ret (he : PE X e te) : PS X (.Return (some e) pos) (tRet te) := by
  intro pins s σ H D I h
  exact wpAny_Return_some (thn (he pins s σ H _ I h) fun v s1 ⟨x, H1, I1, r1, q1⟩ => ⟨x, σ, H1, I1, r1, q1⟩)
def tRetN : TS := fun D _ H => D.rt .non H
def tIfS (c : TT) (t u : TS) : TS := fun D σ H => c σ H fun b H1 => if b = true then t D σ H1 else u D σ H1
theorem ps_if {c : Expr} {a b : List Stmt} {tc : TT} (hc : PT X c tc) (ha : PSs X a t) (hb : PSs X b u) : PS X (.If c a b pos) (tIfS tc t u) := by
  intro pins s σ H D I h
  refine wpAny_If (thn (hc pins s σ H _ I h) fun d s1 ⟨H1, I1, q1⟩ => ?_)
  cases d with
  | true => exact ha pins s1 σ H1 D I1 q1
  | false => exact hb pins s1 σ H1 D I1 q1
/-- code that the proof never comes to -/
def tNever : TS := fun _ _ _ => False
end

/-! ### targets -/
abbrev TG := V → St → Hp → (St → Hp → Prop) → Prop
abbrev TGs := List V → St → Hp → (St → Hp → Prop) → Prop
def PG (X : Cx) (target : Expr) (t : TG) : Prop :=
  ∀ (pins : List (Addr × Obj)) (s : Shared) (σ : St) (H : Hp) (v : V) (u : Value) (Q : St → Hp → Prop), Inv X pins σ H s → RelV v u → t v σ H Q →
    wpAny (model X.prog X.w) X.A (assign target X.env u) (fun _ s' => ∃ σ' H', Inv X pins σ' H' s' ∧ Q σ' H') X.xe s
/-- several targets, one after another -/
def PGs (X : Cx) (ts : List Expr) (t : TGs) : Prop :=
  ∀ (pins : List (Addr × Obj)) (s : Shared) (σ : St) (H : Hp) (vs : List V) (us : List Value) (Q : St → Hp → Prop), Inv X pins σ H s → Vals vs us → t vs σ H Q →
    wpAny (model X.prog X.w) X.A (assignInOrder ((assignEach ts X.env).map (·.2)) us) (fun _ s' => ∃ σ' H', Inv X pins σ' H' s' ∧ Q σ' H') X.xe s
/-- o[i] = v, by values -/
abbrev TSet := V → V → V → Hp → (Hp → Prop) → Prop
def PSet (X : Cx) (t : TSet) : Prop :=
  ∀ (pins : List (Addr × Obj)) (s : Shared) (σ : St) (H : Hp) (o i v : V) (ov iv u : Value) (Q : Hp → Prop), Inv X pins σ H s → RelV o ov → RelV i iv → RelV v u → t o i v H Q →
    wpAny (model X.prog X.w) X.A (setItem ov iv u) (fun _ s' => ∃ H', Inv X pins σ H' s' ∧ Q H') X.xe s
/-- a op= b, by values -/
abbrev TIp := V → V → Hp → VK → Prop
def PIp (X : Cx) (op : Operator) (t : TIp) : Prop :=
  ∀ (pins : List (Addr × Obj)) (s : Shared) (σ : St) (H : Hp) (x y : V) (v u : Value) (Q : VK), Inv X pins σ H s → RelV x v → RelV y u → t x y H Q →
    wpAny (model X.prog X.w) X.A (inplaceOp op v u) (EP X pins σ Q) X.xe s
section
variable {X : Cx} {pos : Pos}
def gName (i : Nat) : TG := fun v σ H Q => Q (σ.set i (some v)) H
theorem pg_name {i : Nat} {x : Str} (hN : X.N.Nodup) (hi : X.N[i]? = some x) (hx : Loc X.env.scope x) (hf : X.fn x = true ∨ X.env.scope.names.lookup x = some .local := by first | exact .inl rfl | exact .inr rfl | assumption) : PG X (.Name x pos) (gName i) := by
  intro pins s σ H v u Q I r h
  exact wpAny_assign_Name (store_ok I hN hi hx r (fun s' I' => ⟨_, H, I', h⟩) hf)
def gNil : TGs := fun vs σ H Q => vs = [] ∧ Q σ H
inductive gConsI (t : TG) (u : TGs) (vs : List V) (σ : St) (H : Hp) (Q : (St → Hp → Prop)) : Prop
  | mk (v : _) (r : _) (h0_ : vs = v :: r) (h1_ : t v σ H fun σ' H' => u r σ' H' Q) : gConsI t u vs σ H Q
def gCons (t : TG) (u : TGs) : TGs := fun vs σ H Q => gConsI t u vs σ H Q
theorem pgs_nil : PGs X [] gNil := by
  intro pins s σ H vs us Q I r h
  obtain ⟨e, h⟩ := h
  subst e
  cases r
  exact assignInOrder_nil ⟨σ, H, I, h⟩
theorem pgs_cons {e : Expr} {es : List Expr} {t : TG} {u : TGs} (h1 : PG X e t) (h2 : PGs X es u)
    (hs : (assignEach (e :: es) X.env).map (·.2) = assign e X.env :: (assignEach es X.env).map (·.2) := by rfl) : PGs X (e :: es) (gCons t u) := by
  intro pins s σ H vs us Q I r h
  obtain ⟨v, vr, e1, h⟩ := h
  subst e1
  cases r with
  | cons r rr =>
    rw [hs]
    refine assignInOrder_cons (thn (h1 pins s σ H _ _ _ I r h) fun _ s1 ⟨σ1, H1, I1, q1⟩ => ?_)
    exact h2 pins s1 σ1 H1 _ _ Q I1 rr q1
/-- (a, b, ..) = a tuple of that length -/
inductive gTupI (K : PySem.W.Frag) (n : Nat) (t : TGs) (v : V) (σ : St) (H : Hp) (Q : (St → Hp → Prop)) : Prop
  | mk (a : _) (xs : _) (h0_ : v = .ref a) (h1_ : SqT K H a xs) (h2_ : xs.length = n) (h3_ : t xs σ H Q) : gTupI K n t v σ H Q
def gTup (K : PySem.W.Frag) (n : Nat) (t : TGs) : TG := fun v σ H Q => gTupI K n t v σ H Q
theorem pg_tup {es : List Expr} {k : Nat} {t : TGs} {n : Nat} (hc : X.calm = true) (h : PGs X es t)
    (hn : (assignEach es X.env).length = n := by rfl) (hst : (assignEach es X.env).findIdx? (·.1) = none := by rfl) : PG X (.Tuple es k pos) (gTup X.K n t) := by
  intro pins s σ H v u Q I r hw
  obtain ⟨a, xs, e1, hq, hl, hw⟩ := hw
  subst e1
  cases r
  obtain ⟨its, rv, ht, hz⟩ := I.tuple hq
  refine assign_Tuple_tuple (I.ok.hd hc) ht (by simp [hn, ← hl, rv.length]) hst fun h' hx => ?_
  have I1 : Inv X pins σ H { s with heap := h' } := I.kept (t' := s.toks) fun b o e => hx b o (Nat.ne_of_lt (Heap.lt_size e)) e
  exact h pins _ σ H xs _ Q I1 (by simpa using rv) hw
/-- o[i] = .. -/
def gSub (to ti : TE) (t : TSet) : TG := fun v σ H Q => to σ H fun o H1 => ti σ H1 fun i H2 => t o i v H2 fun H3 => Q σ H3
/-- target = value -/
def tAsg (te : TE) (g : TG) : TS := fun D σ H => te σ H fun x H1 => g x σ H1 D.nx
theorem ps_asg {tg e : Expr} {te : TE} {g : TG} (he : PE X e te) (hg : PG X tg g) (hs : swapsWithSole [tg] e pos.line X.env = pure false := by rfl) (hw : swappedStores [tg] e X.env = pure none := by rfl)
    (h1 : (assignEach [tg] X.env).map (·.2) = [assign tg X.env] := by rfl) : PS X (.Assign [tg] e pos) (tAsg te g) := by
  intro pins s σ H D I h
  refine wpAny_Assign_stores (thn (he pins s σ H _ I h) fun v s1 ⟨x, H1, I1, r1, q1⟩ => ?_) hs hw
  rw [h1]
  exact thn (hg pins s1 σ H1 x v _ I1 r1 q1) fun _ s2 q => q
/-- name = value -/
theorem ps_set {i : Nat} {x : Str} {e : Expr} {te : TE} {pos' : Pos} (hN : X.N.Nodup) (hi : X.N[i]? = some x) (hx : Loc X.env.scope x) (he : PE X e te) (hs : swapsWith e (some (.Name x pos')) pos.line X.env = pure false := by rfl) (hf : X.fn x = true ∨ X.env.scope.names.lookup x = some .local := by first | exact .inl rfl | exact .inr rfl | assumption) :
    PS X (.Assign [.Name x pos'] e pos) (tAsg te (gName i)) := by
  intro pins s σ H D I h
  refine wpAny_Assign_Name (thn (he pins s σ H _ I h) fun v s1 ⟨y, H1, I1, r1, q1⟩ => ?_) hs
  exact store_ok I1 hN hi hx r1 (fun s2 I2 => ⟨_, H1, I2, q1⟩) hf
/-- a, b = x, y with plain local names: stored from the right; the pair itself is not tracked (the opening rows as in PyProof/Rows/TupAssign.lean:23) -/
def tPar (i j : Nat) (ta : TA) : TS := fun D σ H => ta σ H fun vs H1 => ∃ v w, vs = [v, w] ∧ D.nx ((σ.set i (some v)).set j (some w)) H1
theorem ps_par {i j : Nat} {x y : Str} {a b : Expr} {ta : TA} {px py pt : Pos} {kt k2 pt2} (hc : X.calm = true) (hN : X.N.Nodup) (hi : X.N[i]? = some x) (hj : X.N[j]? = some y) (hij : i ≠ j)
    (hx : X.env.scope.names.lookup x = some .local) (hy : X.env.scope.names.lookup y = some .local) (ha : PA X [a, b] ta)
    (hw : swappedStores [.Tuple [.Name x px, .Name y py] kt pt] (.Tuple [a, b] k2 pt2) X.env = pure (some [x, y]))
    (hs : swapsWithSole [.Tuple [.Name x px, .Name y py] kt pt] (.Tuple [a, b] k2 pt2) pos.line X.env = pure false := by rfl) :
    PS X (.Assign [.Tuple [.Name x px, .Name y py] kt pt] (.Tuple [a, b] k2 pt2) pos) (tPar i j ta) := by
  intro pins s σ H D I h
  rw [exec_Assign_arm]
  refine wpAny_bind (wpAny_standAt ?_)
  rw [hs]
  refine wpAny_bind (wpAny_pure ?_)
  rw [if_neg (by decide)]
  refine wpAny_bind (Tuple_ (thn (ha _ pins s σ H _ I h) fun us s1 ⟨vs, H1, I1, r1, q1⟩ => ?_))
  obtain ⟨v, w, e1, q1⟩ := q1
  subst e1
  obtain ⟨u1, u2, rfl, rv, rw'⟩ : ∃ u1 u2, us = [u1, u2] ∧ RelV v u1 ∧ RelV w u2 := by
    cases r1 with
    | cons p q =>
      cases q with
      | cons p' q' =>
        cases q'
        exact ⟨_, _, rfl, p, p'⟩
  refine wpAny_newObj_type ?_ (by show 2 ≤ sizeLine; decide)
  have I2 : Inv X pins σ H1 { s1 with heap := s1.heap.push { cls := .type "tuple", data := .seq [u1, u2].toArray } } := I1.kept (t' := s1.toks) fun b o e => Heap.get?_push_of_some _ e
  rw [hw]
  refine wpAny_bind (wpAny_pure ?_)
  show wpAny (model X.prog X.w) X.A (do rule "assign.swapped-stores"; let items ← unpackItems (.ref s1.heap.objs.size) 2 none; assignInOrder [fun v => bindName X.env y v, fun v => bindName X.env x v] items.reverse; pure Flow.next) _ _ _
  refine wpAny_bind (wpAny_rule (wpAny_bind (unpackItems_tuple (items := #[u1, u2]) (I.ok.hd hc) (IsTup.new s1.heap _) fun h' hx' => ?_)))
  have I3 := I2.kept (h' := h') (t' := s1.toks) fun b o e => hx' b o (Nat.ne_of_lt (Heap.lt_size e)) e
  show wpAny _ _ (assignInOrder [fun v => bindName X.env y v, fun v => bindName X.env x v] [u2, u1] >>= fun _ => pure Flow.next) _ _ _
  refine wpAny_bind (assignInOrder_cons (wpAny_bindName (store_ok I3 hN hj (.inl hy) rw' (fun s2 I4 => ?_) (.inr hy))))
  refine assignInOrder_cons (wpAny_bindName (store_ok I4 hN hi (.inl hx) rv (fun s3 I5 => assignInOrder_nil (wpAny_pure ?_)) (.inr hx)))
  rw [List.set_comm _ _ (Ne.symm hij)] at I5
  exact ⟨_, H1, I5, q1⟩
/-- name op= e -/
def tAug (i : Nat) (te : TE) (ti : TIp) : TS := fun D σ H => ∃ x, σ[i]? = some (some x) ∧ te σ H fun y H1 => ti x y H1 fun z H2 => D.nx (σ.set i (some z)) H2
/-- o[i] op= e -/
def tAugS (to ti te : TE) (tget : V → V → Hp → VK → Prop) (tip : TIp) (tset : TSet) : TS := fun D σ H => to σ H fun o H1 => ti σ H1 fun i H2 => tget o i H2 fun x H3 => te σ H3 fun y H4 => tip x y H4 fun z H5 => tset o i z H5 fun H6 => D.nx σ H6
/-- o[i], by values -/
def PGet (X : Cx) (t : V → V → Hp → VK → Prop) : Prop :=
  ∀ (pins : List (Addr × Obj)) (s : Shared) (σ : St) (H : Hp) (o i : V) (ov iv : Value) (Q : VK), Inv X pins σ H s → RelV o ov → RelV i iv → t o i H Q →
    wpAny (model X.prog X.w) X.A (getItem ov iv) (EP X pins σ Q) X.xe s
/-- ints -/
def ipI (f : Int → Int → Int) : TIp := fun x y H Q => ∃ i j, x = .int i ∧ y = .int j ∧ Q (.int (f i j)) H
end

/-! ### while -/
section
variable {X : Cx} {pos : Pos}
/-- the invariant W with its measure -/
def tWhile (c : TT) (tb : TS) : TS := fun D σ H => ∃ W : Nat → St → Hp → Prop, (∃ m, W m σ H) ∧ ∀ m σ H, W m σ H →
  c σ H fun b H1 => if b = true then ∃ N : St → Hp → Prop, (∀ σ' H', N σ' H' → ∃ m', m' < m ∧ W m' σ' H') ∧ tb { D with nx := N, ct := N, bk := D.nx } σ H1 else D.nx σ H1
end

/-! ### what a loop or a comprehension walks -/
/-- at turn i: it yields x (the heap may grow), or it stops -/
structure It where
  go : Nat → Hp → Prop
  yld : Nat → Hp → V → Hp → Prop
  stop : Nat → Hp → Prop
/-- the iterator's own objects may turn: they are not the frame's, not pinned, younger than the entry (or a comprehension's own) -/
def FpOk (X : Cx) (pins : List (Addr × Obj)) (H : Hp) (b : Addr) : Prop :=
  H b = none ∧ b ≠ X.env.locals ∧ b ∉ X.fs ∧ (b ∈ X.ex ∨ X.s₀.heap.objs.size ≤ b) ∧ (∀ x c, X.env.cells.lookup x = some c → c ≠ b) ∧ ∀ p ∈ X.pn ++ pins, p.1 ≠ b
theorem Inv.fpOk {X : Cx} {pins : List (Addr × Obj)} {σ : St} {H H' : Hp} {s : Shared} {b : Addr} (I : Inv X pins σ H s) (hb : s.heap.objs.size ≤ b) (hn : H' b = none) : FpOk X pins H' b := by
  refine ⟨hn, Nat.ne_of_gt (Nat.lt_of_lt_of_le I.lt hb), I.nofs hb, .inr (Nat.le_trans I.sz hb), fun x c e z => ?_, fun p hp z => ?_⟩
  · obtain ⟨v, q⟩ := I.cell x c e
    exact absurd (Nat.lt_of_lt_of_le q.lt (by rw [z]; exact hb)) (Nat.lt_irrefl _)
  · exact absurd (Nat.lt_of_lt_of_le (Heap.lt_size (I.pin p hp).1) (by rw [z]; exact hb)) (Nat.lt_irrefl _)
structure Turn (P : Program) (w : World) (K : PySem.W.Frag) (tg : Expr) (J : It) (fp : List Addr) (it : Addr) (tn : Nat → Heap → Prop) : Prop where
  mem : it ∈ fp
  obj : ∀ i h, tn i h → ∀ b ∈ fp, ∃ o, h.get? b = some o ∧ ∀ v, o.data ≠ .cell v
  keep : ∀ i h h', tn i h → (∀ b ∈ fp, ∀ o, h.get? b = some o → h'.get? b = some o) → tn i h'
  item : ∀ (X : Cx), X.prog = P → X.w = w → X.K = K → X.calm = true → ∀ (i : Nat) (pins : List (Addr × Obj)) (s : Shared) (σ : St) (H : Hp) (E : Value → Shared → Prop), Inv X pins σ H s → (∀ b ∈ fp, FpOk X pins H b) → tn i s.heap → J.go i H →
    wpAny (model P w) X.A (pyNext (.ref it)) (fun r s1 => ∃ u, r = some u ∧
      wpAny (model P w) X.A (letOwnedTupleGo tg (.ref it) u) (fun _ s2 => ∃ x H', Inv X pins σ H' s2 ∧ RelV x u ∧ J.yld i H x H' ∧ tn (i + 1) s2.heap ∧ ∀ b ∈ fp, H' b = none) E s1) E s
  done : ∀ (X : Cx), X.prog = P → X.w = w → X.K = K → X.calm = true → ∀ (i : Nat) (pins : List (Addr × Obj)) (s : Shared) (σ : St) (H : Hp) (E : Value → Shared → Prop), Inv X pins σ H s → (∀ b ∈ fp, FpOk X pins H b) → tn i s.heap → J.stop i H →
    wpAny (model P w) X.A (pyNext (.ref it)) (fun r s1 => r = none ∧ Inv X pins σ H s1) E s
  self : ∀ (A : Around) (i : Nat) (s : Shared) (Q : Value → Shared → Prop) (E : Value → Shared → Prop), tn i s.heap → Q (.ref it) s → wpAny (model P w) A (pyIter (.ref it)) Q E s
abbrev TI := St → Hp → (It → Hp → Prop) → Prop
/-- an iterator has come -/
def PIE (X : Cx) (pins : List (Addr × Obj)) (σ : St) (tg : Expr) (R : It → Hp → Prop) (itv : Value) (s2 : Shared) : Prop :=
  ∃ (it : Addr) (fp : List Addr) (tn : Nat → Heap → Prop) (J : It) (H' : Hp), itv = .ref it ∧ Inv X pins σ H' s2 ∧ Turn X.prog X.w X.K tg J fp it tn ∧ tn 0 s2.heap ∧ (∀ b ∈ fp, FpOk X pins H' b) ∧ R J H'
def PI (X : Cx) (tg iter : Expr) (wi : TI) : Prop :=
  ∀ (pins : List (Addr × Obj)) (s : Shared) (σ : St) (H : Hp) (R : It → Hp → Prop), Inv X pins σ H s → wi σ H R →
    wpAny (model X.prog X.w) X.A (eval iter X.env) (fun v s1 => wpAny (model X.prog X.w) X.A (pyIter v) (PIE X pins σ tg R) X.xe s1) X.xe s

/-- the step ahead of the store is nothing for an iterator that keeps no tuple -/
theorem go_of {M : Model} {A : Around} {E : Value → Shared → Prop} {s : Shared} {tg : Expr} {it : Addr} {u : Value} {o : Obj} {n : String} {vs : Array Value} {Q : Unit → Shared → Prop} (ho : s.heap.get? it = some o) (hc : o.cls = .type n) (hd : o.data = .fields vs)
    (hn : ["enumerate", "zip", "dict_itemiterator", "dict_reverseitemiterator", "odict_iterator", "itertools.zip_longest", "itertools.pairwise"].contains n = false) (hQ : Q () s) : wpAny M A (letOwnedTupleGo tg (.ref it) u) Q E s := by
  unfold letOwnedTupleGo
  cases tg <;> first
    | exact wpAny_pure hQ
    | (cases u <;> first
        | exact wpAny_pure hQ
        | (refine wpAny_bind (wpAny_load ho ?_)
           rw [hc, hd]
           show wpAny M A (if (["enumerate", "zip", "dict_itemiterator", "dict_reverseitemiterator", "odict_iterator", "itertools.zip_longest", "itertools.pairwise"].contains n && vs[0]? == some (rawInt _)) = true then _ else _) Q E s
           rw [if_neg (by intro h; rw [hn, Bool.false_and] at h; cases h)]
           exact wpAny_pure hQ))

/-- the list at a, as it stands at each turn (a loop may append to it) -/
def Itl (K : PySem.W.Frag) (a : Addr) : It :=
  ⟨fun i H => ∃ xs x, SqL K H a xs ∧ xs[i]? = some x, fun i H x H' => H' = H ∧ ∀ xs, SqL K H a xs → xs[i]? = some x, fun i H => ∃ xs, SqL K H a xs ∧ xs.length ≤ i⟩
def Itt (K : PySem.W.Frag) (a : Addr) : It :=
  ⟨fun i H => ∃ xs x, SqT K H a xs ∧ xs[i]? = some x, fun i H x H' => H' = H ∧ ∀ xs, SqT K H a xs → xs[i]? = some x, fun i H => ∃ xs, SqT K H a xs ∧ xs.length ≤ i⟩
/-- lo, lo + 1, .. (n of them) -/
def Itr (lo : Int) (n : Nat) : It := ⟨fun i _ => i < n, fun i H x H' => H' = H ∧ x = .int (lo + i), fun i _ => n ≤ i⟩
theorem turn_list {P : Program} {w : World} {K : PySem.W.Frag} {tg : Expr} (a it : Addr) : Turn P w K tg (Itl K a) [it] it (fun i h => h.IsListIter it a i) where
  mem := by simp
  obj := fun i h st b hb => by
    have e : b = it := by simpa using hb
    subst e
    obtain ⟨o, e, c, d⟩ := st
    exact ⟨o, e, fun v z => by rw [d] at z; cases z⟩
  keep := fun i h h' st k => st.at fun o e => k it (by simp) o e
  item := by
    intro X hP hw hK hc i pins s σ H E I hf st hg
    subst hP hw hK
    obtain ⟨xs, x, hq, hx⟩ := hg
    obtain ⟨its, rv, p, hz⟩ := I.list hq
    obtain ⟨u, hu, ru⟩ := rv.get hx
    obtain ⟨f0, f1, f2, f3, f4, f5⟩ := hf it (by simp)
    refine wpAny_pyNext_list_item st p.isList (x := u) (by simpa using hu) fun h' st' sb => ?_
    have I1 : Inv X pins σ H { s with heap := h' } := I.turned (t' := s.toks) (fun b o hb e => (sb.2 b hb).trans e) f0 f1 f3 f4 f5
    obtain ⟨o, e, c, d⟩ := id st'
    exact ⟨u, rfl, go_of (s := { s with heap := h' }) e c d (by decide) ⟨x, H, I1, ru, ⟨rfl, fun ys hy => by rw [I.list_inj hy hq]; exact hx⟩, st', fun b hb => (hf b hb).1⟩⟩
  done := by
    intro X hP hw hK hc i pins s σ H E I hf st hg
    subst hP hw hK
    obtain ⟨xs, hq, hx⟩ := hg
    obtain ⟨its, rv, p, hz⟩ := I.list hq
    obtain ⟨f0, f1, f2, f3, f4, f5⟩ := hf it (by simp)
    have hl := rv.length
    exact wpAny_pyNext_list_end (I.ok.hd hc) st p.isList (by simp; omega) fun h' eb => ⟨rfl, I.turned (t' := s.toks) (fun b o hb e => eb b o hb e) f0 f1 f3 f4 f5⟩
  self := fun _ _ _ _ _ st h => wpAny_pyIter_listiter st h
theorem turn_tuple {P : Program} {w : World} {K : PySem.W.Frag} {tg : Expr} (a it : Addr) : Turn P w K tg (Itt K a) [it] it (fun i h => h.IsTupleIter it a i) where
  mem := by simp
  obj := fun i h st b hb => by
    have e : b = it := by simpa using hb
    subst e
    obtain ⟨o, e, c, d⟩ := st
    exact ⟨o, e, fun v z => by rw [d] at z; cases z⟩
  keep := fun i h h' st k => st.at fun o e => k it (by simp) o e
  item := by
    intro X hP hw hK hc i pins s σ H E I hf st hg
    subst hP hw hK
    obtain ⟨xs, x, hq, hx⟩ := hg
    obtain ⟨its, rv, p, hz⟩ := I.tuple hq
    obtain ⟨u, hu, ru⟩ := rv.get hx
    obtain ⟨f0, f1, f2, f3, f4, f5⟩ := hf it (by simp)
    refine wpAny_pyNext_tuple_item st (show s.heap.IsTuple a its.toArray from p) (x := u) (by simpa using hu) fun h' st' sb => ?_
    have I1 : Inv X pins σ H { s with heap := h' } := I.turned (t' := s.toks) (fun b o hb e => (sb.2 b hb).trans e) f0 f1 f3 f4 f5
    obtain ⟨o, e, c, d⟩ := id st'
    exact ⟨u, rfl, go_of (s := { s with heap := h' }) e c d (by decide) ⟨x, H, I1, ru, ⟨rfl, fun ys hy => by rw [I.tuple_inj hy hq]; exact hx⟩, st', fun b hb => (hf b hb).1⟩⟩
  done := by
    intro X hP hw hK hc i pins s σ H E I hf st hg
    subst hP hw hK
    obtain ⟨xs, hq, hx⟩ := hg
    obtain ⟨its, rv, p, hz⟩ := I.tuple hq
    obtain ⟨f0, f1, f2, f3, f4, f5⟩ := hf it (by simp)
    have hl := rv.length
    exact wpAny_pyNext_tuple_end (I.ok.hd hc) st (show s.heap.IsTuple a its.toArray from p) (by simp; omega) fun h' eb => ⟨rfl, I.turned (t' := s.toks) (fun b o hb e => eb b o hb e) f0 f1 f3 f4 f5⟩
  self := fun _ _ _ _ _ st h => wpAny_pyIter_tupleiter st h
theorem turn_range {P : Program} {w : World} {K : PySem.W.Frag} {tg : Expr} (it : Addr) (lo : Int) (n : Nat) : Turn P w K tg (Itr lo n) [it] it (fun i h => IsRangeIter h it (lo + (i : Nat) * 1) ((n : Int) - (i : Nat)) 1) where
  mem := by simp
  obj := fun i h st b hb => by
    have e : b = it := by simpa using hb
    subst e
    exact ⟨_, st, fun v z => by
      have z' : Data.fields _ = Data.cell v := z
      cases z'⟩
  keep := fun i h h' st k => k it (by simp) _ st
  item := by
    intro X hP hw hK hc i pins s σ H E I hf st hg
    subst hP hw hK
    obtain ⟨f0, f1, f2, f3, f4, f5⟩ := hf it (by simp)
    have W := Walks.range (prog := X.prog) (w := X.w) (I.ok.hd hc) it lo 1 n
    refine W.item i s _ _ hg st fun v h' tk hv st' kk => ?_
    obtain ⟨t, rfl⟩ := hv
    have I1 : Inv X pins σ H { s with heap := h', toks := tk } := I.turned (fun b o hb e => kk b o (by simpa using hb) e) f0 f1 f3 f4 f5
    refine ⟨_, rfl, go_of (s := { s with heap := h', toks := tk }) (n := "range_iterator") st' rfl rfl (by decide) ⟨.int (lo + i), H, I1, ⟨t, ?_⟩, ⟨rfl, rfl⟩, st', fun b hb => (hf b hb).1⟩⟩
    rw [Int.mul_one]
  done := by
    intro X hP hw hK hc i pins s σ H E I hf st hg
    subst hP hw hK
    obtain ⟨f0, f1, f2, f3, f4, f5⟩ := hf it (by simp)
    exact wpAny_pyNext_range_end (I.ok.hd hc) st (by have : n ≤ i := hg; omega) fun h' eb => ⟨rfl, I.turned (t' := s.toks) (fun b o hb e => eb b o hb e) f0 f1 f3 f4 f5⟩
  self := fun _ _ _ _ _ st h => wpAny_pyIter_rangeiter st h
end L2

namespace L2
open PySem PySem.Spec PyProof.Rows
section
variable {X : Cx} {tg : Expr}
inductive iListI (K : PySem.W.Frag) (R : (It → Hp → Prop)) (x : V) (H1 : Hp) : Prop
  | mk (a : _) (h0_ : x = .ref a) (h1_ : (∃ xs, SqL K H1 a xs) ∧ R (Itl K a) H1) : iListI K R x H1
def iList (K : PySem.W.Frag) (tl : TE) : TI := fun σ H R => tl σ H fun x H1 => iListI K R x H1
inductive iTupI (K : PySem.W.Frag) (R : (It → Hp → Prop)) (x : V) (H1 : Hp) : Prop
  | mk (a : _) (h0_ : x = .ref a) (h1_ : (∃ xs, SqT K H1 a xs) ∧ R (Itt K a) H1) : iTupI K R x H1
def iTup (K : PySem.W.Frag) (tl : TE) : TI := fun σ H R => tl σ H fun x H1 => iTupI K R x H1
theorem pi_list {l : Expr} {tl : TE} (hl : PE X l tl) : PI X tg l (iList X.K tl) := by
  intro pins s σ H R I h
  refine thn (hl pins s σ H _ I h) fun v s1 ⟨x, H1, I1, r1, q1⟩ => ?_
  obtain ⟨a, e, ⟨xs, hq⟩, q⟩ := q1
  subst e
  cases r1
  obtain ⟨its, rv, p, hz⟩ := I1.list hq
  refine wpAny_pyIter_list p.isList ?_
  refine ⟨s1.heap.objs.size, [s1.heap.objs.size], _, _, H1, rfl, I1.kept (t' := s1.toks) fun b o e => Heap.get?_push_of_some _ e, turn_list a _, ⟨_, Heap.get?_push_size _ rfl, rfl, rfl⟩, fun b hb => ?_, q⟩
  have e : b = s1.heap.objs.size := by simpa using hb
  subst e
  exact I1.fpOk (Nat.le_refl _) (I1.hok.fresh (Nat.le_refl _))
theorem pi_tup {l : Expr} {tl : TE} (hl : PE X l tl) : PI X tg l (iTup X.K tl) := by
  intro pins s σ H R I h
  refine thn (hl pins s σ H _ I h) fun v s1 ⟨x, H1, I1, r1, q1⟩ => ?_
  obtain ⟨a, e, ⟨xs, hq⟩, q⟩ := q1
  subst e
  cases r1
  obtain ⟨its, rv, p, hz⟩ := I1.tuple hq
  refine wpAny_pyIter_tuple (show s1.heap.IsTuple a its.toArray from p) ?_
  refine ⟨s1.heap.objs.size, [s1.heap.objs.size], _, _, H1, rfl, I1.kept (t' := s1.toks) fun b o e => Heap.get?_push_of_some _ e, turn_tuple a _, ⟨_, Heap.get?_push_size _ rfl, rfl, rfl⟩, fun b hb => ?_, q⟩
  have e : b = s1.heap.objs.size := by simpa using hb
  subst e
  exact I1.fpOk (Nat.le_refl _) (I1.hok.fresh (Nat.le_refl _))
/-- a range object just made, walked -/
theorem range_it {pins : List (Addr × Obj)} {σ : St} {H : Hp} {s : Shared} {R : It → Hp → Prop} {E : Value → Shared → Prop} {lo hi : Int} {t u v : Tok} {tk : Nat} (I : Inv X pins σ H s) (h1 : -(2 ^ 62) ≤ lo) (h2 : lo < 2 ^ 62) (h3 : -(2 ^ 62) ≤ hi) (h4 : hi < 2 ^ 62)
    (q : R (Itr lo (hi - lo).toNat) H) : wpAny (model X.prog X.w) X.A (pyIter (.ref s.heap.objs.size)) (PIE X pins σ tg R) E { s with heap := s.heap.push { cls := .type "range", data := .fields #[.int lo t, .int hi u, .int 1 v] }, toks := tk } := by
  refine wpAny_pyIter_range (IsRange.new ..) (small_one h1 h2 h3 h4) ?_
  have I1 : Inv X pins σ H { s with heap := s.heap.push { cls := .type "range", data := .fields #[.int lo t, .int hi u, .int 1 v] }, toks := tk } := I.kept fun b o e => Heap.get?_push_of_some _ e
  refine ⟨(s.heap.push { cls := .type "range", data := .fields #[.int lo t, .int hi u, .int 1 v] }).objs.size, [(s.heap.push { cls := .type "range", data := .fields #[.int lo t, .int hi u, .int 1 v] }).objs.size], _, _, H, rfl,
    I1.kept (t' := tk) fun b o e => Heap.get?_push_of_some _ e, turn_range _ lo (hi - lo).toNat, ?_, fun b hb => ?_, q⟩
  · have e1 : lo + ((0 : Nat) : Int) * 1 = lo := by simp
    have e2 : (((hi - lo).toNat : Nat) : Int) - ((0 : Nat) : Int) = Builtin.Range.rangeSize lo hi 1 := by rw [rangeSize_one]; split <;> omega
    show IsRangeIter _ _ (lo + ((0 : Nat) : Int) * 1) ((((hi - lo).toNat : Nat) : Int) - ((0 : Nat) : Int)) 1
    rw [e1, e2]
    exact Heap.get?_push_size _ rfl
  · have e : b = (s.heap.push { cls := .type "range", data := .fields #[.int lo t, .int hi u, .int 1 v] }).objs.size := by simpa using hb
    subst e
    exact I1.fpOk (Nat.le_refl _) (I1.hok.fresh (Nat.le_refl _))
inductive iRng1I (R : (It → Hp → Prop)) (vs : List V) (H1 : Hp) : Prop
  | mk (j : Int) (h0_ : vs = [.int j]) (h1_ : -(2 ^ 62) ≤ j ∧ j < 2 ^ 62 ∧ R (Itr 0 j.toNat) H1) : iRng1I R vs H1
def iRng1 (ta : TA) : TI := fun σ H R => ta σ H fun vs H1 => iRng1I R vs H1
inductive iRng2I (R : (It → Hp → Prop)) (vs : List V) (H1 : Hp) : Prop
  | mk (i j : Int) (h0_ : vs = [.int i, .int j]) (h1_ : (-(2 ^ 62) ≤ i ∧ i < 2 ^ 62 ∧ -(2 ^ 62) ≤ j ∧ j < 2 ^ 62)) (h2_ : R (Itr i (j - i).toNat) H1) : iRng2I R vs H1
def iRng2 (ta : TA) : TI := fun σ H R => ta σ H fun vs H1 => iRng2I R vs H1
theorem pi_range1 {a : Expr} {ta : TA} {p pos : Pos} (hg : Gl X "range") (hm : X.mg "range" = none) (ha : PA X [a] ta) (hs : starEach [a] X.env = [(false, eval a X.env)] := by rfl) : PI X tg (.Call (.Name "range" p) [a] [] pos) (iRng1 ta) := by
  intro pins s σ H R I h
  refine Call_ (ld_blt I hg hm boot_range (PyProof.Rows.callWith_type1 (thn (ha pos pins s σ H _ I h) fun us s1 ⟨vs, H1, I1, r1, q1⟩ => ?_) hs rfl))
  obtain ⟨j, e, q1, q2, q⟩ := q1
  subst e
  cases r1 with
  | cons r rr =>
    cases rr
    obtain ⟨t, rfl⟩ := r
    exact call_range_1 (range_it I1 (by omega) (by omega) q1 q2 (by simpa using q))
/-! ### for -/
/-- W: the invariant by the turn and a measure; N: what the body is to reach -/
def tFor (wi : TI) (g : TG) (tb : TS) : TS := fun D σ H => wi σ H fun J H1 => ∃ W : Nat → Nat → St → Hp → Prop, (∃ m, W 0 m σ H1) ∧ ∀ i m σ H, W i m σ H →
  (J.stop i H ∧ D.nx σ H) ∨ (J.go i H ∧ ∃ N : St → Hp → Prop, (∀ σ' H', N σ' H' → ∃ m', m' < m ∧ W (i + 1) m' σ' H') ∧ ∀ x H', J.yld i H x H' → g x σ H' fun σ2 H2 => tb { D with nx := N, ct := N, bk := D.nx } σ2 H2)
/-- the records at fp as they stand -/
def pinsAt (fp : List Addr) (h : Heap) : List (Addr × Obj) := fp.filterMap fun b => (h.get? b).map fun o => (b, o)
theorem mem_pinsAt {fp : List Addr} {h : Heap} {b : Addr} {o : Obj} (hb : b ∈ fp) (e : h.get? b = some o) : (b, o) ∈ pinsAt fp h := List.mem_filterMap.mpr ⟨b, hb, by rw [e]; rfl⟩
theorem of_pinsAt {fp : List Addr} {h : Heap} {p : Addr × Obj} (hp : p ∈ pinsAt fp h) : p.1 ∈ fp ∧ h.get? p.1 = some p.2 := by
  obtain ⟨b, hb, e⟩ := List.mem_filterMap.mp hp
  cases q : h.get? b with
  | none => rw [q] at e; cases e
  | some o =>
    rw [q] at e
    have e' : (b, o) = p := Option.some.inj e
    subst e'
    exact ⟨hb, q⟩
theorem Inv.pinned {pins : List (Addr × Obj)} {σ : St} {H : Hp} {s : Shared} {fp : List Addr} (I : Inv X pins σ H s) (hf : ∀ b ∈ fp, FpOk X pins H b) (ho : ∀ b ∈ fp, ∃ o, s.heap.get? b = some o ∧ ∀ v, o.data ≠ .cell v) : Inv X (pins ++ pinsAt fp s.heap) σ H s :=
  I.pins_of fun p hp => (List.mem_append.mp hp).elim (fun z => I.pin p (List.mem_append_right _ z)) fun z => by
    obtain ⟨hb, e⟩ := of_pinsAt z
    obtain ⟨f0, f1, f2, _⟩ := hf p.1 hb
    obtain ⟨o, e', d⟩ := ho p.1 hb
    rw [e] at e'; cases e'
    exact ⟨e, f0, f1, f2, d⟩
theorem Inv.unpinned {pins pl : List (Addr × Obj)} {σ : St} {H : Hp} {s : Shared} (I : Inv X (pins ++ pl) σ H s) : Inv X pins σ H s := I.pins_of fun p hp => I.pin p (List.mem_append_right _ (List.mem_append_left _ hp))
theorem ps_for {iter : Expr} {body : List Stmt} {wi : TI} {g : TG} {tb : TS} {pos : Pos} (hp : PassesOwn (model X.prog X.w) X.A X.env X.xe) (hc : X.calm = true) (hi : PI X tg iter wi) (hg : PG X tg g) (hb : PSs X body tb)
    (hs : ∀ x, foldedSetIterable iter X.env x = pure x := by intro _; rfl) : PS X (.For tg iter body [] pos) (tFor wi g tb) := by
  intro pins s σ H D I h
  refine wpAny_For (thn (hi pins s σ H _ I h) fun v s1 h1 => thn h1 fun itv s2 h2 => ?_) hs
  obtain ⟨it, fp, tn, J, H2, e, I2, T, st2, f2, W, ⟨m0, w0⟩, turn⟩ := h2
  subst e
  -- what stays true of the iterator's objects through the loop
  have stat : ∀ {H' : Hp}, (∀ b ∈ fp, H' b = none) → ∀ b ∈ fp, FpOk X pins H' b := fun hn b hb => ⟨hn b hb, (f2 b hb).2⟩
  refine codeAny_forLoop_any (fun n s' => ∃ i σ' H', Inv X pins σ' H' s' ∧ tn i s'.heap ∧ (∀ b ∈ fp, H' b = none) ∧ W i n σ' H') ?_ m0 ⟨0, σ, H2, I2, st2, fun b hb => (f2 b hb).1, w0⟩
  rintro n s3 ⟨i, σ3, H3, I3, st3, fr3, w3⟩
  rcases turn i n σ3 H3 w3 with ⟨stop, qn⟩ | ⟨go, N, hN, step⟩
  · refine wpAny_passesOwn hp (thn (T.done X rfl rfl rfl hc i pins s3 σ3 H3 X.xe I3 (stat fr3) st3 stop) fun r s4 ⟨hr, I4⟩ => ?_)
    subst hr
    exact wpAny_execs_nil ⟨σ3, H3, I4, qn⟩
  · refine wpAny_passesOwn hp (thn (T.item X rfl rfl rfl hc i pins s3 σ3 H3 X.xe I3 (stat fr3) st3 go) fun r s4 ⟨u, hr, h4⟩ => ?_)
    subst hr
    refine wpAny_passesOwn hp (thn h4 fun _ s5 ⟨x, H5, I5, r5, y5, st5, fr5⟩ => ?_)
    have I5' := I5.pinned (stat fr5) (T.obj _ _ st5)
    refine wpAny_passesOwn hp (thn (hg _ s5 σ3 H5 x u _ I5' r5 (step x H5 y5)) fun _ s6 ⟨σ6, H6, I6, q6⟩ => ?_)
    refine wpAny_passesOwn hp (thn (hb _ s6 σ6 H6 _ I6 q6) fun f s7 q7 => ?_)
    have again : ∀ {σ7 : St} {H7 : Hp}, Inv X (pins ++ pinsAt fp s5.heap) σ7 H7 s7 → N σ7 H7 → ∃ m, m < n ∧ ∃ i σ' H', Inv X pins σ' H' s7 ∧ tn i s7.heap ∧ (∀ b ∈ fp, H' b = none) ∧ W i m σ' H' := fun {σ7 H7} I7 n7 => by
      obtain ⟨m', hm, w7⟩ := hN σ7 H7 n7
      refine ⟨m', hm, i + 1, σ7, H7, I7.unpinned, T.keep _ _ _ st5 fun b hb o e => (I7.pin (b, o) (List.mem_append_right _ (List.mem_append_right _ (mem_pinsAt hb e)))).1, fun b hb => ?_, w7⟩
      obtain ⟨o, e, d⟩ := T.obj _ _ st5 b hb
      exact (I7.pin (b, o) (List.mem_append_right _ (List.mem_append_right _ (mem_pinsAt hb e)))).2.1
    cases f with
    | next => obtain ⟨σ7, H7, I7, n7⟩ := q7; exact again I7 n7
    | cont => obtain ⟨σ7, H7, I7, n7⟩ := q7; exact again I7 n7
    | brk => obtain ⟨σ7, H7, I7, q7⟩ := q7; exact ⟨σ7, H7, I7.unpinned, q7⟩
    | ret v => obtain ⟨x7, σ7, H7, I7, r7, q7⟩ := q7; exact ⟨x7, σ7, H7, I7.unpinned, r7, q7⟩
end

/-! ### the forms one uses -/
/-- over a list that the body leaves as it is -/
theorem for_list {K : PySem.W.Frag} {a : Addr} {xs : List V} {g : TG} {tb : TS} {D : Ends} {σ : St} {H : Hp} (Pv : Nat → St → Hp → Prop) (h0 : Pv 0 σ H) (hl : ∀ i σ H, i ≤ xs.length → Pv i σ H → SqL K H a xs)
    (hs : ∀ i x σ H, xs[i]? = some x → Pv i σ H → g x σ H fun σ2 H2 => tb { D with nx := Pv (i + 1), ct := Pv (i + 1), bk := D.nx } σ2 H2) (hd : ∀ σ H, Pv xs.length σ H → D.nx σ H) :
    ∃ W : Nat → Nat → St → Hp → Prop, (∃ m, W 0 m σ H) ∧ ∀ i m σ H, W i m σ H →
      ((Itl K a).stop i H ∧ D.nx σ H) ∨ ((Itl K a).go i H ∧ ∃ N : St → Hp → Prop, (∀ σ' H', N σ' H' → ∃ m', m' < m ∧ W (i + 1) m' σ' H') ∧ ∀ x H', (Itl K a).yld i H x H' → g x σ H' fun σ2 H2 => tb { D with nx := N, ct := N, bk := D.nx } σ2 H2) := by
  refine ⟨fun i m σ H => m = xs.length - i ∧ i ≤ xs.length ∧ Pv i σ H, ⟨xs.length, by simp, Nat.zero_le _, h0⟩, ?_⟩
  rintro i m σ H ⟨rfl, hi, p⟩
  have q := hl i σ H hi p
  by_cases hlt : i < xs.length
  · refine .inr ⟨⟨xs, xs[i], q, by simp [hlt]⟩, Pv (i + 1), fun σ' H' p' => ⟨xs.length - (i + 1), by omega, rfl, hlt, p'⟩, fun x H' y => ?_⟩
    obtain ⟨e, y⟩ := y
    subst e
    exact hs i x σ _ (y xs q) p
  · have e : i = xs.length := by omega
    subst e
    exact .inl ⟨⟨xs, q, Nat.le_refl _⟩, hd σ H p⟩
theorem for_tup {K : PySem.W.Frag} {a : Addr} {xs : List V} {g : TG} {tb : TS} {D : Ends} {σ : St} {H : Hp} (Pv : Nat → St → Hp → Prop) (h0 : Pv 0 σ H) (hl : ∀ i σ H, i ≤ xs.length → Pv i σ H → SqT K H a xs)
    (hs : ∀ i x σ H, xs[i]? = some x → Pv i σ H → g x σ H fun σ2 H2 => tb { D with nx := Pv (i + 1), ct := Pv (i + 1), bk := D.nx } σ2 H2) (hd : ∀ σ H, Pv xs.length σ H → D.nx σ H) :
    ∃ W : Nat → Nat → St → Hp → Prop, (∃ m, W 0 m σ H) ∧ ∀ i m σ H, W i m σ H →
      ((Itt K a).stop i H ∧ D.nx σ H) ∨ ((Itt K a).go i H ∧ ∃ N : St → Hp → Prop, (∀ σ' H', N σ' H' → ∃ m', m' < m ∧ W (i + 1) m' σ' H') ∧ ∀ x H', (Itt K a).yld i H x H' → g x σ H' fun σ2 H2 => tb { D with nx := N, ct := N, bk := D.nx } σ2 H2) := by
  refine ⟨fun i m σ H => m = xs.length - i ∧ i ≤ xs.length ∧ Pv i σ H, ⟨xs.length, by simp, Nat.zero_le _, h0⟩, ?_⟩
  rintro i m σ H ⟨rfl, hi, p⟩
  have q := hl i σ H hi p
  by_cases hlt : i < xs.length
  · refine .inr ⟨⟨xs, xs[i], q, by simp [hlt]⟩, Pv (i + 1), fun σ' H' p' => ⟨xs.length - (i + 1), by omega, rfl, hlt, p'⟩, fun x H' y => ?_⟩
    obtain ⟨e, y⟩ := y
    subst e
    exact hs i x σ _ (y xs q) p
  · have e : i = xs.length := by omega
    subst e
    exact .inl ⟨⟨xs, q, Nat.le_refl _⟩, hd σ H p⟩
theorem for_range {lo : Int} {n : Nat} {g : TG} {tb : TS} {D : Ends} {σ : St} {H : Hp} (Pv : Nat → St → Hp → Prop) (h0 : Pv 0 σ H)
    (hs : ∀ i σ H, i < n → Pv i σ H → g (.int (lo + i)) σ H fun σ2 H2 => tb { D with nx := Pv (i + 1), ct := Pv (i + 1), bk := D.nx } σ2 H2) (hd : ∀ σ H, Pv n σ H → D.nx σ H) :
    ∃ W : Nat → Nat → St → Hp → Prop, (∃ m, W 0 m σ H) ∧ ∀ i m σ H, W i m σ H →
      ((Itr lo n).stop i H ∧ D.nx σ H) ∨ ((Itr lo n).go i H ∧ ∃ N : St → Hp → Prop, (∀ σ' H', N σ' H' → ∃ m', m' < m ∧ W (i + 1) m' σ' H') ∧ ∀ x H', (Itr lo n).yld i H x H' → g x σ H' fun σ2 H2 => tb { D with nx := N, ct := N, bk := D.nx } σ2 H2) := by
  refine ⟨fun i m σ H => m = n - i ∧ i ≤ n ∧ Pv i σ H, ⟨n, by simp, Nat.zero_le _, h0⟩, ?_⟩
  rintro i m σ H ⟨rfl, hi, p⟩
  by_cases hlt : i < n
  · refine .inr ⟨hlt, Pv (i + 1), fun σ' H' p' => ⟨n - (i + 1), by omega, rfl, hlt, p'⟩, fun x H' y => ?_⟩
    obtain ⟨e, y⟩ := y
    subst e y
    exact hs i σ _ hlt p
  · have e : i = n := by omega
    subst e
    exact .inl ⟨Nat.le_refl _, hd σ H p⟩
end L2

namespace L2
open PySem PySem.Spec PyProof.Rows

abbrev R2 := V → V → Hp → VK → Prop
/-- a two-place operation on values: f is binaryOp op, inplaceOp op or compareOp op -/
def OpR (X : Cx) (f : Value → Value → Sem Value) (r : R2) : Prop :=
  ∀ (pins : List (Addr × Obj)) (s : Shared) (σ : St) (H : Hp) (x y : V) (v u : Value) (Q : VK), Inv X pins σ H s → RelV x v → RelV y u → r x y H Q →
    wpAny (model X.prog X.w) X.A (f v u) (EP X pins σ Q) X.xe s
/-- a one-place operation -/
def UnR (X : Cx) (f : Value → Sem Value) (r : V → Hp → VK → Prop) : Prop :=
  ∀ (pins : List (Addr × Obj)) (s : Shared) (σ : St) (H : Hp) (x : V) (v : Value) (Q : VK), Inv X pins σ H s → RelV x v → r x H Q →
    wpAny (model X.prog X.w) X.A (f v) (EP X pins σ Q) X.xe s
/-- a call of a value that is known (a builtin, a type) with values -/
def CallR (X : Cx) (f : Value) (r : List V → Hp → VK → Prop) : Prop :=
  ∀ (pins : List (Addr × Obj)) (s : Shared) (σ : St) (H : Hp) (xs : List V) (us : List Value) (Q : VK), Inv X pins σ H s → Vals xs us → r xs H Q →
    wpAny (model X.prog X.w) X.A (call f us) (EP X pins σ Q) X.xe s
/-- a value's truth -/
def TruR (X : Cx) (r : V → Hp → (Bool → Hp → Prop) → Prop) : Prop :=
  ∀ (pins : List (Addr × Obj)) (s : Shared) (σ : St) (H : Hp) (x : V) (v : Value) (Q : Bool → Hp → Prop), Inv X pins σ H s → RelV x v → r x H Q →
    wpAny (model X.prog X.w) X.A (truthy v) (TP X pins σ Q) X.xe s

def tOp (r : R2) (ta tb : TE) : TE := fun σ H Q => ta σ H fun x H1 => tb σ H1 fun y H2 => r x y H2 Q
def tUn (r : V → Hp → VK → Prop) (ta : TE) : TE := fun σ H Q => ta σ H fun x H1 => r x H1 Q
/-- ints in, under C, and a value out -/
inductive rII (C : Int → Int → Prop) (g : Int → Int → V) (x : V) (y : V) (H : Hp) (Q : VK) : Prop
  | mk (i : _) (j : _) (h0_ : x = .int i) (h1_ : y = .int j) (h2_ : C i j ∧ Q (g i j) H) : rII C g x y H Q
def rI (C : Int → Int → Prop) (g : Int → Int → V) : R2 := fun x y H Q => rII C g x y H Q
inductive rI0I (g : Int → Int → V) (x : V) (y : V) (H : Hp) (Q : VK) : Prop
  | mk (i : _) (j : _) (h0_ : x = .int i) (h1_ : y = .int j) (h2_ : Q (g i j) H) : rI0I g x y H Q
def rI0 (g : Int → Int → V) : R2 := fun x y H Q => rI0I g x y H Q
def rU (g : Int → V) : V → Hp → VK → Prop := fun x H Q => ∃ i, x = .int i ∧ Q (g i) H

section
variable {X : Cx} {a b c : Expr} {ta tb tc : TE} {pos : Pos}

theorem binT (ha : PE X a ta) (hb : PE X b tb) {pins : List (Addr × Obj)} {s : Shared} {σ : St} {H : Hp} {R : V → V → Hp → Prop} (I : Inv X pins σ H s)
    (h : ta σ H fun x H1 => tb σ H1 fun y H2 => R x y H2) {Q : Value → Shared → Prop} {f : Value → Value → Sem Value}
    (hf : ∀ v u s2 x y H2, Inv X pins σ H2 s2 → RelV x v → RelV y u → R x y H2 → wpAny (model X.prog X.w) X.A (f v u) Q X.xe s2) :
    wpAny (model X.prog X.w) X.A (eval a X.env) (fun v s₁ => wpAny (model X.prog X.w) X.A (eval b X.env) (fun u s₂ => wpAny (model X.prog X.w) X.A (f v u) Q X.xe s₂) X.xe s₁) X.xe s := by
  refine thn (ha pins s σ H _ I h) fun v s1 ⟨x, H1, I1, r1, q1⟩ => ?_
  refine thn (hb pins s1 σ H1 _ I1 q1) fun u s2 ⟨y, H2, I2, r2, q2⟩ => ?_
  exact hf v u s2 x y H2 I2 r1 r2 q2

theorem pe_op {op : Operator} {r : R2} (ho : OpR X (binaryOp op) r) (ha : PE X a ta) (hb : PE X b tb) : PE X (.BinOp a op b pos) (tOp r ta tb) := by
  intro pins s σ H Q I h
  exact wpAny_BinOp (binT ha hb I h fun v u s2 x y H2 I2 rx ry q => ho pins s2 σ H2 x y v u Q I2 rx ry q)
theorem pe_un {op : UnaryOp} {r : V → Hp → VK → Prop} (ho : UnR X (unaryOp op) r) (ha : PE X a ta) : PE X (.UnaryOp op a pos) (tUn r ta) := by
  intro pins s σ H Q I h
  exact UnaryOp_ (thn (ha pins s σ H _ I h) fun v s1 ⟨x, H1, I1, r1, q1⟩ => ho pins s1 σ H1 x v Q I1 r1 q1)
/-! ### ints -/
theorem opI {f : Value → Value → Sem Value} {C : Int → Int → Prop} {g : Int → Int → Int}
    (rule : ∀ (i j : Int) (t u : Tok) (s : Shared) (Q : Value → Shared → Prop) (E : Value → Shared → Prop), C i j → Q (.int (g i j) s.toks) { s with toks := s.toks + 1 } → wpAny (model X.prog X.w) X.A (f (.int i t) (.int j u)) Q E s) :
    OpR X f (rI C fun i j => .int (g i j)) := by
  intro pins s σ H x y v u Q I rx ry h
  obtain ⟨i, j, rfl, rfl, hc, q⟩ := h
  obtain ⟨t, rfl⟩ := rx
  obtain ⟨t', rfl⟩ := ry
  exact rule i j t t' s _ _ hc ⟨.int (g i j), H, I.tok _, ⟨_, rfl⟩, q⟩
theorem opI0 {f : Value → Value → Sem Value} {g : Int → Int → Int}
    (rule : ∀ (i j : Int) (t u : Tok) (s : Shared) (Q : Value → Shared → Prop) (E : Value → Shared → Prop), Q (.int (g i j) s.toks) { s with toks := s.toks + 1 } → wpAny (model X.prog X.w) X.A (f (.int i t) (.int j u)) Q E s) :
    OpR X f (rI0 fun i j => .int (g i j)) := by
  intro pins s σ H x y v u Q I rx ry h
  obtain ⟨i, j, rfl, rfl, q⟩ := h
  obtain ⟨t, rfl⟩ := rx
  obtain ⟨t', rfl⟩ := ry
  exact rule i j t t' s _ _ ⟨.int (g i j), H, I.tok _, ⟨_, rfl⟩, q⟩
theorem opB0 {f : Value → Value → Sem Value} {g : Int → Int → Bool}
    (rule : ∀ (i j : Int) (t u : Tok) (s : Shared) (Q : Value → Shared → Prop) (E : Value → Shared → Prop), Q (.bool (g i j)) s → wpAny (model X.prog X.w) X.A (f (.int i t) (.int j u)) Q E s) :
    OpR X f (rI0 fun i j => .bl (g i j)) := by
  intro pins s σ H x y v u Q I rx ry h
  obtain ⟨i, j, rfl, rfl, q⟩ := h
  obtain ⟨t, rfl⟩ := rx
  obtain ⟨t', rfl⟩ := ry
  exact rule i j t t' s _ _ ⟨.bl (g i j), H, I, rfl, q⟩

def CDiv (i j : Int) : Prop := 0 < j ∧ j < 1073741824
def CDivN (i j : Int) : Prop := j ≠ 0 ∧ j.natAbs < 1073741824
def CPow (i j : Int) : Prop := 0 ≤ j ∧ j ≤ 1000000 ∧ i.natAbs < 2 ^ 64
def CMul (i j : Int) : Prop := (-(2 ^ 64) < i ∧ i < 2 ^ 64) ∨ (-(2 ^ 64) < j ∧ j < 2 ^ 64)
theorem CMul.ok {i j : Int} (h : CMul i j) : IntMulOk i j := by
  rcases h with ⟨h1, h2⟩ | ⟨h1, h2⟩
  · exact .of_left (intBits_le_64 h1 h2)
  · exact .of_right (intBits_le_64 h1 h2)
theorem op_add : OpR X (binaryOp .Add) (rI0 fun i j => .int (i + j)) := opI0 fun _ _ _ _ _ _ _ q => add_int q
theorem op_sub : OpR X (binaryOp .Sub) (rI0 fun i j => .int (i - j)) := opI0 fun _ _ _ _ _ _ _ q => sub_int q
theorem op_mul : OpR X (binaryOp .Mult) (rI CMul fun i j => .int (i * j)) := opI fun _ _ _ _ _ _ _ hc q => mul_int q hc.ok
/-- // by a positive divisor -/
theorem op_fdiv : OpR X (binaryOp .FloorDiv) (rI CDiv fun i j => .int (i / j)) := opI fun i j _ _ _ _ _ hc q => by
  have h1 : (0 : Int) < j := hc.1
  have h2 : j < 1073741824 := hc.2
  exact floordiv_int (by omega) (by rw [Int.fdiv_eq_ediv_of_nonneg i (by omega)]; exact q) (.inl (PyProof.noPylong_small (by omega)))
/-- % by a positive divisor of any size -/
theorem op_mod : OpR X (binaryOp .Mod) (rI (fun _ j => 0 < j) fun i j => .int (i % j)) := opI fun i j _ _ _ _ _ hc q => by
  have h1 : (0 : Int) < j := hc
  exact mod_int' (by omega) (by rw [Int.fmod_eq_emod_of_nonneg i (by omega)]; exact q)
theorem unI {f : Value → Sem Value} {g : Int → Int}
    (rule : ∀ (i : Int) (t : Tok) (s : Shared) (Q : Value → Shared → Prop) (E : Value → Shared → Prop), Q (.int (g i) s.toks) { s with toks := s.toks + 1 } → wpAny (model X.prog X.w) X.A (f (.int i t)) Q E s) :
    UnR X f (rU fun i => .int (g i)) := by
  intro pins s σ H x v Q I rx h
  obtain ⟨i, rfl, q⟩ := h
  obtain ⟨t, rfl⟩ := rx
  exact rule i t s _ _ ⟨.int (g i), H, I.tok _, ⟨_, rfl⟩, q⟩
theorem un_neg : UnR X (unaryOp .USub) (rU fun i => .int (-i)) := unI fun _ _ _ _ _ q => neg_int q
/-! ### bools among ints: n += (a < b) -/
end

/-! ### comparisons -/
/-- the scalars that == tells apart as data does -/
def scal : V → V → Bool
  | .non, .non => true | .non, .int _ => true | .int _, .non => true | .non, .bl _ => true | .bl _, .non => true | .non, .str _ => true | .str _, .non => true
  | .int _, .int _ => true | .bl _, .bl _ => true | .str _, .str _ => true | .byt _, .byt _ => true
  | .int _, .str _ => true | .str _, .int _ => true | .bl _, .str _ => true | .str _, .bl _ => true
  | _, _ => false
def rEq : R2 := fun x y H Q => scal x y = true ∧ Q (.bl (decide (x = y))) H
def rNe : R2 := fun x y H Q => scal x y = true ∧ Q (.bl (!decide (x = y))) H

theorem dec_int {i j : Int} : decide (V.int i = V.int j) = (i == j) := by
  rw [Bool.eq_iff_iff]
  simp
theorem dec_bl {i j : Bool} : decide (V.bl i = V.bl j) = (i == j) := by
  rw [Bool.eq_iff_iff]
  simp
theorem dec_str {i j : Str} : decide (V.str i = V.str j) = (i == j) := by
  rw [Bool.eq_iff_iff]
  simp
theorem dec_byt {i j : Array UInt8} : decide (V.byt i = V.byt j) = (i.toList == j.toList) := by
  rw [Bool.eq_iff_iff]
  cases i
  cases j
  simp

section
variable {X : Cx} {a b c : Expr} {ta tb tc : TE} {pos : Pos}
theorem fin_bl {pins : List (Addr × Obj)} {σ : St} {H : Hp} {s : Shared} {Q : VK} {k k' : Bool} (I : Inv X pins σ H s) (q : Q (.bl k) H) (e : k = k') : EP X pins σ Q (.bool k') s := by
  subst e
  exact ⟨.bl k, H, I, rfl, q⟩
theorem op_eq : OpR X (compareOp .Eq) rEq := by
  intro pins s σ H x y v u Q I rx ry h
  obtain ⟨hs, q⟩ := h
  cases x with
  | non =>
    cases rx
    cases y with
    | non => cases ry; exact PySem.EqNone.eq_none_none (fin_bl I q (by simp))
    | bl j => cases ry; exact PySem.EqNone.eq_none_bool (fin_bl I q (by simp))
    | int j => obtain ⟨t', rfl⟩ := ry; exact PySem.EqNone.eq_none_int (fin_bl I q (by simp))
    | str j => obtain ⟨t', rfl⟩ := ry; exact PySem.EqNone.eq_none_str (fin_bl I q (by simp))
    | _ => exact absurd (show false = true from hs) Bool.false_ne_true
  | bl i =>
    cases rx
    cases y with
    | non => cases ry; exact PySem.EqNone.eq_bool_none (fin_bl I q (by simp))
    | bl j => cases ry; exact eq_bool (fin_bl I q dec_bl)
    | str j => obtain ⟨t', rfl⟩ := ry; exact PySem.EqMixed.eq_bool_str (fin_bl I q (by simp))
    | _ => exact absurd (show false = true from hs) Bool.false_ne_true
  | int i =>
    obtain ⟨t, rfl⟩ := rx
    cases y with
    | non => cases ry; exact PySem.EqNone.eq_int_none (fin_bl I q (by simp))
    | int j => obtain ⟨t', rfl⟩ := ry; exact eq_int (fin_bl I q dec_int)
    | str j => obtain ⟨t', rfl⟩ := ry; exact PySem.EqMixed.eq_int_str (fin_bl I q (by simp))
    | _ => exact absurd (show false = true from hs) Bool.false_ne_true
  | str i =>
    obtain ⟨t, rfl⟩ := rx
    cases y with
    | non => cases ry; exact PySem.EqNone.eq_str_none (fin_bl I q (by simp))
    | bl j => cases ry; exact PySem.EqMixed.eq_str_bool (fin_bl I q (by simp))
    | int j => obtain ⟨t', rfl⟩ := ry; exact PySem.EqMixed.eq_str_int (fin_bl I q (by simp))
    | str j => obtain ⟨t', rfl⟩ := ry; exact eq_str (fin_bl I q dec_str)
    | _ => exact absurd (show false = true from hs) Bool.false_ne_true
  | byt i =>
    obtain ⟨t, rfl⟩ := rx
    cases y with
    | byt j => obtain ⟨t', rfl⟩ := ry; exact PySem.W.eq_bytes (fin_bl I q dec_byt)
    | _ => exact absurd (show false = true from hs) Bool.false_ne_true
  | _ => cases y <;> exact absurd (show false = true from hs) Bool.false_ne_true
theorem op_ne : OpR X (compareOp .NotEq) rNe := by
  intro pins s σ H x y v u Q I rx ry h
  obtain ⟨hs, q⟩ := h
  cases x with
  | non =>
    cases rx
    cases y with
    | non => cases ry; exact PySem.EqNone.ne_none_none (fin_bl I q (by simp))
    | bl j => cases ry; exact PySem.EqNone.ne_none_bool (fin_bl I q (by simp))
    | int j => obtain ⟨t', rfl⟩ := ry; exact PySem.EqNone.ne_none_int (fin_bl I q (by simp))
    | str j => obtain ⟨t', rfl⟩ := ry; exact PySem.EqNone.ne_none_str (fin_bl I q (by simp))
    | _ => exact absurd (show false = true from hs) Bool.false_ne_true
  | bl i =>
    cases rx
    cases y with
    | non => cases ry; exact PySem.EqNone.ne_bool_none (fin_bl I q (by simp))
    | bl j => cases ry; exact ne_bool (fin_bl I q (congrArg not dec_bl))
    | str j => obtain ⟨t', rfl⟩ := ry; exact PySem.EqMixed.ne_bool_str (fin_bl I q (by simp))
    | _ => exact absurd (show false = true from hs) Bool.false_ne_true
  | int i =>
    obtain ⟨t, rfl⟩ := rx
    cases y with
    | non => cases ry; exact PySem.EqNone.ne_int_none (fin_bl I q (by simp))
    | int j => obtain ⟨t', rfl⟩ := ry; exact ne_int (fin_bl I q (congrArg not dec_int))
    | str j => obtain ⟨t', rfl⟩ := ry; exact PySem.EqMixed.ne_int_str (fin_bl I q (by simp))
    | _ => exact absurd (show false = true from hs) Bool.false_ne_true
  | str i =>
    obtain ⟨t, rfl⟩ := rx
    cases y with
    | non => cases ry; exact PySem.EqNone.ne_str_none (fin_bl I q (by simp))
    | bl j => cases ry; exact PySem.EqMixed.ne_str_bool (fin_bl I q (by simp))
    | int j => obtain ⟨t', rfl⟩ := ry; exact PySem.EqMixed.ne_str_int (fin_bl I q (by simp))
    | str j => obtain ⟨t', rfl⟩ := ry; exact ne_str (fin_bl I q (congrArg not dec_str))
    | _ => exact absurd (show false = true from hs) Bool.false_ne_true
  | byt i =>
    obtain ⟨t, rfl⟩ := rx
    cases y with
    | byt j => obtain ⟨t', rfl⟩ := ry; exact PySem.W.ne_bytes (fin_bl I q (congrArg not dec_byt))
    | _ => exact absurd (show false = true from hs) Bool.false_ne_true
  | _ => cases y <;> exact absurd (show false = true from hs) Bool.false_ne_true

theorem op_lt : OpR X (compareOp .Lt) (rI0 fun i j => .bl (decide (i < j))) := opB0 fun _ _ _ _ _ _ _ q => lt_int q
theorem op_gt : OpR X (compareOp .Gt) (rI0 fun i j => .bl (decide (j < i))) := opB0 fun _ _ _ _ _ _ _ q => gt_int q
/-- the one string within the other -/
theorem op_in_str : OpR X (compareOp .In) (fun x y H Q => ∃ i j, x = .str i ∧ y = .str j ∧ Q (.bl (!(Builtin.Str.occurrences j i 0 j.length 1).isEmpty)) H) := by
  intro pins s σ H x y v u Q I rx ry h
  obtain ⟨i, j, rfl, rfl, q⟩ := h
  obtain ⟨t, rfl⟩ := rx
  obtain ⟨t', rfl⟩ := ry
  exact in_str (fin_bl I q rfl)

/-- is None, is not None: the right side a value none -/
theorem op_isN : OpR X (compareOp .Is) (fun x y H Q => y = .non ∧ Q (.bl (decide (x = .non))) H) := by
  intro pins s σ H x y v u Q I rx ry h
  obtain ⟨rfl, q⟩ := h
  cases ry
  refine is_none_gen (fin_bl I q ?_)
  cases x <;> first
    | (cases rx; rfl)
    | (obtain ⟨t, rfl⟩ := rx; rfl)
theorem op_notN : OpR X (compareOp .IsNot) (fun x y H Q => y = .non ∧ Q (.bl (!decide (x = .non))) H) := by
  intro pins s σ H x y v u Q I rx ry h
  obtain ⟨rfl, q⟩ := h
  cases ry
  refine isnot_none_gen (fin_bl I q ?_)
  cases x <;> first
    | (cases rx; rfl)
    | (obtain ⟨t, rfl⟩ := rx; rfl)

/-- is, is not of two objects that are tracked lists or instances -/
def isObj : HO → Bool
  | .lst _ => true
  | .ins _ _ _ => true
  | _ => false
/-- two rules for one operation: by cases -/
theorem OpR.or {f : Value → Value → Sem Value} {r r' : R2} (h : OpR X f r) (h' : OpR X f r') : OpR X f (fun x y H Q => r x y H Q ∨ r' x y H Q) := by
  intro pins s σ H x y v u Q I rx ry q
  rcases q with q | q
  · exact h pins s σ H x y v u Q I rx ry q
  · exact h' pins s σ H x y v u Q I rx ry q

theorem nomark (b : Expr) {op : CmpOp} (h : op ≠ .In := by decide) (h2 : op ≠ .NotIn := by decide) : behindInMarks op b = false := by
  have e1 : (op == CmpOp.In) = false := by cases op <;> first | rfl | exact absurd rfl h
  have e2 : (op == CmpOp.NotIn) = false := by cases op <;> first | rfl | exact absurd rfl h2
  cases b <;> simp [behindInMarks, e1, e2]
/-- a comparison as a value; hm: nomark b, or (for in, not in) by with_unfolding_all rfl -/
theorem pe_cmpR {op : CmpOp} {r : R2} (ho : OpR X (compareOp op) r) (ha : PE X a ta) (hb : PE X b tb) (hm : behindInMarks op b = false) : PE X (.Compare a [op] [b] pos) (tOp r ta tb) := by
  intro pins s σ H Q I h
  exact wpAny_Compare1 (binT ha hb I h fun v u s2 x y H2 I2 rx ry q => ho pins s2 σ H2 x y v u Q I2 rx ry q) hm
/-- a reading of a value as a test -/
inductive tTestI (Q : (Bool → Hp → Prop)) (x : V) (H' : Hp) : Prop
  | mk (k : _) (h0_ : x = .bl k) (h1_ : Q k H') : tTestI Q x H'
def tTest (t : TE) : TT := fun σ H Q => t σ H fun x H' => tTestI Q x H'
theorem pt_cmpR {op : CmpOp} {r : R2} (ho : OpR X (compareOp op) r) (ha : PE X a ta) (hb : PE X b tb) (hm : behindInMarks op b = false) : PT X (.Compare a [op] [b] pos) (tTest (tOp r ta tb)) := by
  intro pins s σ H Q I h
  refine wpAny_isTrue_Compare1 (thn (ha pins s σ H _ I h) fun v s1 ⟨x, H1, I1, r1, q1⟩ => thn (hb pins s1 σ H1 _ I1 q1) fun u s2 ⟨y, H2, I2, r2, q2⟩ =>
    thn (ho pins s2 σ H2 x y v u _ I2 r1 r2 q2) fun c s3 ⟨z, H3, I3, r3, k, e, q3⟩ => ?_) hm
  subst e
  cases r3
  exact wpAny_truthy_bool ⟨H3, I3, q3⟩
/-- a op1 b op2 c -/
def tChain (r r' : R2) (ta tb tc : TE) : TE := fun σ H Q => ta σ H fun x H1 => tb σ H1 fun y H2 => r x y H2 fun z H3 => ∃ k, z = .bl k ∧
  (if k = true then tc σ H3 fun w' H4 => r' y w' H4 Q else Q (.bl false) H3)
/-! ### truth -/
/-- a value's truth by the abstract heap -/
def TruV (K : PySem.W.Frag) (x : V) (H : Hp) (k : Bool) : Prop :=
  match x with
  | .non => k = false
  | .bl b => k = b
  | .int i => k = (i != 0)
  | .str y => y.length ≤ sizeLine ∧ k = ((y.length : Int) != 0)
  | .byt y => y.size ≤ sizeLine ∧ k = ((y.size : Int) != 0)
  | .ref p => (∃ xs, SqL K H p xs ∧ k = !xs.isEmpty) ∨ (∃ xs, SqT K H p xs ∧ k = !xs.isEmpty) ∨ ∃ kvs, H p = some (.dK kvs) ∧ k = !kvs.isEmpty
  | _ => False
theorem line63 : (sizeLine : Nat) < 2 ^ 63 := by rw [sizeLine_eq]; decide
/-! ### strs and bytes -/
theorem op_add_str : OpR X (binaryOp .Add) (fun x y H Q => ∃ i j, x = .str i ∧ y = .str j ∧ i.length + j.length ≤ sizeLine ∧ Q (.str (i ++ j)) H) := by
  intro pins s σ H x y v u Q I rx ry h
  obtain ⟨i, j, rfl, rfl, hz, q⟩ := h
  obtain ⟨t, rfl⟩ := rx
  obtain ⟨t', rfl⟩ := ry
  exact add_str (fun t' tk => ⟨.str (i ++ j), H, I.tok _, ⟨_, rfl⟩, q⟩) hz
def PlainIxT (b : Expr) : Prop := ∀ o i, subscripted b false o i = operate [o, i] (getItem o i)
/-! ### scalar builtins, by CallR -/
theorem vals1 {x : V} {us : List Value} (r : Vals [x] us) : ∃ u, us = [u] ∧ RelV x u := by
  cases r with
  | cons r1 r2 => cases r2; exact ⟨_, rfl, r1⟩
theorem vals2 {x y : V} {us : List Value} (r : Vals [x, y] us) : ∃ u w', us = [u, w'] ∧ RelV x u ∧ RelV y w' := by
  cases r with
  | cons r1 r2 =>
    cases r2 with
    | cons r3 r4 => cases r4; exact ⟨_, _, rfl, r1, r3⟩
theorem call_min2 (hc : X.calm = true) : CallR X (.builtin "min") (fun xs H Q => ∃ i j, xs = [.int i, .int j] ∧ Q (.int (if j < i then j else i)) H) := by
  intro pins s σ H xs us Q I r h
  obtain ⟨i, j, rfl, q⟩ := h
  obtain ⟨u, w', rfl, ⟨t, rfl⟩, ⟨t', rfl⟩⟩ := vals2 r
  refine min_two_ints (I.ok.hd hc) fun h' tk k => ⟨_, H, I.kept k, ?_, q⟩
  by_cases hj : j < i
  · rw [if_pos hj, if_pos hj]; exact ⟨_, rfl⟩
  · rw [if_neg hj, if_neg hj]; exact ⟨_, rfl⟩
theorem call_int1 : CallR X (.type "int") (fun xs H Q => (∃ i, xs = [.int i] ∧ Q (.int i) H) ∨ ∃ k, xs = [.bl k] ∧ Q (.int (if k then 1 else 0)) H) := by
  intro pins s σ H xs us Q I r h
  rcases h with ⟨i, rfl, q⟩ | ⟨k, rfl, q⟩
  · obtain ⟨u, rfl, t, rfl⟩ := vals1 r
    exact call_int_int ⟨.int i, H, I, ⟨_, rfl⟩, q⟩
  · obtain ⟨u, rfl, r1⟩ := vals1 r
    cases r1
    exact call_int_bool ⟨.int (if k then 1 else 0), H, I.tok _, ⟨_, rfl⟩, q⟩
/-- len of a str, a bytes, a list, a tuple -/
def LenV (K : PySem.W.Frag) (x : V) (H : Hp) (n : Nat) : Prop :=
  match x with
  | .str y => y.length ≤ sizeLine ∧ n = y.length
  | .byt y => y.size ≤ sizeLine ∧ n = y.size
  | .ref p => (∃ xs, SqL K H p xs ∧ n = xs.length) ∨ ∃ xs, SqT K H p xs ∧ n = xs.length
  | _ => False
end
end L2

namespace L2
open PySem PySem.Spec PyProof.Rows

/-! ### an instance, its attributes a map -/
structure ObjM (h : Heap) (x dx C : Addr) (mA : Str → Option Value) : Prop where
  obj : h.get? x = some (PySem.W.instObj C dx)
  ns : h.Ns1 dx mA
  ne : dx ≠ x

theorem lookIn_ns {h : Heap} {dx : Addr} {mA : Str → Option Value} (n : h.Ns1 dx mA) : ∃ od, h.get? dx = some od ∧ ∀ name, PySem.W.lookIn name od = some (mA name) := by
  obtain ⟨o, es, ep, ho, hd, hk, _, hm⟩ := n
  refine ⟨o, ho, fun name => ?_⟩
  have e := hm name
  unfold nsFind findBy at e
  rw [← Array.find?_toList] at e
  unfold PySem.W.lookIn
  rw [hd]
  dsimp only
  split
  · rename_i y q
    rw [q] at e
    exact congrArg some e
  · rename_i q
    rw [q] at e
    have a : es.toList.any (·.refKey) = false := by
      rw [List.any_eq_false]
      intro y hy
      obtain ⟨z, t, hkey⟩ := hk y (Array.mem_toList_iff.mp hy)
      simp [DictEntry.refKey, hkey]
    have a' : ¬ es.toList.any (·.refKey) = true := by rw [a]; exact Bool.false_ne_true
    rw [if_neg a']
    exact congrArg some e

theorem ObjM.look {h : Heap} {x dx C : Addr} {mA : Str → Option Value} (I : ObjM h x dx C mA) : ∃ od, PySem.W.InstAt h x (PySem.W.instObj C dx) C (some od) ∧ ∀ name, PySem.W.lookIn name od = some (mA name) :=
  let ⟨od, ho, hl⟩ := lookIn_ns I.ns
  ⟨od, ⟨I.obj, rfl, rfl, ho⟩, hl⟩

section
variable {prog : Program} {w : World} {A : Around} {E : Value → Shared → Prop} {s : Shared} {K : PySem.W.Frag} {x dx C f : Addr} {mA : Str → Option Value} {name : Str} {v : Value}

end

/-! ### the attributes as a list of pairs -/
def putF (f : Str) (v : V) : List (Str × V) → List (Str × V)
  | [] => [(f, v)]
  | (g, x) :: r => if g = f then (g, v) :: r else (g, x) :: putF f v r
theorem RelO.some_of {v : V} {o : Option Value} (r : RelO (some v) o) : ∃ u, o = some u ∧ RelV v u := by
  cases o with
  | none => exact (show False from r).elim
  | some u => exact ⟨u, rfl, r⟩
section
variable {P : Program} {w : World} {H H' : Hp} {h h' : Heap} {a C dx : Addr} {fs fs' : List (Str × V)}
theorem ins_get (hok : HOk P w H h) (e : H a = some (.ins C dx fs)) : ∃ mA, ObjM h a dx C mA ∧ (∀ f, RelO (fs.lookup f) (mA f)) ∧ PySem.Within mA (fs.map (·.1)) ∧ fs.length ≤ 1000 ∧ H dx = some (.own a) := by
  obtain ⟨d, z, ne, ob, mA, n, r, q⟩ := (show ObjOk P w H h a (.ins C dx fs) from hok a _ e)
  exact ⟨mA, ⟨ob, n, ne⟩, r, q, z, d⟩
end

/-! ### what of the text a class must have -/
structure Cls (K : PySem.W.Frag) (C : Addr) : Prop where
  pg : PySem.W.plainGet K C Str.empty = true
  hd : PySem.W.hasDictIn K C = true
  po : PySem.W.plainOver K C = true
  sa : PySem.W.findIn K (.ref C) "__setattr__" = some (some (.builtin "object.__setattr__"))
theorem Cls.get {K : PySem.W.Frag} {C : Addr} (c : Cls K C) (f : Str) : PySem.W.plainGet K C f = true := c.pg
/-- no class of it has the name -/
def NoAttr (K : PySem.W.Frag) (C : Addr) (f : Str) : Prop := PySem.W.findIn K (.ref C) f = some none
/-- a constant of the class -/
structure Con (K : PySem.W.Frag) (C : Addr) (f : Str) (v : V) (u : Value) : Prop where
  at_ : PySem.W.findIn K (.ref C) f = some (some u)
  rel : RelV v u
  get : PySem.W.specialIn K u "__get__" = some none
  cp : PySem.W.copiedNames.contains f = false
/-- a method: a plain def of the class or of one above it -/
structure Meth (K : PySem.W.Frag) (C : Addr) (m : Str) (f : Addr) : Prop where
  at_ : PySem.W.findIn K (.ref C) m = some (some (.ref f))
  fn : PySem.W.isFn K (.ref f) = true
  kp : PySem.W.keepIn K (.ref f) = true

section
variable {X : Cx} {pins : List (Addr × Obj)} {σ : St} {H : Hp} {s : Shared} {a C dx : Addr} {fs : List (Str × V)} {f : Str} {v : V} {A : Around} {E : Value → Shared → Prop}

end

/-! ### readings and rules -/
/-- e.f, an attribute of the instance -/
inductive tFldI (K : PySem.W.Frag) (f : Str) (Q : VK) (x : V) (H1 : Hp) : Prop
  | mk (a : _) (C : _) (dx : _) (fs : _) (v : _) (h0_ : x = .ref a) (h1_ : H1 a = some (.ins C dx fs)) (h2_ : Cls K C) (h3_ : NoAttr K C f) (h4_ : fs.lookup f = some v) (h5_ : Q v H1) : tFldI K f Q x H1
def tFld (K : PySem.W.Frag) (ta : TE) (f : Str) : TE := fun σ H Q => ta σ H fun x H1 => tFldI K f Q x H1
/-- e.f, a constant of the class -/
def tCon (K : PySem.W.Frag) (ta : TE) (f : Str) : TE := fun σ H Q => ta σ H fun x H1 => ∃ a C dx fs v u, x = .ref a ∧ H1 a = some (.ins C dx fs) ∧ Cls K C ∧ Con K C f v u ∧ fs.lookup f = none ∧ Q v H1
/-- e.f = value -/
inductive sFldI (K : PySem.W.Frag) (f : Str) (D : Ends) (σ : St) (y : V) (x : V) (H2 : Hp) : Prop
  | mk (a : _) (C : _) (dx : _) (fs : _) (h0_ : x = .ref a) (h1_ : H2 a = some (.ins C dx fs)) (h2_ : Cls K C) (h3_ : NoAttr K C f) (h4_ : fs.length < 1000) (h5_ : D.nx σ (upd H2 a (.ins C dx (putF f y fs)))) : sFldI K f D σ y x H2
def sFld (K : PySem.W.Frag) (ta tv : TE) (f : Str) : TS := fun D σ H => tv σ H fun y H1 => ta σ H1 fun x H2 => sFldI K f D σ y x H2
/-- an augmented operator on two values -/
def InOp (X : Cx) (op : Operator) (rd : V → V → Hp → VK → Prop) : Prop :=
  ∀ (pins : List (Addr × Obj)) (s : Shared) (σ : St) (H : Hp) (x y : V) (u v : Value) (Q : VK), Inv X pins σ H s → RelV x u → RelV y v → rd x y H Q → wpAny (model X.prog X.w) X.A (inplaceOp op u v) (EP X pins σ Q) X.xe s
/-- e.f op= value -/
def sFldAug (K : PySem.W.Frag) (ta tv : TE) (rd : V → V → Hp → VK → Prop) (f : Str) : TS := fun D σ H => ta σ H fun x H1 => ∃ a C dx fs v, x = .ref a ∧ H1 a = some (.ins C dx fs) ∧ Cls K C ∧ NoAttr K C f ∧ fs.lookup f = some v ∧
  tv σ H1 fun y H2 => rd v y H2 fun z H3 => ∃ dx' fs', H3 a = some (.ins C dx' fs') ∧ fs'.length < 1000 ∧ D.nx σ (upd H3 a (.ins C dx' (putF f z fs')))

section
variable {X : Cx} {o e value : Expr} {f : Str} {pos pos' tpos : Pos} {ta tv : TE}
def rAdd : V → V → Hp → VK → Prop := fun x y H Q => ∃ i j, x = .int i ∧ y = .int j ∧ Q (.int (i + j)) H
def rSub : V → V → Hp → VK → Prop := fun x y H Q => ∃ i j, x = .int i ∧ y = .int j ∧ Q (.int (i - j)) H
end

/-! ### isinstance -/
section
variable {X : Cx} {pins : List (Addr × Obj)} {σ : St} {H : Hp} {s : Shared} {A : Around} {E : Value → Shared → Prop} {Q : Value → Shared → Prop} {c : Value} {b : Bool}
/-- the type of a value, as the fragment's deciders take it; for an instance its class -/
inductive TyOf (K : PySem.W.Frag) (H : Hp) : V → Value → Prop where
  | non : TyOf K H .non (.type "NoneType")
  | bl (x : Bool) : TyOf K H (.bl x) (.type "bool")
  | int (i : Int) : TyOf K H (.int i) (.type "int")
  | str (x : Str) : TyOf K H (.str x) (.type "str")
  | flt (x : UInt64) : TyOf K H (.flt x) (.type "float")
  | lst {a : Addr} {xs : List V} (e : H a = some (.lst xs)) : TyOf K H (.ref a) (.type "list")
  | frz {a : Addr} {o : Obj} {xs : List V} (e : H a = some (.frz o (.lst xs))) : TyOf K H (.ref a) (.type "list")
  | tup {a : Addr} {xs : List V} (e : H a = some (.tup xs)) : TyOf K H (.ref a) (.type "tuple")
  | dK {a : Addr} {kvs : List (Key × V)} (e : H a = some (.dK kvs)) : TyOf K H (.ref a) (.type "dict")
  | dT {a : Addr} {kvs : List (List Key × V)} (e : H a = some (.dT kvs)) : TyOf K H (.ref a) (.type "dict")
  | ins {a C dx : Addr} {fs : List (Str × V)} (e : H a = some (.ins C dx fs)) (cl : Cls K C) (ha : PySem.W.findIn K (.ref C) "__class__" = some (some (.builtin "object.__class__")))
      (hn : PySem.W.specialIn K (.builtin "object.__class__") "__get__" = some (some (.builtin "getset_descriptor.__get__"))) (htk : PySem.W.takesIn K (.builtin "object.__class__") = some true)
      (hm : PySem.W.mroIn K C (.type "object") = some true) : TyOf K H (.ref a) (.ref C)
/-- isinstance(x, c) for one class c, a built-in or an own one: kitOne's answer -/
theorem isinst_ok {x : V} {u t : Value} (I : Inv X pins σ H s) (rx : RelV x u) (ty : TyOf X.K H x t) (e : PySem.W.kitOne X.K t c = some b) (h : ∀ tk, Q (.bool b) { s with toks := tk }) :
    wpAny (model X.prog X.w) A (call (.builtin "isinstance") [u, c]) Q E s := by
  cases ty with
  | non => cases (show u = Value.none from rx); exact PySem.W.kia_one PySem.W.kitx_none I.kIn True.intro e (fun z => nomatch z) h
  | bl y => cases (show u = Value.bool y from rx); exact PySem.W.kia_one PySem.W.kitx_bool I.kIn True.intro e (fun z => nomatch z) h
  | int i => obtain ⟨t, q⟩ := (show ∃ t, u = Value.int i t from rx); cases q; exact PySem.W.kia_one PySem.W.kitx_int I.kIn True.intro e (fun z => nomatch z) h
  | str y => obtain ⟨t, q⟩ := (show ∃ t, u = Value.str y t from rx); cases q; exact PySem.W.kia_one PySem.W.kitx_str I.kIn True.intro e (fun z => nomatch z) h
  | flt y => obtain ⟨t, q⟩ := (show ∃ t, u = Value.float y t from rx); cases q; exact PySem.W.kia_one PySem.W.kitx_float I.kIn True.intro e (fun z => nomatch z) h
  | @lst a xs ea =>
    cases (show u = Value.ref a from rx)
    obtain ⟨_, _, n, _, h1⟩ := (show ObjOk X.prog X.w H s.heap a (.lst xs) from I.hok a _ ea)
    exact PySem.W.kia_one PySem.W.kitx_list I.kIn ⟨_, h1, rfl⟩ e (fun z => nomatch z) h
  | @frz a ob xs ea =>
    cases (show u = Value.ref a from rx)
    obtain ⟨_, _, _, n, _, h1⟩ := (show ObjOk X.prog X.w H s.heap a (.frz ob (.lst xs)) from I.hok a _ ea)
    exact PySem.W.kia_one PySem.W.kitx_list I.kIn ⟨_, h1, rfl⟩ e (fun z => nomatch z) h
  | @tup a xs ea =>
    cases (show u = Value.ref a from rx)
    obtain ⟨_, _, _, p⟩ := (show ObjOk X.prog X.w H s.heap a (.tup xs) from I.hok a _ ea)
    obtain ⟨o, h1, h2, _⟩ := p
    exact PySem.W.kia_one PySem.W.kitx_tuple I.kIn ⟨o, h1, h2⟩ e (fun z => nomatch z) h
  | @dK a kvs ea =>
    cases (show u = Value.ref a from rx)
    obtain ⟨_, _, vs, _, p⟩ := (show ObjOk X.prog X.w H s.heap a (.dK kvs) from I.hok a _ ea)
    obtain ⟨o, es, ep, h1, h2, _⟩ := p
    exact PySem.W.kia_one PySem.W.kitx_dict I.kIn ⟨o, h1, h2.1⟩ e (fun z => nomatch z) h
  | @dT a kvs ea =>
    cases (show u = Value.ref a from rx)
    obtain ⟨_, _, xs, _, o, es, ep, h1, h2, _⟩ := (show ObjOk X.prog X.w H s.heap a (.dT kvs) from I.hok a _ ea)
    exact PySem.W.kia_one PySem.W.kitx_dict I.kIn ⟨o, h1, h2.1⟩ e (fun z => nomatch z) h
  | @ins a C dx fs ea cl ha hn htk hm =>
    cases (show u = Value.ref a from rx)
    obtain ⟨mA, O, _⟩ := ins_get I.hok ea
    obtain ⟨od, J, _⟩ := O.look
    exact PySem.W.kia_one (PySem.W.kitx_own (cl.get _) cl.hd ha hn htk hm) I.kIn J e (fun z => nomatch z) h
end
end L2

namespace L2
open PySem PySem.Spec PyProof.Rows

/-! ### room -/
structure Room (k : Nat) (A : Around) : Prop where
  hd : A.handled = none
  dp : A.depth + 3 * k + 5 < recursionLimit
  un : A.units + 16 * k + 200 < cLine
theorem Room.mono {j k : Nat} {A : Around} (r : Room k A) (h : j ≤ k) : Room j A := ⟨r.hd, by have := r.dp; omega, by have := r.un; omega⟩
theorem Room.deeper {k : Nat} {A : Around} (r : Room (k + 1) A) (env : Env) : Room k (A.deeper env) :=
  ⟨r.hd, by have := r.dp; show A.depth + 1 + 3 * k + 5 < _; omega, by have := r.un; show A.units + 3 + 16 * k + 200 < _; omega⟩
theorem Room.depth {k : Nat} {A : Around} (r : Room k A) : A.depth < recursionLimit := by have := r.dp; omega
theorem Room.units {k : Nat} {A : Around} (r : Room k A) : A.units + 64 < cLine := by have := r.un; omega
/-! ### argument lists and displays -/
def tNil : TA := fun _ H Q => Q [] H
def tCons (ta : TE) (tr : TA) : TA := fun σ H Q => ta σ H fun x H1 => tr σ H1 fun xs H2 => Q (x :: xs) H2
section
variable {X : Cx} {e : Expr} {es : List Expr} {te : TE} {t : TA} {pos : Pos}
theorem pa_nil : PA X [] tNil := fun _ _ _ _ H Q I h => Calls.spliced_nil ⟨[], H, I, .nil, h⟩
theorem pa_cons (ha : PE X e te) (hr : PA X es t) (hs : starEach (e :: es) X.env = (false, eval e X.env) :: starEach es X.env := by rfl) : PA X (e :: es) (tCons te t) := by
  intro pos pins s σ H Q I h
  rw [hs]
  show wpAny _ _ (spliced ((false, eval e X.env) :: backTo pos (starEach es X.env))) _ _ s
  refine Calls.spliced_cons (thn (ha pins s σ H _ I h) fun u s1 ⟨x, H1, I1, r1, q1⟩ => ?_)
  exact thn (hr pos pins s1 σ H1 _ I1 q1) fun us s2 ⟨xs, H2, I2, r2, q2⟩ => ⟨x :: xs, H2, I2, .cons r1 r2, q2⟩

/-- a tuple, a list of written items -/
def tTup (t : TA) : TE := fun σ H Q => t σ H fun xs H1 => xs.length ≤ sizeLine ∧ ∀ p, H1 p = none → Q (.ref p) (upd H1 p (.tup xs))
def tLst (t : TA) : TE := fun σ H Q => t σ H fun xs H1 => xs.length ≤ sizeLine ∧ ∀ p, H1 p = none → Q (.ref p) (upd H1 p (.lst xs))
theorem pe_tup {x1} (h : PA X es t) : PE X (.Tuple es x1 pos) (tTup t) := by
  intro pins s σ H Q I hq
  refine wpAny_Tuple_spliced (thn (h pos pins s σ H _ I hq) fun us s1 ⟨xs, H1, I1, r, z, q⟩ => ⟨by rw [← r.length]; exact z, ?_⟩)
  have hf : H1 s1.heap.objs.size = none := I1.hok.fresh (Nat.le_refl _)
  refine ⟨.ref s1.heap.objs.size, upd H1 s1.heap.objs.size (.tup xs), I1.laid (t' := s1.toks) (fun b u e => Heap.get?_push_of_some _ e) (Nat.le_refl _) ?_, rfl, q _ hf⟩
  exact ⟨z, us, r, ⟨_, Heap.get?_push_size _ rfl, rfl, _, rfl⟩⟩
theorem pe_lst (h : PA X es t) : PE X (.List es pos) (tLst t) := by
  intro pins s σ H Q I hq
  refine wpAny_List_spliced (thn (h pos pins s σ H _ I hq) fun us s1 ⟨xs, H1, I1, r, z, q⟩ => ⟨by rw [← r.length]; exact z, ?_⟩)
  have hf : H1 s1.heap.objs.size = none := I1.hok.fresh (Nat.le_refl _)
  refine ⟨.ref s1.heap.objs.size, upd H1 s1.heap.objs.size (.lst xs), I1.laid (t' := s1.toks) (fun b u e => Heap.get?_push_of_some _ e) (Nat.le_refl _) ?_, rfl, q _ hf⟩
  exact ⟨z, us, 0, r, Heap.get?_push_size _ rfl⟩
end

/-! ### what a def promises -/
/-- a def's promise: the bound arguments in the parameters' order, the heap, the wanted end, the wanted exception -/
abbrev Sp := List V → Hp → VK → XK → Prop
/-- how an exception lies behind a call (file 08 gives it): the callers' frames, abstract heap and state ahead of the call, the wish, the exception, the state -/
abbrev CXT := List Env → Hp → Shared → XK → Value → Shared → Prop

/-- the state at a call -/
structure Env0 (P : Program) (w : World) (K : PySem.W.Frag) (mg : Str → Option Value) (base : Heap) (A : Around) (outer : List Env) (s : Shared) (H : Hp) : Prop where
  frames : A.frames = some outer
  mod : Mod K mg base
  bs : ∀ b o, base.get? b = some o → s.heap.get? b = some o ∧ H b = none
  bsz : base.objs.size ≤ s.heap.objs.size
  funs : s.heap.FunFrames base outer
  frf : ∀ b ∈ frs outer, H b = none
  hok : HOk P w H s.heap
  bare : AllBare s.gens
/-- a call's end -/
def CE (outer : List Env) (P : Program) (w : World) (H : Hp) (s : Shared) (Q : VK) (u : Value) (s' : Shared) : Prop :=
  ∃ v H', s'.os = s.os ∧ AllBare s'.gens ∧ Un (frs outer) [] H H' s.heap s'.heap ∧ HOk P w H' s'.heap ∧ RelV v u ∧ Q v H'
def CR (CX : CXT) (outer : List Env) (P : Program) (w : World) (H : Hp) (s : Shared) (Q : VK) (E : XK) (r : Result) (s' : Shared) : Prop :=
  match r with
  | .ok (.ret u) => CE outer P w H s Q u s'
  | .ok _ => False
  | .error e => CX outer H s E e s'
structure FnOk (P : Program) (w : World) (K : PySem.W.Frag) (mg : Str → Option Value) (base : Heap) (CX : CXT) (k : Nat) (f : Addr) (fd : FuncData) (ps : List Str) (sp : Sp) : Prop where
  len : ∀ vs H Q E, sp vs H Q E → vs.length = ps.length
  run : ∀ (A : Around) (outer : List Env) (s : Shared) (H : Hp) (args : Args) (us : List Value) (vs : List V) (Q : VK) (E : XK), Room k A → Env0 P w K mg base A outer s H → BindsTo s fd args (ps.zip us) → Vals vs us → sp vs H Q E →
    codeAny (model P w) A (.call (.ref f) args) (CR CX outer P w H s Q E) s
section
variable {X : Cx} {pins : List (Addr × Obj)} {σ : St} {H : Hp} {s s' : Shared}
/-- from a body: what a callee wants -/
theorem Inv.env0 (I : Inv X pins σ H s) : Env0 X.prog X.w X.K X.mg X.base X.A X.stack s H :=
  ⟨I.ok.frames, I.ok.mod, I.bs, Nat.le_trans I.ok.bsz I.sz, I.stack, I.stkFree, I.hok, I.bare⟩
/-- behind a call -/
theorem Inv.after {Q : VK} {u : Value} (I : Inv X pins σ H s) (h : CE X.stack X.prog X.w H s Q u s') : EP X pins σ Q u s' := by
  obtain ⟨v, H', os, bare, un, hok, r, q⟩ := h
  obtain ⟨hh, g, d, t, os'⟩ := s'
  obtain rfl : os' = s.os := os
  exact ⟨v, H', I.call (h' := hh) (g' := g) (d' := d) (t' := t) (ch := []) un hok bare (fun b z => absurd z (by simp)), r, q⟩
end

/-! ### calls -/
/-- f(..): the written arguments, then the defaults dvs; E: what is wanted of an exception -/
def tCall (sp : Sp) (dvs : List V) (E : XK) (t : TA) : TE := fun σ H Q => t σ H fun vs H1 => sp (vs ++ dvs) H1 Q E
/-- o.m(..) of an instance of the class at C -/
inductive tMethI (C : Addr) (m : Str) (sp : Sp) (dvs : List V) (E : XK) (t : TA) (σ : St) (Q : VK) (x : V) (H1 : Hp) : Prop
  | mk (a : _) (dx : _) (fs : _) (h0_ : x = .ref a) (h1_ : H1 a = some (.ins C dx fs)) (h2_ : fs.lookup m = none) (h3_ : t σ H1 fun vs H2 => sp (x :: (vs ++ dvs)) H2 Q E) : tMethI C m sp dvs E t σ Q x H1
def tMeth (C : Addr) (m : Str) (sp : Sp) (dvs : List V) (E : XK) (ta : TE) (t : TA) : TE := fun σ H Q => ta σ H fun x H1 => tMethI C m sp dvs E t σ Q x H1
/-- C(..): a new instance and its dict, then __init__ -/
def tMake (C : Addr) (sp : Sp) (dvs : List V) (E : XK) (t : TA) : TE := fun σ H Q => t σ H fun vs H1 => ∀ x dx, H1 x = none → H1 dx = none → dx ≠ x →
  sp (.ref x :: (vs ++ dvs)) (upd (upd H1 dx (.own x)) x (.ins C dx [])) (fun v H2 => v = .non ∧ Q (.ref x) H2) E

/-- how the parameters are bound: us the positional arguments, kw the keywords' values by name, ds the defaults that fill up -/
def Binds (K : PySem.W.Frag) (fd : FuncData) (ps : List Str) (ds : List Value) : Prop :=
  ∀ (s : Shared) (us : List Value), K.In s.heap → (us ++ ds).length = ps.length → BindsTo s fd ⟨us, []⟩ (ps.zip (us ++ ds))
/-- every parameter is given -/
theorem Binds.all {K : PySem.W.Frag} {fd : FuncData} {ps : List Str} (h : ∀ us : List Value, us.length = ps.length → bindArgs fd ⟨us, []⟩ = pure (ps.zip us)) : Binds K fd ps [] := fun s us _ hl => by
  rw [List.append_nil] at hl ⊢
  exact .of_eq (h us hl)

/-- an exception of a callee reaches what this body wants of exceptions -/
def Passes (CX : CXT) (X : Cx) (E : XK) : Prop := ∀ (pins : List (Addr × Obj)) (σ : St) (H : Hp) (s : Shared) (e : Value) (s' : Shared), Inv X pins σ H s → CX X.stack H s E e s' → X.xe e s'

section
variable {X : Cx} {CX : CXT} {k : Nat} {f C : Addr} {fd : FuncData} {ps : List Str} {sp : Sp} {dvs : List V} {ds : List Value} {E : XK} {x m : Str} {p pos apos : Pos} {e o : Expr} {es : List Expr} {ta : TE} {t : TA}

/-- the callee runs -/
theorem run_fn {pins : List (Addr × Obj)} {σ : St} {H : Hp} {s : Shared} {Q : VK} {us : List Value} {vs : List V} (F : FnOk X.prog X.w X.K X.mg X.base CX k f fd ps sp) (hr : Room k X.A) (hb : Binds X.K fd ps ds) (hd : Vals dvs ds) (hx : Passes CX X E)
    (I : Inv X pins σ H s) (r : Vals vs us) (h : sp (vs ++ dvs) H Q E) : wpAny (model X.prog X.w) X.A (call (.ref f) us) (EP X pins σ Q) X.xe s := by
  have r2 : Vals (vs ++ dvs) (us ++ ds) := r.append hd
  have hl : (us ++ ds).length = ps.length := by rw [← r2.length]; exact F.len _ _ _ _ h
  refine wpAny_call (codeAny_mono (F.run X.A X.stack s H ⟨us, []⟩ (us ++ ds) (vs ++ dvs) Q E hr I.env0 (hb s us I.kIn hl) r2 h) fun r s' hq => ?_)
  cases r with
  | error e => exact hx pins σ H s e s' I hq
  | ok fl =>
    cases fl with
    | ret u => exact I.after hq
    | next => exact False.elim hq
    | brk => exact False.elim hq
    | cont => exact False.elim hq

theorem pe_call (F : FnOk X.prog X.w X.K X.mg X.base CX k f fd ps sp) (hr : Room k X.A) (hg : Gl X x) (hm : X.mg x = some (.ref f)) (hk : PySem.W.keepIn X.K (.ref f) = true) (hb : Binds X.K fd ps ds) (hd : Vals dvs ds) (hx : Passes CX X E)
    (ha : PA X (e :: es) t) (hdb : (x == ("__debug__" : Str)) = false := by decide) (he : starEach (e :: es) X.env = (false, eval e X.env) :: starEach es X.env := by rfl) (hpl : (backTo pos (starEach es X.env)).any (·.1) = false := by rfl) :
    PE X (.Call (.Name x p) (e :: es) [] pos) (tCall sp dvs E t) := by
  intro pins s σ H Q I h
  refine wpAny_Call_Name_kw (ld_glob I hg hm ?_ hdb)
  refine PySem.W.callWith_K (h₀ := X.base) I.ok.mod.kin hk (thn (ha pos pins s σ H _ I h) fun us s1 ⟨vs, H1, I1, r, q⟩ => ⟨I1.kIn, ?_⟩) he hpl
  exact run_fn F hr hb hd hx I1 r q
/-- what a class must have to be made -/
structure Mk (K : PySem.W.Frag) (C f : Addr) : Prop where
  makes : PySem.W.makesIn K C = true
  init : PySem.W.findIn K (.ref C) "__init__" = some (some (.ref f))
  fn : PySem.W.isFn K (.ref f) = true
  kp : PySem.W.keepIn K (.ref C) = true

end

/-! ### keywords -/
/-- the values of the keywords, from the left -/
def PK (X : Cx) (kws : List Keyword) (t : TA) : Prop :=
  ∀ (pos : Pos) (pins : List (Addr × Obj)) (s : Shared) (σ : St) (H : Hp) (Q : List V → Hp → Prop), Inv X pins σ H s → t σ H Q → wpAny (model X.prog X.w) X.A (evalAll ((backToKw pos (keywordEach kws X.env)).map (·.2))) (AP X pins σ Q) X.xe s
section
variable {X : Cx} {CX : CXT} {k : Nat} {f C : Addr} {fd : FuncData} {ps ks : List Str} {sp : Sp} {E : XK} {x m : Str} {p pos apos kpos : Pos} {e o : Expr} {es : List Expr} {kws : List Keyword} {te ta : TE} {t tk : TA} {nm : Option Str}
/-- how a call with keywords binds: g puts the positional values us and the keywords' values ws (names ks) in the parameters' order, defaults among them -/
structure KBinds (K : PySem.W.Frag) (fd : FuncData) (ps ks : List Str) (g : List Value → List Value → List Value) (gV : List V → List V → List V) : Prop where
  to : ∀ (s : Shared) (us ws : List Value), K.In s.heap → (g us ws).length = ps.length → BindsTo s fd ⟨us, ks.zip ws⟩ (ps.zip (g us ws))
  rel : ∀ {vs : List V} {us : List Value} {zs : List V} {ws : List Value}, Vals vs us → Vals zs ws → Vals (gV vs zs) (g us ws)
def tCallK (sp : Sp) (gV : List V → List V → List V) (E : XK) (t tk : TA) : TE := fun σ H Q => t σ H fun vs H1 => tk σ H1 fun zs H2 => sp (gV vs zs) H2 Q E
variable {g : List Value → List Value → List Value} {gV : List V → List V → List V}
end

/-! ### a def's body keeps its promise -/
/-- names: the parameters first -/
structure FnScope (N P : List Str) (sc : Scope) : Prop where
  kind : sc.kind = .function
  co : sc.isCoroutine = false
  gen : sc.isGenerator = false
  nd : N.Nodup
  pre : N.take P.length = P
  par : ∀ x ∈ P, sc.names.lookup x = some .local ∨ sc.names.lookup x = some .cell
  nofree : ∀ y ∈ sc.names, y.2 ≠ .free

theorem bindL_out {kindOf : Str → Option NameKind} {x : Str} : ∀ {binds : List (Str × Value)} {m : Str → Option Value}, (∀ v, (x, v) ∉ binds) → bindL kindOf binds m x = m x
  | [], _, _ => rfl
  | (n, v) :: r, m, h => by
    unfold bindL
    rw [bindL_out fun w hw => h w (List.mem_cons_of_mem _ hw)]
    split
    · have : x ≠ n := by rintro rfl; exact h v List.mem_cons_self
      simp [this]
    · rfl
theorem bindC_out {kindOf : Str → Option NameKind} {x : Str} : ∀ {binds : List (Str × Value)} {m : Str → Option Value}, (∀ v, (x, v) ∉ binds) → bindC kindOf binds m x = m x
  | [], _, _ => rfl
  | (n, v) :: r, m, h => by
    unfold bindC
    rw [bindC_out fun w hw => h w (List.mem_cons_of_mem _ hw)]
    split
    · rfl
    · have : x ≠ n := by rintro rfl; exact h v List.mem_cons_self
      simp [this]
theorem bindL_get {kindOf : Str → Option NameKind} {x : Str} {v : Value} : ∀ {P : List Str} {vs : List Value} {i : Nat} {m : Str → Option Value}, P.Nodup → P[i]? = some x → vs[i]? = some v → kindOf x = some .local →
    bindL kindOf (P.zip vs) m x = some v
  | [], _, _, _, _, h, _, _ => by simp at h
  | _ :: _, [], _, _, _, _, h, _ => by simp at h
  | p :: P, w :: vs, 0, m, nd, h1, h2, hk => by
    simp at h1 h2; subst h1; subst h2
    show bindL kindOf ((p, w) :: P.zip vs) m p = _
    unfold bindL
    rw [bindL_out fun v hv => (List.nodup_cons.mp nd).1 (List.of_mem_zip hv).1, if_pos hk]
    simp
  | p :: P, w :: vs, i + 1, m, nd, h1, h2, hk => by
    show bindL kindOf ((p, w) :: P.zip vs) m x = _
    unfold bindL
    exact bindL_get (i := i) (List.nodup_cons.mp nd).2 (by simpa using h1) (by simpa using h2) hk
theorem bindC_get {kindOf : Str → Option NameKind} {x : Str} {v : Value} : ∀ {P : List Str} {vs : List Value} {i : Nat} {m : Str → Option Value}, P.Nodup → P[i]? = some x → vs[i]? = some v → kindOf x ≠ some .local →
    bindC kindOf (P.zip vs) m x = some v
  | [], _, _, _, _, h, _, _ => by simp at h
  | _ :: _, [], _, _, _, _, h, _ => by simp at h
  | p :: P, w :: vs, 0, m, nd, h1, h2, hk => by
    simp at h1 h2; subst h1; subst h2
    show bindC kindOf ((p, w) :: P.zip vs) m p = _
    unfold bindC
    rw [bindC_out fun v hv => (List.nodup_cons.mp nd).1 (List.of_mem_zip hv).1, if_neg hk]
    simp
  | p :: P, w :: vs, i + 1, m, nd, h1, h2, hk => by
    show bindC kindOf ((p, w) :: P.zip vs) m x = _
    unfold bindC
    exact bindC_get (i := i) (List.nodup_cons.mp nd).2 (by simpa using h1) (by simpa using h2) hk

/-- the names' values at the entry -/
def start (N : List Str) (vs : List V) : St := vs.map some ++ List.replicate (N.length - vs.length) none

/-- the context of a def's body, at its entry; an exception leaves the frame, then lies as CX says -/
def cxOf (CX : CXT) (P : Program) (w : World) (K : PySem.W.Frag) (mg : Str → Option Value) (base : Heap) (N : List Str) (qual : Str) (scope : Scope) (f : Addr) (cd : Value) (A : Around) (outer : List Env) (s : Shared) (H : Hp) (E : XK) : Cx where
  prog := P
  w := w
  K := K
  mg := mg
  base := base
  A := A.deeper (envOfC qual scope s.heap.objs.size f cd)
  N := N
  s₀ := s
  H₀ := H
  env := envOfC qual scope s.heap.objs.size f cd
  outer := outer
  stack := envOfC qual scope s.heap.objs.size f cd :: outer
  ex := []
  calm := true
  fn := fun _ => true
  pn := []
  xe := fun e s' => wpAny (model P w) (A.deeper (envOfC qual scope s.heap.objs.size f cd)) (leaving (envOfC qual scope s.heap.objs.size f cd) e) (fun _ s'' => CX outer H s E e s'') (fun e' s'' => CX outer H s E e' s'') s'

theorem cell_has {sc : Scope} {n : Nat} {x : Str} (h : sc.names.lookup x = some .cell) : ∃ c, (cellsFrom n sc.names []).lookup x = some c := by
  have q := PySem.W.cellsFrom_some sc.names n [] (.inl h)
  exact Option.isSome_iff_exists.mp q

theorem inv_start {CX : CXT} {P : Program} {w : World} {K : PySem.W.Frag} {mg : Str → Option Value} {base : Heap} {N ps : List Str} {qual : Str} {scope : Scope} {f : Addr} {cd : Value} {A : Around} {outer : List Env} {s s1 : Shared} {H : Hp} {E : XK} {us : List Value} {vs : List V}
    (S : FnScope N ps scope) (hd : A.handled = none) (e0 : Env0 P w K mg base A outer s H) (hl : vs.length = ps.length) (r : Vals vs us)
    (x : InCallC s s.heap.objs.size (bindL (envOfC qual scope s.heap.objs.size f cd).kindOf (ps.zip us) fun _ => none) (cellsFrom (s.heap.objs.size + 1) scope.names []) (bindC (envOfC qual scope s.heap.objs.size f cd).kindOf (ps.zip us) fun _ => none) s1) :
    Inv (cxOf CX P w K mg base N qual scope f cd A outer s H E) [] (start N vs) H s1 := by
  have hpl : ps.length ≤ N.length := by have := congrArg List.length S.pre; rw [List.length_take] at this; omega
  obtain ⟨h1, tk, rfl, hk⟩ := x.done
  have noA : ∀ b : Addr, b ∉ (cxOf CX P w K mg base N qual scope f cd A outer s H E).ex := fun b z => absurd (show b ∈ ([] : List Addr) from z) (by simp)
  refine ⟨⟨e0.mod, S.kind, rfl, rfl, Nat.le_refl _, fun y z c h1 h2 => ?_, fun y hy => ?_, fun y c _ h => ?_, fun _ => hd, Around.frames_deeper e0.frames, .inr ⟨rfl, rfl⟩, fun b z => absurd z (noA b), e0.bs, e0.bsz, fun b _ _ => noA b, fun b z => absurd z (noA b), e0.funs, e0.frf⟩,
    rfl, e0.bare, Un.kept hk, ⟨_, x.toInCall.ns, fun i y v h1 h2 h3 => ?_⟩, fun y c h => ⟨_, x.cell y c h⟩, e0.hok.fresh (Nat.le_refl _), fun y c h => ?_, fun p hp => absurd (show p ∈ ([] : List (Addr × Obj)) from hp) (by simp), e0.hok.kept hk, ?_⟩
  · exact name_of_addr x.apart (PySem.mem_of_lookup h1) (PySem.mem_of_lookup h2)
  · have hy : scope.names.lookup y = some .cell ∨ scope.names.lookup y = some .free := hy
    rcases hy with hy | hy
    · exact cell_has hy
    · exact absurd rfl (S.nofree _ (PySem.mem_of_lookup hy))
  · exact Nat.le_of_lt (x.above y c (PySem.mem_of_lookup h))
  · have hi : i < vs.length := by
      unfold start at h2
      by_cases hi : i < vs.length
      · exact hi
      · rw [List.getElem?_append_right (by simpa using hi)] at h2
        rw [List.getElem?_replicate] at h2
        split at h2 <;> cases h2
    have ha : vs[i]? = some v := by
      unfold start at h2
      rw [List.getElem?_append_left (by simpa using hi), List.getElem?_map] at h2
      cases e : vs[i]? with
      | none => rw [e] at h2; cases h2
      | some a => rw [e] at h2; cases h2; rfl
    obtain ⟨u, hu, rv⟩ := r.get ha
    have hp : ps[i]? = some y := by
      rw [← S.pre, List.getElem?_take_of_lt (by omega)]; exact h1
    have ndP : ps.Nodup := by rw [← S.pre]; exact S.nd.sublist (List.take_sublist _ _)
    refine ⟨u, rv, ?_⟩
    rcases S.par y (List.mem_of_getElem? hp) with k | k
    · exact .inl ⟨k, bindL_get ndP hp hu k⟩
    · obtain ⟨c, e⟩ := cell_has (n := s.heap.objs.size + 1) k
      refine .inr ⟨.inl k, c, e, ?_⟩
      have q := x.cell y c e
      rw [bindC_get ndP hp hu (by show scope.names.lookup y ≠ _; rw [k]; decide)] at q
      exact q
  · exact e0.hok.fresh (Nat.le_of_lt (x.above y c (PySem.mem_of_lookup h)))
  · unfold start
    show _ = N.length
    rw [List.length_append, List.length_map, List.length_replicate]
    omega

/-- THE RULE: a def (or a method) of the text, by its body. The body's reading t is chosen for each entry; it is run at the parameters' values -/
theorem fn_of {CX : CXT} {P : Program} {w : World} {K : PySem.W.Frag} {mg : Str → Option Value} {base : Heap} {k : Nat} {f : Addr} {name qual : Str} {params : Arguments} {body : List Stmt} {scope : Scope} {dV kV doc pm cdv ct oc : Value} {an od : Option Addr}
    {osl : Array (Option Value)} {N ps : List Str} {sp : Sp} (lk : K.lookup f = some ⟨oc, od, .func (PySem.W.fnOf name qual params body scope dV kV doc pm an cdv ct), osl⟩) (hcd : PySem.W.codeIn K cdv qual = true) (S : FnScope N ps scope)
    (len : ∀ vs H Q E, sp vs H Q E → vs.length = ps.length)
    (hbody : ∀ (A : Around) (outer : List Env) (s : Shared) (H : Hp) (vs : List V) (Q : VK) (E : XK), Room k (A.deeper (envOfC qual scope s.heap.objs.size f cdv)) → sp vs H Q E →
      ∃ t, PSs (cxOf CX P w K mg base N qual scope f cdv A outer s H E) body t ∧ t { nx := fun _ H' => Q .non H', rt := Q } (start N vs) H) :
    FnOk P w K mg base CX (k + 1) f (PySem.W.fnOf name qual params body scope dV kV doc pm an cdv ct) ps sp := by
  refine ⟨len, fun A outer s H args us vs Q E hr e0 hb r hsp => ?_⟩
  have hl := len _ _ _ _ hsp
  have KX : K.In s.heap := e0.mod.kin.keeps fun b o e => (e0.bs b o e).1
  have lim : s.heap.NoLimit := e0.mod.nolimit.keeps fun b o e => (e0.bs b o e).1
  have hkind : ∀ y ∈ ps.zip us, scope.names.lookup y.1 = some .local ∨ (scope.names.lookup y.1 = some .cell ∧ ((cellsFrom (s.heap.objs.size + 1) scope.names []).lookup y.1).isSome = true) := fun ⟨n, v⟩ hy => by
    rcases S.par n (List.of_mem_zip hy).1 with q | q
    · exact .inl q
    · exact .inr ⟨q, PySem.W.cellsFrom_some _ _ _ (.inl q)⟩
  refine codeAny_call_function hr.depth (KX _ _ lk) rfl S.co S.gen rfl (PySem.W.codeRec_of KX hcd) (hb _ _ _ _ ?_)
  refine wpAny_newFunctionEnv_cells S.kind hkind fun env he s1 x => ?_
  subst he
  refine ⟨lim.keeps x.toInCall.keep, codeAny_func ?_⟩
  obtain ⟨t, ht, hq⟩ := hbody A outer s H vs Q E (hr.deeper _) hsp
  have I : Inv (cxOf CX P w K mg base N qual scope f cdv A outer s H E) [] (start N vs) H s1 := inv_start S hr.hd e0 hl r x
  refine wpAny_mono (ht [] s1 (start N vs) H _ I hq) (fun fl s' hs => ?_) fun e s' hs => hs
  have fin : ∀ {σ' : St} {H' : Hp} {v : V} {u : Value}, Inv (cxOf CX P w K mg base N qual scope f cdv A outer s H E) [] σ' H' s' → RelV v u → Q v H' → CE outer P w H s Q u s' :=
    fun {σ' H' v u} J rv q => ⟨v, H', J.os, J.bare, J.base, J.hok, rv, q⟩
  cases fl with
  | ret u =>
    obtain ⟨v, σ', H', J, rv, q⟩ := hs
    exact fin J rv q
  | next =>
    obtain ⟨σ', H', J, q⟩ := hs
    exact fin (v := V.non) (u := Value.none) J rfl q
  | brk =>
    obtain ⟨_, _, _, q⟩ := hs
    exact False.elim q
  | cont =>
    obtain ⟨_, _, _, q⟩ := hs
    exact False.elim q
end L2

namespace L2
open PySem PySem.Spec PyProof.Rows
section
variable {X : Cx} {x : Str} {p pos : Pos} {e : Expr} {es : List Expr} {t : TA} {id T : String} {r : List V → Hp → VK → Prop}

def tCB (r : List V → Hp → VK → Prop) (t : TA) : TE := fun σ H Q => t σ H fun vs H1 => r vs H1 Q
/-- f(e, ..), f a built-in function -/
theorem pe_callB (hc : CallR X (.builtin id) r) (hg : Gl X x) (hm : X.mg x = none) (hv : bootBuiltins x = some (.builtin id)) (ha : PA X (e :: es) t) (hn : x ≠ "__name__" := by decide) (hdb : (x == ("__debug__" : Str)) = false := by decide)
    (he : starEach (e :: es) X.env = (false, eval e X.env) :: starEach es X.env := by rfl) (hpl : (backTo pos (starEach es X.env)).any (·.1) = false := by rfl) : PE X (.Call (.Name x p) (e :: es) [] pos) (tCB r t) := by
  intro pins s σ H Q I h
  refine wpAny_Call_Name_kw (ld_blt I hg hm hv ?_ hn hdb)
  exact PyProof.Rows.callWith_builtin1 (thn (ha pos pins s σ H _ I h) fun us s1 ⟨vs, H1, I1, r1, q1⟩ => hc pins s1 σ H1 vs us Q I1 r1 q1) he hpl
/-- T(e, ..), T a built-in type -/
theorem pe_callTy (hc : CallR X (.type T) r) (hg : Gl X x) (hm : X.mg x = none) (hv : bootBuiltins x = some (.type T)) (ha : PA X (e :: es) t) (hn : x ≠ "__name__" := by decide) (hdb : (x == ("__debug__" : Str)) = false := by decide)
    (he : starEach (e :: es) X.env = (false, eval e X.env) :: starEach es X.env := by rfl) (hpl : (backTo pos (starEach es X.env)).any (·.1) = false := by rfl) : PE X (.Call (.Name x p) (e :: es) [] pos) (tCB r t) := by
  intro pins s σ H Q I h
  refine wpAny_Call_Name_kw (ld_blt I hg hm hv ?_ hn hdb)
  exact PyProof.Rows.callWith_type1 (thn (ha pos pins s σ H _ I h) fun us s1 ⟨vs, H1, I1, r1, q1⟩ => hc pins s1 σ H1 vs us Q I1 r1 q1) he hpl
end
end L2

namespace HT
open PySem PyProof.Rows

/-- t < u of tuples of ints -/
def lexLt : List Int → List Int → Bool
  | [], [] => false
  | [], _ :: _ => true
  | _ :: _, [] => false
  | x :: xs, y :: ys => if x = y then lexLt xs ys else decide (x < y)
section
open PySem.SeqAt
open PySem.AutoSeq1 (wpAny_loadPart')
open PySem.MeetsSeq PySem.MeetsSeq2 PySem.MeetsSeq3

end

section
variable {prog : Program} {w : World} {A : Around} {E : Value → Shared → Prop} {s : Shared}

/-! ### t[a:b], not the whole -/
/-- a slice's bound as a place among n (d where it is left out) -/
def sIx (n d : Nat) : Option Int → Nat
  | none => d
  | some v => if v < 0 then (v + (n : Int)).toNat else min v.toNat n
theorem sIx_none (n d : Nat) : sIx n d none = d := rfl
theorem sIx_nat (n d k : Nat) : sIx n d (some (k : Int)) = min k n := by
  show (if (k : Int) < 0 then ((k : Int) + (n : Int)).toNat else min (k : Int).toNat n) = min k n
  rw [if_neg (by omega), Int.toNat_natCast]
theorem sIx_le (n d : Nat) (hd : d ≤ n) (o : Option Int) : sIx n d o ≤ n := by
  cases o with
  | none => exact hd
  | some v =>
    show (if v < 0 then (v + (n : Int)).toNat else min v.toNat n) ≤ n
    by_cases hv : v < 0
    · rw [if_pos hv]; omega
    · rw [if_neg hv]; exact Nat.min_le_right _ _
theorem clip_eq (v : Int) (n d : Nat) : (if v < 0 then max (v + (n : Int)) 0 else min v (n : Int)) = ((sIx n d (some v) : Nat) : Int) := by
  show (if v < 0 then max (v + (n : Int)) 0 else min v (n : Int)) = (((if v < 0 then (v + (n : Int)).toNat else min v.toNat n) : Nat) : Int)
  by_cases hv : v < 0
  · simp only [if_pos hv]; omega
  · simp only [if_neg hv]; omega
theorem adjust_gen (lo hi : Option Int) (n : Nat) : Builtin.Slice.sliceAdjust lo hi 1 (n : Int) = (((sIx n 0 lo : Nat) : Int), ((sIx n n hi : Nat) : Int)) := by
  have h1 : ¬ ((1 : Int) < 0) := by omega
  unfold Builtin.Slice.sliceAdjust
  simp only [h1, if_false]
  refine Prod.ext ?_ ?_
  · cases lo with
    | none => rfl
    | some v => exact clip_eq v n 0
  · cases hi with
    | none => rfl
    | some v => exact clip_eq v n n
theorem places_gen (i j : Nat) : Builtin.Slice.slicePlaces (i : Int) (j : Int) 1 = j - i := by
  unfold Builtin.Slice.slicePlaces
  have h1 : (1 : Int) > 0 := by omega
  simp only [h1, if_true, Int.ediv_one]
  split <;> omega
theorem slicePart_ {v : Value} {o : Option Int} {Q : Option Int → Shared → Prop} (p : IsPart v o) (h : Q o s) : wpAny (model prog w) A (Builtin.Slice.slicePartIndex v) Q E s := by
  cases p with
  | none => exact slicePart_none h
  | int i t => exact slicePart_int h
theorem sliceApplied_gen {sl : Addr} {vl vu : Value} {lo hi : Option Int} {n : Nat} {Q : Int × Int × Nat → Shared → Prop} (hs : s.heap.IsSliceOf sl vl vu .none) (pl : IsPart vl lo) (pu : IsPart vu hi)
    (h : Q (((sIx n 0 lo : Nat) : Int), 1, sIx n n hi - sIx n 0 lo) s) : wpAny (model prog w) A (Builtin.Slice.sliceApplied (.ref sl) (pure (n : Int))) Q E s := by
  obtain ⟨os, hos, hcs, hds⟩ := id hs
  unfold Builtin.Slice.sliceApplied Builtin.Slice.sliceFields
  refine wpAny_bind (wpAny_bind (wpAny_field hos hds (x := vl) rfl (wpAny_bind (wpAny_field hos hds (x := vu) rfl (wpAny_bind (wpAny_field hos hds (x := .none) rfl (wpAny_pure ?_)))))))
  refine wpAny_bind (slicePart_none ?_)
  show wpAny _ _ (if ((1 : Int) == 0) = true then _ else _) _ _ s
  rw [if_neg (by decide)]
  refine wpAny_bind (slicePart_ pl (wpAny_bind (slicePart_ pu (wpAny_bind (wpAny_pure ?_)))))
  show wpAny _ _ (match Builtin.Slice.sliceAdjust lo hi 1 (n : Int) with | (lo, hi) => pure (lo, (1 : Int), Builtin.Slice.slicePlaces lo hi 1)) _ _ s
  rw [adjust_gen lo hi n]
  show wpAny _ _ (pure (((sIx n 0 lo : Nat) : Int), (1 : Int), Builtin.Slice.slicePlaces ((sIx n 0 lo : Nat) : Int) ((sIx n n hi : Nat) : Int) 1)) _ _ s
  rw [places_gen]
  exact wpAny_pure h
theorem pick_gen (xs : Array Value) (i k : Nat) : ((List.range k).filterMap fun (m : Nat) => xs[((i : Int) + (m : Int) * 1).toNat]?).toArray = ((xs.toList.drop i).take k).toArray := by
  have e : (fun (m : Nat) => xs[((i : Int) + (m : Int) * 1).toNat]?) = fun m => xs[i + m]? := by
    funext m
    have : ((i : Int) + (m : Int) * 1).toNat = i + m := by omega
    rw [this]
  rw [e]
  have := pick_run xs i k
  rw [List.filterMap_map] at this
  have e2 : ((fun x => xs[x]?) ∘ fun x => i + x) = fun m => xs[i + m]? := rfl
  rw [e2] at this
  rw [this]

theorem getItem_tuple_cut {t sl : Addr} {items : Array Value} {vl vu : Value} {lo hi : Option Int} {Q : Value → Shared → Prop} (ht : IsTup s.heap t items) (hs : s.heap.IsSliceOf sl vl vu .none) (pl : IsPart vl lo) (pu : IsPart vu hi)
    (hw : ¬ (sIx items.size 0 lo = 0 ∧ sIx items.size items.size hi = items.size))
    (h : Q (.ref s.heap.objs.size) { s with heap := s.heap.push { cls := .type "tuple", data := .seq ((items.toList.drop (sIx items.size 0 lo)).take (sIx items.size items.size hi - sIx items.size 0 lo)).toArray } })
    (hsz : items.size ≤ sizeLine) : wpAny (model prog w) A (getItem (.ref t) (.ref sl)) Q E s := by
  have htake : sizeOk (.seq ((items.toList.drop (sIx items.size 0 lo)).take (sIx items.size items.size hi - sIx items.size 0 lo)).toArray) := by
    show ((items.toList.drop (sIx items.size 0 lo)).take (sIx items.size items.size hi - sIx items.size 0 lo)).toArray.size ≤ sizeLine
    rw [List.size_toArray, List.length_take, List.length_drop, Array.length_toList]
    omega
  have hj : sIx items.size items.size hi ≤ items.size := sIx_le _ _ (Nat.le_refl _) hi
  obtain ⟨os, hos, hcs, hds⟩ := id hs
  have hTs : s.TypeIs (.ref sl) "slice" := ⟨os, hos, hcs⟩
  unfold getItem
  try with_reducible refine wpAny_holding ?_
  first | refine wpAny_bind (wpAny_pure ?_) | skip
  refine wpAny_bind (wpAny_sequenceKey ht.typeIs (by decide) ?_)
  refine wpAny_bind (wpAny_callSpecial?_slot (name := Str.ofString "__getitem__") ht.typeIs PyProof.Rows.slot_tuple_getitem
    (wpAny_call_entry PyProof.Rows.slot_tuple_getitem ht.typeIs entry_tuple_getitem ?_ (args_tuple_getitem _ _)))
  show wpAny _ _ (Builtin.Tuple.tupleItemsOf (.ref t) >>= _) _ _ s
  refine wpAny_bind (tupleItemsOf_ ht ?_)
  refine wpAny_bind (wpAny_typeOf hTs ?_)
  rw [if_pos (by decide)]
  refine wpAny_bind (sliceApplied_gen hs pl pu ?_)
  have hno : ¬ ((((sIx items.size 0 lo : Nat) : Int) == 0 && (1 : Int) == 1 && (sIx items.size items.size hi - sIx items.size 0 lo) == items.size) = true) := by
    intro q
    rw [Bool.and_eq_true, Bool.and_eq_true] at q
    have q1 : ((sIx items.size 0 lo : Nat) : Int) = 0 := eq_of_beq q.1.1
    have q2 : sIx items.size items.size hi - sIx items.size 0 lo = items.size := eq_of_beq q.2
    exact hw ⟨by omega, by omega⟩
  show wpAny _ _ (if (((sIx items.size 0 lo : Nat) : Int) == 0 && (1 : Int) == 1 && (sIx items.size items.size hi - sIx items.size 0 lo) == items.size) = true then _ else _) _ _ s
  rw [if_neg hno, pick_gen]
  first
    | exact wpAny_bind (m := Builtin.Tuple.tupleExact _) (wpAny_newObj_type (wpAny_pure ⟨_, rfl, wpAny_pure h⟩) htake)
    | exact wpAny_bind (m := Builtin.Tuple.tupleExact _) (wpAny_newObj_type (wpAny_bind (wpAny_pure (wpAny_pure ⟨_, rfl, wpAny_pure h⟩))) htake)
    | exact wpAny_bind (wpAny_bind (m := Builtin.Tuple.tupleExact _) (wpAny_newObj_type (wpAny_pure (wpAny_pure ⟨_, rfl, wpAny_pure h⟩)) htake))
    | exact wpAny_bind (wpAny_bind (m := Builtin.Tuple.tupleExact _) (wpAny_newObj_type (wpAny_pure ⟨_, rfl, wpAny_pure h⟩) htake))
end
end HT

namespace L2
open PySem PySem.Spec PyProof.Rows

/-! ### the parts of a slice -/
abbrev TO := St → Hp → (Option Int → Hp → Prop) → Prop
/-- a slice's part (left out, or an int) -/
def PO (X : Cx) (e : Option Expr) (t : TO) : Prop :=
  ∀ (pins : List (Addr × Obj)) (s : Shared) (σ : St) (H : Hp) (Q : Option Int → Hp → Prop), Inv X pins σ H s → t σ H Q →
    wpAny (model X.prog X.w) X.A (evalPart e X.env) (fun u s' => ∃ o H', Inv X pins σ H' s' ∧ IsPart u o ∧ Q o H') X.xe s
def tNoPart : TO := fun _ H Q => Q none H
inductive tPartI (Q : (Option Int → Hp → Prop)) (x : V) (H1 : Hp) : Prop
  | mk (i : _) (h0_ : x = .int i) (h1_ : Q (some i) H1) : tPartI Q x H1
def tPart (t : TE) : TO := fun σ H Q => t σ H fun x H1 => tPartI Q x H1

section
variable {X : Cx} {e : Expr} {te : TE} {lo hi : Option Expr} {tl th : TO} {pos p2 : Pos}

theorem po_none : PO X none tNoPart := by
  intro pins s σ H Q I h
  rw [evalPart_none]
  exact wpAny_pure ⟨none, H, I, .none, h⟩
theorem po_some (h : PE X e te) : PO X (some e) (tPart te) := by
  intro pins s σ H Q I hw
  rw [evalPart_some]
  refine thn (h pins s σ H _ I hw) fun u s1 ⟨x, H1, I1, r1, q1⟩ => ?_
  obtain ⟨i, rfl, q⟩ := q1
  obtain ⟨t, rfl⟩ := r1
  exact ⟨some i, H1, I1, .int i t, q⟩

/-- what a slice of a value is, by values: the slice object stands at sl -/
def SlR (X : Cx) (r : V → Option Int → Option Int → Hp → VK → Prop) : Prop :=
  ∀ (pins : List (Addr × Obj)) (s : Shared) (σ : St) (H : Hp) (x : V) (v vl vu : Value) (lo hi : Option Int) (sl : Addr) (Q : VK), Inv X pins σ H s → RelV x v → s.heap.IsSliceOf sl vl vu .none → IsPart vl lo → IsPart vu hi → r x lo hi H Q →
    ∃ T id, typeLookup (.type T) "__getitem__" = pure (some (.builtin id)) ∧ s.TypeIs v T ∧ wpAny (model X.prog X.w) X.A (getItem v (.ref sl)) (EP X pins σ Q) X.xe s
theorem SlR.or {r r' : V → Option Int → Option Int → Hp → VK → Prop} (h : SlR X r) (h' : SlR X r') : SlR X (fun x lo hi H Q => r x lo hi H Q ∨ r' x lo hi H Q) := by
  intro pins s σ H x v vl vu lo hi sl Q I rx hs pl pu q
  rcases q with q | q
  · exact h pins s σ H x v vl vu lo hi sl Q I rx hs pl pu q
  · exact h' pins s σ H x v vl vu lo hi sl Q I rx hs pl pu q
def tSl (r : V → Option Int → Option Int → Hp → VK → Prop) (te : TE) (tl th : TO) : TE := fun σ H Q => te σ H fun x H1 => tl σ H1 fun l H2 => th σ H2 fun u H3 => r x l u H3 Q
/-- a[lo:hi], any a -/
theorem pe_slice {r : V → Option Int → Option Int → Hp → VK → Prop} (hr : SlR X r) (he : PE X e te) (hl : PO X lo tl) (hu : PO X hi th) : PE X (.Subscript e (.Slice lo hi none p2) pos) (tSl r te tl th) := by
  intro pins s σ H Q I h
  refine Subscript_ (thn (he pins s σ H _ I h) fun v s1 ⟨x, H1, I1, r1, q1⟩ => ?_)
  refine wpAny_Slice (thn (hl pins s1 σ H1 _ I1 q1) fun vl s2 ⟨l, H2, I2, pl, q2⟩ => thn (hu pins s2 σ H2 _ I2 q2) fun vu s3 ⟨u, H3, I3, pu, q3⟩ => ?_)
  rw [evalPart_none]
  refine wpAny_pure ?_
  have I4 : Inv X pins σ H3 { s3 with heap := s3.heap.push { cls := .type "slice", data := .fields #[vl, vu, .none] } } := I3.kept (t' := s3.toks) fun b ob q => Heap.get?_push_of_some _ q
  obtain ⟨T, id, hT, ht, hg⟩ := hr pins { s3 with heap := s3.heap.push { cls := .type "slice", data := .fields #[vl, vu, .none] } } σ H3 x v vl vu l u s3.heap.objs.size Q I4 r1 (Heap.IsSliceOf.new ..) pl pu q3
  show wpAny (model X.prog X.w) X.A (subscriptTail e (.Slice lo hi none p2) v (.ref s3.heap.objs.size)) (EP X pins σ Q) X.xe { s3 with heap := s3.heap.push { cls := .type "slice", data := .fields #[vl, vu, .none] } }
  exact tail_any (ops := [.ref s3.heap.objs.size, v]) ht hT hg (by with_unfolding_all rfl)

/-- the items of xs[lo:hi] -/
def cutV (xs : List V) (lo hi : Option Int) : List V := (xs.drop (HT.sIx xs.length 0 lo)).take (HT.sIx xs.length xs.length hi - HT.sIx xs.length 0 lo)
theorem cutV_length (xs : List V) (lo hi : Option Int) : (cutV xs lo hi).length ≤ xs.length := by
  unfold cutV
  rw [List.length_take, List.length_drop]
  omega
/-- t[lo:hi], not the whole of it (the whole would be t itself) -/
inductive rSlTI (K : PySem.W.Frag) (x : V) (lo : Option Int) (hi : Option Int) (H : Hp) (Q : VK) : Prop
  | mk (a : _) (xs : _) (h0_ : x = .ref a) (h1_ : SqT K H a xs) (h2_ : ¬ (HT.sIx xs.length 0 lo = 0 ∧ HT.sIx xs.length xs.length hi = xs.length)) (h3_ : ∀ p, H p = none → Q (.ref p) (upd H p (.tup (cutV xs lo hi)))) : rSlTI K x lo hi H Q
def rSlT (K : PySem.W.Frag) : V → Option Int → Option Int → Hp → VK → Prop := fun x lo hi H Q => rSlTI K x lo hi H Q
theorem sl_tup : SlR X (rSlT X.K) := by
  intro pins s σ H x v vl vu lo hi sl Q I rx hs pl pu h
  obtain ⟨a, xs, rfl, hx, hw, q⟩ := h
  cases rx
  obtain ⟨its, r, ht, hz⟩ := I.tuple hx
  have hlen : its.toArray.size = xs.length := by rw [List.size_toArray]; exact r.length.symm
  refine ⟨"tuple", _, PyProof.Rows.slot_tuple_getitem.lookup, ht.typeIs, ?_⟩
  refine HT.getItem_tuple_cut ht hs pl pu (by rw [hlen]; exact hw) ?_ (by rw [hlen]; exact hz)
  rw [hlen]
  refine ⟨.ref s.heap.objs.size, _, I.laid (t' := s.toks) (o := .tup (cutV xs lo hi)) (fun b ob q => Heap.get?_push_of_some _ q) (Nat.le_refl _) ?_, rfl, q _ (I.hok.fresh (Nat.le_refl _))⟩
  exact ⟨Nat.le_trans (cutV_length xs lo hi) hz, _, (r.drop (HT.sIx xs.length 0 lo)).take (HT.sIx xs.length xs.length hi - HT.sIx xs.length 0 lo), IsTup.new _ _⟩

/-! ### t < u, t + u -/
def rLtT (K : PySem.W.Frag) : R2 := fun x y H Q => ∃ a b ns ms, x = .ref a ∧ y = .ref b ∧ SqT K H a (ns.map V.int) ∧ SqT K H b (ms.map V.int) ∧ Q (.bl (HT.lexLt ns ms)) H
/-- t + u, t not empty: u empty gives t itself -/
def rCatT (K : PySem.W.Frag) : R2 := fun x y H Q => ∃ a b xs ys, x = .ref a ∧ y = .ref b ∧ SqT K H a xs ∧ SqT K H b ys ∧ xs ≠ [] ∧ xs.length + ys.length ≤ sizeLine ∧
  (ys = [] → Q (.ref a) H) ∧ (ys ≠ [] → ∀ p, H p = none → Q (.ref p) (upd H p (.tup (xs ++ ys))))
end
end L2

namespace L2
open PySem PySem.Spec PyProof.Rows

/-! ### places -/
/-- the place that an index of any sign means -/
def ixN (n : Nat) (i : Int) : Option Nat := if 0 ≤ i then (if i < n then some i.toNat else none) else if -(n : Int) ≤ i then some (i + n).toNat else none
def atI {α : Type} (xs : List α) (i : Int) : Option α := (ixN xs.length i).bind fun j => xs[j]?
theorem ixN_seq {n : Nat} {i : Int} {j : Nat} (h : ixN n i = some j) : seqIndex? i n = some j ∧ j < n ∧ -(n : Int) ≤ i ∧ i < n := by
  unfold ixN at h
  by_cases h0 : 0 ≤ i
  · rw [if_pos h0] at h
    by_cases h1 : i < n
    · rw [if_pos h1] at h
      have e : i.toNat = j := Option.some.inj h
      exact ⟨by rw [seqIndex_of h0 h1, e], by omega, by omega, h1⟩
    · rw [if_neg h1] at h; cases h
  · rw [if_neg h0] at h
    by_cases h1 : -(n : Int) ≤ i
    · rw [if_pos h1] at h
      have e : (i + n).toNat = j := Option.some.inj h
      exact ⟨by rw [seqIndex_neg (by omega) h1, e], by omega, h1, by omega⟩
    · rw [if_neg h1] at h; cases h
theorem atI_get {α : Type} {xs : List α} {i : Int} {v : α} (h : atI xs i = some v) : ∃ j, seqIndex? i xs.length = some j ∧ xs[j]? = some v ∧ j < xs.length ∧ -(xs.length : Int) ≤ i ∧ i < xs.length := by
  unfold atI at h
  cases e : ixN xs.length i with
  | none => rw [e] at h; cases h
  | some j =>
    rw [e] at h
    obtain ⟨h1, h2, h3, h4⟩ := ixN_seq e
    exact ⟨j, h1, h, h2, h3, h4⟩
theorem atI_nat {α : Type} {xs : List α} {j : Nat} {v : α} (h : xs[j]? = some v) : atI xs (j : Int) = some v := by
  have hj : j < xs.length := (List.getElem?_eq_some_iff.mp h).1
  have e : ixN xs.length (j : Int) = some j := by
    unfold ixN
    rw [if_pos (by omega), if_pos (by omega)]; simp
  unfold atI; rw [e]; exact h
/-! ### what may be subscripted -/
/-- what stands as an index of a plain subscript -/
def PlainIx (b : Expr) : Prop := ∀ o i, subscripted b false o i = operate [o, i] (getItem o i)
/-- a subscript by values -/
def IxR (X : Cx) (r : R2) : Prop :=
  ∀ (value slice : Expr) (pins : List (Addr × Obj)) (s : Shared) (σ : St) (H : Hp) (x y : V) (v u : Value) (Q : VK), Inv X pins σ H s → RelV x v → RelV y u → r x y H Q →
    subscripted slice false v u = operate [v, u] (getItem v u) → wpAny (model X.prog X.w) X.A (subscriptTail value slice v u) (EP X pins σ Q) X.xe s
/-- a call of a builtin's method by values: the receiver, the arguments -/
def MtR (X : Cx) (id : String) (r : V → List V → Hp → VK → Prop) : Prop :=
  ∀ (pins : List (Addr × Obj)) (s : Shared) (σ : St) (H : Hp) (x : V) (xs : List V) (v : Value) (us : List Value) (Q : VK), Inv X pins σ H s → RelV x v → Vals xs us → r x xs H Q →
    wpAny (model X.prog X.w) X.A (call (.builtin id) (v :: us)) (EP X pins σ Q) X.xe s
section
variable {X : Cx} {a b : Expr} {ta tb : TE} {pos : Pos}
theorem IxR.or {r r' : R2} (h : IxR X r) (h' : IxR X r') : IxR X (fun x y H Q => r x y H Q ∨ r' x y H Q) := by
  intro value slice pins s σ H x y v u Q I rx ry q hs
  rcases q with q | q
  · exact h value slice pins s σ H x y v u Q I rx ry q hs
  · exact h' value slice pins s σ H x y v u Q I rx ry q hs
/-- a[b] -/
theorem pe_ix {r : R2} (hr : IxR X r) (ha : PE X a ta) (hb : PE X b tb) (hs : PlainIx b) : PE X (.Subscript a b pos) (tOp r ta tb) := by
  intro pins s σ H Q I h
  exact Subscript_ (binT ha hb I h fun v u s2 x y H2 I2 rx ry q => hr a b pins s2 σ H2 x y v u Q I2 rx ry q (hs _ _))

inductive rIxLI (K : PySem.W.Frag) (x : V) (y : V) (H : Hp) (Q : VK) : Prop
  | mk (p : _) (xs : _) (i : _) (v : _) (h0_ : x = .ref p) (h1_ : y = .int i) (h2_ : SqL K H p xs) (h3_ : atI xs i = some v) (h4_ : Q v H) : rIxLI K x y H Q
def rIxL (K : PySem.W.Frag) : R2 := fun x y H Q => rIxLI K x y H Q
inductive rIxTI (K : PySem.W.Frag) (x : V) (y : V) (H : Hp) (Q : VK) : Prop
  | mk (p : _) (xs : _) (i : _) (v : _) (h0_ : x = .ref p) (h1_ : y = .int i) (h2_ : SqT K H p xs) (h3_ : atI xs i = some v) (h4_ : Q v H) : rIxTI K x y H Q
def rIxT (K : PySem.W.Frag) : R2 := fun x y H Q => rIxTI K x y H Q
inductive rIxSI (x : V) (y : V) (H : Hp) (Q : VK) : Prop
  | mk (z : _) (i : _) (c : _) (h0_ : x = .str z) (h1_ : y = .int i) (h2_ : z.length ≤ sizeLine) (h3_ : atI z.cps.toList i = some c) (h4_ : Q (.str ⟨#[c]⟩) H) : rIxSI x y H Q
def rIxS  : R2 := fun x y H Q => rIxSI x y H Q
theorem ix_list : IxR X (rIxL X.K) := by
  intro value slice pins s σ H x y v u Q I rx ry h hs
  obtain ⟨p, xs, i, z, rfl, rfl, hq, he, q⟩ := h
  cases rx
  obtain ⟨t, rfl⟩ := ry
  obtain ⟨its, r, pl, hz⟩ := I.list hq
  obtain ⟨j, h1, h2, h3, h4, h5⟩ := atI_get he
  obtain ⟨w, ew, rw'⟩ := r.get h2
  have hl := r.length
  have hn := line63
  have fin : EP X pins σ Q w s := ⟨z, H, I, rw', q⟩
  by_cases h0 : 0 ≤ i
  · have hj : i.toNat = j := by
      rw [seqIndex_of h0 h5] at h1
      exact Option.some.inj h1
    exact item_listR pl.isList h0 (by omega) (by rw [hj]; simpa using ew) fin hs
  · have hj : (i + (its.toArray.size : Int)).toNat = j := by
      rw [seqIndex_neg (by omega) h4] at h1
      rw [List.size_toArray, ← hl]
      exact Option.some.inj h1
    exact subscriptTail_builtinR (x := w) pl.isList.typeIs slot_list_getitem.lookup
      (wpAny_getItem_list_neg (Q := fun r s' => r = w ∧ EP X pins σ Q r s') pl.isList (by omega) (by rw [List.size_toArray] <;> omega) (by omega) (by rw [hj]; simpa using ew) ⟨rfl, fin⟩) hs
theorem ix_tup : IxR X (rIxT X.K) := by
  intro value slice pins s σ H x y v u Q I rx ry h hs
  obtain ⟨p, xs, i, z, rfl, rfl, hq, he, q⟩ := h
  cases rx
  obtain ⟨t, rfl⟩ := ry
  obtain ⟨its, r, pl, hz⟩ := I.tuple hq
  obtain ⟨j, h1, h2, h3, h4, h5⟩ := atI_get he
  obtain ⟨w, ew, rw'⟩ := r.get h2
  have hl := r.length
  have hn := line63
  have fin : EP X pins σ Q w s := ⟨z, H, I, rw', q⟩
  exact subscriptTail_builtinR (x := w) pl.typeIs slot_tuple_getitem.lookup
    (getItem_tuple (j := j) (Q := fun r s' => r = w ∧ EP X pins σ Q r s') pl (by omega) (by omega) (by rw [List.size_toArray, ← hl]; exact h1) (by simpa using ew) ⟨rfl, fin⟩) hs
theorem ix_str : IxR X rIxS := by
  intro value slice pins s σ H x y v u Q I rx ry h hs
  obtain ⟨z, i, c, rfl, rfl, hz, he, q⟩ := h
  obtain ⟨t, rfl⟩ := rx
  obtain ⟨t', rfl⟩ := ry
  obtain ⟨j, h1, h2, h3, h4, h5⟩ := atI_get he
  have hl : z.cps.toList.length = z.length := by simp [Str.length]
  rw [hl] at h1 h4 h5
  have hn := line63
  exact tail_any (typeIs_str s z t) slot_str_getitem.lookup (getItem_str (c := c) (by
    have e1 : decide (i < -(2 ^ 63 : Int)) = false := decide_eq_false (by omega)
    have e2 : decide (i ≥ 2 ^ 63) = false := decide_eq_false (by omega)
    rw [e1, e2, Bool.or_false]) (by rw [h1]; simpa using h2) ⟨.str ⟨#[c]⟩, H, I.tok _, ⟨_, rfl⟩, q⟩) hs
/-- list, tuple or str -/
def rIx (K : PySem.W.Frag) : R2 := fun x y H Q => rIxL K x y H Q ∨ rIxT K x y H Q ∨ rIxS x y H Q
theorem ix_seq : IxR X (rIx X.K) := ix_list.or (ix_tup.or ix_str)

/-! ### xs[i] = v, any sign -/
inductive rSetLI (o : V) (i : V) (v : V) (H : Hp) (Q : (Hp → Prop)) : Prop
  | mk (p : _) (xs : _) (k : _) (j : _) (h0_ : o = .ref p) (h1_ : i = .int k) (h2_ : H p = some (.lst xs)) (h3_ : ixN xs.length k = some j) (h4_ : Q (upd H p (.lst (xs.set j v)))) : rSetLI o i v H Q
def rSetL  : V → V → V → Hp → (Hp → Prop) → Prop := fun o i v H Q => rSetLI o i v H Q
/-! ### slices -/
theorem slice_bounds (lo hi : Option Int) (n : Nat) : (sliceBounds lo hi none n).1 = ((HT.sIx n 0 lo : Nat) : Int) ∧ (sliceBounds lo hi none n).2.1 = ((HT.sIx n n hi : Nat) : Int) ∧ (sliceBounds lo hi none n).2.2 = 1 := by
  refine ⟨?_, ?_, rfl⟩
  · cases lo with
    | none => simp [sliceBounds, HT.sIx]
    | some i =>
      simp only [sliceBounds, HT.sIx, Option.getD_none, show (1 : Int) > 0 by decide, if_true]
      by_cases h : i < 0
      · simp only [h, if_true] <;> omega
      · simp only [h, if_false] <;> omega
  · cases hi with
    | none => simp [sliceBounds, HT.sIx]
    | some i =>
      simp only [sliceBounds, HT.sIx, Option.getD_none, show (1 : Int) > 0 by decide, if_true]
      by_cases h : i < 0
      · simp only [h, if_true] <;> omega
      · simp only [h, if_false] <;> omega
theorem slicePick_cut (its : List Value) (lo hi : Option Int) : slicePick its.toArray lo hi none = ((its.drop (HT.sIx its.length 0 lo)).take (HT.sIx its.length its.length hi - HT.sIx its.length 0 lo)).toArray := by
  obtain ⟨h1, h2, h3⟩ := slice_bounds lo hi its.toArray.size
  unfold slicePick
  rw [h1, h2, h3]
  simp only [sliceRange_one, pick_run, List.size_toArray] <;> rfl
/-- xs[lo:hi] of a list: a new list -/
inductive rSlLI (K : PySem.W.Frag) (x : V) (lo : Option Int) (hi : Option Int) (H : Hp) (Q : VK) : Prop
  | mk (a : _) (xs : _) (h0_ : x = .ref a) (h1_ : SqL K H a xs) (h2_ : ∀ p, H p = none → Q (.ref p) (upd H p (.lst (cutV xs lo hi)))) : rSlLI K x lo hi H Q
def rSlL (K : PySem.W.Frag) : V → Option Int → Option Int → Hp → VK → Prop := fun x lo hi H Q => rSlLI K x lo hi H Q
theorem sl_list : SlR X (rSlL X.K) := by
  intro pins s σ H x v vl vu lo hi sl Q I rx hs pl pu h
  obtain ⟨a, xs, rfl, hx, q⟩ := h
  cases rx
  obtain ⟨its, r, ht, hz⟩ := I.list hx
  have hlen := r.length
  refine ⟨"list", _, slot_list_getitem.lookup, ht.isList.typeIs, ?_⟩
  refine wpAny_getItem_list_slice ht.isList hs pl pu .none (by simp) ?_ (by rw [List.size_toArray] <;> omega)
  rw [slicePick_cut, ← hlen]
  refine ⟨.ref s.heap.objs.size, _, I.laid (t' := s.toks) (o := .lst (cutV xs lo hi)) (fun b ob q => Heap.get?_push_of_some _ q) (Nat.le_refl _) ?_, rfl, q _ (I.hok.fresh (Nat.le_refl _))⟩
  exact ⟨Nat.le_trans (cutV_length xs lo hi) hz, _, 0, (r.drop (HT.sIx xs.length 0 lo)).take (HT.sIx xs.length xs.length hi - HT.sIx xs.length 0 lo), Heap.get?_push_size _ rfl⟩

/-! ### in, not in: flat items -/
def flatV : V → Bool
  | .non => true
  | .bl _ => true
  | .int _ => true
  | .str _ => true
  | _ => false
/-- == of flat values -/
def eqV : V → V → Bool
  | .non, .non => true
  | .bl a, .bl b => a == b
  | .bl a, .int b => (if a then 1 else 0) == b
  | .int a, .bl b => a == (if b then 1 else 0)
  | .int a, .int b => a == b
  | .str a, .str b => a == b
  | _, _ => false
theorem eqAt_V {A : Around} {s : Shared} {y x : V} {u v : Value} (ry : RelV y u) (rx : RelV x v) (fy : flatV y = true) (fx : flatV x = true) : SeqAt.EqAt A s u v (eqV y x) := by
  cases y with
  | non =>
    cases ry
    cases x with
    | non => cases rx; exact SeqAt.EqAt.same _
    | bl b => cases rx; exact SeqAt.EqAt.none_bool b
    | int b => obtain ⟨t, rfl⟩ := rx; exact SeqAt.EqAt.none_int b t
    | str b => obtain ⟨t, rfl⟩ := rx; exact SeqAt.EqAt.none_str b t
    | _ => exact absurd (show false = true from fx) Bool.false_ne_true
  | bl a =>
    cases ry
    cases x with
    | non => cases rx; exact SeqAt.EqAt.bool_none a
    | bl b => cases rx; exact SeqAt.EqAt.bool_bool a b
    | int b => obtain ⟨t, rfl⟩ := rx; exact SeqAt.EqAt.bool_int a b t
    | str b => obtain ⟨t, rfl⟩ := rx; exact SeqAt.EqAt.bool_str a b t
    | _ => exact absurd (show false = true from fx) Bool.false_ne_true
  | int a =>
    obtain ⟨t', rfl⟩ := ry
    cases x with
    | non => cases rx; exact SeqAt.EqAt.int_none a t'
    | bl b => cases rx; exact SeqAt.EqAt.int_bool a t' b
    | int b => obtain ⟨t, rfl⟩ := rx; exact SeqAt.EqAt.int_int a t' b t
    | str b => obtain ⟨t, rfl⟩ := rx; exact SeqAt.EqAt.int_str a t' b t
    | _ => exact absurd (show false = true from fx) Bool.false_ne_true
  | str a =>
    obtain ⟨t', rfl⟩ := ry
    cases x with
    | non => cases rx; exact SeqAt.EqAt.str_none a t'
    | bl b => cases rx; exact SeqAt.EqAt.str_bool a t' b
    | int b => obtain ⟨t, rfl⟩ := rx; exact SeqAt.EqAt.str_int a t' b t
    | str b => obtain ⟨t, rfl⟩ := rx; exact SeqAt.EqAt.str_str a t' b t
    | _ => exact absurd (show false = true from fx) Bool.false_ne_true
  | _ => exact absurd (show false = true from fy) Bool.false_ne_true
/-- the items' answers, read off the values (a value's own answer does not lean on its token) -/
def eqU (x : V) (u : Value) : Bool := match u with
  | .none => eqV .non x
  | .bool b => eqV (.bl b) x
  | .int i _ => eqV (.int i) x
  | .str z _ => eqV (.str z) x
  | _ => false
theorem eqU_of {x y : V} {u : Value} (r : RelV y u) (f : flatV y = true) : eqU x u = eqV y x := by
  cases y with
  | non => cases r; rfl
  | bl b => cases r; rfl
  | int i => obtain ⟨t, rfl⟩ := r; rfl
  | str z => obtain ⟨t, rfl⟩ := r; rfl
  | _ => exact absurd (show false = true from f) Bool.false_ne_true
theorem any_eqU {x : V} : ∀ {xs : List V} {us : List Value}, Vals xs us → xs.all flatV = true → us.any (eqU x) = xs.any fun y => eqV y x
  | _, _, .nil, _ => rfl
  | y :: xs, u :: us, .cons r t, f => by
    rw [List.all_cons, Bool.and_eq_true] at f
    rw [List.any_cons, List.any_cons, eqU_of r f.1, any_eqU t f.2]
theorem mem_eqAt {A : Around} {s : Shared} {x : V} {v : Value} (rx : RelV x v) (fx : flatV x = true) : ∀ {xs : List V} {us : List Value}, Vals xs us → xs.all flatV = true → ∀ u ∈ us, SeqAt.EqAt A s u v (eqU x u)
  | _, _, .nil, _ => fun u hu => by cases hu
  | y :: xs, u :: us, .cons r t, f => fun u' hu => by
    rw [List.all_cons, Bool.and_eq_true] at f
    rcases List.mem_cons.mp hu with rfl | hu
    · rw [eqU_of r f.1]; exact eqAt_V r rx f.1 fx
    · exact mem_eqAt rx fx t f.2 u' hu
def inV (x : V) (xs : List V) : Bool := xs.any fun y => eqV y x
/-- x in a list or tuple of flat items -/
inductive rInI (K : PySem.W.Frag) (neg : Bool) (x : V) (y : V) (H : Hp) (Q : VK) : Prop
  | mk (p : _) (xs : _) (h0_ : y = .ref p) (h1_ : (SqL K H p xs ∨ SqT K H p xs)) (h2_ : flatV x = true) (h3_ : xs.all flatV = true) (h4_ : Q (.bl (if neg then !inV x xs else inV x xs)) H) : rInI K neg x y H Q
def rIn (K : PySem.W.Frag) (neg : Bool) : R2 := fun x y H Q => rInI K neg x y H Q
theorem op_in_seq : OpR X (compareOp .In) (rIn X.K false) := by
  intro pins s σ H x y v u Q I rx ry h
  obtain ⟨p, xs, rfl, hq, fx, fs, q⟩ := h
  cases ry
  rcases hq with hq | hq
  · obtain ⟨its, r, pl, hz⟩ := I.list hq
    refine SeqAt.in_listAt (eqU x) pl.isList (fun w hw => mem_eqAt rx fx r fs w (by simpa using hw)) ⟨.bl _, H, I, rfl, ?_⟩
    rw [show its.toArray.any (eqU x) = its.any (eqU x) by simp, any_eqU r fs]
    exact q
  · obtain ⟨its, r, pl, hz⟩ := I.tuple hq
    refine SeqAt.in_tupleAt (eqU x) pl (fun w hw => mem_eqAt rx fx r fs w (by simpa using hw)) ⟨.bl _, H, I, rfl, ?_⟩
    rw [show its.toArray.any (eqU x) = its.any (eqU x) by simp, any_eqU r fs]
    exact q
/-! ### len, list(x), tuple(x) of any list or tuple that is read -/
theorem call_len_seq : CallR X (.builtin "len") (fun xs H Q => ∃ p ys, xs = [.ref p] ∧ (SqL X.K H p ys ∨ SqT X.K H p ys) ∧ Q (.int ys.length) H) := by
  intro pins s σ H xs us Q I r h
  obtain ⟨p, ys, rfl, hq, q⟩ := h
  obtain ⟨u, rfl, rx⟩ := vals1 r
  cases rx
  have hn := line63
  rcases hq with hq | hq
  · obtain ⟨its, r', pl, hz⟩ := I.list hq
    have hlen := r'.length
    exact Calls.call_len_list pl.isList (by simp only [List.size_toArray] <;> omega) ⟨.int ys.length, H, I.tok _, ⟨s.toks + 1, by rw [List.size_toArray, hlen]⟩, q⟩
  · obtain ⟨its, r', pl, hz⟩ := I.tuple hq
    have hlen := r'.length
    exact len_tuple pl (by simp only [List.size_toArray] <;> omega) ⟨.int ys.length, H, I.tok _, ⟨s.toks + 1, by rw [List.size_toArray, hlen]⟩, q⟩
theorem call_len_str : CallR X (.builtin "len") (fun xs H Q => ∃ z, xs = [.str z] ∧ z.length ≤ sizeLine ∧ Q (.int z.length) H) := by
  intro pins s σ H xs us Q I r h
  obtain ⟨z, rfl, hz, q⟩ := h
  obtain ⟨u, rfl, t, rfl⟩ := vals1 r
  have hn := line63
  exact len_str (by omega) ⟨.int z.length, H, I.tok _, ⟨_, rfl⟩, q⟩
theorem CallR.or {f : Value} {r r' : List V → Hp → VK → Prop} (h : CallR X f r) (h' : CallR X f r') : CallR X f (fun xs H Q => r xs H Q ∨ r' xs H Q) := by
  intro pins s σ H xs us Q I rs q
  rcases q with q | q
  · exact h pins s σ H xs us Q I rs q
  · exact h' pins s σ H xs us Q I rs q
theorem call_tuple_of : CallR X (.type "tuple") (fun xs H Q => ∃ p ys, xs = [.ref p] ∧ ((SqL X.K H p ys ∧ ∀ l, H l = none → Q (.ref l) (upd H l (.tup ys))) ∨ (SqT X.K H p ys ∧ Q (.ref p) H))) := by
  intro pins s σ H xs us Q I r h
  obtain ⟨p, ys, rfl, h⟩ := h
  obtain ⟨u, rfl, rx⟩ := vals1 r
  cases rx
  rcases h with ⟨hq, q⟩ | ⟨hq, q⟩
  · obtain ⟨its, r', pl, hz⟩ := I.list hq
    have hlen := r'.length
    refine call_tuple_list pl.isList (fun h' kp => ?_) (by simp only [List.size_toArray] <;> omega)
    have I1 : Inv X pins σ H { s with heap := h' } := I.kept (t' := s.toks) kp
    have I2 : Inv X pins σ (upd H h'.objs.size (.tup ys)) { s with heap := h'.push { cls := .type "tuple", data := .seq its.toArray } } :=
      I1.laid (t' := s.toks) (fun b o e => Heap.get?_push_of_some _ e) (Nat.le_refl _) (show ObjOk X.prog X.w _ _ _ (.tup ys) from ⟨hz, its, r', IsTup.new _ _⟩)
    exact ⟨.ref h'.objs.size, _, I2, rfl, q _ (I1.hok.fresh (Nat.le_refl _))⟩
  · obtain ⟨its, r', pl, hz⟩ := I.tuple hq
    exact call_tuple_same pl ⟨.ref p, H, I, rfl, q⟩

/-! ### the call of a builtin's method: o.m(..) -/
/-- the value is of that builtin type -/
def tyV (K : PySem.W.Frag) (T : String) (x : V) (H : Hp) : Prop := match x with
  | .str _ => T = "str"
  | .int _ => T = "int"
  | .ref p => (T = "list" ∧ ∃ xs, SqL K H p xs) ∨ (T = "tuple" ∧ ∃ o, K.lookup p = some o ∧ o.cls = .type "tuple" ∧ o.dict = none) ∨
      (T = "dict" ∧ ((∃ kvs, H p = some (.dK kvs)) ∨ ∃ kvs, H p = some (.dT kvs))) ∨ (T = "set" ∧ ∃ S n, H p = some (.set S n))
  | _ => False
theorem tyV_is {pins : List (Addr × Obj)} {σ : St} {H : Hp} {s : Shared} {T : String} {x : V} {v : Value} (I : Inv X pins σ H s) (r : RelV x v) (ty : tyV X.K T x H) :
    s.TypeIs v T ∧ ∀ a, v = .ref a → ∃ ob, s.heap.get? a = some ob ∧ ob.dict = none := by
  cases x with
  | str z =>
    obtain ⟨t, rfl⟩ := r
    cases (show T = "str" from ty)
    exact ⟨typeIs_str s z t, fun _ e => nomatch e⟩
  | int i =>
    obtain ⟨t, rfl⟩ := r
    cases (show T = "int" from ty)
    exact ⟨typeIs_int s i t, fun _ e => nomatch e⟩
  | ref p =>
    cases r
    rcases ty with ⟨rfl, xs, hq⟩ | ⟨rfl, o, hk, hc, hd⟩ | ⟨rfl, hk⟩ | ⟨rfl, S, n, hk⟩
    · obtain ⟨its, _, pl, _⟩ := I.list hq
      refine ⟨pl.isList.typeIs, fun a e => ?_⟩
      cases e
      obtain ⟨o, n, e, c, hd, _⟩ := pl
      exact ⟨o, e, hd⟩
    · refine ⟨⟨o, I.kIn p o hk, hc⟩, fun a e => ?_⟩
      cases e
      exact ⟨o, I.kIn _ o hk, hd⟩
    · have z : ∃ o, s.heap.get? p = some o ∧ o.ExactDict := by
        rcases hk with ⟨kvs, hk⟩ | ⟨kvs, hk⟩
        · obtain ⟨_, _, _, _, o, _, _, e, ex, _⟩ := I.hok p _ hk
          exact ⟨o, e, ex⟩
        · obtain ⟨_, _, _, _, o, _, _, e, ex, _⟩ := I.hok p _ hk
          exact ⟨o, e, ex⟩
      obtain ⟨o, e, ex⟩ := z
      refine ⟨⟨o, e, ex.1⟩, fun a e2 => ?_⟩
      cases e2
      exact ⟨o, e, ex.2.1⟩
    · obtain ⟨o, _, _, _, e, ex, _⟩ := I.hok p _ hk
      refine ⟨⟨o, e, ex.1⟩, fun a e2 => ?_⟩
      cases e2
      exact ⟨o, e, ex.2.1⟩
  | _ => exact False.elim ty
def tBM0 (K : PySem.W.Frag) (T : String) (r : V → List V → Hp → VK → Prop) (to : TE) : TE := fun σ H Q => to σ H fun x H1 => tyV K T x H1 ∧ r x [] H1 Q
def tBM (K : PySem.W.Frag) (T : String) (r : V → List V → Hp → VK → Prop) (to : TE) (t : TA) : TE := fun σ H Q => to σ H fun x H1 => tyV K T x H1 ∧ t σ H1 fun xs H2 => r x xs H2 Q
variable {o e : Expr} {es : List Expr} {to : TE} {t : TA} {name : Str} {apos cpos : Pos} {T id : String} {r : V → List V → Hp → VK → Prop}
theorem pe_bm (pa : PlainAttrs T) (slot : Slot T name id) (hty : typeOf (.builtin id) = pure (.type "method_descriptor")) (hm : MtR X id r) (ho : PE X o to) (ha : PA X (e :: es) t)
    (hbase : attributeBase o name X.env (eval o X.env) = eval o X.env := by rfl)
    (hfew : ((backTo cpos (starEach (e :: es) X.env)).all (fun x => !x.1) && (backToKw cpos (keywordEach [] X.env)).all (fun x => x.1.isSome)
      && decide ((e :: es).length + ([] : List Keyword).length + (if ([] : List Keyword).isEmpty then 0 else 1) < 30)) = true := by rfl)
    (hline : (apos.endLine == cpos.line) = true := by rfl) (hs : starEach (e :: es) X.env = (false, eval e X.env) :: starEach es X.env := by rfl) (hplain : (backTo cpos (starEach es X.env)).any (·.1) = false := by rfl) :
    PE X (.Call (.Attribute o name apos) (e :: es) [] cpos) (tBM X.K T r to t) := by
  intro pins s σ H Q I h
  refine wpAny_Call_method_late hbase hfew hline rfl (thn (ho pins s σ H _ I h) fun v s1 ⟨x, H1, I1, r1, ty, q1⟩ => ?_)
  obtain ⟨h1, h2⟩ := tyV_is I1 r1 ty
  refine ⟨T, id, pa, slot, hty, h1, h2, ?_⟩
  have hA := ha cpos pins s1 σ H1 _ I1 q1
  rw [hs] at hA ⊢
  refine Calls.callWith_builtin (by show (false || (backTo cpos (starEach es X.env)).any (·.1)) = false; rw [hplain] <;> rfl) (Calls.evalArgs_plain ?_)
  exact thn hA fun us s2 ⟨vs, H2, I2, r2, q2⟩ => hm pins s2 σ H2 x vs v us Q I2 r1 r2 q2
/- xs.append(e), list.index on a module's tuple .. are MtR facts of 06m -/
end
end L2

namespace L2
open PySem PySem.Spec PyProof.Rows

def MtM (X : Cx) (id : String) (r : V → List V → Hp → VK → Prop) : Prop :=
  ∀ (pins : List (Addr × Obj)) (s : Shared) (σ : St) (H : Hp) (x : V) (xs : List V) (v : Value) (us : List Value) (Q : VK), Inv X pins σ H s → RelV x v → Vals xs us → r x xs H Q →
    wpAny (model X.prog X.w) X.A (call (.builtin id) (v :: us)) (EP X pins σ Q) X.xe s

/-! ### lists of values -/
theorem Vals.one : ∀ {x : V} {us : List Value}, Vals [x] us → ∃ u, us = [u] ∧ RelV x u
  | _, _, .cons r .nil => ⟨_, rfl, r⟩
theorem Vals.two : ∀ {x y : V} {us : List Value}, Vals [x, y] us → ∃ u v, us = [u, v] ∧ RelV x u ∧ RelV y v
  | _, _, _, .cons r (.cons q .nil) => ⟨_, _, rfl, r, q⟩
theorem Vals.rep {xs : List V} {us : List Value} (h : Vals xs us) : ∀ k : Nat, Vals (List.replicate k xs).flatten (List.replicate k us).flatten
  | 0 => .nil
  | k + 1 => by
    rw [List.replicate_succ, List.replicate_succ, List.flatten_cons, List.flatten_cons]
    exact Vals.append h (Vals.rep h k)
theorem foldl_rep (its : List Value) : ∀ (k : Nat) (acc : List Value),
    List.foldl (fun x1 x2 => x1 ++ x2) acc.toArray (List.replicate k its.toArray) = (acc ++ (List.replicate k its).flatten).toArray
  | 0, acc => by simp
  | k + 1, acc => by
    have e : acc.toArray ++ its.toArray = (acc ++ its).toArray := by simp
    have e2 : (acc ++ its) ++ (List.replicate k its).flatten = acc ++ (List.replicate (k + 1) its).flatten := by
      rw [List.replicate_succ, List.flatten_cons, List.append_assoc]
    rw [← e2, ← foldl_rep its k (acc ++ its), ← e, List.replicate_succ, List.foldl_cons]

section
variable {X : Cx} {pins : List (Addr × Obj)} {σ : St} {H : Hp} {s : Shared} {l b : Addr} {xs ys zs : List V}

/-! ### the two steps: a tracked list is rewritten, a new list is laid -/
theorem Inv.lset {its its' : List Value} {n : Nat} {f : Array Value → Array Value} {t' : Nat} (I : Inv X pins σ H s) (hH : H l = some (.lst xs))
    (e : s.heap.get? l = some { cls := .type "list", data := .seq its.toArray n }) (hf : f its.toArray = its'.toArray) (hv : Vals ys its') (hz : ys.length ≤ sizeLine) :
    Inv X pins σ (upd H l (.lst ys)) { s with heap := s.heap.update l (Obj.mapSeq f), toks := t' } := by
  have q := PySem.IsL.update e f
  rw [hf] at q
  refine I.write (x := l) (e := l) (by rw [hH]; exact trivial) (.inl rfl) (fun b' u hb hu => (Heap.get?_update_other s.heap (Obj.mapSeq f) (Ne.symm hb)).trans hu) ⟨_, q⟩ ?_
  exact ⟨hz, its', _, hv, q⟩
theorem Inv.lnew {its : List Value} {t' : Nat} (I : Inv X pins σ H s) (hv : Vals ys its) (hz : ys.length ≤ sizeLine) :
    Inv X pins σ (upd H s.heap.objs.size (.lst ys)) { s with heap := s.heap.push { cls := .type "list", data := .seq its.toArray }, toks := t' } :=
  I.laid (fun _ _ q => Heap.get?_push_of_some _ q) (Nat.le_refl _) ⟨hz, its, 0, hv, Heap.get?_push_size _ rfl⟩
theorem Inv.fresh (I : Inv X pins σ H s) : H s.heap.objs.size = none := I.hok.fresh (Nat.le_refl _)
theorem Inv.lstM (I : Inv X pins σ H s) (hH : H l = some (.lst xs)) : xs.length ≤ sizeLine ∧ ∃ (its : List Value) (n : Nat), Vals xs its ∧ xs.length = its.length ∧ s.heap.get? l = some { cls := .type "list", data := .seq its.toArray n } := by
  obtain ⟨z, its, n, r, e⟩ := I.hok l _ hH
  exact ⟨z, its, n, r, r.length, e⟩

theorem notLongL {n : Nat} (h : n ≤ sizeLine) : Builtin.List.listTooLong n = false := by
  unfold Builtin.List.listTooLong
  exact decide_eq_false (by omega)
end

section
variable {X : Cx}

/-! ### methods -/
inductive rAppendI (x : V) (vs : List V) (H : Hp) (Q : VK) : Prop
  | mk (l : _) (xs : _) (y : _) (h0_ : x = .ref l) (h1_ : vs = [y]) (h2_ : H l = some (.lst xs)) (h3_ : xs.length < sizeLine) (h4_ : Q .non (upd H l (.lst (xs ++ [y])))) : rAppendI x vs H Q
def rAppend  : V → List V → Hp → VK → Prop := fun x vs H Q => rAppendI x vs H Q
theorem mt_append : MtM X "list.append" rAppend := by
  intro pins s σ H x vs v us Q I rx rv h
  obtain ⟨l, xs, y, rfl, rfl, hH, hz, q⟩ := h
  cases rx
  obtain ⟨u, rfl, ru⟩ := rv.one
  obtain ⟨z, its, n, r, hl, e⟩ := I.lstM hH
  refine call_meets F.slot_list_append ⟨_, e, rfl⟩ F.entry_list_append (F.args_list_append_2 _ _) (PySem.list_append l its.toArray n u (by rw [List.size_toArray]; omega)) ⟨e, ?_⟩
  refine ⟨.non, _, I.lset (its' := its ++ [u]) hH e (by simp) (r.append (.cons ru .nil)) ?_, rfl, q⟩
  rw [List.length_append, List.length_singleton]
  omega

def rExtend : V → List V → Hp → VK → Prop := fun x vs H Q => ∃ l b xs zs, x = .ref l ∧ vs = [.ref b] ∧ H l = some (.lst xs) ∧ H b = some (.lst zs) ∧ xs.length + zs.length ≤ sizeLine ∧ Q .non (upd H l (.lst (xs ++ zs)))
inductive rPopI (x : V) (vs : List V) (H : Hp) (Q : VK) : Prop
  | mk (l : _) (xs : _) (y : _) (h0_ : x = .ref l) (h1_ : vs = []) (h2_ : H l = some (.lst xs)) (h3_ : xs[xs.length - 1]? = some y) (h4_ : Q y (upd H l (.lst xs.dropLast))) : rPopI x vs H Q
def rPop  : V → List V → Hp → VK → Prop := fun x vs H Q => rPopI x vs H Q
def rPopAt : V → List V → Hp → VK → Prop := fun x vs H Q => ∃ l xs i k y, x = .ref l ∧ vs = [.int i] ∧ H l = some (.lst xs) ∧ -(2 ^ 63) ≤ i ∧ i < 2 ^ 63 ∧ seqIndex? i xs.length = some k ∧ xs[k]? = some y ∧ Q y (upd H l (.lst (xs.eraseIdx k)))
inductive rReverseI (x : V) (vs : List V) (H : Hp) (Q : VK) : Prop
  | mk (l : _) (xs : _) (h0_ : x = .ref l) (h1_ : vs = []) (h2_ : H l = some (.lst xs)) (h3_ : Q .non (upd H l (.lst xs.reverse))) : rReverseI x vs H Q
def rReverse  : V → List V → Hp → VK → Prop := fun x vs H Q => rReverseI x vs H Q
inductive rClearI (x : V) (vs : List V) (H : Hp) (Q : VK) : Prop
  | mk (l : _) (xs : _) (h0_ : x = .ref l) (h1_ : vs = []) (h2_ : H l = some (.lst xs)) (h3_ : Q .non (upd H l (.lst []))) : rClearI x vs H Q
def rClear  : V → List V → Hp → VK → Prop := fun x vs H Q => rClearI x vs H Q
/-! ### list + list, list += list, list * int -/
inductive rCatI (x : V) (y : V) (H : Hp) (Q : VK) : Prop
  | mk (l : _) (b : _) (xs : _) (zs : _) (h0_ : x = .ref l) (h1_ : y = .ref b) (h2_ : H l = some (.lst xs)) (h3_ : H b = some (.lst zs)) (h4_ : xs.length + zs.length ≤ sizeLine) (h5_ : ∀ p, H p = none → Q (.ref p) (upd H p (.lst (xs ++ zs)))) : rCatI x y H Q
def rCat  : R2 := fun x y H Q => rCatI x y H Q
theorem op_cat : OpR X (binaryOp .Add) rCat := by
  intro pins s σ H x y v u Q I rx ry h
  obtain ⟨l, b, xs, zs, rfl, rfl, hH, hB, hz, q⟩ := h
  cases rx
  cases ry
  obtain ⟨z, its, n, r, hl, e⟩ := I.lstM hH
  obtain ⟨z2, its2, n2, r2, hl2, e2⟩ := I.lstM hB
  refine PySem.P.add_list e e2 ?_ (by rw [List.size_toArray, List.size_toArray]; omega)
  have ea : its.toArray ++ its2.toArray = (its ++ its2).toArray := by simp
  rw [ea]
  exact ⟨.ref _, _, I.lnew (t' := s.toks) (r.append r2) (by rw [List.length_append]; omega), rfl, q _ I.fresh⟩
/-- a list times an int (a negative one is nothing) -/
def rRep : R2 := fun x y H Q => ∃ l k xs, x = .ref l ∧ y = .int k ∧ H l = some (.lst xs) ∧ -(2 ^ 63) ≤ k ∧ k < 2 ^ 63 ∧ xs.length * k.toNat ≤ sizeLine ∧
  ∀ p, H p = none → Q (.ref p) (upd H p (.lst (List.replicate k.toNat xs).flatten))
theorem len_rep {α : Type} (xs : List α) (k : Nat) : (List.replicate k xs).flatten.length = k * xs.length := by
  induction k with
  | zero => simp
  | succ k ih => rw [List.replicate_succ, List.flatten_cons, List.length_append, ih, Nat.succ_mul, Nat.add_comm]
theorem op_rep : OpR X (binaryOp .Mult) rRep := by
  intro pins s σ H x y v u Q I rx ry h
  obtain ⟨l, k, xs, rfl, rfl, hH, h1, h2, hz, q⟩ := h
  cases rx
  obtain ⟨t, rfl⟩ := ry
  obtain ⟨z, its, n, r, hl, e⟩ := I.lstM hH
  have hlen : its.toArray.size * k.toNat ≤ sizeLine := by rw [List.size_toArray, ← hl]; exact hz
  have hcap : ¬ its.toArray.size * k.toNat > (2 ^ 63 - 1) / 8 := by
    have : (sizeLine : Nat) ≤ (2 ^ 63 - 1) / 8 := by decide
    omega
  have hfit : ¬ (!Builtin.List.listFitsIndex k) = true := by
    rw [fitsIndex_both h1 h2]
    exact Bool.false_ne_true
  have hlong : ¬ Builtin.List.listTooLong (its.toArray.size * k.toNat) = true := by
    rw [notLongL hlen]
    exact Bool.false_ne_true
  have hnew : List.foldl (fun x1 x2 => x1 ++ x2) #[] (List.replicate (if its.toArray.isEmpty = true then 0 else k.toNat) its.toArray) = (List.replicate k.toNat its).flatten.toArray := by
    have f0 : ∀ m : Nat, List.foldl (fun x1 x2 => x1 ++ x2) #[] (List.replicate m its.toArray) = (List.replicate m its).flatten.toArray := fun m => by
      have := foldl_rep its m []
      rw [List.nil_append] at this
      exact this
    rw [f0]
    cases its with
    | nil => simp
    | cons a r' => rw [if_neg (by simp)]
  refine wpAny_binaryOp_repeat_ref (T := "list") (U := "int") (by decide) ⟨_, e, rfl⟩ (fun s' => typeIs_int s' k t) noFill_list_mul F.fills_int_mul F.slot_int_rmul repeat_list F.slot_int_index.lookup
    (call_meets F.slot_int_rmul (typeIs_int s k t) F.entry_int_rmul (F.args_int_rmul_2 _ _) (int___rmul___int_list k t l its.toArray n)
      ⟨e, rfl, ⟨_, e, rfl⟩, call_meets F.slot_list_mul ⟨_, e, rfl⟩ F.entry_list_mul (F.args_list_mul_2 _ _) (AutoListH.list___mul___list_int_3 l its.toArray n k t hfit hcap hlong) ⟨e, ?_⟩⟩)
  rw [hnew]
  exact ⟨.ref _, _, I.lnew (t' := s.toks) (r.rep k.toNat) (by rw [len_rep, Nat.mul_comm]; exact hz), rfl, q _ I.fresh⟩

/-! ### del xs[i] -/
end

/-! ### xs[a:b] = ys -/
section
variable {prog : Program} {w : World} {A : Around} {E : Value → Shared → Prop} {s : Shared}
set_option maxRecDepth 100000 in
end

section
variable {X : Cx}
end
end L2

namespace Att
open PySem PySem.W PySem.Calls PyProof.Rows

/-! ### the script -/
theorem ints_of_wellAll {P : Params} {h : Heap} : ∀ (ns : List Int) (vs : List Value), WellAll P h vs (ns.map WData.int) → IntsAre vs ns := by
  intro ns
  induction ns with
  | nil =>
    intro vs w
    rw [List.map_nil] at w
    cases w
    exact .nil
  | cons n ns ih =>
    intro vs w
    rw [List.map_cons] at w
    cases w with
    | cons a b =>
      cases a
      exact .cons _ _ (ih _ b)

theorem script_of {l : OpenLaw} {n : Nat} (hn : l.most = some n) {P : Params} {h : Heap} {args : List WData} {vals : List Value}
    (hpre : l.row.toRowW.claim.pre args = true) (hwl : WellAll P h vals args) :
    ∃ a vs ns, vals = [Value.ref a] ∧ args = [WData.list (ns.map WData.int)] ∧ h.get? a = some { cls := .type "list", data := .seq vs.toArray } ∧ IntsAre vs ns ∧ ns.length ≤ n := by
  have hsh : WShape.hasAll [] args [.list .int] = true := (pre_splitW hpre).1
  have hc : l.pre.holds [] { args := args } = true := (pre_splitW hpre).2
  obtain ⟨d, r, rfl, h1, h2⟩ := hasAllW_cons hsh
  obtain rfl := hasAllW_nil h2
  obtain ⟨xs, rfl, h3⟩ := hasW_list h1
  obtain ⟨ns, rfl⟩ := items_int h3
  have hlen : ns.length ≤ n := by
    unfold OpenLaw.pre at hc
    have h4 : (WTm.not (.lt (.lit (.int (n : Int))) (.len (.arg 0)))).holds [] { args := [.list (ns.map .int)] } = true := by
      have h4 := (holds_andW hc).1
      rw [hn] at h4
      exact h4
    have h5 := condW_of h4 (w_not (w_lt w_lit (w_len_list (w_arg rfl))))
    rw [List.length_map] at h5
    refine Nat.le_of_not_lt fun q => ?_
    have q' : (n : Int) < ((ns.length : Nat) : Int) := by omega
    first
      | (rw [decide_eq_true q'] at h5; exact absurd h5 (by decide))
      | (simp at h5; omega)
  cases hwl with
  | cons w1 w2 =>
    cases w2
    cases w1 with
    | list ho hall => exact ⟨_, _, ns, rfl, rfl, ho, ints_of_wellAll ns _ hall, hlen⟩

theorem post_true (l : OpenLaw) (args : List WData) : l.row.toRowW.claim.post args (.bool true) args = true :=
  postW_of (r := l.row.toRowW) (X := (true == true))
    (show WShape.has [] (.bool true) .bool = true by first | rfl | decide | simp [WShape.has, WShape.arms, WShape.armsAll])
    (show (WTm.eq .res (.lit (.bool true))).value [] { args := args, res := some (.bool true), after := args } = some (.bool (true == true)) from w_eq_bool (w_res rfl) w_lit) rfl

/-! ### the attachment: holds_open's last premise (the goal 'hc' behind k_head) from a wpAny of the law's body -/
/-- the same from a codeAny of the CALL (for a layer whose function contracts speak of calls) -/
theorem attach_call {l : OpenLaw} {n : Nat} {q : Program} {loose : List Str} {XP : (Str → Option Value) → Heap → Prop} {YP : World → Heap → Prop} {d : DefRec}
    (hn : l.most = some n) (hdf : d.params.defaults = [])
    (call : ∀ (w : World) (s₀ s₁ : Shared) (mg mb : Str → Option Value) (fa : Addr) (o : Obj) (pm cd doc : Value) (a : Addr) (vs : List Value) (ns : List Int),
      Ground q loose [] XP w s₀ mg mb s₁.heap → YP w s₁.heap →
      s₁.heap.get? fa = some o → o.data = .func (docDef d.name d.params d.body d.scope pm cd doc) → s₁.heap.CodeRec cd d.name → mg d.name = some (.ref fa) →
      s₁.heap.get? a = some { cls := .type "list", data := .seq vs.toArray } → IntsAre vs ns → ns.length ≤ n → s₁.gens = #[] →
      codeAny (model l.prog w) callerA (.call (.ref fa) ⟨[.ref a], []⟩) (fun r s' => r = .ok (.ret (.bool true)) ∧ OldK s₁.heap s'.heap ∧ s'.os = s₁.os ∧ AllBare s'.gens) s₁) :
    WalkO q loose XP YP l.row.toRowW d [] (fun f vs => PySem.call f vs) := by
  intro w s₀ s₁ mg mb G Y fa o pm cd doc dV kV ho hd hcd hD hmg hg args vals as hpre hlay hrd hwl hlo
  obtain rfl : dV = .none := Dflts.none hD hdf
  obtain rfl : kV = .none := Dflts.noKw hD
  obtain ⟨a, vs, ns, rfl, rfl, hobj, hints, hlen⟩ := script_of hn hpre hwl
  refine enter_call (codeAny_mono (call w s₀ s₁ mg mb fa o pm cd doc a vs ns G Y ho (fd_plain hd) hcd hmg hobj hints hlen hg) fun r s' hq => ?_)
  obtain ⟨rfl, h2, h3, h4⟩ := hq
  exact ⟨.inl ⟨.bool true, .bool true, [], rfl, fun _ => rfl, .bool true, post_true l _, fun _ => ⟨List.Pairwise.nil, fun _ hm => (nomatch hm)⟩⟩, h2, h3, h4⟩

/-! ### rules over ANY heap (no ledger) from facts about the written part K: the library's own take a ledger (News) for what they write -/
section
variable {prog : Program} {w : World} {A : Around} {E : Value → Shared → Prop} {s : Shared} {K : Frag}

/-! the whole heap as the ledger: makes every rule that writes through a ledger a rule over any heap -/
def noObjs (h : Heap) : Heap := { h with objs := #[] }
def ledger (h : Heap) (L d : Addr) : List (Addr × Obj) := (List.range h.objs.size).filterMap fun a => if a = L ∨ a = d then none else (h.get? a).map fun o => (a, o)
end
end Att

namespace L2
open PySem PySem.Spec PyProof.Rows

theorem vals_ints : ∀ {vs : List Value} {ns : List Int}, IntsAre vs ns → Vals (ns.map V.int) vs
  | _, _, .nil => .nil
  | _, _, .cons n t h => .cons ⟨t, rfl⟩ (vals_ints h)

/-- nothing is tracked but the script, known to the object (or it is an object of the module) -/
def Only (H : Hp) : Prop := ∀ b, H b = none ∨ ∃ o xs, H b = some (.frz o (.lst xs))

/-- THE HEAD: the law's promise, at the heap behind the top. F, the promise of the law's def, may use that base is part of the heap (so K.In base, base.Ns mainGlobals mg stand in Mod) -/
theorem law_call {P : Program} {w : World} {K : PySem.W.Frag} {mg mb : Str → Option Value} {CX : CXT} {k : Nat} {fa a : Addr} {fd : FuncData} {x : Str} {sp : Sp} {s₁ : Shared} {vs : List Value} {ns : List Int}
    (KX : K.In s₁.heap) (hns : s₁.heap.Ns mainGlobals mg) (hb : s₁.heap.Ns builtinsNs mb) (hbb : ∀ x : Str, x ≠ "__name__" → mb x = bootBuiltins x) (hlim : s₁.heap.NoLimit) (hg : s₁.gens = #[])
    (ha : s₁.heap.get? a = some { cls := .type "list", data := .seq vs.toArray }) (hi : IntsAre vs ns) (hl : ns.length ≤ sizeLine) (hr : Room k callerA)
    (F : ∀ base : Heap, K.In base → base.Ns mainGlobals mg → FnOk P w K mg base CX k fa fd [x] sp) (hbind : ∀ (s : Shared) (u : Value), BindsTo s fd ⟨[u], []⟩ [(x, u)])
    (hsp : ∀ H : Hp, Only H → SqL K H a (ns.map V.int) → sp [.ref a] H (fun v _ => v = .bl true) fun _ _ _ => False)
    (hCX : ∀ H e s', CX [] H s₁ (fun _ _ _ => False) e s' → False) :
    codeAny (model P w) callerA (.call (.ref fa) ⟨[.ref a], []⟩) (fun r s' => r = .ok (.ret (.bool true)) ∧ OldK s₁.heap s'.heap ∧ s'.os = s₁.os ∧ AllBare s'.gens) s₁ := by
  have rv := vals_ints hi
  have lenV := hi.length
  -- from an abstract heap in which nothing but the script may be tracked
  have core : ∀ H : Hp, Only H → SqL K H a (ns.map V.int) → HOk P w H s₁.heap → (∀ b, H b ≠ none → b = a) → (H a ≠ none → K.lookup a = none) →
      codeAny (model P w) callerA (.call (.ref fa) ⟨[.ref a], []⟩) (fun r s' => r = .ok (.ret (.bool true)) ∧ OldK s₁.heap s'.heap ∧ s'.os = s₁.os ∧ AllBare s'.gens) s₁ := by
    intro H hO hS hok hA hK
    have base_of : ∀ {b : Addr} {o : Obj}, s₁.heap.get? b = some o → H b = none → (hidT s₁.heap H).get? b = some o := fun e n => hidT_get e n
    have noA : ∀ {b : Addr} {o : Obj} {es : Array DictEntry} {ep : Nat}, s₁.heap.get? b = some o → o.data = .dict es ep → H b = none := fun {b o es ep} e d => by
      cases q : H b with
      | none => rfl
      | some u =>
        have e' : b = a := hA b (by rw [q]; simp)
        subst e'
        rw [ha] at e; cases e
        have d' : Data.seq vs.toArray _ = Data.dict es ep := d
        cases d'
    have nsK : ∀ {b : Addr} {m : Str → Option Value}, s₁.heap.Ns b m → (hidT s₁.heap H).Ns b m := fun {b m} ⟨o, es, ep, e, d, r⟩ => ⟨o, es, ep, base_of e (noA e d), d, r⟩
    have hKb : K.In (hidT s₁.heap H) := fun b o e => base_of (KX b o e) (by
      cases q : H b with
      | none => rfl
      | some u =>
        have e' : b = a := hA b (by rw [q]; simp)
        subst e'
        rw [hK (by rw [q]; simp)] at e; cases e)
    have hM : Mod K mg (hidT s₁.heap H) := ⟨hKb, nsK hns, ⟨mb, nsK hb, hbb⟩, let ⟨mc, h1, h2⟩ := hlim; ⟨mc, nsK h1, h2⟩⟩
    have e0 : Env0 P w K mg (hidT s₁.heap H) callerA [] s₁ H := ⟨rfl, hM, fun b o e => of_hidT e, Nat.le_of_eq (hidT_size _ _), trivial, fun b hb => absurd (show b ∈ ([] : List Addr) from hb) (by simp), hok, .of_eq hg⟩
    refine codeAny_mono ((F _ hKb (nsK hns)).run callerA [] s₁ H ⟨[.ref a], []⟩ [.ref a] [.ref a] _ _ hr e0 (hbind s₁ (.ref a)) (.cons rfl .nil) (hsp H hO hS)) fun r s' h => ?_
    cases r with
    | error e => exact (hCX H e s' h).elim
    | ok fl =>
      cases fl with
      | next => exact False.elim h
      | brk => exact False.elim h
      | cont => exact False.elim h
      | ret u =>
        obtain ⟨v, H', os, bare, un, hok', r', q⟩ := h
        have q' : v = .bl true := q
        subst q'
        obtain rfl : u = Value.bool true := r'
        refine ⟨rfl, OldK.of_keep fun b o e => ?_, os, bare⟩
        cases q : H b with
        | none => exact un.keep b o e q (by intro z; exact absurd (show b ∈ ([] : List Addr) from z) (by simp)) (by simp)
        | some u =>
          rcases hO b with z | ⟨ob, xs, z⟩
          · rw [q] at z; cases z
          · have z2 := un.frzs b ob _ z
            obtain ⟨e1, _⟩ := hok b _ z
            obtain ⟨e2, _⟩ := hok' b _ z2
            rw [e] at e1; cases e1
            exact e2
  cases hk : K.lookup a with
  | some o =>
    -- the script is one of the module's own objects
    have e := KX a o hk
    rw [ha] at e
    cases e
    refine core (fun _ => none) (fun _ => .inl rfl) (.inr ⟨_, vs.toArray, _, hk, rfl, rfl, rfl, by rw [List.size_toArray, lenV]; exact hl, by simpa using rv⟩) (fun b u z => by have z' : (none : Option HO) = some u := z; cases z') (fun b z => absurd rfl z) fun z => absurd rfl z
  | none =>
    refine core (fun b => if b = a then some (.frz { cls := .type "list", data := .seq vs.toArray } (.lst (ns.map V.int))) else none) (fun b => ?_) (.inl (.inr ⟨{ cls := .type "list", data := .seq vs.toArray }, if_pos rfl⟩)) (fun b u z => ?_) (fun b z => ?_) fun _ => hk
    · by_cases hb : b = a
      · exact .inr ⟨_, _, if_pos hb⟩
      · exact .inl (if_neg hb)
    · by_cases hb : b = a
      · have z' := (if_pos hb).symm.trans z
        cases z'
        subst hb
        exact ⟨ha, by rw [List.length_map]; exact hl, vs, _, rv, ha⟩
      · have z' := (if_neg hb).symm.trans z
        cases z'
    · by_cases hb : b = a
      · exact hb
      · exact absurd (if_neg hb) z
end L2

namespace L2
open PySem PySem.Spec PyProof.Rows

abbrev KOf {K : PySem.W.Frag} {h : Heap} (_ : K.In h) : PySem.W.Frag := K

/-- the goal that k_head leaves (case hc), from the law's promise. F gives the function object fd (K's own) once, then the promise over every base -/
theorem walk_of {l : PySem.W.OpenLaw} {n k : Nat} {q : Program} {loose : List Str} {XP : (Str → Option Value) → Heap → Prop} {YP : World → Heap → Prop} {d : DefRec} {K : Params → PySem.W.Frag} {CX : World → CXT} {sp : World → Sp} {x : Str}
    (hn : l.most = some n) (hn2 : n ≤ sizeLine) (hdf : d.params.defaults = []) (hr : Room k callerA)
    (hY : ∀ (w : World) (h : Heap), YP w h → (K w.params).In h)
    (F : ∀ (w : World) (mg : Str → Option Value) (fa : Addr) (h : Heap), (K w.params).In h → h.Ns mainGlobals mg → mg d.name = some (.ref fa) →
      ∃ fd : FuncData, (∀ (s : Shared) (u : Value), BindsTo s fd ⟨[u], []⟩ [(x, u)]) ∧
        ∀ base : Heap, (K w.params).In base → base.Ns mainGlobals mg → FnOk l.prog w (K w.params) mg base (CX w) k fa fd [x] (sp w))
    (hsp : ∀ (w : World) (H : Hp) (a : Addr) (ns : List Int), ns.length ≤ n → Only H → SqL (K w.params) H a (ns.map V.int) → sp w [.ref a] H (fun v _ => v = .bl true) fun _ _ _ => False)
    (hCX : ∀ (w : World) (H : Hp) (s : Shared) (e : Value) (s' : Shared), CX w [] H s (fun _ _ _ => False) e s' → False) :
    PySem.W.WalkO q loose XP YP l.row.toRowW d [] (fun f vs => PySem.call f vs) := by
  refine Att.attach_call hn hdf fun w s₀ s₁ mg mb fa o pm cd doc a vs ns G Y ho hd hcd hmg hobj hints hlen hg => ?_
  have KX := hY w _ Y
  obtain ⟨fd, hb, hF⟩ := F w mg fa _ KX G.T.g hmg
  exact law_call KX G.T.g G.T.b G.T.builtins G.T.nolimit hg hobj hints (Nat.le_trans hlen hn2) hr hF hb (fun H hO hS => hsp w H a ns hlen hO hS) fun H e s' => hCX w H s₁ e s'
end L2

/- THE LAST THEOREM (shape; LID, My.* are yours):
   My.Adr: a structure of the addresses that your layer names (classes, functions); My.Txt K t: a structure (Prop) of the equations over K;
   My.txt_mk : {K} {implicit addresses ..} (e1 : nsIn K mainGlobals "law" = some (some (.ref f))) (e2 : K.lookup f = some ⟨oc, od, .func (fnOf "law" "law" params body scope dV kV doc pm an cdv ct), sl⟩) (e3 : codeIn K cdv "law" = true) .. : ∃ t, My.Txt K t

set_option maxRecDepth 100000 in
set_option maxHeartbeats 0 in
theorem PySem.Challenge.cw_LID_holds : PySem.Challenge.rw_LID.Holds := by
  w_on; o_law; k_head; (case hw => w_witness2)
  k_fill
  refine L2.walk_of (l := PySem.Challenge.rw_LID) (n := 63) (k := 40) (x := "script") (CX := fun w => ..) (sp := fun _ => My.sp_law) rfl (by decide) rfl ⟨rfl, by decide, by decide⟩ (fun w h Y => PySem.W.kIn_of Y) ?F ?S ?C
  case F =>
    intro w mg fa h KX G hmg
    have T : ∃ t, My.Txt (L2.KOf KX) t := by
      dsimp only [L2.KOf]                          -- K must stand as «<heap const> w.params» for k_is
      refine' My.txt_mk ?e1 ?e2 ?e3 ..
      (case e1 => PySem.W.k_is)                    -- in the order: a name -> its address -> its object -> its parts
      (case e2 => PySem.W.k_is)
      ..
    obtain ⟨t, T⟩ := T
    have e0 := hmg.symm.trans (PySem.W.mg_of KX G T.law)
    cases e0                                       -- fa is the law's own address
    exact ⟨_, fun s u => .of_eq rfl, fun base kb nb => My.law_fn T kb nb⟩     -- if «.of_eq rfl» comes too early: refine' ⟨_, ?b, fun base kb nb => My.law_fn T kb nb⟩; exact fun s u => .of_eq rfl
  case S => exact fun w H a ns hl hO hS => ..
  case C => exact ..
(the tactic k_is has no namespace: write k_is) -/

/-! SHORT WORDS over the layer: a def of the text, its body, what a loop and a test want. -/
namespace L2
open PySem PySem.Spec PyProof.Rows

/-! ### the text by places -/
/-- the j-th statement of a class's body -/
def inClass (s : Stmt) (j : Nat) : Stmt := match s with
  | .ClassDef _ _ _ body _ _ _ _ _ _ _ => body.getD j (.Pass ⟨0, 0, 0, 0⟩)
  | _ => .Pass ⟨0, 0, 0, 0⟩
def defArgs (s : Stmt) : Arguments := match s with
  | .FunctionDef _ a _ _ _ _ _ _ _ _ => a
  | _ => { posonlyargs := [], args := [], vararg := none, kwonlyargs := [], kw_defaults := [], kwarg := none, defaults := [] }
def defBody (s : Stmt) : List Stmt := match s with
  | .FunctionDef _ _ b _ _ _ _ _ _ _ => b
  | _ => []
def defScope (s : Stmt) : Scope := match s with
  | .FunctionDef _ _ _ _ _ _ sc _ _ _ => sc
  | _ => { kind := .function, names := [], isGenerator := false, isCoroutine := false }

/-! ### no exception leaves a def -/
abbrev CX0 : CXT := fun _ _ _ _ _ _ => False
abbrev E0 : XK := fun _ _ _ => False
theorem pass0 {X : Cx} : Passes CX0 X E0 := fun _ _ _ _ _ _ _ h => h.elim

/-! ### a def (or method) of the text as it stands behind the top -/
structure Fun (K : PySem.W.Frag) (x qual : Str) (st : Stmt) (f : Addr) (fd : FuncData) : Prop where
  ex : ∃ (oc : Value) (od : Option Addr) (kV doc pm : Value) (an : Option Addr) (cdv ct : Value) (osl : Array (Option Value)),
    fd = PySem.W.fnOf x qual (defArgs st) (defBody st) (defScope st) .none kV doc pm an cdv ct ∧ K.lookup f = some ⟨oc, od, .func fd, osl⟩ ∧ PySem.W.codeIn K cdv qual = true
  kp : PySem.W.keepIn K (.ref f) = true
section
variable {P : Program} {w : World} {K : PySem.W.Frag} {mg : Str → Option Value} {base : Heap}
/-- THE RULE for a def: its body as a term of rules, and the reading of that term -/
theorem Fun.ok {x qual : Str} {st : Stmt} {f : Addr} {fd : FuncData} {N ps : List Str} {k : Nat} {sp : Sp} (F : Fun K x qual st f fd) (S : FnScope N ps (defScope st)) (len : ∀ vs H Q E, sp vs H Q E → vs.length = ps.length)
    (hbody : ∀ (cdv : Value) (A : Around) (outer : List Env) (s : Shared) (H : Hp) (vs : List V) (Q : VK) (E : XK), Room k (A.deeper (envOfC qual (defScope st) s.heap.objs.size f cdv)) → sp vs H Q E →
      ∃ t, PSs (cxOf CX0 P w K mg base N qual (defScope st) f cdv A outer s H E).nox (defBody st) t ∧ t { nx := fun _ H' => Q .non H', rt := Q } (start N vs) H) : FnOk P w K mg base CX0 (k + 1) f fd ps sp := by
  obtain ⟨oc, od, kV, doc, pm, an, cdv, ct, osl, rfl, lk, hcd⟩ := F.ex
  refine fn_of lk hcd S len fun A outer s H vs Q E hr hsp => ?_
  obtain ⟨t, h, q⟩ := hbody cdv A outer s H vs Q E hr hsp
  exact ⟨t, h.nox, q⟩
/-- how its arguments bind (no defaults): h is «fun _ _ _ _ _ _ us hl => match us, hl with | [_, _], _ => rfl», one _ a parameter -/
theorem Fun.binds {x qual : Str} {st : Stmt} {f : Addr} {fd : FuncData} {ps : List Str} (F : Fun K x qual st f fd)
    (h : ∀ (kV doc pm : Value) (an : Option Addr) (cdv ct : Value) (us : List Value), us.length = ps.length → bindArgs (PySem.W.fnOf x qual (defArgs st) (defBody st) (defScope st) .none kV doc pm an cdv ct) ⟨us, []⟩ = pure (ps.zip us)) : Binds K fd ps [] := by
  obtain ⟨oc, od, kV, doc, pm, an, cdv, ct, osl, rfl, lk, hcd⟩ := F.ex
  exact .all (h kV doc pm an cdv ct)
theorem fun_mk {x qual : Str} {st : Stmt} {f : Addr} {oc : Value} {od an : Option Addr} {osl : Array (Option Value)} {kV doc pm cdv ct : Value} (l : K.lookup f = some ⟨oc, od, .func (PySem.W.fnOf x qual (defArgs st) (defBody st) (defScope st) .none kV doc pm an cdv ct), osl⟩)
    (c : PySem.W.codeIn K cdv qual = true) (k : PySem.W.keepIn K (.ref f) = true) : Fun K x qual st f (PySem.W.fnOf x qual (defArgs st) (defBody st) (defScope st) .none kV doc pm an cdv ct) := ⟨⟨oc, od, kV, doc, pm, an, cdv, ct, osl, rfl, l, c⟩, k⟩
end
theorem hu_of {A : Around} {k : Nat} (hr : Room k A) : A.units + 1 < cLine := Nat.lt_of_le_of_lt (Nat.add_le_add_left (by decide : 1 ≤ 64) _) hr.units
theorem small1000 {n : Nat} (h : n ≤ 1000) : n < sizeLine := Nat.lt_of_le_of_lt h (by decide)

/-! ### expressions in short: the name that stands in the i-th slot -/
section
variable {X : Cx}
theorem pv (i : Nat) {x : Str} {pos : Pos} (hN : X.N[i]? = some x := by rfl) (hv : Vis X.env.scope x := by first | exact Or.inl rfl | exact Or.inr (Or.inl rfl) | exact Or.inr (Or.inr rfl)) (hd : (x == ("__debug__" : Str)) = false := by decide)
    (hcd : (x == ("__classdict__" : Str)) = false := by decide) : PE X (.Name x pos) (tVar i) := pe_var hN hv hd hcd
end

/-! ### tests -/
theorem iteF {A B : Prop} (h : B) : if false = true then A else B := by
  rw [if_neg Bool.false_ne_true]
  exact h
theorem iteT {A B : Prop} (h : A) : if true = true then A else B := by
  rw [if_pos rfl]
  exact h
theorem ite2 {c A B : Prop} [Decidable c] (h1 : c → A) (h2 : ¬ c → B) : if c then A else B := by
  by_cases h : c
  · rw [if_pos h]
    exact h1 h
  · rw [if_neg h]
    exact h2 h
/-! ### heaps -/
/-- all that was tracked is as it was -/
def Same (H H' : Hp) : Prop := ∀ b o, H b = some o → H' b = some o
theorem Same.refl (H : Hp) : Same H H := fun _ _ h => h
theorem Same.trans {H H1 H2 : Hp} (a : Same H H1) (b : Same H1 H2) : Same H H2 := fun c o h => b c o (a c o h)
theorem Same.free {H H' : Hp} (e : Same H H') {l : Addr} (h : H' l = Option.none) : H l = Option.none := by
  cases q : H l with
  | none => rfl
  | some o =>
    rw [e l o q] at h
    cases h
theorem Same.seq {K : PySem.W.Frag} {H H' : Hp} {a : Addr} {xs : List V} (e : Same H H') (h : SqL K H a xs) : SqL K H' a xs := by
  rcases h with (h | ⟨o, h⟩) | h
  · exact .inl (.inl (e _ _ h))
  · exact .inl (.inr ⟨o, e _ _ h⟩)
  · exact .inr h

end L2

set_option maxHeartbeats 4000000
namespace L2
open PySem PySem.Spec PyProof.Rows

/-! ### a list comprehension with one clause -/
/-- the cells that a block takes with it -/
def closOf (env : Env) : List (Str × NameKind) → List (Str × Addr) → List (Str × Addr)
  | [], acc => acc
  | p :: l, acc => closOf env l (if p.2 == .free then (p.1, (env.cells.lookup p.1).getD 0) :: acc else acc)
theorem clos_eq {env : Env} {scope : Scope} (h : ∀ p ∈ scope.names, p.2 = .free → ∃ c, env.cells.lookup p.1 = some c) : closureFor scope env = pure (closOf env scope.names []) := by
  have go : ∀ (l : List (Str × NameKind)) (acc : List (Str × Addr)), (∀ p ∈ l, p.2 = .free → ∃ c, env.cells.lookup p.1 = some c) →
      (forIn l acc fun (p : Str × NameKind) cs => if (p.2 == NameKind.free) = true then (cellOf env p.1 >>= fun a => pure (ForInStep.yield ((p.1, a) :: cs))) else pure (ForInStep.yield cs)) = (pure (closOf env l acc) : Sem (List (Str × Addr))) := by
    intro l
    induction l with
    | nil => intro acc _; rfl
    | cons p l ih =>
      intro acc hl
      rw [List.forIn_cons]
      have hr := fun q hq => hl q (List.mem_cons_of_mem _ hq)
      by_cases hk : p.2 = .free
      · obtain ⟨c, hc⟩ := hl p List.mem_cons_self hk
        have e1 : (p.2 == NameKind.free) = true := by rw [hk]; rfl
        rw [if_pos e1]
        have e2 : cellOf env p.1 = pure c := by unfold cellOf; rw [hc]
        rw [e2, pure_bind, pure_bind]
        show forIn l ((p.1, c) :: acc) _ = _
        rw [ih _ hr]
        show _ = pure (closOf env l (if p.2 == .free then (p.1, (env.cells.lookup p.1).getD 0) :: acc else acc))
        rw [if_pos e1, hc]
        rfl
      · have e1 : ¬ (p.2 == NameKind.free) = true := by intro z; exact hk (by simpa using z)
        rw [if_neg e1, pure_bind]
        show forIn l acc _ = _
        rw [ih _ hr]
        show _ = pure (closOf env l (if p.2 == .free then (p.1, (env.cells.lookup p.1).getD 0) :: acc else acc))
        rw [if_neg e1]
  have e := go scope.names [] h
  unfold closureFor
  show (forIn scope.names ([] : List (Str × Addr)) _ >>= fun r => pure r) = _
  rw [bind_pure]
  exact e
theorem clos_look {env : Env} {x : Str} : ∀ (l : List (Str × NameKind)) (acc : List (Str × Addr)) {c : Addr}, (closOf env l acc).lookup x = some c → acc.lookup x = some c ∨ ((x, NameKind.free) ∈ l ∧ c = (env.cells.lookup x).getD 0)
  | [], acc, c, h => .inl h
  | p :: l, acc, c, h => by
    rcases clos_look l _ h with z | ⟨z, e⟩
    · by_cases hk : (p.2 == NameKind.free) = true
      · rw [if_pos hk, List.lookup_cons] at z
        by_cases hx : (x == p.1) = true
        · rw [hx] at z
          have e : x = p.1 := by simpa using hx
          have e2 : p.2 = .free := by simpa using hk
          refine .inr ⟨?_, ?_⟩
          · rw [e, ← e2]; exact List.mem_cons_self
          · rw [e]; exact (Option.some.inj z).symm
        · have hx' : (x == p.1) = false := by simpa using hx
          rw [hx'] at z
          exact .inl z
      · rw [if_neg hk] at z
        exact .inl z
    · exact .inr ⟨List.mem_cons_of_mem _ z, e⟩
theorem clos_has {env : Env} {x : Str} : ∀ (l : List (Str × NameKind)) (acc : List (Str × Addr)), ((acc.lookup x).isSome = true ∨ (x, NameKind.free) ∈ l) → ((closOf env l acc).lookup x).isSome = true
  | [], acc, h => by
    rcases h with h | h
    · exact h
    · cases h
  | p :: l, acc, h => by
    refine clos_has l _ ?_
    rcases h with h | h
    · left
      by_cases hk : (p.2 == NameKind.free) = true
      · rw [if_pos hk, List.lookup_cons]
        cases (x == p.1) with
        | true => rfl
        | false => exact h
      · rw [if_neg hk]; exact h
    · rcases List.mem_cons.mp h with e | h
      · left
        have e1 : p.1 = x := by rw [← e]
        have e2 : (p.2 == NameKind.free) = true := by rw [← e]; rfl
        rw [if_pos e2, List.lookup_cons, e1]
        simp
      · exact .inr h
theorem relab_look {env : Env} {x : Str} {k : NameKind} : ∀ (l : List (Str × NameKind)),
    (l.map fun (n, k) => if (k == NameKind.free && env.scope.kind == .function && env.kindOf n == some .cell) then (n, NameKind.cell) else (n, k)).lookup x = some k →
      l.lookup x = some k ∨ (k = .cell ∧ l.lookup x = some .free)
  | [], h => by cases h
  | (n, q) :: l, h => by
    rw [List.map_cons] at h
    cases hx : (x == n) with
    | true =>
      rw [List.lookup_cons, hx]
      by_cases hc : (q == NameKind.free && env.scope.kind == .function && env.kindOf n == some .cell) = true
      · simp only [hc, if_true, List.lookup_cons, hx] at h
        have e : q = .free := by
          have := (Bool.and_eq_true_iff.mp (Bool.and_eq_true_iff.mp hc).1).1
          simpa using this
        right
        exact ⟨(Option.some.inj h).symm, by rw [e]⟩
      · have hc' : (q == NameKind.free && env.scope.kind == .function && env.kindOf n == some .cell) = false := by simpa using hc
        simp only [hc', Bool.false_eq_true, if_false, List.lookup_cons, hx] at h
        exact .inl h
    | false =>
      rw [List.lookup_cons, hx]
      refine relab_look (env := env) l ?_
      by_cases hc : (q == NameKind.free && env.scope.kind == .function && env.kindOf n == some .cell) = true
      · simp only [hc, if_true, List.lookup_cons, hx] at h
        exact h
      · have hc' : (q == NameKind.free && env.scope.kind == .function && env.kindOf n == some .cell) = false := by simpa using hc
        simp only [hc', Bool.false_eq_true, if_false, List.lookup_cons, hx] at h
        exact h

/-- what a block runs upon: its dict, the state and heap at its entry, the iterator's records, what is wanted of an exception -/
structure Bk where
  C : Addr
  s₂ : Shared
  H₂ : Hp
  fp : List Addr
  xe : Value → Shared → Prop
/-- the context of a comprehension's block: its own names cn ahead of the def's -/
def compCx (X : Cx) (cn : List Str) (scope : Scope) (b : Bk) : Cx where
  prog := X.prog
  w := X.w
  K := X.K
  mg := X.mg
  base := X.base
  A := X.A
  N := cn ++ X.N
  s₀ := b.s₂
  H₀ := b.H₂
  env := compEnvC scope (closOf X.env scope.names []) b.C X.env
  outer := X.stack
  stack := X.stack
  ex := b.fp
  fn := fun _ => false
  calm := X.calm
  pn := []
  xe := b.xe
/-- the scope of a block beside its def's -/
def compOk (sc : Scope) (N : List Str) (scope : Scope) : Bool :=
  (scope.kind == .function) &&
  (scope.names.all fun p => (p.2 != .cell) && ((p.2 != .free) || (sc.names.lookup p.1 == some .cell) || (sc.names.lookup p.1 == some .free)) && ((p.2 != .local) || (scope.names.lookup p.1 == some .local))) &&
  (N.all fun x => scope.names.lookup x != some .local)
structure CompFit (sc : Scope) (N : List Str) (scope : Scope) : Prop where
  kind : scope.kind = .function
  nocell : ∀ p ∈ scope.names, p.2 ≠ .cell
  free : ∀ p ∈ scope.names, p.2 = .free → sc.names.lookup p.1 = some .cell ∨ sc.names.lookup p.1 = some .free
  loc : ∀ p ∈ scope.names, p.2 = .local → scope.names.lookup p.1 = some .local
  apart : ∀ x ∈ N, scope.names.lookup x ≠ some .local
theorem CompFit.of {sc : Scope} {N : List Str} {scope : Scope} (h : compOk sc N scope = true) : CompFit sc N scope := by
  unfold compOk at h
  rw [Bool.and_eq_true, Bool.and_eq_true] at h
  obtain ⟨⟨h1, h2⟩, h3⟩ := h
  rw [List.all_eq_true] at h2 h3
  refine ⟨by simpa using h1, fun p hp => ?_, fun p hp e => ?_, fun p hp e => ?_, fun x hx => ?_⟩
  · have := h2 p hp
    rw [Bool.and_eq_true, Bool.and_eq_true] at this
    simpa using this.1.1
  · have := h2 p hp
    rw [Bool.and_eq_true, Bool.and_eq_true] at this
    have q := this.1.2
    rw [e] at q
    rw [Bool.or_eq_true, Bool.or_eq_true] at q
    rcases q with (q | q) | q
    · exact absurd q (by decide)
    · exact .inl (by simpa using q)
    · exact .inr (by simpa using q)
  · have := h2 p hp
    rw [Bool.and_eq_true, Bool.and_eq_true] at this
    have q := this.2
    rw [e] at q
    rw [Bool.or_eq_true] at q
    rcases q with q | q
    · exact absurd q (by decide)
    · simpa using q
  · have := h3 x hx
    simpa using this

section
variable {X : Cx} {pins : List (Addr × Obj)} {σ : St} {H : Hp}
theorem mem_of_look {l : List (Str × NameKind)} {x : Str} {k : NameKind} (h : l.lookup x = some k) : (x, k) ∈ l := PySem.mem_of_lookup h
/-- the block's context is sound, and its invariant holds at its entry -/
theorem Inv.block {s₂ : Shared} {h₁ : Heap} {tk : Nat} {cn : List Str} {scope : Scope} {fp : List Addr} {xe : Value → Shared → Prop} {C D : Addr} {m : Str → Option Value}
    (I : Inv X pins σ H s₂) (F : CompFit X.env.scope X.N scope) (hc : X.calm = true) (hf : ∀ b ∈ fp, FpOk X pins H b) (hfl : ∀ b ∈ fp, b < s₂.heap.objs.size)
    (hC : s₂.heap.objs.size ≤ C) (hD : s₂.heap.objs.size ≤ D) (hDC : D ≠ C) (hn : h₁.Ns C m) (old : ∀ b o, s₂.heap.get? b = some o → h₁.get? b = some o)
    (hacc : h₁.get? D = some { cls := .type "list", data := .seq ([] : List Value).toArray 0 }) :
    Inv (compCx X cn scope ⟨C, s₂, H, fp, xe⟩) [] (List.replicate cn.length none ++ σ) (upd H D (.lst [])) { s₂ with heap := h₁, toks := tk } := by
  have cellHas : ∀ x, ((compCx X cn scope ⟨C, s₂, H, fp, xe⟩).env.kindOf x = some .cell ∨ (compCx X cn scope ⟨C, s₂, H, fp, xe⟩).env.kindOf x = some .free) → (x, NameKind.free) ∈ scope.names := by
    intro x hx
    have hx' : (relabel scope X.env).names.lookup x = some .cell ∨ (relabel scope X.env).names.lookup x = some .free := hx
    rcases hx' with z | z
    · rcases relab_look scope.names z with z | ⟨_, z⟩
      · exact absurd rfl (F.nocell _ (mem_of_look z))
      · exact mem_of_look z
    · rcases relab_look scope.names z with z | ⟨e, _⟩
      · exact mem_of_look z
      · cases e
  have kindOut : ∀ x, (x, NameKind.free) ∈ scope.names → X.env.kindOf x = some .cell ∨ X.env.kindOf x = some .free := fun x hx => F.free _ hx rfl
  have lookOut : ∀ x c, (closOf X.env scope.names []).lookup x = some c → X.env.cells.lookup x = some c := by
    intro x c e
    rcases clos_look _ _ e with z | ⟨z, e2⟩
    · cases z
    · obtain ⟨c', hc'⟩ := I.ok.has x (kindOut x z)
      rw [hc'] at e2 ⊢
      rw [e2]
      rfl
  have fsEq : (compCx X cn scope ⟨C, s₂, H, fp, xe⟩).fs = frs X.stack := rfl
  have fpfs : ∀ b ∈ fp, b ∉ frs X.stack := by
    intro b hb z
    obtain ⟨_, f1, f2, _⟩ := hf b hb
    rcases List.mem_cons.mp (I.stkSub b z) with e | e
    · exact f1 e
    · exact f2 e
  have cellLt : ∀ x c, X.env.cells.lookup x = some c → c < s₂.heap.objs.size := by
    intro x c e
    obtain ⟨v, o, ho, _⟩ := I.cell x c e
    exact Heap.lt_size ho
  have ok : (compCx X cn scope ⟨C, s₂, H, fp, xe⟩).Ok := by
    refine ⟨I.ok.mod, ?_, I.ok.glob, I.ok.blt, hC, fun x y c h1 h2 => I.ok.inj x y c (lookOut x c h1) (lookOut y c h2), fun x hx => ?_, fun x c z => ?_, fun _ => I.ok.hd hc, I.ok.frames, .inl rfl, fun b hb => ⟨?_, fun x c e => ?_⟩,
      fun b o e => I.bs b o e, Nat.le_trans I.ok.bsz I.sz, fun b o e hb => ?_, fun b hb => ?_, I.stack, I.stkFree⟩
    · show (relabel scope X.env).kind = .function
      exact F.kind
    · have := clos_has (env := X.env) (x := x) scope.names [] (.inr (cellHas x hx))
      exact Option.isSome_iff_exists.mp this
    · cases z
    · exact Nat.ne_of_lt (Nat.lt_of_lt_of_le (hfl b hb) hC)
    · exact (hf b hb).2.2.2.2.1 x c (lookOut x c e)
    · have : X.base.objs.size ≤ X.s₀.heap.objs.size := I.ok.bsz
      rcases (hf b hb).2.2.2.1 with z | z
      · exact I.ok.noex b o e z
      · exact absurd (Nat.lt_of_lt_of_le (Heap.lt_size e) (Nat.le_trans I.ok.bsz z)) (Nat.lt_irrefl _)
    · exact fpfs b hb
  have hDn : H D = none := I.hok.fresh hD
  have hok1 : HOk X.prog X.w (upd H D (.lst [])) h₁ := I.hok.laid old hD ⟨Nat.zero_le _, [], 0, .nil, hacc⟩
  refine ⟨ok, rfl, I.bare, Un.laid old hD hDn, ⟨m, hn, fun i x v e1 e2 e3 => ?_⟩, fun x c e => ?_, ?_, fun x c e => ?_, fun p hp => absurd (show p ∈ ([] : List (Addr × Obj)) from hp) (by simp), hok1, ?_⟩
  · have hi : ¬ i < cn.length := by
      intro hi
      rw [List.getElem?_append_left (by simpa using hi), List.getElem?_replicate] at e2
      split at e2 <;> cases e2
    rw [List.getElem?_append_right (by simpa using hi), List.length_replicate] at e2
    have e1' : (cn ++ X.N)[i]? = some x := e1
    rw [List.getElem?_append_right (by omega)] at e1'
    obtain ⟨m0, hm0, hl⟩ := I.loc
    have hxN : x ∈ X.N := List.mem_of_getElem? e1'
    have hfr : (x, NameKind.free) ∈ scope.names := by
      have e3' : (relabel scope X.env).names.lookup x = some .local ∨ (relabel scope X.env).names.lookup x = some .cell ∨ (relabel scope X.env).names.lookup x = some .free := e3
      rcases e3' with z | z | z
      · rcases relab_look scope.names z with z | ⟨e, _⟩
        · exact absurd z (F.apart x hxN)
        · cases e
      · exact cellHas x (.inl z)
      · exact cellHas x (.inr z)
    have hk := kindOut x hfr
    have vis : Vis X.env.scope x := by
      rcases hk with z | z
      · exact .inr (.inl z)
      · exact .inr (.inr z)
    obtain ⟨u, r, lk⟩ := hl (i - cn.length) x v e1' e2 vis
    refine ⟨u, r, ?_⟩
    rcases lk with ⟨z, _⟩ | ⟨_, c, ec, z⟩
    · rcases hk with q | q
      · rw [z] at q; cases q
      · rw [z] at q; cases q
    · have hcl : (closOf X.env scope.names []).lookup x = some c := by
        obtain ⟨c', e'⟩ := Option.isSome_iff_exists.mp (clos_has (env := X.env) (x := x) scope.names [] (.inr hfr))
        rw [e']
        have := lookOut x c' e'
        rw [ec] at this
        exact this.symm
      refine .inr ⟨?_, c, hcl, ?_⟩
      · have e3' : (relabel scope X.env).names.lookup x = some .local ∨ (relabel scope X.env).names.lookup x = some .cell ∨ (relabel scope X.env).names.lookup x = some .free := e3
        rcases e3' with y | y | y
        · rcases relab_look scope.names y with y | ⟨e, _⟩
          · exact absurd y (F.apart x hxN)
          · cases e
        · exact .inl y
        · exact .inr y
      · obtain ⟨o, ho, hd⟩ := z
        exact ⟨o, old c o ho, hd⟩
  · obtain ⟨v, o, ho, hd⟩ := I.cell x c (lookOut x c e)
    exact ⟨v, o, old c o ho, hd⟩
  · show upd H D (.lst []) C = none
    rw [upd_ne (Ne.symm hDC)]
    exact I.hok.fresh hC
  · rw [upd_ne (Nat.ne_of_lt (Nat.lt_of_lt_of_le (cellLt x c (lookOut x c e)) hD))]
    exact I.freeC x c (lookOut x c e)
  · show (List.replicate cn.length none ++ σ).length = (cn ++ X.N).length
    rw [List.length_append, List.length_replicate, List.length_append, I.len]
/-- behind the block -/
theorem Inv.unblock {s₂ s' : Shared} {h' : Heap} {cn : List Str} {scope : Scope} {fp : List Addr} {xe : Value → Shared → Prop} {C : Addr} {H' : Hp} {σ' : St} {pl : List (Addr × Obj)}
    (I : Inv X pins σ H s₂) (hf : ∀ b ∈ fp, FpOk X pins H b) (hC : s₂.heap.objs.size ≤ C) (J : Inv (compCx X cn scope ⟨C, s₂, H, fp, xe⟩) pl σ' H' s') (sb : Heap.SameBut C s'.heap h') :
    Inv X pins σ H' { s' with heap := h' } := by
  have neC : ∀ b o, s₂.heap.get? b = some o → b ≠ C := fun b o e => Nat.ne_of_lt (Nat.lt_of_lt_of_le (Heap.lt_size e) hC)
  have u : Un (frs X.stack) fp H H' s₂.heap s'.heap := J.base
  have un : Un (frs X.stack) fp H H' s₂.heap h' :=
    ⟨fun b o e n hb hx => (sb.2 b (neC b o e)).trans (u.keep b o e n hb hx),
     fun b o e n hb hx => by
      obtain ⟨sl, q⟩ := u.slot b o e n hb hx
      exact ⟨sl, (sb.2 b (neC b o e)).trans q⟩,
     u.free, fun b o e hx => by
      obtain ⟨o', q⟩ := u.there b o e hx
      exact ⟨o', (sb.2 b (neC b o e)).trans q⟩, u.tups, u.frzs, u.tbls⟩
  have fC : H' C = none := J.free
  have hok : HOk X.prog X.w H' h' := fun b o e => by
    refine (J.hok b o e).stay (fun c v hc q => (sb.2 c ?_).trans q) (fun _ q => q) fun _ _ q => q
    rintro rfl
    rcases hc with z | z
    · rw [← z, fC] at e; cases e
    · rw [fC] at z; cases z
  have os : s'.os = s₂.os := J.os
  refine I.call' (s' := { s' with heap := h' }) os un hok J.bare fun b hb => ?_
  obtain ⟨_, f1, _, f3, f4, f5⟩ := hf b hb
  exact ⟨f3, f1, f4, f5⟩
end
end L2

set_option maxHeartbeats 4000000
namespace L2
open PySem PySem.Spec PyProof.Rows

/-- the loop of a comprehension with one clause, whatever its target -/
theorem comp_loop {prog : Program} {w : World} {A : Around} {R : Result → Shared → Prop} {s : Shared} {elt tg iter : Expr} {ifs : List Expr} {scope : Scope} {pos : Pos} {it acc : Value} {env : Env} (J : Nat → Shared → Prop)
    (turn : ∀ n s, J n s → wpAny (model prog w) A (pyNext it) (fun r s₁ => (r = none ∧ R (.ok .next) s₁) ∨ ∃ v, r = some v ∧
      wpAny (model prog w) A (letOwnedTupleGo tg it v) (fun _ s₂ => wpAny (model prog w) A (assign tg env v) (fun _ s₃ =>
        wpAny (model prog w) A (forIn ifs true fun c r => if r = true then do let ok ← isTrue c env (eval c env); pure (ForInStep.yield ok) else pure (ForInStep.yield r)) (fun ok s₄ =>
          if ok = true then wpAny (model prog w) A (eval elt env) (fun x s₅ => wpAny (model prog w) A (call (.builtin "list.append") [acc, x]) (fun _ s₆ => ∃ m, m < n ∧ J m s₆) (notedBy (model prog w) A env fun e s' => R (.error e) s') s₅)
            (notedBy (model prog w) A env fun e s' => R (.error e) s') s₄
          else ∃ m, m < n ∧ J m s₄) (notedBy (model prog w) A env fun e s' => R (.error e) s') s₃) (notedBy (model prog w) A env fun e s' => R (.error e) s') s₂) (notedBy (model prog w) A env fun e s' => R (.error e) s') s₁)
      (notedBy (model prog w) A env fun e s' => R (.error e) s') s)
    (n : Nat) (h : J n s) : codeAny (model prog w) A (.compLoop (.ListComp elt [⟨tg, iter, ifs, 0⟩] scope pos) 0 it acc env) R s := by
  refine codeAny_loop rfl J (fun n s hJ => ?_) n h
  refine wpAny_noted (A := A) (m := compTurn (.ListComp elt [⟨tg, iter, ifs, 0⟩] scope pos) 0 it acc env) (env := env) ?_
  rw [compTurn_list]
  refine wpAny_bind (wpAny_standAt (wpAny_bind (thn (turn n s hJ) fun r s₁ h₁ => ?_)))
  rcases h₁ with ⟨e, h₁⟩ | ⟨v, e, h₁⟩
  · subst e
    exact wpAny_pure h₁
  · subst e
    refine wpAny_bind (thn h₁ fun _ s₂ h₂ => wpAny_bind (thn h₂ fun _ s₃ h₃ => wpAny_bind (thn h₃ fun ok s₄ h₄ => ?_)))
    cases ok with
    | false => exact wpAny_pure ⟨rfl, h₄⟩
    | true => exact wpAny_bind (wpAny_bind (thn h₄ fun x s₅ h₅ => wpAny_bind (thn h₅ fun _ s₆ h₆ => wpAny_pure (wpAny_pure ⟨rfl, h₆⟩))))

/-- the tests of a clause: all of them -/
def PF (X : Cx) (ifs : List Expr) (t : TT) : Prop :=
  ∀ (pins : List (Addr × Obj)) (s : Shared) (σ : St) (H : Hp) (Q : Bool → Hp → Prop), Inv X pins σ H s → t σ H Q →
    wpAny (model X.prog X.w) X.A (forIn ifs true fun c r => if r = true then do let ok ← isTrue c X.env (eval c X.env); pure (ForInStep.yield ok) else pure (ForInStep.yield r)) (TP X pins σ Q) X.xe s
def tAll : TT := fun _ H Q => Q true H
theorem pf_nil {X : Cx} : PF X [] tAll := by
  intro pins s σ H Q I h
  rw [List.forIn_nil]
  exact wpAny_pure ⟨H, I, h⟩
theorem pf_one {X : Cx} {c : Expr} {t : TT} (hc : PT X c t) : PF X [c] t := by
  intro pins s σ H Q I h
  rw [List.forIn_cons]
  refine wpAny_bind ?_
  rw [if_pos rfl]
  refine wpAny_bind (thn (hc pins s σ H Q I h) fun ok s1 q => wpAny_pure ?_)
  show wpAny _ _ (forIn [] ok _) _ _ _
  rw [List.forIn_nil]
  exact wpAny_pure q

/-- an exception out of a block: its names go, then it passes on -/
def blkErr (X : Cx) (C : Addr) (e : Value) (s' : Shared) : Prop :=
  ∃ m, s'.heap.Ns C m ∧ ∀ h', Heap.SameBut C s'.heap h' → ∀ cenv : Env, cenv.locals = C → wpAny (model X.prog X.w) X.A (passOn "comprehension.variables-let-go" e cenv : Sem Value) (fun _ _ => False) X.xe { s' with heap := h' }
def blkXe (X : Cx) (scope : Scope) (C : Addr) : Value → Shared → Prop :=
  notedBy (model X.prog X.w) X.A (compEnvC scope (closOf X.env scope.names []) C X.env) (blkErr X C)

/-- W: the invariant by the turn, a measure, the items so far, the block's names, the heap -/
def tComp (n : Nat) (wi : TI) (g : Bk → TG) (tc : Bk → TT) (te : Bk → TE) : TE := fun σ H Q => wi σ H fun J H1 => ∀ (D : Addr) (b : Bk), H1 D = none → ∃ W : Nat → Nat → List V → St → Hp → Prop,
  (∃ m, W 0 m [] (List.replicate n none ++ σ) (upd H1 D (.lst []))) ∧ ∀ i m ys σ H, W i m ys σ H →
    (J.stop i H ∧ Q (.ref D) H) ∨ (J.go i H ∧ ∀ x H', J.yld i H x H' → g b x σ H' fun σ2 H2 => tc b σ2 H2 fun ok H3 =>
      if ok = true then te b σ2 H3 fun y H4 => H4 D = some (.lst ys) ∧ ys.length < sizeLine ∧ ∃ m', m' < m ∧ W (i + 1) m' (ys ++ [y]) σ2 (upd H4 D (.lst (ys ++ [y])))
      else ∃ m', m' < m ∧ W (i + 1) m' ys σ2 H3)

section
variable {X : Cx} {tg iter elt : Expr} {ifs : List Expr} {scope : Scope} {pos : Pos} {cn : List Str} {wi : TI} {g : Bk → TG} {tc : Bk → TT} {te : Bk → TE} {TH : Bk → Prop}

/-- the block runs: RR what is wanted at its end -/
theorem comp_run {pins : List (Addr × Obj)} {σ : St} {H : Hp} {s₂ : Shared} {it : Addr} {fp : List Addr} {tn : Nat → Heap → Prop} {J : It} {RR : Value → Addr → Result → Shared → Prop} {QQ : Addr → Hp → Prop} {EE : Value → Shared → Prop}
    (hcalm : X.calm = true) (F : CompFit X.env.scope X.N scope) (hg : ∀ b, TH b → PG (compCx X cn scope b) tg (g b)) (ht : ∀ b, TH b → PF (compCx X cn scope b) ifs (tc b)) (he : ∀ b, TH b → PE (compCx X cn scope b) elt (te b))
    (hTH : ∀ C, s₂.heap.objs.size ≤ C → TH ⟨C, s₂, H, fp, blkXe X scope C⟩)
    (I : Inv X pins σ H s₂) (T : Turn X.prog X.w X.K tg J fp it tn) (st : tn 0 s₂.heap) (hf : ∀ b ∈ fp, FpOk X pins H b)
    (h : ∀ (D : Addr) (b : Bk), H D = none → ∃ W : Nat → Nat → List V → St → Hp → Prop, (∃ m, W 0 m [] (List.replicate cn.length none ++ σ) (upd H D (.lst []))) ∧ ∀ i m ys σ H, W i m ys σ H →
      (J.stop i H ∧ QQ D H) ∨ (J.go i H ∧ ∀ x H', J.yld i H x H' → g b x σ H' fun σ2 H2 => tc b σ2 H2 fun ok H3 =>
        if ok = true then te b σ2 H3 fun y H4 => H4 D = some (.lst ys) ∧ ys.length < sizeLine ∧ ∃ m', m' < m ∧ W (i + 1) m' (ys ++ [y]) σ2 (upd H4 D (.lst (ys ++ [y])))
        else ∃ m', m' < m ∧ W (i + 1) m' ys σ2 H3))
    (hR : ∀ C D σ' H' s', s₂.heap.objs.size ≤ C → Inv (compCx X cn scope ⟨C, s₂, H, fp, blkXe X scope C⟩) [] σ' H' s' → QQ D H' → RR (.ref D) C (.ok .next) s')
    (hE : ∀ C D e s', blkErr X C e s' → RR (.ref D) C (.error e) s') :
    wpAny (model X.prog X.w) X.A (newList []) (fun acc s₃ => wpAny (model X.prog X.w) X.A (newFunctionEnv scope X.env.globals (closOf X.env scope.names []) [] X.env.qual none .none (some X.env)) (fun cenv s₄ =>
      codeAny (model X.prog X.w) X.A (.compStart (.ListComp elt [⟨tg, iter, ifs, 0⟩] scope pos) 0 (.ref it) acc { cenv with scope := relabel scope X.env }) (RR acc cenv.locals) s₄) EE s₃) EE s₂ := by
  refine wpAny_newObj_type (wpAny_newFunctionEnv F.nocell (by intro y hy; simp at hy) (fun h₁ hns₁ hsb₁ => ?_) F.kind)
  dsimp only at hns₁ hsb₁ ⊢
  generalize hH2 : s₂.heap.push { cls := .type "list", dict := none, data := .seq ([] : List Value).toArray } = H2 at hns₁ hsb₁ ⊢
  have hC : H2.objs.size = s₂.heap.objs.size + 1 := by rw [← hH2, Heap.size_push]
  have hDC : s₂.heap.objs.size ≠ H2.objs.size := by omega
  have hCle : s₂.heap.objs.size ≤ H2.objs.size := by omega
  have hfl : ∀ b ∈ fp, b < s₂.heap.objs.size := fun b hb => by
    obtain ⟨o, e, _⟩ := T.obj 0 _ st b hb
    exact Heap.lt_size e
  have old2 : ∀ b o, s₂.heap.get? b = some o → H2.get? b = some o := fun b o e => hH2 ▸ Heap.get?_push_of_some _ e
  have old : ∀ b o, s₂.heap.get? b = some o → h₁.get? b = some o := fun b o e => by
    have hb := Heap.lt_size e
    refine hsb₁.extBut b o (Nat.ne_of_lt (Nat.lt_of_lt_of_le hb hCle)) (Heap.get?_push_of_some _ (old2 b o e))
  have hacc : h₁.get? s₂.heap.objs.size = some { cls := .type "list", data := .seq ([] : List Value).toArray 0 } :=
    hsb₁.extBut _ _ hDC (Heap.get?_push_of_some _ (hH2 ▸ Heap.get?_push_size _ rfl))
  have I0 := Inv.block (cn := cn) (xe := blkXe X scope H2.objs.size) (tk := s₂.toks + ([] : List (Str × Value)).length) I F hcalm hf hfl hCle (Nat.le_refl _) hDC hns₁ old hacc
  have th := hTH _ hCle
  obtain ⟨W, ⟨m0, w0⟩, turn⟩ := h s₂.heap.objs.size ⟨H2.objs.size, s₂, H, fp, blkXe X scope H2.objs.size⟩ (I.hok.fresh (Nat.le_refl _))
  have fpx : ∀ {H' : Hp}, (∀ b ∈ fp, H' b = none) → ∀ b ∈ fp, FpOk (compCx X cn scope ⟨H2.objs.size, s₂, H, fp, blkXe X scope H2.objs.size⟩) [] H' b := fun {H'} hn b hb => by
    refine ⟨hn b hb, (I0.ok.exf b hb).1, I0.ok.exfs b hb, .inl hb, (I0.ok.exf b hb).2, fun p hp => absurd (show p ∈ ([] : List (Addr × Obj)) from hp) (by simp)⟩
  have hcomp : (compCx X cn scope ⟨H2.objs.size, s₂, H, fp, blkXe X scope H2.objs.size⟩).calm = true := hcalm
  have loop : ∀ s₃ : Shared, s₃ = { s₂ with heap := h₁, toks := s₂.toks + ([] : List (Str × Value)).length } →
      codeAny (model X.prog X.w) X.A (.compLoop (.ListComp elt [⟨tg, iter, ifs, 0⟩] scope pos) 0 (.ref it) (.ref s₂.heap.objs.size) (compEnvC scope (closOf X.env scope.names []) H2.objs.size X.env))
        (RR (.ref s₂.heap.objs.size) H2.objs.size) s₃ := by
    rintro s₃ rfl
    have toE : ∀ e s', (compCx X cn scope ⟨H2.objs.size, s₂, H, fp, blkXe X scope H2.objs.size⟩).xe e s' →
        notedBy (model X.prog X.w) X.A (compEnvC scope (closOf X.env scope.names []) H2.objs.size X.env) (fun e s' => RR (.ref s₂.heap.objs.size) H2.objs.size (.error e) s') e s' := fun e s' z =>
      wpAny_mono (show notedBy (model X.prog X.w) X.A (compEnvC scope (closOf X.env scope.names []) H2.objs.size X.env) (blkErr X H2.objs.size) e s' from z) (fun _ _ q => hE _ _ _ _ q) fun _ _ q => hE _ _ _ _ q
    refine comp_loop (env := compEnvC scope (closOf X.env scope.names []) H2.objs.size X.env)
      (fun n s' => ∃ i ys σ' H', Inv (compCx X cn scope ⟨H2.objs.size, s₂, H, fp, blkXe X scope H2.objs.size⟩) [] σ' H' s' ∧ tn i s'.heap ∧ (∀ b ∈ fp, H' b = none) ∧ W i n ys σ' H') ?_ m0
      ⟨0, [], _, _, I0, T.keep _ _ _ st fun b _ o e => old b o e, fun b hb => ?_, w0⟩
    · rintro n s' ⟨i, ys, σ', H', I', st', fr', w'⟩
      rcases turn i n ys σ' H' w' with ⟨stop, qn⟩ | ⟨go, step⟩
      · refine wpAny_mono (T.done (compCx X cn scope ⟨H2.objs.size, s₂, H, fp, blkXe X scope H2.objs.size⟩) rfl rfl rfl hcomp i [] s' σ' H' (fun _ _ => False) I' (fpx fr') st' stop) (fun r s4 ⟨hr, I4⟩ => ?_) fun _ _ z => z.elim
        exact .inl ⟨hr, hR _ _ _ _ _ hCle I4 qn⟩
      · refine wpAny_mono (T.item (compCx X cn scope ⟨H2.objs.size, s₂, H, fp, blkXe X scope H2.objs.size⟩) rfl rfl rfl hcomp i [] s' σ' H' (fun _ _ => False) I' (fpx fr') st' go) (fun r s4 ⟨u, hr, h4⟩ => ?_) fun _ _ z => z.elim
        refine .inr ⟨u, hr, wpAny_mono h4 (fun _ s5 ⟨x, H5, I5, r5, y5, st5, fr5⟩ => ?_) fun _ _ z => z.elim⟩
        have I5' := I5.pinned (fpx fr5) (T.obj _ _ st5)
        refine wpAny_mono (hg _ th _ s5 σ' H5 x u _ I5' r5 (step x H5 y5)) (fun _ s6 ⟨σ6, H6, I6, q6⟩ => ?_) toE
        refine wpAny_mono (ht _ th _ s6 σ6 H6 _ I6 q6) (fun ok s7 ⟨H7, I7, q7⟩ => ?_) toE
        have back : ∀ {σ8 : St} {H8 : Hp} {s8 : Shared}, Inv (compCx X cn scope ⟨H2.objs.size, s₂, H, fp, blkXe X scope H2.objs.size⟩) ([] ++ pinsAt fp s5.heap) σ8 H8 s8 → tn (i + 1) s8.heap ∧ ∀ b ∈ fp, H8 b = none := fun {σ8 H8 s8} I8 => by
          refine ⟨T.keep _ _ _ st5 fun b hb o e => (I8.pin (b, o) (List.mem_append_right _ (List.mem_append_right _ (mem_pinsAt hb e)))).1, fun b hb => ?_⟩
          obtain ⟨o, e, d⟩ := T.obj _ _ st5 b hb
          exact (I8.pin (b, o) (List.mem_append_right _ (List.mem_append_right _ (mem_pinsAt hb e)))).2.1
        cases ok with
        | false =>
          rw [if_neg Bool.false_ne_true] at q7 ⊢
          obtain ⟨m', hm, w7⟩ := q7
          obtain ⟨t8, f8⟩ := back I7
          exact ⟨m', hm, i + 1, ys, σ6, H7, I7.unpinned, t8, f8, w7⟩
        | true =>
          rw [if_pos rfl] at q7 ⊢
          refine wpAny_mono (he _ th _ s7 σ6 H7 _ I7 q7) (fun v s8 ⟨y, H8, I8, r8, hl, hz, m', hm, w8⟩ => ?_) toE
          refine wpAny_mono (mt_append (X := compCx X cn scope ⟨H2.objs.size, s₂, H, fp, blkXe X scope H2.objs.size⟩) _ s8 σ6 H8 (.ref s₂.heap.objs.size) [y] (.ref s₂.heap.objs.size) [v] (fun _ H9 => W (i + 1) m' (ys ++ [y]) σ6 H9) I8 rfl (.cons r8 .nil) ⟨_, ys, y, rfl, rfl, hl, hz, w8⟩)
            (fun _ s9 ⟨_, H9, I9, _, w9⟩ => ?_) toE
          obtain ⟨t9, f9⟩ := back I9
          exact ⟨m', hm, i + 1, _, σ6, H9, I9.unpinned, t9, f9, w9⟩
    · rw [upd_ne (Nat.ne_of_lt (hfl b hb))]
      exact (hf b hb).1
  exact codeAny_compStart_list (loop _ rfl) (T.self _ 0 _ _ _ (T.keep _ _ _ st fun b _ o e => old b o e) (loop _ rfl))

/-- [elt for tg in iter if ..] -/
theorem pe_compT (hcalm : X.calm = true) (F : CompFit X.env.scope X.N scope) (hi : PI X tg iter wi) (hg : ∀ b, TH b → PG (compCx X cn scope b) tg (g b)) (ht : ∀ b, TH b → PF (compCx X cn scope b) ifs (tc b))
    (he : ∀ b, TH b → PE (compCx X cn scope b) elt (te b))
    (hTH : ∀ pins σ H s₂ fp C, Inv X pins σ H s₂ → (∀ b ∈ fp, FpOk X pins H b) → s₂.heap.objs.size ≤ C → TH ⟨C, s₂, H, fp, blkXe X scope C⟩)
    (hs : ∀ x, foldedSetIterable iter X.env x = pure x := by intro _; rfl) : PE X (.ListComp elt [⟨tg, iter, ifs, 0⟩] scope pos) (tComp cn.length wi g tc te) := by
  intro pins s σ H Q I h
  rw [eval_ListComp]
  have hcl : closureFor scope X.env = pure (closOf X.env scope.names []) := clos_eq fun p hp e => I.ok.has p.1 (F.free p hp e)
  refine wpAny_comprehension_free (use := none) rfl hs hcl F.kind F.loc (thn (hi pins s σ H _ I h) fun xv s₁ h₁ => thn h₁ fun itv s₂ h₂ => ?_)
  obtain ⟨it, fp, tn, J, H2, rfl, I2, T, st, f2, R⟩ := h₂
  refine comp_run (QQ := fun D H' => Q (.ref D) H') (RR := fun acc C => compPost (model X.prog X.w) X.A X.xe none (EP X pins σ Q) acc C) hcalm F hg ht he (fun C hC => hTH pins σ H2 s₂ fp C I2 f2 hC) I2 T st f2 R ?_ ?_
  · intro C D σ' H' s' hC I' q
    obtain ⟨m, hm, _⟩ := I'.loc
    exact ⟨m, hm, fun h' sb => ⟨.ref D, H', I2.unblock f2 hC I' sb, rfl, q⟩⟩
  · intro C D e s' z
    exact z
theorem pe_comp (hcalm : X.calm = true) (F : CompFit X.env.scope X.N scope) (hi : PI X tg iter wi) (hg : ∀ b, PG (compCx X cn scope b) tg (g b)) (ht : ∀ b, PF (compCx X cn scope b) ifs (tc b)) (he : ∀ b, PE (compCx X cn scope b) elt (te b))
    (hs : ∀ x, foldedSetIterable iter X.env x = pure x := by intro _; rfl) : PE X (.ListComp elt [⟨tg, iter, ifs, 0⟩] scope pos) (tComp cn.length wi g tc te) :=
  pe_compT (TH := fun _ => True) hcalm F hi (fun b _ => hg b) (fun b _ => ht b) (fun b _ => he b) (fun _ _ _ _ _ _ _ _ _ => trivial) hs
/-- name = [elt for ..] on one row: the name is stored ahead of the block's names going -/
def tSetComp (n : Nat) (i : Nat) (wi : TI) (g : Bk → TG) (tc : Bk → TT) (te : Bk → TE) : TS := fun D σ H => tComp n wi g tc te σ H fun v H' => D.nx (σ.set i (some v)) H'
end
end L2

set_option maxHeartbeats 4000000
namespace L2
open PySem PySem.Spec PyProof.Rows
section
variable {X : Cx} {e : Expr} {es : List Expr} {te : TE} {pos : Pos}

/-! ### f-strings -/
abbrev TP1 := St → Hp → (Str → Hp → Prop) → Prop
abbrev TPs := Str → St → Hp → (Str → Hp → Prop) → Prop
def StrP (X : Cx) (pins : List (Addr × Obj)) (σ : St) (Q : Str → Hp → Prop) (u : Value) (s' : Shared) : Prop := ∃ y t H', u = .str y t ∧ Inv X pins σ H' s' ∧ Q y H'
/-- a part of an f-string: its value is a text -/
def PP (X : Cx) (e : Expr) (t : TP1) : Prop :=
  ∀ (pins : List (Addr × Obj)) (s : Shared) (σ : St) (H : Hp) (Q : Str → Hp → Prop), Inv X pins σ H s → t σ H Q → wpAny (model X.prog X.w) X.A (eval e X.env) (StrP X pins σ Q) X.xe s
def PPs (X : Cx) (es : List Expr) (t : TPs) : Prop :=
  ∀ (pins : List (Addr × Obj)) (s : Shared) (σ : St) (H : Hp) (acc : Str) (Q : Str → Hp → Prop), Inv X pins σ H s → t acc σ H Q →
    Joins (model X.prog X.w) X.A X.xe (evalEach es X.env) acc (fun out s₁ => ∃ H', Inv X pins σ H' s₁ ∧ Q out H') s
def tPC (x : Str) : TP1 := fun _ H Q => Q x H
/-- {value} of a text or an int -/
def tPV (te : TE) : TP1 := fun σ H Q => te σ H fun v H1 => (∃ z, v = .str z ∧ z.length ≤ sizeLine ∧ Q z H1) ∨ ∃ i : Int, v = .int i ∧ i.natAbs.log2 < 1920 ∧ Q (toString i) H1
theorem pp_const {x j} : PP X (.Constant (.str x) j pos) (tPC x) := fun _ _ _ H _ I h => Calls.Constant_str ⟨x, _, H, rfl, I.tok _, h⟩
theorem pp_val (he : PE X e te) : PP X (.FormattedValue e (-1) none pos) (tPV te) := by
  intro pins s σ H Q I h
  refine FormattedValue_plain (thn (he pins s σ H _ I h) fun v s1 ⟨x, H1, I1, r1, q1⟩ => ?_)
  rcases q1 with ⟨z, rfl, hz, q⟩ | ⟨i, rfl, hi, q⟩
  · obtain ⟨t, rfl⟩ := r1
    exact formatField_str (fun t' tk => ⟨z, t', H1, rfl, I1.tok _, q⟩) hz
  · obtain ⟨t, rfl⟩ := r1
    exact formatField_int_small hi ⟨_, _, H1, rfl, I1.tok _, q⟩
def tJ0 : TPs := fun acc _ H Q => Q acc H
def tJ (t : TP1) (u : TPs) : TPs := fun acc σ H Q => t σ H fun y H1 => (acc ++ y).length ≤ sizeLine ∧ u (acc ++ y) σ H1 Q
theorem pps_nil : PPs X [] tJ0 := fun _ _ _ H _ _ I h => ⟨H, I, h⟩
theorem pps_cons {t : TP1} {u : TPs} (h1 : PP X e t) (h2 : PPs X es u) : PPs X (e :: es) (tJ t u) := by
  intro pins s σ H acc Q I h
  refine wpAny_mono (h1 pins s σ H _ I h) (fun v s1 q => ?_) fun _ _ z => z
  obtain ⟨y, tk, H1, rfl, I1, hz, q⟩ := q
  exact ⟨y, tk, rfl, hz, h2 pins s1 σ H1 _ Q I1 q⟩
def tF (u : TPs) : TE := fun σ H Q => u Str.empty σ H fun out H1 => out.length ≤ sizeLine ∧ Q (.str out) H1
theorem pe_fstr {e2 : Expr} {u : TPs} (h : PPs X (e :: e2 :: es) u) : PE X (.JoinedStr (e :: e2 :: es) pos) (tF u) := by
  intro pins s σ H Q I hw
  refine wpAny_JoinedStr ?_
  have mono : ∀ (l : List (Sem Value)) (acc : Str) (Q1 Q2 : Str → Shared → Prop) (s : Shared), (∀ o s, Q1 o s → Q2 o s) → Joins (model X.prog X.w) X.A X.xe l acc Q1 s → Joins (model X.prog X.w) X.A X.xe l acc Q2 s := by
    intro l
    induction l with
    | nil => intro acc Q1 Q2 s hm h; exact hm _ _ h
    | cons a l ih =>
      intro acc Q1 Q2 s hm h
      refine wpAny_mono h (fun v s1 q => ?_) fun _ _ z => z
      obtain ⟨y, t, e1, hz, q⟩ := q
      exact ⟨y, t, e1, hz, ih _ _ _ _ hm q⟩
  refine mono _ _ _ _ _ (fun out s1 q => ?_) (h pins s σ H _ _ I hw)
  obtain ⟨H1, I1, hz, q⟩ := q
  exact ⟨hz, .str out, H1, I1.tok _, ⟨_, rfl⟩, q⟩

/-! ### int(text), join, split, a slice of a text -/
theorem call_int_text : CallR X (.type "int") (fun xs H Q => ∃ z n, xs = [.str z] ∧ PySem.intText? z = some n ∧ z.length ≤ 640 ∧ Q (.int n) H) := by
  intro pins s σ H xs us Q I r h
  obtain ⟨z, n, rfl, hn, hl, q⟩ := h
  obtain ⟨u, rfl, t, rfl⟩ := r.one
  exact PySem.W.KIN.call_text hn hl ⟨.int n, H, I.tok _, ⟨_, rfl⟩, q⟩
def rJoin (K : PySem.W.Frag) : V → List V → Hp → VK → Prop := fun x vs H Q => ∃ sep a ys, x = .str sep ∧ vs = [.ref a] ∧ SqL K H a (ys.map V.str) ∧ (ys.map (·.length)).sum + ys.length * sep.length ≤ 16777216 ∧ Q (.str (Str.join sep ys)) H
def rSplit : V → List V → Hp → VK → Prop := fun x vs H Q => ∃ z y, x = .str z ∧ vs = [.str y] ∧ (y.length == 0) = false ∧ z.length ≤ sizeLine ∧ (Txt.split z y).length ≤ sizeLine ∧
  ∀ p, H p = none → Q (.ref p) (upd H p (.lst ((Txt.split z y).map V.str)))
/-- t[lo:hi] -/
def rSlS : V → Option Int → Option Int → Hp → VK → Prop := fun x lo hi H Q => ∃ z, x = .str z ∧ z.length ≤ sizeLine ∧ Q (.str (Txt.slice z lo hi)) H
theorem part_pair {v : Value} {o : Option Int} (p : IsPart v o) : ∃ l : Option (Int × Tok), v = partValue l ∧ l.map (·.1) = o := by
  cases p with
  | none => exact ⟨none, rfl, rfl⟩
  | int i t => exact ⟨some (i, t), rfl, rfl⟩
theorem sl_str : SlR X rSlS := by
  intro pins s σ H x v vl vu lo hi sl Q I rx hs pl pu h
  obtain ⟨z, rfl, hz, q⟩ := h
  obtain ⟨t, rfl⟩ := rx
  obtain ⟨l, rfl, el⟩ := part_pair pl
  obtain ⟨u, rfl, eu⟩ := part_pair pu
  subst el eu
  refine ⟨"str", _, F.slot_str_getitem.lookup, typeIs_str _ _ _, ?_⟩
  obtain ⟨o, ho, hc, hd⟩ := hs
  refine wpAny_getItem_str_slice (l := l) (u := u) (st := none) ⟨o, ho, hc, hd⟩ rfl ?_
  exact post_val_or_str ⟨Nat.le_trans (Txt.slice_le z _ _) hz, fun t' k => ⟨.str _, H, I.tok _, ⟨t', rfl⟩, q⟩⟩

/-! ### the signs of a text, one after another -/
def Its (z : Str) : It := ⟨fun i _ => i < z.cps.size, fun i H x H' => H' = H ∧ ∃ c, z.cps[i]? = some c ∧ x = .str ⟨#[c]⟩, fun i _ => z.cps.size ≤ i⟩
def iStr (tl : TE) : TI := fun σ H R => tl σ H fun x H1 => ∃ z, x = .str z ∧ R (Its z) H1
/-! ### any of a list of bools -/
end
end L2

set_option maxHeartbeats 4000000
namespace L2
open PySem PySem.Spec PyProof.Rows PySem.SeqAt

/-! ### deep equality: two values that are the same all through -/
inductive Deq (K : PySem.W.Frag) (H : Hp) : Nat → V → V → Prop where
  | flat {n : Nat} {x : V} (f : flatV x = true) : Deq K H n x x
  | tup {n : Nat} {a b : Addr} {xs ys : List V} (ha : SqT K H a xs) (hb : SqT K H b ys) (hl : xs.length = ys.length) (h : ∀ (i : Nat) x y, xs[i]? = some x → ys[i]? = some y → Deq K H n x y) : Deq K H (n + 1) (.ref a) (.ref b)
  | lst {n : Nat} {a b : Addr} {xs ys : List V} (ha : SqL K H a xs) (hb : SqL K H b ys) (hl : xs.length = ys.length) (h : ∀ (i : Nat) x y, xs[i]? = some x → ys[i]? = some y → Deq K H n x y) : Deq K H (n + 1) (.ref a) (.ref b)
section
variable {X : Cx} {pins : List (Addr × Obj)} {σ : St} {H : Hp} {s : Shared}
theorem eqV_self : ∀ {x : V}, flatV x = true → eqV x x = true := by
  intro x f
  cases x <;> first | (simp [eqV]; done) | (cases f)
theorem range_all_true (n : Nat) : (List.range n).all (fun _ => true) = true := by simp
theorem Deq.at {n : Nat} {x y : V} (d : Deq X.K H n x y) (I : Inv X pins σ H s) : ∀ {A : Around} {u v : Value}, A.units + n < cLine → RelV x u → RelV y v →
    EqAt A s u v true ∧ (∀ a b, x = .ref a → y = .ref b → RcAt A s u v true ∧ RcNeAt A s u v false) := by
  induction d with
  | @flat n x f =>
    intro A u v hu ru rv
    refine ⟨?_, fun a b e _ => ?_⟩
    · have := eqAt_V (A := A) (s := s) ru rv f f
      rw [eqV_self f] at this
      exact this
    · subst e; cases f
  | @tup n a b xs ys ha hb hl h ih =>
    intro A u v hu ru rv
    cases ru
    cases rv
    obtain ⟨its, r, p, _⟩ := I.tuple ha
    obtain ⟨its', r', p', _⟩ := I.tuple hb
    have e1 := r.length
    have e2 := r'.length
    have he : ∀ j (h1 : j < its.toArray.size) (h2 : j < its'.toArray.size), EqAt A.in1 s its.toArray[j] its'.toArray[j] true := by
      intro j h1 h2
      have h1' : j < its.length := by simpa using h1
      have h2' : j < its'.length := by simpa using h2
      have g1 : xs[j]? = some xs[j] := List.getElem?_eq_getElem (by omega)
      have g2 : ys[j]? = some ys[j] := List.getElem?_eq_getElem (by omega)
      obtain ⟨u1, q1, k1⟩ := r.get g1
      obtain ⟨u2, q2, k2⟩ := r'.get g2
      have z1 : its.toArray[j] = u1 := by
        rw [List.getElem?_eq_getElem h1'] at q1
        simpa using q1
      have z2 : its'.toArray[j] = u2 := by
        rw [List.getElem?_eq_getElem h2'] at q2
        simpa using q2
      rw [z1, z2]
      exact (ih j _ _ g1 g2 (by show A.units + 1 + n < cLine; omega) k1 k2).1
    have bt : ((List.range (min its.toArray.size its'.toArray.size)).all (fun _ => true) && its.toArray.size == its'.toArray.size) = true := by
      rw [range_all_true]
      simp
      omega
    have rc : RcAt A s (.ref a) (.ref b) true := by
      have := RcAt.tuples (A := A) (e := fun _ => true) (show s.heap.IsTuple a its.toArray from p) (show s.heap.IsTuple b its'.toArray from p') (by omega) he
      rw [bt] at this
      exact this
    have rn : RcNeAt A s (.ref a) (.ref b) false := by
      have := RcNeAt.tuples (A := A) (e := fun _ => true) (show s.heap.IsTuple a its.toArray from p) (show s.heap.IsTuple b its'.toArray from p') (by omega) he
      rw [bt] at this
      exact this
    refine ⟨?_, fun _ _ _ _ => ⟨rc, rn⟩⟩
    by_cases e : a = b
    · subst e; exact EqAt.same _
    · exact EqAt.of_refs e rc
  | @lst n a b xs ys ha hb hl h ih =>
    intro A u v hu ru rv
    cases ru
    cases rv
    obtain ⟨its, r, p, _⟩ := I.list ha
    obtain ⟨its', r', p', _⟩ := I.list hb
    have e1 := r.length
    have e2 := r'.length
    have he : ∀ j (h1 : j < its.toArray.size) (h2 : j < its'.toArray.size), EqAt A.in1 s its.toArray[j] its'.toArray[j] true := by
      intro j h1 h2
      have h1' : j < its.length := by simpa using h1
      have h2' : j < its'.length := by simpa using h2
      have g1 : xs[j]? = some xs[j] := List.getElem?_eq_getElem (by omega)
      have g2 : ys[j]? = some ys[j] := List.getElem?_eq_getElem (by omega)
      obtain ⟨u1, q1, k1⟩ := r.get g1
      obtain ⟨u2, q2, k2⟩ := r'.get g2
      have z1 : its.toArray[j] = u1 := by
        rw [List.getElem?_eq_getElem h1'] at q1
        simpa using q1
      have z2 : its'.toArray[j] = u2 := by
        rw [List.getElem?_eq_getElem h2'] at q2
        simpa using q2
      rw [z1, z2]
      exact (ih j _ _ g1 g2 (by show A.units + 1 + n < cLine; omega) k1 k2).1
    have bt : (List.range its.toArray.size).all (fun _ => true) = true := range_all_true _
    have rc : RcAt A s (.ref a) (.ref b) true := by
      have := RcAt.lists (A := A) (e := fun _ => true) p.isList p'.isList (by simp; omega) (by omega) he
      rw [bt] at this
      exact this
    have rn : RcNeAt A s (.ref a) (.ref b) false := by
      have := RcNeAt.lists (A := A) (e := fun _ => true) p.isList p'.isList (by simp; omega) (by omega) he
      rw [bt] at this
      exact this
    refine ⟨?_, fun _ _ _ _ => ⟨rc, rn⟩⟩
    by_cases e : a = b
    · subst e; exact EqAt.same _
    · exact EqAt.of_refs e rc
inductive rEqDI (K : PySem.W.Frag) (b : Bool) (x : V) (y : V) (H : Hp) (Q : VK) : Prop
  | mk (a : _) (c : _) (h0_ : x = .ref a) (h1_ : y = .ref c) (h2_ : Deq K H 60 x y ∧ Q (.bl b) H) : rEqDI K b x y H Q
def rEqD (K : PySem.W.Frag) (b : Bool) : R2 := fun x y H Q => rEqDI K b x y H Q
theorem op_eqD (hu : X.A.units + 64 < cLine) : OpR X (compareOp .Eq) (rEqD X.K true) := by
  intro pins s σ H x y v u Q I r1 r2 h
  obtain ⟨a, c, rfl, rfl, d, q⟩ := h
  exact (((d.at I (A := X.A) (by omega) r1 r2).2 a c rfl rfl).1) X.prog X.w X.xe _ ⟨.bl true, H, I, rfl, q⟩
theorem op_neD (hu : X.A.units + 64 < cLine) : OpR X (compareOp .NotEq) (rEqD X.K false) := by
  intro pins s σ H x y v u Q I r1 r2 h
  obtain ⟨a, c, rfl, rfl, d, q⟩ := h
  exact (((d.at I (A := X.A) (by omega) r1 r2).2 a c rfl rfl).2) X.prog X.w X.xe _ ⟨.bl false, H, I, rfl, q⟩
/-! ### isinstance(x, T), T a built-in type -/
theorem call_isT : CallR X (.builtin "isinstance") (fun xs H Q => ∃ x T t b, xs = [x, .ty T] ∧ TyOf X.K H x t ∧ PySem.W.kitOne X.K t (.type T) = some b ∧ Q (.bl b) H) := by
  intro pins s σ H xs us Q I r h
  obtain ⟨x, T, t, b, rfl, ty, e, q⟩ := h
  obtain ⟨u, v, rfl, r1, r2⟩ := r.two
  cases r2
  exact isinst_ok I r1 ty e fun tk => ⟨.bl b, H, I.tok _, rfl, q⟩

/-! ### zip of two lists, enumerate of a list: the pair is a tuple that is not looked at -/
/-- (i, x) of the list at a -/
def Ite (K : PySem.W.Frag) (a : Addr) : It :=
  ⟨fun i H => ∃ xs x, SqL K H a xs ∧ xs[i]? = some x, fun i H x H' => ∃ y t, x = .ref t ∧ H t = none ∧ (∀ xs, SqL K H a xs → xs[i]? = some y) ∧ H' = upd H t (.tup [.int i, y]), fun i H => ∃ xs, SqL K H a xs ∧ xs.length ≤ i⟩
/-- (x, y) of the lists at a and b -/
def Itz (K : PySem.W.Frag) (a b : Addr) : It :=
  ⟨fun i H => ∃ xs ys x y, SqL K H a xs ∧ SqL K H b ys ∧ xs[i]? = some x ∧ ys[i]? = some y,
   fun i H p H' => ∃ x y t, p = .ref t ∧ H t = none ∧ (∀ xs, SqL K H a xs → xs[i]? = some x) ∧ (∀ ys, SqL K H b ys → ys[i]? = some y) ∧ H' = upd H t (.tup [x, y]),
   fun i H => ∃ xs ys, SqL K H a xs ∧ SqL K H b ys ∧ min xs.length ys.length = i⟩
/-- behind an iterator's step: its own records wr turned, a new tuple lies at T -/
theorem Inv.pairLaid {tk : Nat} {h' : Heap} {wr : List Addr} {T : Addr} {xs : List V} {vals : List Value} (I : Inv X pins σ H s) (hw : ∀ b ∈ wr, FpOk X pins H b) (hT : s.heap.objs.size ≤ T) (ht : h'.IsTuple T vals.toArray) (rv : Vals xs vals) (hz : xs.length ≤ sizeLine)
    (kk : ∀ b o, b ∉ wr → s.heap.get? b = some o → h'.get? b = some o) (there : ∀ b ∈ wr, ∃ o, h'.get? b = some o) : Inv X pins σ (upd H T (.tup xs)) { s with heap := h', toks := tk } := by
  have hTn : H T = none := I.hok.fresh hT
  have nT : ∀ b o, s.heap.get? b = some o → b ≠ T := fun b o e => Nat.ne_of_lt (Nat.lt_of_lt_of_le (Heap.lt_size e) hT)
  refine I.step (g' := s.gens) (d' := s.drawn) (ch := wr) (fun b hb => ?_) (fun b o _ _ hc e _ => kk b o hc e) (fun b o _ _ hc e _ => ⟨o.slots, kk b o hc e⟩) (fun b o _ e n => by rw [upd_ne (nT b o e)]; exact n)
    (fun b o hc e => ⟨o, kk b o hc e⟩) (fun b ys e => by rw [upd_ne (ne_of_none e hTn)]; exact e) (fun b o u e => by rw [upd_ne (ne_of_none e hTn)]; exact e) (fun b ps e => ⟨#[], by rw [upd_ne (ne_of_none e hTn), e]; simp⟩) (fun m hm => ?_) (fun b u e => ?_) I.bare
  · obtain ⟨_, f1, _, f3, f4, f5⟩ := hw b hb
    exact ⟨f3, f1, f4, f5⟩
  · obtain ⟨o, es, ep, ho, r⟩ := hm
    exact ⟨o, es, ep, kk _ o (fun z => (hw _ z).2.1 rfl) ho, r⟩
  · by_cases hb : b = T
    · subst hb
      rw [upd_same] at e
      cases e
      exact ⟨hz, vals, rv, ht⟩
    · rw [upd_ne hb] at e
      refine (I.hok b u e).stay (fun c v hc q => kk c v (fun z => ?_) q) (fun c q => by rw [upd_ne (ne_of_none q hTn)]; exact q) fun c ys q => by rw [upd_ne (ne_of_none q hTn)]; exact q
      have hn := (hw c z).1
      rcases hc with hc | hc
      · rw [hc, e] at hn; cases hn
      · rw [hc] at hn; cases hn
theorem Inv.turnedMany {tk : Nat} {h' : Heap} {wr : List Addr} (I : Inv X pins σ H s) (hw : ∀ b ∈ wr, FpOk X pins H b) (kk : ∀ b o, b ∉ wr → s.heap.get? b = some o → h'.get? b = some o) : Inv X pins σ H { s with heap := h', toks := tk } := by
  refine I.step (g' := s.gens) (d' := s.drawn) (ch := wr) (fun b hb => ?_) (fun b o _ _ hc e _ => kk b o hc e) (fun b o _ _ hc e _ => ⟨o.slots, kk b o hc e⟩) (fun b o _ e n => n)
    (fun b o hc e => ⟨o, kk b o hc e⟩) (fun b ys e => e) (fun b o u e => e) (fun b ps e => ⟨#[], by rw [e]; simp⟩) (fun m hm => ?_) (fun b u e => ?_) I.bare
  · obtain ⟨_, f1, _, f3, f4, f5⟩ := hw b hb
    exact ⟨f3, f1, f4, f5⟩
  · obtain ⟨o, es, ep, ho, r⟩ := hm
    exact ⟨o, es, ep, kk _ o (fun z => (hw _ z).2.1 rfl) ho, r⟩
  · refine (I.hok b u e).stay (fun c v hc q => kk c v (fun z => ?_) q) (fun c q => q) fun c ys q => q
    have hn := (hw c z).1
    rcases hc with hc | hc
    · rw [hc, e] at hn; cases hn
    · rw [hc] at hn; cases hn
end
end L2

set_option maxHeartbeats 4000000
namespace L2
open PySem PySem.Spec PyProof.Rows PySem.SeqAt
/-! ### one word for an operation, whatever it is upon -/
section
variable {X : Cx}
theorem hu_of64 {k : Nat} {A : Around} (hr : Room k A) : A.units + 64 < cLine := hr.units
theorem bt_len : bootBuiltins "len" = some (.builtin "len") := by decide +kernel
theorem bt_min : bootBuiltins "min" = some (.builtin "min") := by decide +kernel
theorem bt_isinstance : bootBuiltins "isinstance" = some (.builtin "isinstance") := by decide +kernel
theorem bt_int : bootBuiltins "int" = some (.type "int") := by decide +kernel
theorem bt_list : bootBuiltins "list" = some (.type "list") := by decide +kernel
theorem bt_tuple : bootBuiltins "tuple" = some (.type "tuple") := by decide +kernel
theorem bt_dict : bootBuiltins "dict" = some (.type "dict") := by decide +kernel
/-- text * n -/
def rRepS : R2 := fun x y H Q => ∃ z k, x = .str z ∧ y = .int k ∧ 0 ≤ k ∧ z.length * k.toNat ≤ 1000 ∧ ∀ r : Str, r.cps.toList = (List.replicate k.toNat z.cps.toList).flatten → Q (.str r) H
end
end L2
namespace L2
open PySem PySem.Spec PyProof.Rows
/-! ### a row of written texts as arguments -/
def cstrs : List Expr → Option (List Str)
  | [] => some []
  | .Constant (.str x) _ _ :: r => (cstrs r).map fun ys => x :: ys
  | _ => none
end L2

namespace L2
open PySem
theorem Same.tup {K : PySem.W.Frag} {H H' : Hp} {a : Addr} {xs : List V} (e : Same H H') (h : SqT K H a xs) : SqT K H' a xs := by
  rcases h with (h | ⟨o, h⟩) | h
  · exact .inl (.inl (e _ _ h))
  · exact .inl (.inr ⟨o, e _ _ h⟩)
  · exact .inr h
theorem Same.upd {H : Hp} {l : Addr} {o : HO} (hn : H l = none) : Same H (upd H l o) := fun b u e => by
  rw [upd_ne (ne_of_none e hn)]
  exact e
end L2
namespace L2
theorem bodyOk {X : Cx} {b : List PySem.Stmt} {t : TS} {D : Ends} {σ : St} {H : Hp} (h : PSs X b t) (q : t D σ H) : ∃ t, PSs X b t ∧ t D σ H := ⟨t, h, q⟩
theorem dec_int' (i j : Int) : decide (V.int i = V.int j) = decide (i = j) := by
  by_cases h : i = j
  · subst h; simp
  · rw [decide_eq_false h]
    exact decide_eq_false fun e => h (V.int.inj e)
end L2
namespace L2
open PySem
end L2
namespace L2
open PySem
end L2

set_option maxHeartbeats 4000000
namespace L2
open PySem PySem.Spec PyProof.Rows
section
variable {X : Cx} {tg : Expr}
inductive iEnumI (K : PySem.W.Frag) (R : (It → Hp → Prop)) (x : V) (H1 : Hp) : Prop
  | mk (a : _) (h0_ : x = .ref a) (h1_ : (∃ xs, SqL K H1 a xs) ∧ R (Ite K a) H1) : iEnumI K R x H1
def iEnum (K : PySem.W.Frag) (tl : TE) : TI := fun σ H R => tl σ H fun x H1 => iEnumI K R x H1
end
end L2

set_option maxHeartbeats 4000000
namespace L2
open PySem PySem.Spec PyProof.Rows
structure ZipOwn (z TI TO i1 i2 : Addr) : Prop where
  TIz : TI ≠ z
  TOz : TO ≠ z
  i1z : i1 ≠ z
  i2z : i2 ≠ z
  TITO : TI ≠ TO
  TIi1 : TI ≠ i1
  TIi2 : TI ≠ i2
  TOi1 : TO ≠ i1
  TOi2 : TO ≠ i2
  i12 : i1 ≠ i2
section
variable {X : Cx}
def zipSt (z TI TO i1 i2 a b : Addr) (i : Nat) (h : Heap) : Prop := IsZip h z TI TO .none ∧ IsPair h TI (.ref i1) (.ref i2) ∧ (∃ x y, IsPair h TO x y) ∧ h.IsListIter i1 a i ∧ h.IsListIter i2 b i
inductive iZipI (K : PySem.W.Frag) (R : (It → Hp → Prop)) (x : V) (y : V) (H2 : Hp) : Prop
  | mk (a : _) (b : _) (h0_ : x = .ref a) (h1_ : y = .ref b) (h2_ : (∃ xs, SqL K H2 a xs) ∧ (∃ ys, SqL K H2 b ys) ∧ R (Itz K a b) H2) : iZipI K R x y H2
def iZip (K : PySem.W.Frag) (tl tm : TE) : TI := fun σ H R => tl σ H fun x H1 => tm σ H1 fun y H2 => iZipI K R x y H2
end
end L2

set_option maxHeartbeats 4000000
namespace L2
open PySem
/-! ### a comprehension by what holds between two turns -/
abbrev CompW (J : It) (g : TG) (tc : TT) (te : TE) (D : Addr) (R : Hp → Prop) (σ : St) (H : Hp) : Prop := ∃ W : Nat → Nat → List V → St → Hp → Prop, (∃ m, W 0 m [] σ H) ∧ ∀ i m ys σ H, W i m ys σ H →
    (J.stop i H ∧ R H) ∨ (J.go i H ∧ ∀ x H', J.yld i H x H' → g x σ H' fun σ2 H2 => tc σ2 H2 fun ok H3 =>
      if ok = true then te σ2 H3 fun y H4 => H4 D = some (.lst ys) ∧ ys.length < sizeLine ∧ ∃ m', m' < m ∧ W (i + 1) m' (ys ++ [y]) σ2 (upd H4 D (.lst (ys ++ [y])))
      else ∃ m', m' < m ∧ W (i + 1) m' ys σ2 H3)
/-- one turn: N is what the rest asks -/
abbrev CompT (g : TG) (tc : TT) (te : TE) (D : Addr) (ys : List V) (x : V) (σ : St) (H : Hp) (N : List V → St → Hp → Prop) : Prop :=
  g x σ H fun σ2 H2 => tc σ2 H2 fun ok H3 => if ok = true then te σ2 H3 fun y H4 => H4 D = some (.lst ys) ∧ ys.length < sizeLine ∧ N (ys ++ [y]) σ2 (upd H4 D (.lst (ys ++ [y]))) else N ys σ2 H3
end L2
namespace L2
open PySem
/-- one name, no test -/
theorem compT_name {j : Nat} {te : TE} {D : Addr} {ys : List V} {x : V} {σ : St} {H : Hp} {N : List V → St → Hp → Prop}
    (h : te (σ.set j (some x)) H fun y H4 => H4 D = some (.lst ys) ∧ ys.length < sizeLine ∧ N (ys ++ [y]) (σ.set j (some x)) (upd H4 D (.lst (ys ++ [y])))) : CompT (gName j) tAll te D ys x σ H N := by
  unfold CompT gName tAll
  exact (if_pos (rfl : true = true)).mpr h
end L2

set_option maxHeartbeats 4000000
namespace L2
open PySem PySem.Spec PyProof.Rows
open Sem (wp)
/-! ### enumerate over a zip: the inner pair may still be alive at the next turn -/
abbrev ZipG (h : Heap) (z TI TO : Addr) (f0 f1 : Value) : Prop :=
  h.get? z = some { cls := .type "zip", dict := none, data := .fields #[f0, f1, .bool false, .ref TI, .ref TO], slots := #[] }
def Loose (f0 f1 : Value) : Prop := (f0 = .none ∨ ∃ a : Nat, f0 = rawInt (a : Int)) ∧ ∃ b, f1 = .bool b
section
variable {prog : Program} {w : World} {A : Around} {E : Value → Shared → Prop} {s : Shared}
/-- one turn of enumerate over such a zip -/
def zipS (z TI TO i1 i2 a b : Addr) (i : Nat) (h : Heap) : Prop := (∃ f0 f1, ZipG h z TI TO f0 f1 ∧ Loose f0 f1) ∧ IsPair h TI (.ref i1) (.ref i2) ∧ (∃ x y, IsPair h TO x y) ∧ h.IsListIter i1 a i ∧ h.IsListIter i2 b i
end
end L2

set_option maxHeartbeats 4000000
namespace L2
open PySem PySem.Spec PyProof.Rows
section
variable {X : Cx} {pins : List (Addr × Obj)} {σ : St} {H : Hp} {s : Shared}
/-- (i, (x, y)) of the lists at a and b -/
def Itez (K : PySem.W.Frag) (a b : Addr) : It :=
  ⟨fun i H => ∃ xs ys x y, SqL K H a xs ∧ SqL K H b ys ∧ xs[i]? = some x ∧ ys[i]? = some y,
   fun i H p H' => ∃ x y t0 t1, p = .ref t1 ∧ H t0 = none ∧ H t1 = none ∧ t0 ≠ t1 ∧ (∀ xs, SqL K H a xs → xs[i]? = some x) ∧ (∀ ys, SqL K H b ys → ys[i]? = some y) ∧ H' = upd (upd H t0 (.tup [x, y])) t1 (.tup [.int i, .ref t0]),
   fun i H => ∃ xs ys, SqL K H a xs ∧ SqL K H b ys ∧ xs.length ≤ i⟩
inductive iEzI (K : PySem.W.Frag) (R : (It → Hp → Prop)) (x : V) (y : V) (H2 : Hp) : Prop
  | mk (a : _) (b : _) (h0_ : x = .ref a) (h1_ : y = .ref b) (h2_ : (∃ xs, SqL K H2 a xs) ∧ (∃ ys, SqL K H2 b ys) ∧ R (Itez K a b) H2) : iEzI K R x y H2
def iEz (K : PySem.W.Frag) (tl tm : TE) : TI := fun σ H R => tl σ H fun x H1 => tm σ H1 fun y H2 => iEzI K R x y H2
end
end L2

set_option maxHeartbeats 4000000
namespace L2
open PySem PySem.Spec PyProof.Rows
/-! ### a def with defaults -/
structure FunD (K : PySem.W.Frag) (x qual : Str) (st : Stmt) (f : Addr) (fd : FuncData) (dV : Value) : Prop where
  ex : ∃ (oc : Value) (od : Option Addr) (kV doc pm : Value) (an : Option Addr) (cdv ct : Value) (osl : Array (Option Value)),
    fd = PySem.W.fnOf x qual (defArgs st) (defBody st) (defScope st) dV kV doc pm an cdv ct ∧ K.lookup f = some ⟨oc, od, .func fd, osl⟩ ∧ PySem.W.codeIn K cdv qual = true
  kp : PySem.W.keepIn K (.ref f) = true
section
variable {P : Program} {w : World} {K : PySem.W.Frag} {mg : Str → Option Value} {base : Heap}
theorem FunD.ok {x qual : Str} {st : Stmt} {f : Addr} {fd : FuncData} {dV : Value} {N ps : List Str} {k : Nat} {sp : Sp} (F : FunD K x qual st f fd dV) (S : FnScope N ps (defScope st)) (len : ∀ vs H Q E, sp vs H Q E → vs.length = ps.length)
    (hbody : ∀ (cdv : Value) (A : Around) (outer : List Env) (s : Shared) (H : Hp) (vs : List V) (Q : VK) (E : XK), Room k (A.deeper (envOfC qual (defScope st) s.heap.objs.size f cdv)) → sp vs H Q E →
      ∃ t, PSs (cxOf CX0 P w K mg base N qual (defScope st) f cdv A outer s H E).nox (defBody st) t ∧ t { nx := fun _ H' => Q .non H', rt := Q } (start N vs) H) : FnOk P w K mg base CX0 (k + 1) f fd ps sp := by
  obtain ⟨oc, od, kV, doc, pm, an, cdv, ct, osl, rfl, lk, hcd⟩ := F.ex
  refine fn_of lk hcd S len fun A outer s H vs Q E hr hsp => ?_
  obtain ⟨t, h, q⟩ := hbody cdv A outer s H vs Q E hr hsp
  exact ⟨t, h.nox, q⟩
theorem FunD.binds {x qual : Str} {st : Stmt} {f : Addr} {fd : FuncData} {T : Addr} {o : Obj} {items : Array Value} {n : Nat} {ps : List Str} {ds : List Value} (F : FunD K x qual st f fd (.ref T)) (lk : K.lookup T = some o) (hs : o.data = .seq items n)
    (h : ∀ (kV doc pm : Value) (an : Option Addr) (cdv ct : Value) (us : List Value), (us ++ ds).length = ps.length → ∃ k, bindArgs (PySem.W.fnOf x qual (defArgs st) (defBody st) (defScope st) (.ref T) kV doc pm an cdv ct) ⟨us, []⟩ = seqItems? (.ref T) >>= k ∧ k (some items) = pure (ps.zip (us ++ ds))) : Binds K fd ps ds := by
  obtain ⟨oc, od, kV, doc, pm, an, cdv, ct, osl, rfl, lkf, hcd⟩ := F.ex
  intro s us KI hl
  obtain ⟨k, h1, h2⟩ := h kV doc pm an cdv ct us hl
  exact BindsTo.of_defaults rfl (KI _ _ lk) hs h1 h2
theorem funD_mk {x qual : Str} {st : Stmt} {f : Addr} {oc : Value} {od an : Option Addr} {osl : Array (Option Value)} {dV kV doc pm cdv ct : Value} (l : K.lookup f = some ⟨oc, od, .func (PySem.W.fnOf x qual (defArgs st) (defBody st) (defScope st) dV kV doc pm an cdv ct), osl⟩)
    (c : PySem.W.codeIn K cdv qual = true) (k : PySem.W.keepIn K (.ref f) = true) : FunD K x qual st f (PySem.W.fnOf x qual (defArgs st) (defBody st) (defScope st) dV kV doc pm an cdv ct) dV := ⟨⟨oc, od, kV, doc, pm, an, cdv, ct, osl, rfl, l, c⟩, k⟩
end
/-! ### a dict of the module: texts as keys -/
inductive EsOk (w : World) : List DictEntry → List (Str × V) → Prop
  | nil : EsOk w [] []
  | cons {x : Str} {t : Tok} {u : Value} {v : V} {es : List DictEntry} {kvs : List (Str × V)} : RelV v u → EsOk w es kvs → EsOk w (⟨PyData.keyHash w.params x, .str x t, u⟩ :: es) ((x, v) :: kvs)
structure KD (K : PySem.W.Frag) (w : World) (a : Addr) (kvs : List (Str × V)) : Prop where
  sys : (a == sysModules) = false
  ok : ∃ es n, K.lookup a = some ⟨.type "dict", none, .dict es n, #[]⟩ ∧ EsOk w es.toList kvs ∧ (kvs.map (·.1)).Nodup
theorem EsOk.vs (P : Program) {w : World} : ∀ {es : List DictEntry} {kvs : List (Str × V)}, EsOk w es kvs → ∃ vs : List (Key × Value), Pairs (mixKind P w) es vs ∧ vs.map (·.1) = kvs.map (fun p => (Sum.inr p.1 : Key)) ∧
    (∀ e ∈ es, ∃ k, (mixKind P w).is k e.key = true ∧ e.hash = (mixKind P w).hash k) ∧ ∀ x, RelO (kvs.lookup x) (valueAt vs (Sum.inr x))
  | _, _, .nil => ⟨[], .nil, rfl, fun e h => by simp at h, fun x => True.intro⟩
  | _, _, .cons (x := x) (t := t) (u := u) (v := v) r q => by
    obtain ⟨vs, h1, h2, h3, h4⟩ := EsOk.vs P q
    refine ⟨(Sum.inr x, u) :: vs, .cons (mixKind_str P w x t) rfl h1, by rw [List.map_cons, List.map_cons, h2], fun e he => ?_, fun y => ?_⟩
    · rcases List.mem_cons.mp he with rfl | he
      · exact ⟨Sum.inr x, mixKind_str P w x t, rfl⟩
      · exact h3 e he
    · by_cases hy : y = x
      · subst hy
        unfold valueAt
        simp only [List.lookup_cons, List.find?_cons]
        simp
        exact r
      · unfold valueAt
        have h5 := h4 y
        unfold valueAt at h5
        have e1 : (y == x) = false := by simpa using hy
        have e2 : decide ((Sum.inr x : Key) = Sum.inr y) = false := decide_eq_false fun e => hy (Sum.inr.inj e).symm
        simp only [List.lookup_cons, e1, List.find?_cons, e2]
        exact h5
theorem nodup_inr : ∀ {l : List Str}, l.Nodup → (l.map (fun p => (Sum.inr p : Key))).Nodup
  | [], _ => .nil
  | x :: l, h => by
    rw [List.map_cons, List.nodup_cons]
    obtain ⟨h1, h2⟩ := List.nodup_cons.mp h
    refine ⟨fun z => ?_, nodup_inr h2⟩
    obtain ⟨y, hy, e⟩ := List.mem_map.mp z
    cases e
    exact h1 hy
theorem KD.dict (P : Program) {K : PySem.W.Frag} {w : World} {a : Addr} {kvs : List (Str × V)} {h : Heap} (d : KD K w a kvs) (hi : K.In h) : ∃ vs, h.DictOf (mixKind P w) a vs ∧ ∀ x, RelO (kvs.lookup x) (valueAt vs (Sum.inr x)) := by
  obtain ⟨es, n, lk, ok, nd⟩ := d.ok
  obtain ⟨vs, h1, h2, h3, h4⟩ := ok.vs P
  refine ⟨vs, ⟨_, es, n, hi _ _ lk, ⟨rfl, rfl, rfl⟩, rfl, fun e he => h3 e (by simpa using he), h1, ?_⟩, h4⟩
  rw [h2]
  have := nodup_inr nd
  rw [List.map_map] at this
  exact this
theorem RelO.getD' {o : Option V} {u : Option Value} {d : V} {d' : Value} (r : RelO o u) (rd : RelV d d') : RelV (o.getD d) (u.getD d') := by
  cases o with
  | none => cases u with
    | none => exact rd
    | some _ => exact False.elim r
  | some v => cases u with
    | none => exact False.elim r
    | some _ => exact r
section
variable {X : Cx}
theorem ix_kd : IxR X (fun x y H Q => ∃ a z kvs r, x = .ref a ∧ y = .str z ∧ KD X.K X.w a kvs ∧ kvs.lookup z = some r ∧ Q r H) := by
  intro value slice pins s σ H x y v u Q I rx ry h hs
  obtain ⟨a, z, kvs, r, rfl, rfl, d, l, q⟩ := h
  cases rx
  obtain ⟨t, rfl⟩ := ry
  obtain ⟨vs, dd, rel⟩ := d.dict X.prog I.kIn
  have hr := rel z
  rw [l] at hr
  cases hv : valueAt vs (Sum.inr z) with
  | none => rw [hv] at hr; exact False.elim hr
  | some rv =>
    rw [hv] at hr
    exact subscriptTail_builtinR (x := rv) dd.typeIs PySem.F.slot_dict_getitem.lookup
      (wpAny_getItem_of (knd := mixKind X.prog X.w) (k := Sum.inr z) (mixKind_str _ _ z t) dd.mapOf hv ⟨rfl, ⟨r, H, I.tok _, hr, q⟩⟩) hs
/-- d.get(k, x) of a dict of the module -/
def tKGet2 (K : PySem.W.Frag) (w : World) (td ty tx : TE) : TE := fun σ H Q => td σ H fun x H1 => ∃ a kvs, x = .ref a ∧ KD K w a kvs ∧ ty σ H1 fun y H2 => tx σ H2 fun z H3 => ∃ k, y = .str k ∧ Q ((kvs.lookup k).getD z) H3
/-! ### sum of a list of ints -/
def sumI : List Int → Int
  | [] => 0
  | x :: l => x + sumI l
end
end L2

set_option maxHeartbeats 4000000
namespace L2
open PySem PySem.Spec PyProof.Rows
/-! ### a halt amidst: what is known behind a part, said once -/
def tMidE (t : TE) : TE := fun σ H Q => ∃ R : V → Hp → Prop, t σ H R ∧ ∀ v H', R v H' → Q v H'
def tMidT (t : TT) : TT := fun σ H Q => ∃ R : Bool → Hp → Prop, t σ H R ∧ ∀ v H', R v H' → Q v H'
def tMidS (t : TS) : TS := fun D σ H => ∃ R : St → Hp → Prop, t { D with nx := R } σ H ∧ ∀ σ' H', R σ' H' → D.nx σ' H'
section
variable {X : Cx}
theorem pe_mid {e : Expr} {t : TE} (h : PE X e t) : PE X e (tMidE t) := by
  intro pins s σ H Q I ⟨R, hR, hQ⟩
  exact thn (h pins s σ H R I hR) fun u s1 ⟨v, H1, I1, r, q⟩ => ⟨v, H1, I1, r, hQ v H1 q⟩
theorem pt_mid {e : Expr} {t : TT} (h : PT X e t) : PT X e (tMidT t) := by
  intro pins s σ H Q I ⟨R, hR, hQ⟩
  exact thn (h pins s σ H R I hR) fun u s1 ⟨H1, I1, q⟩ => ⟨H1, I1, hQ u H1 q⟩
end
theorem midV {t : TE} {σ : St} {H : Hp} {Q : VK} (v : V) (h : t σ H fun x H1 => x = v ∧ H1 = H) (q : Q v H) : ∃ R : V → Hp → Prop, t σ H R ∧ ∀ v H', R v H' → Q v H' := ⟨_, h, by rintro _ _ ⟨rfl, rfl⟩; exact q⟩
theorem midB {t : TT} {σ : St} {H : Hp} {Q : Bool → Hp → Prop} (b : Bool) (h : t σ H fun x H1 => x = b ∧ H1 = H) (q : Q b H) : ∃ R : Bool → Hp → Prop, t σ H R ∧ ∀ v H', R v H' → Q v H' := ⟨_, h, by rintro _ _ ⟨rfl, rfl⟩; exact q⟩
/-- the end of a pure part -/
theorem endV {x v : V} {H : Hp} (e : x = v) : x = v ∧ H = H := ⟨e, rfl⟩
theorem endB {x v : Bool} {H : Hp} (e : x = v) : x = v ∧ H = H := ⟨e, rfl⟩
end L2

set_option maxHeartbeats 4000000
namespace L2
open PySem PySem.Spec PyProof.Rows
/-! ### a name that a comprehension shadows: its slot is forgotten by name while it is empty -/
abbrev Cx.names (X : Cx) (N : List Str) : Cx := { X with N := N }
section
variable {X : Cx} {pins : List (Addr × Obj)} {σ : St} {H : Hp} {s : Shared}
end
def tHide (k : Nat) (t : TE) : TE := fun σ H Q => σ[k]? = some none ∧ t σ H Q
end L2

set_option maxHeartbeats 4000000
namespace L2
open PySem PySem.Spec PyProof.Rows
section
variable {X : Cx} {tg iter elt : Expr} {ifs : List Expr} {scope : Scope} {pos : Pos} {cn : List Str} {wi : TI} {g : Bk → TG} {tc : Bk → TT} {te : Bk → TE}
/-- name = [elt for tg in iter if ..] on one row: the name is stored ahead of the block's names going -/
theorem ps_setcomp {i : Nat} {x : Str} {pos' spos : Pos} (hN : X.N.Nodup) (hix : X.N[i]? = some x) (hx : X.env.scope.names.lookup x = some .local) (hcalm : X.calm = true) (F : CompFit X.env.scope X.N scope) (hi : PI X tg iter wi)
    (hg : ∀ b, PG (compCx X cn scope b) tg (g b)) (ht : ∀ b, PF (compCx X cn scope b) ifs (tc b)) (he : ∀ b, PE (compCx X cn scope b) elt (te b))
    (hsw : swapsWith (.ListComp elt [⟨tg, iter, ifs, 0⟩] scope pos) (some (.Name x pos')) spos.line X.env = pure true := by rfl)
    (hs : ∀ x, foldedSetIterable iter X.env x = pure x := by intro _; rfl) : PS X (.Assign [.Name x pos'] (.ListComp elt [⟨tg, iter, ifs, 0⟩] scope pos) spos) (tAsg (tComp cn.length wi g tc te) (gName i)) := by
  intro pins s σ H D I h
  rw [exec_Assign_Name_used _ _ _ _ hsw]
  refine wpAny_bind (wpAny_standAt (wpAny_bind ?_))
  rw [arm_evalThenUse_ListComp]
  refine wpAny_bind ?_
  have hcl : closureFor scope X.env = pure (closOf X.env scope.names []) := clos_eq fun p hp e => I.ok.has p.1 (F.free p hp e)
  refine wpAny_comprehension_free (use := some (assign (.Name x pos') X.env)) rfl hs hcl F.kind F.loc (thn (hi pins s σ H _ I h) fun xv s₁ h₁ => thn h₁ fun itv s₂ h₂ => ?_)
  obtain ⟨it, fp, tn, J, H2, rfl, I2, T, st, f2, R⟩ := h₂
  refine comp_run (TH := fun _ => True) (QQ := fun D' H' => D.nx (σ.set i (some (.ref D'))) H') (RR := fun acc C => compPost (model X.prog X.w) X.A X.xe (some (assign (.Name x pos') X.env)) _ acc C) hcalm F (fun b _ => hg b) (fun b _ => ht b) (fun b _ => he b) (fun _ _ => trivial) I2 T st f2 R ?_ ?_
  · intro C D' σ' H' s' hC I' q
    obtain ⟨m, hm, _⟩ := I'.loc
    have hCn : H' C = none := I'.free
    have fC : FpOk X pins H' C := I2.fpOk hC hCn
    have I3 : Inv X pins σ H' s' := I2.unblock f2 hC I' ⟨rfl, fun _ _ => rfl⟩
    show wpAny (model X.prog X.w) X.A (assign (.Name x pos') X.env (.ref D')) _ X.xe s'
    refine wpAny_assign_Name (store_ok2 I3 hN hix (.inl hx) (v := .ref D') rfl (fun s'' I4 ⟨a, sa, ha⟩ => ?_) (.inr hx))
    have hne : C ≠ a := by
      rcases ha with e | e
      · rw [e]; exact fC.2.1
      · exact fun z => fC.2.2.2.2.1 _ _ e z.symm
    obtain ⟨o, es, ep, ho, r⟩ := hm
    refine ⟨m, ⟨o, es, ep, (sa.2 C hne).trans ho, r⟩, fun h' sb => ?_⟩
    refine wpAny_pure (wpAny_pure ⟨_, H', ?_, q⟩)
    exact I4.turnedMany (tk := s''.toks) (wr := [C]) (fun b hb => by
      have : b = C := by simpa using hb
      rw [this]; exact fC) fun b o hb e => (sb.2 b (fun z => hb (by simp [z]))).trans e
  · intro C D' e s' z
    exact z
end
/-- the same where the block's name shadows one of the def's -/
def tHideS (k : Nat) (t : TS) : TS := fun D σ H => σ[k]? = some none ∧ t { D with nx := fun σ' H' => σ'[k]? = some none ∧ D.nx σ' H' } σ H
end L2

set_option maxHeartbeats 4000000
namespace L2
open PySem PySem.Spec PyProof.Rows PySem.SeqAt
section
variable {X : Cx}
/-! ### pairs of flat values beside each other -/
def rEq2 (K : PySem.W.Frag) (neg : Bool) : R2 := fun x y H Q => ∃ a c x0 x1 y0 y1, x = .ref a ∧ y = .ref c ∧ SqT K H a [x0, x1] ∧ SqT K H c [y0, y1] ∧ (flatV x0 = true ∧ flatV x1 = true ∧ flatV y0 = true ∧ flatV y1 = true) ∧ Q (.bl (if neg then !(eqV x0 y0 && eqV x1 y1) else (eqV x0 y0 && eqV x1 y1))) H
/-! ### a list beside an empty one -/
inductive rEqEI (K : PySem.W.Frag) (neg : Bool) (x : V) (y : V) (H : Hp) (Q : VK) : Prop
  | mk (a : _) (c : _) (xs : _) (h0_ : x = .ref a) (h1_ : y = .ref c) (h2_ : SqL K H a xs) (h3_ : SqL K H c []) (h4_ : Q (.bl (if neg then !xs.isEmpty else xs.isEmpty)) H) : rEqEI K neg x y H Q
def rEqE (K : PySem.W.Frag) (neg : Bool) : R2 := fun x y H Q => rEqEI K neg x y H Q
theorem eqE_at {pins : List (Addr × Obj)} {σ : St} {H : Hp} {s : Shared} {a c : Addr} {xs : List V} (hu : X.A.units + 64 < cLine) (I : Inv X pins σ H s) (ha : SqL X.K H a xs) (hc : SqL X.K H c []) : RcAt X.A s (.ref a) (.ref c) xs.isEmpty ∧ RcNeAt X.A s (.ref a) (.ref c) (!xs.isEmpty) := by
  obtain ⟨its, r, p, _⟩ := I.list ha
  obtain ⟨its', r', p', _⟩ := I.list hc
  have e1 := r.length
  have e2 := r'.length
  simp at e2
  cases xs with
  | nil =>
    simp at e1
    have z1 : its = [] := by simpa using e1.symm
    have z2 : its' = [] := by simpa using e2.symm
    subst z1 z2
    constructor
    · have := RcAt.lists (A := X.A) (e := fun _ => true) p.isList p'.isList rfl (by omega) (fun j h1 _ => absurd h1 (by simp))
      simpa using this
    · have := RcNeAt.lists (A := X.A) (e := fun _ => true) p.isList p'.isList rfl (by omega) (fun j h1 _ => absurd h1 (by simp))
      simpa using this
  | cons x t =>
    have hne : (its.toArray.size != its'.toArray.size) = true := by
      simp at e1
      have z2 : its' = [] := by simpa using e2.symm
      subst z2
      have : its.length ≠ 0 := by omega
      simpa using this
    exact ⟨RcAt.lists_lengths p.isList p'.isList hne (by omega), RcNeAt.lists_lengths p.isList p'.isList hne (by omega)⟩
theorem op_eqE (hu : X.A.units + 64 < cLine) : OpR X (compareOp .Eq) (rEqE X.K false) := by
  intro pins s σ H x y v u Q I r1 r2 h
  obtain ⟨a, c, xs, rfl, rfl, ha, hc, q⟩ := h
  cases r1
  cases r2
  exact (eqE_at hu I ha hc).1 X.prog X.w X.xe _ ⟨.bl _, H, I, rfl, q⟩
end
end L2

set_option maxHeartbeats 4000000
namespace L2
open PySem PySem.Spec PyProof.Rows
/-! ### xs[::-1] -/
def tBack (K : PySem.W.Frag) (te : TE) (ts : TO) : TE := fun σ H Q => te σ H fun x H1 => ts σ H1 fun o H2 => o = some (-1) ∧ ∃ a xs, x = .ref a ∧ SqL K H2 a xs ∧ ∀ p, H2 p = none → Q (.ref p) (upd H2 p (.lst xs.reverse))
/-! ### displays of displays -/
/-- a for over another expression -/
def setIter (s : Stmt) (e : Expr) : Stmt := match s with
  | .For t _ b o p => .For t e b o p
  | s => s
structure PEw (X : Cx) (e : Expr) (t : TE) : Prop where
  out : PE X e t
structure PAw (X : Cx) (es : List Expr) (t : TA) : Prop where
  out : PA X es t
end L2

set_option maxHeartbeats 4000000
namespace L2
open PySem PySem.Spec PyProof.Rows
/-! ### exceptions of the text's own: raised, passed on, caught -/
/-- an exception of the class cls flies over the frames l; G is the heap behind which it was made -/
def Fly (l : List Env) (G : Heap) (e : Addr) (cls : Value) (h : Heap) : Prop :=
  ∃ B a0, (∀ b o, G.get? b = some o → b ∉ frs l → B.get? b = some o) ∧ Heap.FlyingW B l e cls a0 h ∧ G.UpToSlots h ∧ G.get? e = none
/-- how it lies behind a call -/
def CX1 (P : Program) (w : World) : CXT := fun outer H s E ev s' =>
  ∃ a cls H' G, ev = .ref a ∧ s'.os = s.os ∧ AllBare s'.gens ∧ Un (frs outer) [] H H' s.heap G ∧ HOk P w H' G ∧ Fly outer G a cls s'.heap ∧ E cls none H'
abbrev XSt := St → Value → Hp → Prop
/-- within a body: one that came from a callee -/
def WX (X : Cx) (XS : XSt) : Value → Shared → Prop := fun ev s' =>
  ∃ pins σ H' G a cls, ev = .ref a ∧ Inv X pins σ H' { s' with heap := G } ∧ Fly X.stack G a cls s'.heap ∧ XS σ cls H'
/-- within a body: that, or one that was raised here -/
def WD (X : Cx) (XS : XSt) : Value → Shared → Prop := fun ev s' => WX X XS ev s' ∨
  ∃ pins σ H' G a cls args, ev = .ref a ∧ Inv X pins σ H' { s' with heap := G } ∧ Heap.MadeExcOf G s'.heap a cls args ∧ XS σ cls H'
section
variable {X : Cx} {pins : List (Addr × Obj)} {σ : St} {H H' : Hp} {s s' : Shared}
end
section
variable {P : Program} {w : World} {K : PySem.W.Frag} {mg : Str → Option Value} {base : Heap}
end
/-! ### calls of defs that may raise -/
def tCallX (sp : Sp) (dvs : List V) (XS : XSt) (t : TA) : TE := fun σ H Q => t σ H fun vs H1 => sp (vs ++ dvs) H1 Q fun cls _ H' => XS σ cls H'
inductive tMethXI (C : Addr) (m : Str) (sp : Sp) (dvs : List V) (XS : XSt) (t : TA) (σ : St) (Q : VK) (x : V) (H1 : Hp) : Prop
  | mk (a : _) (dx : _) (fs : _) (h0_ : x = .ref a) (h1_ : H1 a = some (.ins C dx fs)) (h2_ : fs.lookup m = none) (h3_ : t σ H1 fun vs H2 => sp (x :: (vs ++ dvs)) H2 Q fun cls _ H' => XS σ cls H') : tMethXI C m sp dvs XS t σ Q x H1
def tMethX (C : Addr) (m : Str) (sp : Sp) (dvs : List V) (XS : XSt) (ta : TE) (t : TA) : TE := fun σ H Q => ta σ H fun x H1 => tMethXI C m sp dvs XS t σ Q x H1
section
variable {X : Cx} {W : Value → Shared → Prop} {XS : XSt} {k : Nat} {f C : Addr} {fd : FuncData} {ps : List Str} {sp : Sp} {dvs : List V} {ds : List Value} {x m : Str} {p pos apos : Pos} {e o : Expr} {es : List Expr} {ta : TE} {t : TA}
end
/-! ### raise C(e) of an own class without __init__ -/
abbrev veMro : List Value := [.type "ValueError", .type "Exception", .type "BaseException", .type "object"]
/-- an own class of refusals, of ValueError -/
def ExC (K : PySem.W.Frag) (C : Addr) : Prop := PySem.W.excIn K C veMro "ValueError.__new__" = true
def tRaise (C : Addr) (XS : XSt) (te : TA) : TS := fun _ σ H => te σ H fun vs H1 => vs.length ≤ sizeLine ∧ XS σ (.ref C) H1
/-! ### try: .. except C as n: .. -/
/-- pins that every state bears -/
abbrev Cx.pnd (X : Cx) (pn : List (Addr × Obj)) : Cx := { X with pn := pn }
/-- within an except suite, the exception at a -/
abbrev Cx.hand (X : Cx) (a : Addr) : Cx := { X with A := X.A.mark (some (.ref a)), calm := false, xe := fun _ _ => False }
section
variable {X : Cx} {pins pins' : List (Addr × Obj)} {σ : St} {H H' : Hp} {s : Shared}
end
/-- an exception as a thing in the heap -/
def excO (a : Addr) (cls : Value) : HO := .ext fun h => ∃ o, h.get? a = some o ∧ o.cls = cls ∧ ∃ vs, o.data = .fields vs
/-- what is wanted behind the suite, the name gone -/
def Ends.gone (D : Ends) (i : Nat) : Ends := { nx := fun σ H => D.nx (σ.set i none) H, rt := D.rt, bk := fun σ H => D.bk (σ.set i none) H, ct := fun σ H => D.ct (σ.set i none) H }
def tTryAs (K : PySem.W.Frag) (CT : Addr) (i : Nat) (tb : XSt → TS) (ts : TS) : TS := fun D σ H =>
  tb (fun σ' cls H' => PySem.W.exmOne K cls (.ref CT) = some true ∧ ∀ a, H' a = none → ts (D.gone i) (σ'.set i (some (.ref a))) (upd H' a (excO a cls))) D σ H
end L2

set_option maxHeartbeats 4000000
namespace L2
open PySem PySem.Spec PyProof.Rows
/-! ### isinstance(e, ..) of a caught exception -/
structure ExA (K : PySem.W.Frag) (C : Addr) : Prop where
  exc : ExC K C
  ga : PySem.W.findIn K (.ref C) "__getattribute__" = some (some (.builtin "BaseException.__getattribute__"))
  noga : PySem.W.findIn K (.ref C) "__getattr__" = some none
  cl : PySem.W.findIn K (.ref C) "__class__" = some (some (.builtin "object.__class__"))
section
variable {prog : Program} {w : World} {A : Around} {E : Value → Shared → Prop} {h : Heap} {g : Array GenState} {d : Drawn} {t : Nat} {os : OsState} {a : Addr} {o : Obj} {vs : Array Value} {K : PySem.W.Frag}
  {nm q : Str} {C N : Addr} {bs bm : List Value} {hdct : Bool} {sn : List Str} {sub : List Value} {ab : Bool} {col : Option Bool} {dd : Option Addr} {k0 k1 k2 k3 k5 : Option Value} {newId : String}
end
section
variable {X : Cx}
/-- isinstance: the old reading, or a caught exception against a built-in class, an own class, a tuple of own classes -/
def rIsX (K : PySem.W.Frag) : List V → Hp → VK → Prop := fun xs H Q =>
  (∃ x T t b, xs = [x, .ty T] ∧ TyOf K H x t ∧ PySem.W.kitOne K t (.type T) = some b ∧ Q (.bl b) H) ∨
  (∃ a C T b, xs = [.ref a, .ty T] ∧ H a = some (excO a (.ref C)) ∧ ExA K C ∧ PySem.W.kitOne K (.ref C) (.type T) = some b ∧ Q (.bl b) H) ∨
  (∃ a C C' b, xs = [.ref a, .ref C'] ∧ H a = some (excO a (.ref C)) ∧ ExA K C ∧ PySem.W.kitOne K (.ref C) (.ref C') = some b ∧ Q (.bl b) H) ∨
  (∃ (a C p : Addr) (cs : List Addr) (b : Bool), xs = [.ref a, .ref p] ∧ H a = some (excO a (.ref C)) ∧ ExA K C ∧ H p = some (.tup (cs.map V.ref)) ∧ PySem.W.kitAny K (.ref C) (cs.map Value.ref) = some b ∧ Q (.bl b) H)
end
end L2

set_option maxHeartbeats 4000000
namespace L2
open PySem PySem.Spec PyProof.Rows
/-! ### an exception out of a comprehension without free names -/
/-- within a body: one that is held at the frame -/
def HeldX (X : Cx) (XS : XSt) : Value → Shared → Prop := fun ev s' =>
  ∃ pins σ H' G a cls B a0 L, ev = .ref a ∧ X.env.frame = some L ∧ Inv X pins σ H' { s' with heap := G } ∧ (∀ b o, G.get? b = some o → b ∉ frs X.stack → B.get? b = some o) ∧ Heap.HeldW B X.stack a cls a0 L s'.heap ∧ G.UpToSlots s'.heap ∧ G.get? a = none ∧ XS σ cls H'
def WH (X : Cx) (XS : XSt) : Value → Shared → Prop := fun ev s' => WD X XS ev s' ∨ HeldX X XS ev s'
section
variable {P : Program} {w : World} {K : PySem.W.Frag} {mg : Str → Option Value} {base : Heap}
end
/-- an exception out of the block: its names go, then it passes on -/
def bxErr (X : Cx) (scope : Scope) (C : Addr) (e : Value) (s' : Shared) : Prop :=
  ∃ m, s'.heap.Ns C m ∧ ∀ h', Heap.SameBut C s'.heap h' → ∀ cenv : Env, cenv.frame = X.env.frame → wpAny (model X.prog X.w) X.A (passOn "comprehension.variables-let-go" e cenv : Sem Value) (fun _ _ => False) X.xe { s' with heap := h' }
def bxXe (X : Cx) (scope : Scope) (C : Addr) : Value → Shared → Prop :=
  notedBy (model X.prog X.w) X.A (compEnvC scope (closOf X.env scope.names []) C X.env) (bxErr X scope C)
section
variable {X : Cx} {tg iter elt : Expr} {ifs : List Expr} {scope : Scope} {pos : Pos} {cn : List Str} {wi : TI} {g : Bk → TG} {tc : Bk → TT} {te : Bk → TE} {TH : Bk → Prop}
end
/-- what is known at the block's beginning -/
def THX (X : Cx) (scope : Scope) : Bk → Prop := fun b => ∃ pins σ, Inv X pins σ b.H₂ b.s₂ ∧ (∀ x ∈ b.fp, FpOk X pins b.H₂ x) ∧ b.s₂.heap.objs.size ≤ b.C ∧ b.xe = bxXe X scope b.C
/-- a text times a number -/
def repS (x : Str) (n : Int) : Str := if n < 1 then Str.empty else if (n == 1 || x.length == 0) = true then x else { cps := List.foldl (fun x1 x2 => x1 ++ x2) #[] (List.replicate n.toNat x.cps) }
end L2

set_option maxHeartbeats 4000000
namespace L2
open PySem PySem.Spec PyProof.Rows
/-! ### xs[a:c] = ys -/
def gSlice (to : TE) (tl th : St → Hp → (Option Int → Hp → Prop) → Prop) : TG := fun v σ H Q => to σ H fun x H1 => tl σ H1 fun l H2 => th σ H2 fun u H3 =>
  ∃ (p b : Addr) (xs ys : List V) (a c : Int), x = .ref p ∧ v = .ref b ∧ l = some a ∧ u = some c ∧ H3 p = some (.lst xs) ∧ H3 b = some (.lst ys) ∧ p ≠ b ∧ 0 ≤ a ∧ a ≤ c ∧ c ≤ xs.length ∧ xs.length + ys.length ≤ sizeLine ∧ Q σ (upd H3 p (.lst (xs.take a.toNat ++ ys ++ xs.drop c.toNat)))
end L2
namespace L2
open PySem PySem.Spec PyProof.Rows
/-! ### all of a list of bools -/
section
variable {X : Cx}
/-! ### for .. in range(a, b, -1) -/
def Itd (lo : Int) (n : Nat) : It := { go := fun i _ => i < n, yld := fun i H x H' => H' = H ∧ x = V.int (lo - (i : Int)), stop := fun i _ => n ≤ i }
def iRng3 (ta : TA) : TI := fun σ H R => ta σ H fun vs H1 => ∃ i j : Int, vs = [.int i, .int j, .int (-1)] ∧ (-(2 ^ 62) ≤ i ∧ i < 2 ^ 62 ∧ -(2 ^ 62) ≤ j ∧ j < 2 ^ 62) ∧ R (Itd i (i - j).toNat) H1
/-- an expression that is not reached -/
def tNeverE : TE := fun _ _ _ => False
theorem pe_never {e : Expr} : PE X e tNeverE := fun _ _ _ _ _ _ h => h.elim
end
end L2

namespace L2
open PySem PySem.Spec PyProof.Rows
/-! ### lists of pairs as tables -/
section
variable {κ : Type} [DecidableEq κ]
def valV (kvs : List (κ × V)) (k : κ) : Option V := (kvs.find? fun kv => decide (kv.1 = k)).map (·.2)
/-- in its place, or at the end -/
def putK (kvs : List (κ × V)) (k : κ) (v : V) : List (κ × V) :=
  if (kvs.any fun kv => decide (kv.1 = k)) = true then kvs.map (fun kv => if kv.1 = k then (kv.1, v) else kv) else kvs ++ [(k, v)]
def dropK (kvs : List (κ × V)) (k : κ) : List (κ × V) := kvs.filter fun kv => decide (kv.1 ≠ k)

theorem valV_pos {p : κ × V} {r : List (κ × V)} {k : κ} (e : p.1 = k) : valV (p :: r) k = some p.2 := by simp [valV, List.find?_cons, e]
theorem valV_neg {p : κ × V} {r : List (κ × V)} {k : κ} (e : ¬ p.1 = k) : valV (p :: r) k = valV r k := by simp [valV, List.find?_cons, e]
theorem valV_any (k : κ) : ∀ kvs : List (κ × V), (kvs.any fun kv => decide (kv.1 = k)) = (valV kvs k).isSome
  | [] => rfl
  | p :: r => by
    rw [List.any_cons]
    by_cases e : p.1 = k
    · simp only [valV_pos e, decide_eq_true e, Bool.true_or, Option.isSome_some]
    · rw [valV_neg e, decide_eq_false e, Bool.false_or]; exact valV_any k r
theorem length_putK (kvs : List (κ × V)) (k : κ) (v : V) : (putK kvs k v).length ≤ kvs.length + 1 := by
  unfold putK
  split
  · rw [List.length_map]; omega
  · rw [List.length_append, List.length_cons, List.length_nil]; omega
theorem RelO.isSome_eq {o : Option V} {u : Option Value} (r : RelO o u) : o.isSome = u.isSome := by
  cases o with
  | none => cases u with
    | none => rfl
    | some _ => exact (show False from r).elim
  | some _ => cases u with
    | none => exact (show False from r).elim
    | some _ => rfl
/-- raw tables of the same keys -/
theorem KV.val {kvs : List (κ × V)} {vs : List (κ × Value)} (r : KV kvs vs) (k : κ) : RelO (valV kvs k) (valueAt vs k) := by
  unfold KV at r
  induction r with
  | nil => exact True.intro
  | @cons p q ps qs h t ih =>
    obtain ⟨h1, h2⟩ := h
    by_cases e : p.1 = k
    · have e' : q.1 = k := h1.symm.trans e
      have b : valueAt (q :: qs) k = some q.2 := by simp [valueAt, List.find?_cons, e']
      rw [valV_pos e, b]; exact h2
    · have e' : ¬ q.1 = k := fun z => e (h1.trans z)
      have b : valueAt (q :: qs) k = valueAt qs k := by simp [valueAt, List.find?_cons, e']
      rw [valV_neg e, b]; exact ih
theorem KV.any {kvs : List (κ × V)} {vs : List (κ × Value)} (r : KV kvs vs) (k : κ) : (kvs.any fun kv => decide (kv.1 = k)) = vs.any fun kv => decide (kv.1 = k) := by
  unfold KV at r
  induction r with
  | nil => rfl
  | cons h t ih => rw [List.any_cons, List.any_cons, ih, h.1]
theorem KV.repl {kvs : List (κ × V)} {vs : List (κ × Value)} (r : KV kvs vs) (k : κ) {y : V} {u : Value} (ry : RelV y u) :
    KV (kvs.map fun kv => if kv.1 = k then (kv.1, y) else kv) (vs.map fun kv => if kv.1 = k then (kv.1, u) else kv) := by
  unfold KV at r ⊢
  induction r with
  | nil => exact .nil
  | @cons p q ps qs h t ih =>
    rw [List.map_cons, List.map_cons]
    refine .cons ?_ ih
    obtain ⟨h1, h2⟩ := h
    by_cases e : p.1 = k
    · rw [if_pos e, if_pos (h1.symm.trans e)]; exact ⟨h1, ry⟩
    · rw [if_neg e, if_neg (fun z => e (h1.trans z))]; exact ⟨h1, h2⟩
theorem KV.put {kvs : List (κ × V)} {vs : List (κ × Value)} (r : KV kvs vs) (k : κ) {y : V} {u : Value} (ry : RelV y u) : KV (putK kvs k y) (stored vs k u) := by
  unfold putK stored
  rw [r.any k]
  by_cases e : (vs.any fun kv => decide (kv.1 = k)) = true
  · rw [if_pos e, if_pos e]; exact r.repl k ry
  · rw [if_neg e, if_neg e]; exact Paired.snoc r ⟨rfl, ry⟩
theorem KV.keys {kvs : List (κ × V)} {vs : List (κ × Value)} (r : KV kvs vs) : kvs.map (·.1) = vs.map (·.1) := by
  unfold KV at r
  induction r with
  | nil => rfl
  | cons h t ih => rw [List.map_cons, List.map_cons, ih, h.1]
theorem KV.length {kvs : List (κ × V)} {vs : List (κ × Value)} (r : KV kvs vs) : kvs.length = vs.length := Paired.length r
end


/-! ### a tracked dict, its keys ints and texts or tuples of these -/
theorem kV_is {P : Program} {w : World} {k : Key} {u : Value} (r : RelV (kV k) u) : (mixKind P w).is k u = true := by
  cases k with
  | inl i => obtain ⟨t, e⟩ := (show ∃ t, u = Value.int i t from r); subst e; exact mixKind_int P w i t
  | inr x => obtain ⟨t, e⟩ := (show ∃ t, u = Value.str x t from r); subst e; exact mixKind_str P w x t
theorem items_are {P : Program} {w : World} : ∀ {ks : List Key} {us : List Value}, Vals (ks.map kV) us → ItemsAre (mixKind P w) ks us
  | [], _, r => by rw [List.map_nil] at r; cases r; exact .nil
  | k :: ks, _, r => by
    rw [List.map_cons] at r
    cases r with
    | cons h t => exact .cons (kV_is h) (items_are t)

/-- raw entries of a dict with tuple keys -/
abbrev KT (H : Hp) : List (List Key × V) → List (List Key × Addr × Value) → Prop := Paired fun p q => p.1 = q.1 ∧ H q.2.1 = some (.tup (p.1.map kV)) ∧ RelV p.2 q.2.2
theorem KT.val {H : Hp} {kvs : List (List Key × V)} {xs : List (List Key × Addr × Value)} (r : KT H kvs xs) (k : List Key) : RelO (valV kvs k) ((atKey xs k).map (·.2)) := by
  induction r with
  | nil => exact True.intro
  | @cons p q ps qs h t ih =>
    obtain ⟨h1, _, h2⟩ := h
    by_cases e : p.1 = k
    · have e' : q.1 = k := h1.symm.trans e
      have b : atKey (q :: qs) k = some q.2 := by simp [atKey, List.find?_cons, e']
      rw [valV_pos e, b]; exact h2
    · have e' : ¬ q.1 = k := fun z => e (h1.trans z)
      have b : atKey (q :: qs) k = atKey qs k := by simp [atKey, List.find?_cons, e']
      rw [valV_neg e, b]; exact ih
theorem KT.repl {H : Hp} {kvs : List (List Key × V)} {xs : List (List Key × Addr × Value)} (r : KT H kvs xs) (k : List Key) {y : V} {u : Value} (ry : RelV y u) :
    KT H (kvs.map fun kv => if kv.1 = k then (kv.1, y) else kv) (xs.map (putAt k u)) := by
  induction r with
  | nil => exact .nil
  | @cons p q ps qs h t ih =>
    rw [List.map_cons, List.map_cons]
    refine .cons ?_ ih
    obtain ⟨h1, h2, h3⟩ := h
    unfold putAt
    by_cases e : p.1 = k
    · rw [if_pos e, if_pos (h1.symm.trans e)]; exact ⟨h1, h2, ry⟩
    · rw [if_neg e, if_neg (fun z => e (h1.trans z))]; exact ⟨h1, h2, h3⟩
theorem KT.put {H : Hp} {kvs : List (List Key × V)} {xs : List (List Key × Addr × Value)} (r : KT H kvs xs) (k : List Key) {b : Addr} {y : V} {u : Value} (hb : H b = some (.tup (k.map kV))) (ry : RelV y u) :
    KT H (putK kvs k y) (storedH xs k b u) := by
  have e : (kvs.any fun kv => decide (kv.1 = k)) = (atKey xs k).isSome := by
    rw [valV_any, (r.val k).isSome_eq, Option.isSome_map]
  unfold putK storedH
  rw [e]
  by_cases q : (atKey xs k).isSome = true
  · rw [if_pos q, if_pos q]; exact r.repl k ry
  · rw [if_neg q, if_neg q]; exact Paired.snoc r ⟨rfl, hb, ry⟩
theorem KT.keeps {H H' : Hp} {kvs : List (List Key × V)} {xs : List (List Key × Addr × Value)} (r : KT H kvs xs) (ht : ∀ b ys, H b = some (.tup ys) → H' b = some (.tup ys)) : KT H' kvs xs :=
  Paired.mapP r fun _ _ z => ⟨z.1, ht _ _ z.2.1, z.2.2⟩

section
variable {P : Program} {w : World} {H : Hp} {h : Heap} {a : Addr}
theorem rd_of {u : HO} (ok : HOk P w H h) (e : Rd H a u) : ObjOk P w H h a u := e.ok ok
theorem dk_rd {kvs : List (Key × V)} (ok : HOk P w H h) (e : Rd H a (.dK kvs)) : kvs.length ≤ sizeLine ∧ (a == sysModules) = false ∧ ∃ vs, KV kvs vs ∧ h.DictOf (mixKind P w) a vs :=
  show ObjOk P w H h a (.dK kvs) from rd_of ok e
theorem dk_of {kvs : List (Key × V)} (ok : HOk P w H h) (e : H a = some (.dK kvs)) : kvs.length ≤ sizeLine ∧ (a == sysModules) = false ∧ ∃ vs, KV kvs vs ∧ h.DictOf (mixKind P w) a vs := dk_rd ok (.inl e)
/-- a tracked tuple of ints and texts is a key -/
theorem key_of {ks : List Key} (ok : HOk P w H h) (e : H a = some (.tup (ks.map kV))) : (tupleKind (mixKind P w)).is h ks a := by
  obtain ⟨_, its, r, o, h1, h2, n, h3⟩ := (show ObjOk P w H h a (.tup (ks.map kV)) from ok a _ e)
  exact ⟨o, its.toArray, n, h1, h2, h3, by simpa using items_are r⟩
theorem dt_rd {kvs : List (List Key × V)} (ok : HOk P w H h) (e : Rd H a (.dT kvs)) : kvs.length ≤ sizeLine ∧ (a == sysModules) = false ∧
    ∃ xs, KT H kvs xs ∧ h.DictOfH (tupleKind (mixKind P w)) a xs := by
  obtain ⟨z, y, xs, r, o, es, ep, h1, h2, h3, h4, h5⟩ := (show ObjOk P w H h a (.dT kvs) from rd_of ok e)
  refine ⟨z, y, xs, r, o, es, ep, h1, h2, h3, h4, fun x hx => ?_, h5⟩
  have all : ∀ {l : List (List Key × V)} {m : List (List Key × Addr × Value)}, KT H l m → ∀ x ∈ m, (tupleKind (mixKind P w)).is h x.1 x.2.1 := by
    intro l m q
    induction q with
    | nil => intro x hx; exact nomatch hx
    | @cons p q ps qs hq t ih =>
      intro x hx
      rcases List.mem_cons.mp hx with e | hx
      · subst e
        exact key_of ok (by rw [← hq.1]; exact hq.2.1)
      · exact ih x hx
  exact all r x hx
theorem dt_of {kvs : List (List Key × V)} (ok : HOk P w H h) (e : H a = some (.dT kvs)) : kvs.length ≤ sizeLine ∧ (a == sysModules) = false ∧
    ∃ xs, KT H kvs xs ∧ h.DictOfH (tupleKind (mixKind P w)) a xs := dt_rd ok (.inl e)
end

/-- what the dict at a holds at the key y -/
def DGet (H : Hp) (a : Addr) (y : V) (r : Option V) : Prop :=
  (∃ kvs k, Rd H a (.dK kvs) ∧ y = kV k ∧ r = valV kvs k) ∨ ∃ kvs k b, Rd H a (.dT kvs) ∧ y = .ref b ∧ H b = some (.tup (k.map kV)) ∧ r = valV kvs k
/-- the heap behind a[y] = v -/
def DPut (H : Hp) (a : Addr) (y v : V) (H' : Hp) : Prop :=
  (∃ kvs k, H a = some (.dK kvs) ∧ y = kV k ∧ kvs.length < sizeLine ∧ H' = upd H a (.dK (putK kvs k v))) ∨
  ∃ kvs k b, H a = some (.dT kvs) ∧ y = .ref b ∧ H b = some (.tup (k.map kV)) ∧ kvs.length < sizeLine ∧ H' = upd H a (.dT (putK kvs k v))
theorem DGet.k {H : Hp} {a : Addr} {kvs : List (Key × V)} {k : Key} (e : H a = some (.dK kvs)) : DGet H a (kV k) (valV kvs k) := .inl ⟨kvs, k, .inl e, rfl, rfl⟩
theorem DPut.k {H : Hp} {a : Addr} {kvs : List (Key × V)} {k : Key} {v : V} (e : H a = some (.dK kvs)) (hl : kvs.length < sizeLine) : DPut H a (kV k) v (upd H a (.dK (putK kvs k v))) := .inl ⟨kvs, k, e, rfl, hl, rfl⟩
section
variable {X : Cx} {pins : List (Addr × Obj)} {σ : St} {H : Hp} {s : Shared} {a : Addr} {y v : V} {u r : Value} {o : Option V} {A : Around} {E : Value → Shared → Prop}

theorem Inv.big (I : Inv X pins σ H s) : sysModules < s.heap.objs.size := by
  have h : mainGlobals < s.heap.objs.size := (I.mod.glob.keeps I.bk).lt
  exact Nat.lt_trans (by decide) h

/-- d[y], there -/
theorem d_getItem {Q : Value → Shared → Prop} (hu : A.units + 1 < cLine) (I : Inv X pins σ H s) (g : DGet H a y (some v)) (ry : RelV y u) (h : ∀ w' s', Inv X pins σ H s' → RelV v w' → Q w' s') :
    wpAny (model X.prog X.w) A (getItem (.ref a) u) Q E s := by
  rcases g with ⟨kvs, k, e, ey, l⟩ | ⟨kvs, k, b, e, ey, eb, l⟩
  · subst ey
    obtain ⟨z, hd, vs, rel, dd⟩ := dk_rd I.hok e
    obtain ⟨w', hw, rw'⟩ := RelO.some_of (v := v) (o := valueAt vs k) (by rw [l]; exact rel.val k)
    exact wpAny_getItem_of (kV_is ry) dd.mapOf hw (h w' _ (I.tok _) rw')
  · subst ey
    cases (show u = Value.ref b from ry)
    obtain ⟨z, hd, xs, rel, dd⟩ := dt_rd I.hok e
    obtain ⟨w', hw, rw'⟩ := RelO.some_of (v := v) (o := (atKey xs k).map (·.2)) (by rw [l]; exact rel.val k)
    obtain ⟨p, hp, hp2⟩ := Option.map_eq_some_iff.mp hw
    refine wpAny_getItem_heap (tupleKind_room_in1 hu) (key_of I.hok eb) dd hp ?_
    rw [hp2]
    exact h w' _ (I.tok _) rw'
theorem d_notIn {Q : Value → Shared → Prop} (hu : A.units + 1 < cLine) (I : Inv X pins σ H s) (g : DGet H a y o) (ry : RelV y u) (h : ∀ s', Inv X pins σ H s' → Q (.bool (!o.isSome)) s') :
    wpAny (model X.prog X.w) A (compareOp .NotIn u (.ref a)) Q E s := by
  rcases g with ⟨kvs, k, e, ey, l⟩ | ⟨kvs, k, b, e, ey, eb, l⟩
  · subst ey
    obtain ⟨z, hd, vs, rel, dd⟩ := dk_rd I.hok e
    refine wpAny_notIn_of (kV_is ry) hd dd.mapOf ?_
    rw [← (rel.val k).isSome_eq, ← l]
    exact h _ (I.tok _)
  · subst ey
    cases (show u = Value.ref b from ry)
    obtain ⟨z, hd, xs, rel, dd⟩ := dt_rd I.hok e
    refine wpAny_notIn_heap (tupleKind_room_in1 hu) (key_of I.hok eb) hd dd ?_
    have q := (rel.val k).isSome_eq
    rw [Option.isSome_map] at q
    rw [← q, ← l]
    exact h _ (I.tok _)
/-- a dict's object is replaced -/
theorem d_write {h' : Heap} {t' : Nat} {ob : HO} (I : Inv X pins σ H s) (mu : Mut (H a)) (hs : Heap.SameBut a s.heap h') (he : ∃ q, h'.get? a = some q) (new : ObjOk X.prog X.w (upd H a ob) h' a ob) :
    Inv X pins σ (upd H a ob) { s with heap := h', toks := t' } :=
  I.write (x := a) (e := a) mu (.inl rfl) (fun b q hb z => (hs.2 b hb).trans z) he new
theorem dk_new {P : Program} {w : World} {H' : Hp} {h' : Heap} {kvs : List (Key × V)} {vs : List (Key × Value)} (z : kvs.length ≤ sizeLine) (hd : (a == sysModules) = false) (rel : KV kvs vs) (dd : h'.DictOf (mixKind P w) a vs) :
    ObjOk P w H' h' a (.dK kvs) := ⟨z, hd, vs, rel, dd⟩
/-- d[y] = v -/
theorem d_setItem {H' : Hp} {Q : Unit → Shared → Prop} (hu : A.units + 1 < cLine) (I : Inv X pins σ H s) (g : DPut H a y v H') (ry : RelV y u) (rv : RelV v r) (h : ∀ s', Inv X pins σ H' s' → Q () s') :
    wpAny (model X.prog X.w) A (setItem (.ref a) u r) Q E s := by
  rcases g with ⟨kvs, k, e, ey, l, eH⟩ | ⟨kvs, k, b, e, ey, eb, l, eH⟩
  · subst ey eH
    obtain ⟨z, hd, vs, rel, dd⟩ := dk_of I.hok e
    have hz : vs.length ≤ sizeLine := by rw [← rel.length]; exact z
    have hl : (putK kvs k v).length ≤ sizeLine := by have := length_putK kvs k v; omega
    refine wpAny_setItem_pairs (hsz := hz) (kV_is ry) dd fun h' dd' hs => h _ ?_
    have he : ∃ q, h'.get? a = some q := let ⟨q, _, _, hq, _⟩ := dd'; ⟨q, hq⟩
    exact d_write I (by rw [e]; exact True.intro) hs he (dk_new hl hd (rel.put k rv) dd')
  · subst ey eH
    cases (show u = Value.ref b from ry)
    obtain ⟨z, hd, xs, rel, dd⟩ := dt_of I.hok e
    have hz : xs.length ≤ sizeLine := by rw [← Paired.length rel]; exact z
    have hl : (putK kvs k v).length ≤ sizeLine := by have := length_putK kvs k v; omega
    refine wpAny_setItem_heap (hsz := hz) (tupleKind_room_in1 hu) (key_of I.hok eb) dd fun h' dd' hs => h _ ?_
    obtain ⟨q, es, ep, hq, h2, h3, h4, _, h5⟩ := dd'
    refine d_write I (by rw [e]; exact True.intro) hs ⟨q, hq⟩ ⟨hl, hd, _, (rel.put k eb rv).keeps fun c ys ec => ?_, q, es, ep, hq, h2, h3, h4, h5⟩
    rw [upd_ne (ne_of ec e (fun z => nomatch z))]
    exact ec
end

section
variable {X : Cx} {pins : List (Addr × Obj)} {σ : St} {H : Hp} {s : Shared} {a : Addr} {kvs : List (Key × V)} {k : Key} {u : Value} {A : Around} {E : Value → Shared → Prop}
end


/-! ### readings and rules -/
/-- the element of a subscription, not a slice -/
def NoSl (i : Expr) : Prop := ∀ ov iv, subscripted i false ov iv = operate [ov, iv] (getItem ov iv)
theorem subD_of {prog : Program} {w : World} {A : Around} {E : Value → Shared → Prop} {s : Shared} {env : Env} {value slice : Expr} {pos : Pos} {T id : String} {Q : Value → Shared → Prop}
    (hl : typeLookup (.type T) "__getitem__" = pure (some (.builtin id))) (hs : NoSl slice)
    (h : wpAny (model prog w) A (eval value env) (fun o s₁ => wpAny (model prog w) A (eval slice env) (fun i s₂ => s₂.TypeIs o T ∧ wpAny (model prog w) A (getItem o i) Q E s₂) E s₁) E s) :
    wpAny (model prog w) A (eval (.Subscript value slice pos) env) Q E s := by
  refine Subscript_ (wpAny_mono h (fun o s₁ h₁ => wpAny_mono h₁ (fun i s₂ h₂ => ?_) fun _ _ x => x) fun _ _ x => x)
  obtain ⟨hT, h₂⟩ := h₂
  unfold subscriptTail
  refine wpAny_bind ?_
  rw [getitemInPython_of_ne hT.not_modules]
  refine wpAny_bind (wpAny_specialOf hT hl ?_)
  have fin : wpAny (model prog w) A (subscripted slice false o i) (fun r s₃ => wpAny (model prog w) A (letTemporaryGo value o r >>= fun _ => pure r) Q E s₃) E s₂ := by
    rw [hs o i]
    exact wpAny_operating (wpAny_mono h₂ (fun r s₃ h₃ => wpAny_bind (wpAny_letTemporaryGo (wpAny_pure h₃))) fun _ _ x => x)
  first
    | exact wpAny_pure (wpAny_bind fin)
    | exact wpAny_bind (wpAny_pure (wpAny_bind fin))
    | exact wpAny_bind fin

theorem dict_typeIs {X : Cx} {pins : List (Addr × Obj)} {σ : St} {H : Hp} {s : Shared} {a : Addr} {y : V} {o : Option V} (I : Inv X pins σ H s) (g : DGet H a y o) : s.TypeIs (.ref a) "dict" := by
  rcases g with ⟨kvs, k, e, _, _⟩ | ⟨kvs, k, b, e, _, _, _⟩
  · obtain ⟨_, _, vs, _, dd⟩ := dk_rd I.hok e
    exact dd.typeIs
  · obtain ⟨_, _, xs, _, dd⟩ := dt_rd I.hok e
    exact dd.typeIs
/-- d[y] -/
def tDGet (td ty : TE) : TE := fun σ H Q => td σ H fun x H1 => ty σ H1 fun y H2 => ∃ a v, x = .ref a ∧ DGet H2 a y (some v) ∧ Q v H2
/-- y in d, y not in d -/
def tDIn (ty td : TE) : TE := fun σ H Q => ty σ H fun y H1 => td σ H1 fun x H2 => ∃ a o, x = .ref a ∧ DGet H2 a y o ∧ Q (.bl o.isSome) H2
def tDNotIn (ty td : TE) : TE := fun σ H Q => ty σ H fun y H1 => td σ H1 fun x H2 => ∃ a o, x = .ref a ∧ DGet H2 a y o ∧ Q (.bl (!o.isSome)) H2
/-- d[y] = v -/
def sDPut (td ty tv : TE) : TS := fun D σ H => tv σ H fun v H1 => td σ H1 fun x H2 => ty σ H2 fun y H3 => ∃ a H4, x = .ref a ∧ DPut H3 a y v H4 ∧ D.nx σ H4
/-- d[y] op= v -/
def sDAug (td ty tv : TE) (rd : V → V → Hp → VK → Prop) : TS := fun D σ H => td σ H fun x H1 => ty σ H1 fun y H2 => ∃ a v, x = .ref a ∧ DGet H2 a y (some v) ∧
  tv σ H2 fun y2 H3 => rd v y2 H3 fun z H4 => ∃ H5, DPut H4 a y z H5 ∧ D.nx σ H5
/-- del d[y] -/
def sDDel (td ty : TE) : TS := fun D σ H => td σ H fun x H1 => ty σ H1 fun y H2 => ∃ a kvs k, x = .ref a ∧ H2 a = some (.dK kvs) ∧ y = kV k ∧ (valV kvs k).isSome = true ∧ D.nx σ (upd H2 a (.dK (dropK kvs k)))

section
variable {X : Cx} {o i e value : Expr} {pos pos' tpos : Pos} {td ty tv : TE}
theorem pe_dget (hu : X.A.units + 1 < cLine) (ho : PE X o td) (hi : PE X i ty) (hs : NoSl i) : PE X (.Subscript o i pos) (tDGet td ty) := by
  intro pins s σ H Q I h
  refine subD_of PySem.F.slot_dict_getitem.lookup hs (thn (ho pins s σ H _ I h) fun u s1 ⟨x, H1, I1, rx, q1⟩ => thn (hi pins s1 σ H1 _ I1 q1) fun iv s2 ⟨y, H2, I2, ry, a, v, ex, g, q2⟩ => ?_)
  subst ex
  obtain rfl : u = Value.ref a := rx
  exact ⟨dict_typeIs I2 g, d_getItem hu I2 g ry fun w' s3 I3 rw' => ⟨v, H2, I3, rw', q2⟩⟩
theorem pc_dnotin (hu : X.A.units + 1 < cLine) (hi : PE X i ty) (ho : PE X o td) : PC X .NotIn i o (tDNotIn ty td) := by
  intro pins s σ H Q I h
  refine thn (hi pins s σ H _ I h) fun iv s1 ⟨y, H1, I1, ry, q1⟩ => thn (ho pins s1 σ H1 _ I1 q1) fun u s2 ⟨x, H2, I2, rx, a, ov, ex, g, q2⟩ => ?_
  subst ex
  obtain rfl : u = Value.ref a := rx
  exact d_notIn hu I2 g ry fun s3 I3 => ⟨.bl (!ov.isSome), H2, I3, rfl, q2⟩
theorem ps_dput (hu : X.A.units + 1 < cLine) (ho : PE X o td) (hi : PE X i ty) (hv : PE X value tv) (hs : swapsWith value (some (.Subscript o i pos')) pos.line X.env = pure false) :
    PS X (.Assign [.Subscript o i pos'] value pos) (sDPut td ty tv) := by
  intro pins s σ H D I h
  refine wpAny_Assign_Subscript (thn (hv pins s σ H _ I h) fun r s1 ⟨v, H1, I1, rv, q1⟩ => thn (ho pins s1 σ H1 _ I1 q1) fun u s2 ⟨x, H2, I2, rx, q2⟩ => thn (hi pins s2 σ H2 _ I2 q2) fun iv s3 ⟨y, H3, I3, ry, a, H4, ex, g, q3⟩ => ?_) hs
  subst ex
  obtain rfl : u = Value.ref a := rx
  exact d_setItem hu I3 g ry rv fun s4 I4 => ⟨σ, H4, I4, q3⟩
end


/-! ### displays -/
theorem dk_empty {P : Program} {w : World} {H : Hp} (h : Heap) (hb : sysModules < h.objs.size) : ObjOk P w H (h.push { cls := .type "dict", data := .dict #[] }) h.objs.size (.dK []) :=
  ⟨Nat.zero_le _, beq_eq_false_iff_ne.mpr (Ne.symm (Nat.ne_of_lt hb)), [], .nil, Heap.DictOf.new h⟩
/-- {}, to be a dict of the kind that is wanted -/
def tDNewK : TE := fun _ H Q => ∀ p, H p = none → Q (.ref p) (upd H p (.dK []))
def tDNewT : TE := fun _ H Q => ∀ p, H p = none → Q (.ref p) (upd H p (.dT []))
section
variable {X : Cx} {pos : Pos}
theorem pe_dnewK : PE X (.Dict [] [] pos) tDNewK := fun pins s σ H Q I h =>
  wpAny_Dict_empty ⟨.ref s.heap.objs.size, _, I.laid (a := s.heap.objs.size) (o := .dK []) (t' := s.toks) (fun _ _ q => Heap.get?_push_of_some _ q) (Nat.le_refl _) (dk_empty s.heap I.big), rfl, h _ (I.hok.fresh (Nat.le_refl _))⟩
end

/-- the pairs of a display, from the left -/
def tPairs : List (TE × TE) → St → Hp → (List (V × V) → Hp → Prop) → Prop
  | [], _, H, Q => Q [] H
  | (tk, tv) :: r, σ, H, Q => tk σ H fun x H1 => tv σ H1 fun y H2 => tPairs r σ H2 fun ps H3 => Q ((x, y) :: ps) H3
abbrev VV : List (V × V) → List (Value × Value) → Prop := Paired fun p q => RelV p.1 q.1 ∧ RelV p.2 q.2
def PDs (X : Cx) (pos : Pos) (keys : List (Option Expr)) (values : List Expr) (trs : List (TE × TE)) : Prop :=
  ∀ (pins : List (Addr × Obj)) (s : Shared) (σ : St) (H : Hp) (Q : List (V × V) → Hp → Prop), Inv X pins σ H s → tPairs trs σ H Q →
    wpAny (model X.prog X.w) X.A (evalPairs (pairTrees keys values X.env pos)) (fun vs s' => ∃ ps H', Inv X pins σ H' s' ∧ VV ps vs ∧ Q ps H') X.xe s
theorem pds_nil {X : Cx} {pos : Pos} : PDs X pos [] [] [] := fun pins s σ H Q I h => pairTrees_nil_walk ⟨[], H, I, .nil, h⟩
theorem pds_cons {X : Cx} {pos : Pos} {k v : Expr} {ks : List (Option Expr)} {vs : List Expr} {tk tv : TE} {trs : List (TE × TE)} (hk : PE X k tk) (hv : PE X v tv) (hr : PDs X pos ks vs trs) :
    PDs X pos (some k :: ks) (v :: vs) ((tk, tv) :: trs) := fun pins s σ H Q I h =>
  pairTrees_cons_walk (thn (hk pins s σ H _ I h) fun u s1 ⟨x, H1, I1, rx, q1⟩ => thn (hv pins s1 σ H1 _ I1 q1) fun w2 s2 ⟨y, H2, I2, ry, q2⟩ =>
    thn (hr pins s2 σ H2 _ I2 q2) fun ws s3 ⟨ps, H3, I3, rel, q3⟩ => ⟨(x, y) :: ps, H3, I3, .cons ⟨rx, ry⟩ rel, q3⟩)

def mergeK (kvs more : List (Key × V)) : List (Key × V) := more.foldl (fun acc kv => putK acc kv.1 kv.2) kvs
theorem KV.merge : ∀ {more : List (Key × V)} {rs : List (Key × Value)} {kvs : List (Key × V)} {vs : List (Key × Value)}, KV more rs → KV kvs vs → KV (mergeK kvs more) (merged vs rs) := by
  intro more rs kvs vs r
  unfold KV at r
  induction r generalizing kvs vs with
  | nil => intro q; exact q
  | @cons p q ps qs h t ih =>
    intro r0
    have e : KV (putK kvs p.1 p.2) (stored vs q.1 q.2) := by
      have := r0.put p.1 h.2
      rw [← h.1]; exact this
    exact ih e
theorem length_mergeK : ∀ (more kvs : List (Key × V)), (mergeK kvs more).length ≤ kvs.length + more.length
  | [], kvs => by show kvs.length ≤ kvs.length + 0; omega
  | p :: r, kvs => by
    have h1 := length_mergeK r (putK kvs p.1 p.2)
    have h2 := length_putK kvs p.1 p.2
    show (mergeK (putK kvs p.1 p.2) r).length ≤ _
    rw [List.length_cons]; omega
theorem carries_of {P : Program} {w : World} : ∀ {kvs : List (Key × V)} {ws : List (Value × Value)}, VV (kvs.map fun kv => (kV kv.1, kv.2)) ws → ∃ rs, Carries (mixKind P w) ws rs ∧ KV kvs rs
  | [], _, r => by rw [List.map_nil] at r; cases r; exact ⟨[], True.intro, .nil⟩
  | p :: kvs, _, r => by
    rw [List.map_cons] at r
    cases r with
    | @cons a b as bs h t =>
      obtain ⟨rs, c, q⟩ := carries_of (P := P) (w := w) t
      obtain ⟨b1, b2⟩ := b
      exact ⟨(p.1, b2) :: rs, ⟨kV_is h.1, rfl, c⟩, .cons ⟨rfl, h.2⟩ q⟩
/-- {k: v, ..} with keys ints and texts; the new dict stands empty while the pairs are made -/
def tDisp (trs : List (TE × TE)) : TE := fun σ H Q => ∀ p, H p = none → tPairs trs σ (upd H p (.dK [])) fun ps H2 => H2 p = some (.dK []) ∧ ∃ kvs : List (Key × V), ps = kvs.map (fun kv => (kV kv.1, kv.2)) ∧ kvs.length ≤ 15 ∧ Q (.ref p) (upd H2 p (.dK (mergeK [] kvs)))
theorem pe_disp {X : Cx} {pos : Pos} {keys : List (Option Expr)} {values : List Expr} {trs : List (TE × TE)} (h : PDs X pos keys values trs) (hall : keys.all (·.isSome) = true) (hl : keys.length = values.length) (h0 : keys ≠ [])
    (h15 : keys.length ≤ 15) : PE X (.Dict keys values pos) (tDisp trs) := by
  intro pins s σ H Q I q
  have hn := I.hok.fresh (Nat.le_refl s.heap.objs.size)
  have I1 := I.laid (a := s.heap.objs.size) (o := .dK []) (h' := s.heap.push { cls := .type "dict", data := .dict #[] }) (t' := s.toks) (fun _ _ q => Heap.get?_push_of_some _ q) (Nat.le_refl _) (dk_empty s.heap I.big)
  refine wpAny_Dict_walk (knd := mixKind X.prog X.w) hall hl h0 h15 (thn (h pins _ σ _ _ I1 (q _ hn)) fun ws s2 ⟨ps, H2, I2, rel, e, kvs, ep, lk, q2⟩ => ?_)
  subst ep
  obtain ⟨rs, c, rk⟩ := carries_of (P := X.prog) (w := X.w) rel
  obtain ⟨z, hd, vs0, r0, dd⟩ := dk_of I2.hok e
  cases r0
  refine ⟨rs, c, dd, fun h' dd' hs => ⟨.ref s.heap.objs.size, _, ?_, rfl, q2⟩⟩
  have hz : (mergeK [] kvs).length ≤ sizeLine := by
    have h1 := length_mergeK kvs []
    rw [List.length_nil] at h1
    rw [sizeLine_eq]; omega
  have he : ∃ q, h'.get? s.heap.objs.size = some q := let ⟨q, _, _, hq, _⟩ := dd'; ⟨q, hq⟩
  exact d_write I2 (by rw [e]; exact True.intro) hs he (dk_new hz hd (rk.merge .nil) dd')


/-! ### methods -/
/-- a method call o.m(e) of a built-in, with one argument: what must be seen of the text -/
structure M1 (X : Cx) (o : Expr) (m : Str) (apos : Pos) (e : Expr) (cpos : Pos) : Prop where
  base : attributeBase o m X.env (eval o X.env) = eval o X.env
  few : ((backTo cpos (starEach [e] X.env)).all (fun x => !x.1) && (backToKw cpos (keywordEach [] X.env)).all (fun x => x.1.isSome)
    && decide (([e] : List Expr).length + ([] : List Keyword).length + (if ([] : List Keyword).isEmpty then 0 else 1) < 30)) = true
  line : (apos.endLine == cpos.line) = true
  trees : backTo cpos (starEach [e] X.env) = [(false, eval e X.env)]
structure M2 (X : Cx) (o : Expr) (m : Str) (apos : Pos) (e f : Expr) (cpos : Pos) : Prop where
  base : attributeBase o m X.env (eval o X.env) = eval o X.env
  few : ((backTo cpos (starEach [e, f] X.env)).all (fun x => !x.1) && (backToKw cpos (keywordEach [] X.env)).all (fun x => x.1.isSome)
    && decide (([e, f] : List Expr).length + ([] : List Keyword).length + (if ([] : List Keyword).isEmpty then 0 else 1) < 30)) = true
  line : (apos.endLine == cpos.line) = true
  trees : backTo cpos (starEach [e, f] X.env) = [(false, eval e X.env), (false, eval f X.env)]

/-- a is a dict, whatever its keys -/
def IsD (H : Hp) (a : Addr) : Prop := (∃ kvs, Rd H a (.dK kvs)) ∨ ∃ kvs, Rd H a (.dT kvs)
section
variable {X : Cx} {pins : List (Addr × Obj)} {σ : St} {H : Hp} {s : Shared} {a : Addr} {y d : V} {u r : Value} {o : Option V} {A : Around} {E : Value → Shared → Prop}
end

def tDGet1 (td ty : TE) : TE := fun σ H Q => td σ H fun x H1 => ∃ a, x = .ref a ∧ IsD H1 a ∧ ty σ H1 fun y H2 => ∃ o, DGet H2 a y o ∧ Q (o.getD .non) H2
def tDGet2 (td ty tx : TE) : TE := fun σ H Q => td σ H fun x H1 => ∃ a, x = .ref a ∧ IsD H1 a ∧ ty σ H1 fun y H2 => tx σ H2 fun z H3 => ∃ o, DGet H3 a y o ∧ Q (o.getD z) H3
/-- d.pop(k): there; d.pop(k, x): there or not -/
def tDPop1 (td ty : TE) : TE := fun σ H Q => td σ H fun x H1 => ∃ a, x = .ref a ∧ IsD H1 a ∧ ty σ H1 fun y H2 => ∃ kvs k v, H2 a = some (.dK kvs) ∧ y = kV k ∧ valV kvs k = some v ∧ Q v (upd H2 a (.dK (dropK kvs k)))
def tDPop2 (td ty tx : TE) : TE := fun σ H Q => td σ H fun x H1 => ∃ a, x = .ref a ∧ IsD H1 a ∧ ty σ H1 fun y H2 => tx σ H2 fun z H3 => ∃ kvs k, H3 a = some (.dK kvs) ∧ y = kV k ∧
  (∀ v, valV kvs k = some v → Q v (upd H3 a (.dK (dropK kvs k)))) ∧ (valV kvs k = none → Q z H3)
section
variable {X : Cx} {o e f : Expr} {apos cpos : Pos} {td ty tx : TE}
end

/-! ### dict(d): a copy -/
section
variable {X : Cx} {pins : List (Addr × Obj)} {σ : St} {H : Hp} {s : Shared} {a : Addr} {kvs : List (Key × V)} {A : Around} {E : Value → Shared → Prop}
theorem d_copyOf {Q : Value → Shared → Prop} (I : Inv X pins σ H s) (e : Rd H a (.dK kvs)) (h : ∀ p s', H p = none → Inv X pins σ (upd H p (.dK kvs)) s' → Q (.ref p) s') : wpAny (model X.prog X.w) A (call (.type "dict") [.ref a]) Q E s := by
  obtain ⟨z, hd, vs, rel, dd⟩ := dk_rd I.hok e
  refine kt_call_dict hd dd (by rw [← rel.length]; exact z) fun h' dd' hs => ?_
  refine h _ _ (I.hok.fresh (Nat.le_refl _)) (I.laid (a := s.heap.objs.size) (o := .dK kvs) (t' := s.toks) (fun b q hq => ?_) (Nat.le_refl _) (dk_new z (beq_eq_false_iff_ne.mpr (Ne.symm (Nat.ne_of_lt I.big))) rel dd'))
  exact (hs.2 b (Nat.ne_of_lt (Heap.lt_size hq))).trans (Heap.get?_push_of_some _ hq)
end


section
variable {X : Cx} {pins : List (Addr × Obj)} {σ : St} {H : Hp} {s : Shared} {a : Addr} {y : V} {u : Value} {A : Around} {E : Value → Shared → Prop}
end
end L2

namespace L2
open PySem PySem.Spec PyProof.Rows
section
variable {X : Cx}
end
section
variable {κ : Type} [DecidableEq κ]
end
end L2

set_option maxHeartbeats 4000000
namespace L2
open PySem PySem.Spec PyProof.Rows
/-! ### list(d), dict(d) of a dict in the heap; a def with values left out that may raise -/
theorem kV_of {P : Program} {w : World} {k : Key} {u : Value} (h : (mixKind P w).is k u = true) : RelV (kV k) u := by
  rcases keyIs_shape (show keyIs k u = true from h) with ⟨i, t, rfl, rfl⟩ | ⟨x, t, rfl, rfl⟩
  · exact ⟨t, rfl⟩
  · exact ⟨t, rfl⟩
theorem valsI : ∀ {xs : List V} {us : List Value}, xs.length = us.length → (∀ (i : Nat) (x : V) (u : Value), xs[i]? = some x → us[i]? = some u → RelV x u) → Vals xs us
  | [], [], _, _ => .nil
  | x :: xs, u :: us, hl, h => .cons (h 0 x u rfl rfl) (valsI (by simpa using hl) fun i y v e1 e2 => h (i + 1) y v (by simpa using e1) (by simpa using e2))
  | [], _ :: _, hl, _ => by simp at hl
  | _ :: _, [], hl, _ => by simp at hl
section
variable {X : Cx}
theorem call_listD : CallR X (.type "list") (fun xs H Q => X.calm = true ∧ ∃ p kvs, xs = [.ref p] ∧ Rd H p (.dK kvs) ∧ ∀ l, H l = none → Q (.ref l) (upd H l (.lst (kvs.map fun kv => kV kv.1)))) := by
  intro pins s σ H xs us Q I r h
  obtain ⟨hc, p, kvs, rfl, hp, q⟩ := h
  obtain ⟨u, rfl, rx⟩ := vals1 r
  cases rx
  obtain ⟨z, hd, vs, rel, dd⟩ := dk_rd I.hok hp
  obtain ⟨ep, da⟩ := dd.dictAt
  have hl := rel.length
  refine PySem.W.kdl_call (PySem.W.kdl_dict (knd := mixKind X.prog X.w) (kvs := vs) (ep := ep) hd) (I.ok.hd hc) da (by omega) fun h' tk acc' c' kp e it => ?_
  refine ⟨.ref s.heap.objs.size, _, I.laid (t' := tk) kp (Nat.le_refl _) (show ObjOk X.prog X.w _ h' _ (.lst (kvs.map fun kv => kV kv.1)) from ⟨by rw [List.length_map]; exact z, acc'.toList, c', ?_, by rw [Array.toArray_toList]; exact e⟩), rfl, q _ (I.hok.fresh (Nat.le_refl _))⟩
  have hk := rel.keys
  have h1 : acc'.toList.length = vs.length := by rw [Array.length_toList]; exact it.1
  refine valsI (by rw [List.length_map, h1, hl]) fun i x u e1 e2 => ?_
  obtain ⟨k, y, e3, e4⟩ := it.2 i u (by rw [← Array.getElem?_toList]; exact e2)
  have e5 : (kvs.map (·.1))[i]? = some k := by rw [hk, List.getElem?_map, e3]; rfl
  have e6 : (kvs.map fun kv => kV kv.1)[i]? = some (kV k) := by
    rw [List.getElem?_map] at e5 ⊢
    cases e7 : kvs[i]? with
    | none => rw [e7] at e5; cases e5
    | some w => rw [e7] at e5; cases e5; rfl
  rw [e6] at e1
  cases e1
  exact kV_of e4
theorem call_dictD : CallR X (.type "dict") (fun xs H Q => ∃ p kvs, xs = [.ref p] ∧ Rd H p (.dK kvs) ∧ ∀ l, H l = none → Q (.ref l) (upd H l (.dK kvs))) := by
  intro pins s σ H xs us Q I r h
  obtain ⟨p, kvs, rfl, hp, q⟩ := h
  obtain ⟨u, rfl, rx⟩ := vals1 r
  cases rx
  exact d_copyOf I hp fun l s' hl I' => ⟨.ref l, _, I', rfl, q l hl⟩
end
section
variable {P : Program} {w : World} {K : PySem.W.Frag} {mg : Str → Option Value} {base : Heap}
end
end L2

set_option maxHeartbeats 4000000
namespace L2
open PySem PySem.Spec PyProof.Rows
/-! ### dict(xs), xs a list of pairs -/
section
variable {prog : Program} {w : World} {A : Around} {E : Value → Shared → Prop} {s : Shared}
end
/-- dict(xs) of a list of pairs with texts and ints ahead -/
def pairK (kv : Key × V) : List V := [kV kv.1, kv.2]
section
variable {X : Cx}
end
end L2

set_option maxHeartbeats 4000000
/-! ### a dict of the module: pairs of a text and a number as keys -/
/-- what a pair of a text and a number is worth as a key -/
def Hd.th (P : PySem.Params) (x : PySem.Str) (n : Int) : Int := PySem.reduceHash (PySem.Builtin.Tuple.tupleHashOf [PySem.PyData.keyHash P x, PySem.hashInt n])
namespace L2
open PySem PySem.Spec PyProof.Rows
inductive EpOk (K : PySem.W.Frag) (w : World) : List DictEntry → List ((Str × Int) × V) → Prop
  | nil : EpOk K w [] []
  | cons {x : Str} {n : Int} {b : Addr} {ob : Option Addr} {ta tb : Tok} {nb : Nat} {sb : Array (Option Value)} {u : Value} {v : V} {es : List DictEntry} {kvs : List ((Str × Int) × V)} : K.lookup b = some ⟨.type "tuple", ob, .seq #[.str x ta, .int n tb] nb, sb⟩ → RelV v u → EpOk K w es kvs → EpOk K w (⟨Hd.th w.params x n, .ref b, u⟩ :: es) (((x, n), v) :: kvs)
structure KP (K : PySem.W.Frag) (w : World) (a : Addr) (kvs : List ((Str × Int) × V)) : Prop where
  sys : (a == sysModules) = false
  ok : ∃ es n, K.lookup a = some ⟨.type "dict", none, .dict es n, #[]⟩ ∧ EpOk K w es.toList kvs ∧ (kvs.map (·.1)).Nodup
abbrev kp (x : Str) (n : Int) : List Key := [Sum.inr x, Sum.inl n]
theorem pairKey {P : Program} {w : World} {h : Heap} {a : Addr} {x : Str} {n : Int} {ta tb : Tok} (t : IsTup h a #[.str x ta, .int n tb]) : (tupleKind (mixKind P w)).is h (kp x n) a := by
  obtain ⟨o, e, c, m, d⟩ := t
  exact ⟨o, _, m, e, c, d, .cons (mixKind_str P w x ta) (.cons (mixKind_int P w n tb) .nil)⟩
theorem EpOk.xs (P : Program) {K : PySem.W.Frag} {w : World} {h : Heap} (hi : K.In h) : ∀ {es : List DictEntry} {kvs : List ((Str × Int) × V)}, EpOk K w es kvs → ∃ xs : List (List Key × Addr × Value), es = xs.map (entryOfKey (tupleKind (mixKind P w))) ∧ xs.map (·.1) = kvs.map (fun p => kp p.1.1 p.1.2) ∧
    (∀ x ∈ xs, (tupleKind (mixKind P w)).is h x.1 x.2.1) ∧ ∀ x n, RelO (kvs.lookup (x, n)) ((atKey xs (kp x n)).map (·.2))
  | _, _, .nil => ⟨[], rfl, rfl, (fun e z => nomatch z), fun x n => True.intro⟩
  | _, _, .cons (x := x) (n := n) (b := b) (u := u) (v := v) lb r q => by
    obtain ⟨xs, h1, h2, h3, h4⟩ := EpOk.xs P hi q
    refine ⟨(kp x n, b, u) :: xs, by rw [List.map_cons, ← h1]; rfl, by rw [List.map_cons, List.map_cons, h2], fun e he => ?_, fun y m => ?_⟩
    · rcases List.mem_cons.mp he with rfl | he
      · exact pairKey ⟨_, hi _ _ lb, rfl, _, rfl⟩
      · exact h3 e he
    · by_cases hy : (y, m) = (x, n)
      · cases hy
        unfold atKey
        simp only [List.lookup_cons, List.find?_cons]
        simp
        exact r
      · unfold atKey
        have h5 := h4 y m
        unfold atKey at h5
        have e1 : ((y, m) == (x, n)) = false := by simpa using hy
        have e2 : decide (kp x n = kp y m) = false := decide_eq_false fun e => hy (by
          injection e with e1 e2
          injection e2 with e2 _
          cases e1; cases e2; rfl)
        simp only [List.lookup_cons, e1, List.find?_cons, e2]
        exact h5
theorem nodup_kp : ∀ {l : List (Str × Int)}, l.Nodup → (l.map (fun p => kp p.1 p.2)).Nodup
  | [], _ => .nil
  | x :: l, h => by
    rw [List.map_cons, List.nodup_cons]
    obtain ⟨h1, h2⟩ := List.nodup_cons.mp h
    refine ⟨fun z => ?_, nodup_kp h2⟩
    obtain ⟨y, hy, e⟩ := List.mem_map.mp z
    injection e with e1 e2
    injection e2 with e2 _
    obtain ⟨a, b⟩ := x
    obtain ⟨c, d⟩ := y
    cases e1
    cases e2
    exact h1 hy
theorem KP.dict (P : Program) {K : PySem.W.Frag} {w : World} {a : Addr} {kvs : List ((Str × Int) × V)} {h : Heap} (d : KP K w a kvs) (hi : K.In h) : ∃ xs, h.DictOfH (tupleKind (mixKind P w)) a xs ∧ ∀ x n, RelO (kvs.lookup (x, n)) ((atKey xs (kp x n)).map (·.2)) := by
  obtain ⟨es, n, lk, ok, nd⟩ := d.ok
  obtain ⟨xs, h1, h2, h3, h4⟩ := ok.xs P hi
  refine ⟨xs, ⟨_, es, n, hi _ _ lk, ⟨rfl, rfl, rfl⟩, rfl, h1, h3, ?_⟩, h4⟩
  rw [h2]
  have := nodup_kp nd
  rw [List.map_map] at this
  exact this
section
variable {X : Cx}
/-- d.get((x, n)) of a dict of the module -/
def tKGetT (K : PySem.W.Frag) (w : World) (td ty : TE) : TE := fun σ H Q => td σ H fun x H1 => ∃ a kvs, x = .ref a ∧ KP K w a kvs ∧ ty σ H1 fun y H2 => ∃ p k n, y = .ref p ∧ H2 p = some (.tup [.str k, .int n]) ∧ Q ((kvs.lookup (k, n)).getD .non) H2
theorem pe_kgetT {o e : Expr} {apos cpos : Pos} {td ty : TE} (hu : X.A.units + 1 < cLine) (ho : PE X o td) (he : PE X e ty)
    (base : attributeBase o "get" X.env (eval o X.env) = eval o X.env := by rfl)
    (few : ((backTo cpos (starEach [e] X.env)).all (fun x => !x.1) && (backToKw cpos (keywordEach [] X.env)).all (fun x => x.1.isSome)
      && decide (([e] : List Expr).length + ([] : List Keyword).length + (if ([] : List Keyword).isEmpty then 0 else 1) < 30)) = true := by rfl)
    (line : (apos.endLine == cpos.line) = true := by rfl) (trees : backTo cpos (starEach [e] X.env) = [(false, eval e X.env)] := by rfl) :
    PE X (.Call (.Attribute o "get" apos) [e] [] cpos) (tKGetT X.K X.w td ty) := by
  intro pins s σ H Q I h
  refine wpAny_Call_method base few line PySem.F.plainAttrs_dict PySem.F.slot_dict_get PySem.F.type_dict_get (thn (ho pins s σ H _ I h) fun u s1 ⟨x, H1, I1, rx, a, kvs, ex, d, q1⟩ => ?_)
  subst ex
  obtain rfl : u = Value.ref a := rx
  obtain ⟨xs, dd, rel⟩ := d.dict X.prog I1.kIn
  refine ⟨dd.typeIs, fun b q => ?_, ?_⟩
  · cases q
    obtain ⟨ob, _, _, h1, h2, _⟩ := dd
    exact ⟨ob, h1, h2.2.1⟩
  rw [trees]
  refine Calls.callWith_builtin rfl (Calls.evalArgs_plain (Calls.spliced_cons (thn (he pins s1 σ H1 _ I1 q1) fun iv s2 ⟨y, H2, I2, ry, p, k, n, ek, hp, q2⟩ => Calls.spliced_nil ?_)))
  subst ek
  obtain rfl : iv = Value.ref p := ry
  obtain ⟨xs3, dd3, rel3⟩ := d.dict X.prog I2.kIn
  obtain ⟨_, its, vs, tp⟩ := I2.hok _ _ hp
  rcases vs with _ | ⟨⟨ta, rfl⟩, _ | ⟨⟨tb, rfl⟩, _ | _⟩⟩
  exact call_meetsIn PySem.F.slot_dict_get dd3.typeIs PySem.F.entry_dict_get (PySem.F.args_dict_get_2 _ _) (meetsH_dict_get (tupleKind (mixKind X.prog X.w)) a p d.sys) ⟨hu, kp k n, xs3, pairKey tp, dd3, _, H2, I2.tok _, RelO.getD' (d := V.non) (rel3 k n) rfl, q2⟩
end
end L2

set_option maxHeartbeats 4000000
/-! ### the head of a top that writes dicts by pairs: it goes through whatever the world's hash is -/
namespace Hd
open PySem PySem.W
section
variable {p : Program} {w : World} {n₀ : Nat} {ann : Option Value} {q : Pos} {c : Code}
theorem go_add {b : Nat} : ∀ {n m : Nat} {s s1 : Shared} {t t1 : Thread} {r : Option (Shared × Thread)}, segGo treeTable p w n₀ ann b n s t = some (s1, t1) → segGo treeTable p w n₀ ann b m s1 t1 = r → segGo treeTable p w n₀ ann b (n + m) s t = r
  | 0, m, s, s1, t, t1, r, h, k => by
    cases h
    rw [Nat.zero_add]
    exact k
  | n + 1, m, s, s1, t, t1, r, h, k => by
    rw [Nat.add_right_comm]
    unfold segGo at h ⊢
    split at h
    · cases h
    · split at h
      · cases h
      · split at h
        · exact go_add h k
        · cases h
/-- some steps, at most m of them -/
def Go (p : Program) (w : World) (n₀ : Nat) (ann : Option Value) (m : Nat) (s : Shared) (t : Thread) (s' : Shared) (t' : Thread) : Prop := ∃ n, n ≤ m ∧ segGo treeTable p w n₀ ann 1 n s t = some (s', t')
theorem Go.trans {m m' : Nat} {s s1 s2 : Shared} {t t1 t2 : Thread} (h : Go p w n₀ ann m s t s1 t1) (h' : Go p w n₀ ann m' s1 t1 s2 t2) : Go p w n₀ ann (m + m') s t s2 t2 := by
  obtain ⟨n, l, e⟩ := h
  obtain ⟨n', l', e'⟩ := h'
  exact ⟨n + n', Nat.add_le_add l l', go_add e e'⟩
/-- x runs from s to s' and answers a -/
def RT {α : Type} (p : Program) (w : World) (n₀ : Nat) (ann : Option Value) (q : Pos) (c : Code) (m : Nat) (x : Sem α) (s s' : Shared) (a : α) : Prop :=
  ∀ (K : α → Sem Fin) (H : Value → Sem Fin) (gd : Bool → Bool) (lv : List Value → List Value) (pos : Pos), ∃ pos', Go p w n₀ ann m s ⟨x.wrap K H gd lv, c, pos, [topFrame q]⟩ s' ⟨K a, c, pos', [topFrame q]⟩
/-- and stands at p' then -/
def RTP {α : Type} (p : Program) (w : World) (n₀ : Nat) (ann : Option Value) (q : Pos) (c : Code) (m : Nat) (x : Sem α) (s s' : Shared) (a : α) (p' : Pos) : Prop :=
  ∀ (K : α → Sem Fin) (H : Value → Sem Fin) (gd : Bool → Bool) (lv : List Value → List Value) (pos : Pos), Go p w n₀ ann m s ⟨x.wrap K H gd lv, c, pos, [topFrame q]⟩ s' ⟨K a, c, p', [topFrame q]⟩
variable {α β : Type} {x : Sem α} {f : α → Sem β} {s s1 s2 : Shared} {a : α} {b : β} {m m' : Nat} {p' : Pos}
theorem bind_wrap (x : Sem α) (f : α → Sem β) (K : β → Sem Fin) (H gd lv) : (x >>= f).wrap K H gd lv = x.wrap (fun a => (f a).wrap K H gd lv) H gd lv := by
  rw [Sem.bind_eq_wrap', Sem.wrap_wrap]
  rfl
theorem RT.bind (h : RT p w n₀ ann q c m x s s1 a) (h' : RT p w n₀ ann q c m' (f a) s1 s2 b) : RT p w n₀ ann q c (m + m') (x >>= f) s s2 b := fun K H gd lv pos => by
  rw [bind_wrap]
  obtain ⟨p1, g⟩ := h (fun a => (f a).wrap K H gd lv) H gd lv pos
  obtain ⟨p2, g'⟩ := h' K H gd lv p1
  exact ⟨p2, g.trans g'⟩
theorem RT.bindP (h : RT p w n₀ ann q c m x s s1 a) (h' : RTP p w n₀ ann q c m' (f a) s1 s2 b p') : RTP p w n₀ ann q c (m + m') (x >>= f) s s2 b p' := fun K H gd lv pos => by
  rw [bind_wrap]
  obtain ⟨p1, g⟩ := h (fun a => (f a).wrap K H gd lv) H gd lv pos
  exact g.trans (h' K H gd lv p1)
theorem RT.hold (vs : List Value) (h : RT p w n₀ ann q c m x s s1 a) : RT p w n₀ ann q c m (holding vs x) s s1 a := by
  unfold holding
  split
  · exact h
  · intro K H gd lv pos
    rw [Sem.keep_eq_wrap, Sem.wrap_wrap]
    exact h _ _ _ _ _
theorem RT.pure : RT p w n₀ ann q c 0 (Pure.pure a : Sem α) s s a := fun K H gd lv pos => ⟨pos, 0, Nat.le_refl _, rfl⟩
theorem RT.more (h : RT p w n₀ ann q c m x s s1 a) (l : m ≤ m') : RT p w n₀ ann q c m' x s s1 a := fun K H gd lv pos => by
  obtain ⟨p1, n, l1, e⟩ := h K H gd lv pos
  exact ⟨p1, n, Nat.le_trans l1 l, e⟩
theorem run_more : ∀ (k n : Nat) {s : Shared} {t : Thread} {r}, segRun treeTable p w n₀ ann 1 n s t = some r → segRun treeTable p w n₀ ann 1 (n + k) s t = some r
  | k, 0, s, t, r, h => by cases h
  | k, n + 1, s, t, r, h => by
    rw [Nat.add_right_comm]
    unfold segRun at h ⊢
    split at h
    · exact h
    · split at h
      · cases h
      · split at h
        · exact run_more k n h
        · cases h
/-- a statement of the top -/
theorem RTP.piece {st : Stmt} {env : Env} {pos : Pos} (h : RTP p w n₀ ann q c m (exec st env) s s1 .next p') : segRun treeTable p w n₀ ann 1 (m + 1) s (pieceOf st env c pos [topFrame q]) = some (.next, s1, c, p') := by
  obtain ⟨n, l, e⟩ := h doneF deadEnd id id pos
  have z : segRun treeTable p w n₀ ann 1 (n + 1) s (pieceOf st env c pos [topFrame q]) = some (.next, s1, c, p') := seg_go e rfl
  have := run_more (m - n) _ z
  rwa [show n + 1 + (m - n) = m + 1 by omega] at this
end
section
variable {p : Program} {w : World} {n₀ : Nat} {ann : Option Value} {q : Pos} {c : Code} {s : Shared}
theorem rt_reduced (i : Int) : RT p w n₀ ann q c 1 (pyHashByItsType.reduced i) s s (reduceHash i) := by
  unfold pyHashByItsType.reduced reduceHash
  split
  · exact RT.pure.more (Nat.zero_le _)
  · intro K H gd lv pos
    exact ⟨pos, 1, Nat.le_refl _, rfl⟩
variable {α β : Type} {x y : Sem α} {s' : Shared} {a : α} {m e : Nat}
theorem RT.ifn {b : Bool} (hb : b = false) (h : RT p w n₀ ann q c m y s s' a) : RT p w n₀ ann q c m (if b = true then x else y) s s' a := by
  subst hb
  exact h
theorem RT.ift {b : Bool} (hb : b = true) (h : RT p w n₀ ann q c m x s s' a) : RT p w n₀ ann q c m (if b = true then x else y) s s' a := by
  subst hb
  exact h
theorem RT.ifc {b : Bool} (h : RT p w n₀ ann q c m x s s' a) (h' : RT p w n₀ ann q c m y s s' a) : RT p w n₀ ann q c m (if b = true then x else y) s s' a := by
  cases b
  · exact h'
  · exact h
theorem rt_for {β γ : Type} {f : γ → β → Sem (ForInStep β)} {r : β} : ∀ {l : List γ}, (∀ i ∈ l, RT p w n₀ ann q c e (f i r) s s (.yield r)) → RT p w n₀ ann q c (l.length * e) (forIn l r f) s s r
  | [], _ => by
    rw [List.forIn_nil, List.length_nil, Nat.zero_mul]
    exact RT.pure
  | i :: l, h => by
    rw [List.forIn_cons, List.length_cons, Nat.succ_mul, Nat.add_comm]
    exact RT.bind (h i (List.mem_cons_self ..)) (rt_for fun j hj => h j (List.mem_cons_of_mem _ hj))
theorem rt_tell {key : Value} {l : List Value} (hk : RT p w n₀ ann q c e (eqIsQuiet 8 key) s s true) (h : ∀ v ∈ l, RT p w n₀ ann q c e (eqIsQuiet 8 v) s s true) : RT p w n₀ ann q c (e + (l.length * e + 0)) (tableMayTell key l) s s false := by
  unfold tableMayTell
  dsimp only
  cases hl : l.isEmpty with
  | true => exact RT.ift rfl (RT.pure.more (Nat.zero_le _))
  | false =>
    refine RT.ifn rfl ?_
    refine RT.bind hk ?_
    refine RT.ifn rfl ?_
    refine RT.bind (rt_for fun v hv => ?_) ?_
    · exact RT.bind (m' := 0) (h v hv) (RT.ifn rfl RT.pure)
    · exact RT.pure
theorem ne_one {key : Value} {l : List Value} (h : ∀ v ∈ l, (v == key) = false) : (l == [key]) = false := by
  cases l with
  | nil => rfl
  | cons v l => rw [List.cons_beq_cons, h v (List.mem_cons_self ..)]; rfl
theorem stored_in {es : Array DictEntry} {ps : List Nat} {v : Value} (h : v ∈ ps.filterMap fun i => Option.map (fun x => x.key) es[i]?) : v ∈ es.toList.map (·.key) := by
  obtain ⟨i, _, e⟩ := List.mem_filterMap.mp h
  obtain ⟨z, e1, rfl⟩ := Option.map_eq_some_iff.mp e
  exact List.mem_map.mpr ⟨z, by simpa using Array.mem_of_getElem? e1, rfl⟩
theorem places_lt {n : Nat} {g : Nat → Option Int} {h : Int} {i : Nat} (hi : i ∈ placesWithHash n g h) : i < n := List.mem_range.mp (List.mem_filter.mp hi).1
theorem places_len {n : Nat} {g : Nat → Option Int} {h : Int} : (placesWithHash n g h).length ≤ n := by
  have := List.length_filter_le (fun i => g i == some h) (List.range n)
  rw [List.length_range] at this
  exact this
theorem rt_find {d a n : Nat} {h : Int} {es : Array DictEntry} {e1 e2 e3 : Nat} (hes : RT p w n₀ ann q c e1 (dictEntries d (keyPart (.ref a))) s s es) (hany : (es.any fun e => e.key == .ref a && e.hash != h) = false)
    (hne : ∀ v ∈ es.toList.map (·.key), (v == .ref a) = false) (hq : RT p w n₀ ann q c e2 (eqIsQuiet 8 (.ref a)) s s true) (hqs : ∀ v ∈ es.toList.map (·.key), RT p w n₀ ann q c e2 (eqIsQuiet 8 v) s s true)
    (hep : RT p w n₀ ann q c 1 (dictEpoch d (keyPart (.ref a))) s s n) (heq : ∀ v ∈ es.toList.map (·.key), RT p w n₀ ann q c e3 (eqBool v (.ref a)) s s false) : RT p w n₀ ann q c (e1 + ((e2 + (es.size * e2 + 0)) + (es.size * (1 + (e3 + (1 + (1 + 0)))) + 0))) (dictFind d (.ref a) h) s s none := by
  unfold dictFind
  refine RT.hold _ ?_
  refine RT.bind hes ?_
  dsimp only
  generalize hp : placesWithHash _ _ _ = places
  have pl : ∀ i ∈ places, i < es.size := fun i hi => places_lt (hp ▸ hi)
  have pn : places.length ≤ es.size := by rw [← hp]; exact places_len
  clear hp
  refine RT.ifn (by rw [List.all_cons]; rfl) ?_
  refine RT.ifn hany ?_
  refine RT.ifn (ne_one fun v hv => hne v (stored_in hv)) ?_
  refine RT.bind ((rt_tell hq fun v hv => hqs v (stored_in hv)).more ?_) ?_
  · have l1 : (places.filterMap fun i => Option.map (fun x => x.key) es[i]?).length ≤ es.size := Nat.le_trans (List.length_filterMap_le _ _) pn
    have := Nat.mul_le_mul_right e2 l1
    omega
  refine RT.ifn rfl ?_
  refine RT.bind ((rt_for fun i hi => ?_).more (Nat.mul_le_mul_right _ pn)) RT.pure
  have hi := pl i hi
  rw [Array.getElem?_eq_getElem hi]
  dsimp only
  have hv : (es[i]'hi).key ∈ es.toList.map (·.key) := List.mem_map.mpr ⟨_, by simp, rfl⟩
  generalize es[i]'hi = en at hv
  refine RT.ifc ?_ (RT.pure.more (Nat.zero_le _))
  refine RT.bind hep ?_
  refine RT.bind (heq _ hv) ?_
  refine RT.bind hep ?_
  refine RT.ifn (by simp) ?_
  refine RT.ifn rfl ?_
  refine RT.bind (m := 1) (a := ()) (s1 := s) (fun K H gd lv pos => ⟨pos, 1, Nat.le_refl _, rfl⟩) ?_
  exact RT.ifn rfl RT.pure
theorem rt_set {d a : Nat} {h : Int} {v : Value} {s1 s2 : Shared} {e1 e2 e3 : Nat} (hh : RT p w n₀ ann q c e1 (pyHash (.ref a)) s s1 h) (hf : RT p w n₀ ann q c e2 (dictFind d (.ref a) h) s1 s1 none)
    (hu : RT p w n₀ ann q c e3 (updateDictKeys d (fun es => es.push ⟨h, .ref a, v⟩) (keyPart (.ref a))) s1 s2 ()) : RT p w n₀ ann q c (e1 + (e2 + (1 + e3))) (dictSet d (.ref a) v) s s2 () := by
  unfold dictSet dictSetHashed
  refine RT.hold _ ?_
  refine RT.bind hh ?_
  refine RT.hold _ ?_
  refine RT.bind hf ?_
  exact RT.bind (m := 1) (a := ()) (s1 := s1) (fun K H gd lv pos => ⟨pos, 1, Nat.le_refl _, rfl⟩) hu
/-- the keys put in one after the other -/
inductive Puts (p : Program) (w : World) (n₀ : Nat) (ann : Option Value) (q : Pos) (c : Code) (d : Nat) : Nat → Shared → List (Value × Value) → Shared → Prop
  | nil {s : Shared} : Puts p w n₀ ann q c d 0 s [] s
  | cons {s s1 s2 : Shared} {k v : Value} {l : List (Value × Value)} {m m' : Nat} : RT p w n₀ ann q c m (dictSet d k v) s s1 () → Puts p w n₀ ann q c d m' s1 l s2 → Puts p w n₀ ann q c d (m + m') s ((k, v) :: l) s2
theorem Puts.for {d : Nat} {l : List (Value × Value)} {f : Value × Value → PUnit → Sem (ForInStep PUnit)} (hf : ∀ k v, f (k, v) ⟨⟩ = dictSet d k v >>= fun _ => pure (.yield ⟨⟩)) (h : Puts p w n₀ ann q c d m s l s') : RT p w n₀ ann q c m (forIn l PUnit.unit f) s s' ⟨⟩ := by
  induction h with
  | nil => rw [List.forIn_nil]; exact RT.pure
  | cons a b ih =>
    rw [List.forIn_cons, hf]
    exact RT.bind (RT.bind (m' := 0) a RT.pure) ih
theorem fm_nil {α : Type} {P : α → Prop} : ∀ v ∈ ([] : List α), P v := fun _ z => nomatch z
theorem fm_cons {α : Type} {P : α → Prop} {a : α} {l : List α} (h : P a) (t : ∀ v ∈ l, P v) : ∀ v ∈ a :: l, P v := fun v hv => by
  rcases List.mem_cons.mp hv with rfl | hv
  · exact h
  · exact t v hv
theorem rt_sub {pairs : List (Sem Value × Sem Value)} {vs : List (Value × Value)} {d e1 : Nat} {s1 s2 s3 : Shared} (hl : pairs.length ≤ 15) (ha : RT p w n₀ ann q c 1 (alloc { cls := .type "dict", data := .dict #[] }) s s1 d) (he : RT p w n₀ ann q c e1 (evalPairs pairs) s1 s2 vs)
    (hc : Puts p w n₀ ann q c d m s2 vs s3) : RT p w n₀ ann q c (1 + ((e1 + (m + 0)) + 0)) (subDict pairs) s s3 d := by
  unfold subDict
  refine RT.bind ha ?_
  dsimp only
  refine RT.bind (a := ()) (RT.hold _ ?_) RT.pure
  rw [if_pos hl]
  refine RT.bind he ?_
  refine RT.hold _ ?_
  refine RT.bind (Puts.for (fun k v => rfl) hc) RT.pure
theorem rt_top {x : Str} {px dp pos p' : Pos} {ks : List (Option Expr)} {us : List Expr} {env : Env} {vs : List (Value × Value)} {d e1 e2 : Nat} {s1 s2 s3 s4 : Shared} (hall : ks.all (·.isSome) = true) (hlen : ks.length = us.length) (h0 : (pairTrees ks us env dp).length ≤ 15) (hn : pairTrees ks us env dp ≠ [])
    (ha : RT p w n₀ ann q c 1 (alloc { cls := .type "dict", data := .dict #[] }) s s1 d) (he : RT p w n₀ ann q c e1 (evalPairs (pairTrees ks us env dp)) s1 s2 vs) (hc : Puts p w n₀ ann q c d m s2 vs s3)
    (hb : RTP p w n₀ ann q c e2 (do standAt px; bindName env x (.ref d); pure Flow.next) s3 s4 .next p') :
    RTP p w n₀ ann q c (1 + ((1 + ((1 + ((e1 + (m + 0)) + 0)) + 0)) + e2)) (exec (.Assign [.Name x px] (.Dict ks us dp) pos) env) s s4 .next p' := by
  rw [exec_Assign_Name env x px _ pos rfl]
  have at_ : ∀ (ps : Pos) (z : Shared), RT p w n₀ ann q c 1 (standAt ps) z z () := fun ps z K H gd lv pos => ⟨_, 1, Nat.le_refl _, rfl⟩
  refine RT.bindP (at_ pos s) (RT.bindP (RT.bind (at_ dp s) ?_) hb)
  rw [zip_pairTrees ks us env dp hall hlen, dictDisplay_pairs _ hn (by omega)]
  exact RT.bind (rt_sub h0 ha he hc) RT.pure
end
abbrev rw : String := "special-get-raises"
theorem byRow {P : World → Prop} (h : ∀ (w : World) (b : Bool), P (w.withFollow rw b)) (w : World) : P w := byRow2 rw (fun w => h w false) (fun w => h w true) w
theorem ne_of_len {α : Type} {l : List α} (h : l.isEmpty = false) : l ≠ [] := fun z => by subst z; cases h
abbrev stt (H : Params → Heap) (d : Drawn) (k : Nat) (w : World) (os : OsState) : Shared := ⟨H w.params, #[], d, k, os⟩
end Hd

set_option maxHeartbeats 4000000
namespace L2
open PySem PySem.Spec PyProof.Rows PySem.SeqAt
section
variable {X : Cx}
/-! ### two lists of ints, alike or not -/
def rEqI (K : PySem.W.Frag) : R2 := fun x y H Q => ∃ (a c : Addr) (xs ys : List Int), x = .ref a ∧ y = .ref c ∧ SqL K H a (xs.map V.int) ∧ SqL K H c (ys.map V.int) ∧ Q (.bl (decide (xs = ys))) H
end
end L2

set_option maxHeartbeats 4000000
namespace L2
open PySem PySem.Spec PyProof.Rows
/-! ### d.items(): walked by a for, by a comprehension; the dict is frozen meanwhile -/
section
variable {X : Cx} {pins : List (Addr × Obj)} {σ : St} {H : Hp} {s : Shared}
/-- a tracked thing is spoken of in another way -/
theorem Inv.recast {a : Addr} {u u' : HO} (I : Inv X pins σ H s) (e : H a = some u) (h1 : ∀ y, u ≠ .own y) (h2 : ∀ xs, u ≠ .tup xs) (h3 : ∀ ps, u ≠ .tbl ps) (h4 : ∀ o v, X.H₀ a ≠ some (.frz o v)) (new : ObjOk X.prog X.w (upd H a u') s.heap a u') : Inv X pins σ (upd H a u') s := by
  refine ⟨I.ok, I.os, I.bare, ⟨I.base.keep, I.base.slot, fun b ob eb n hx => ?_, I.base.there, fun b xs q => ?_, fun b ob v q => ?_, fun b ps q => ?_⟩, I.loc, I.cell, ?_, fun x c ec => ?_, fun p hp => ?_, fun b v eb => ?_, I.len⟩
  · have := I.base.free b ob eb n hx
    rw [upd_ne (fun z => by rw [z, e] at this; cases this)]; exact this
  · have := I.base.tups b xs q
    rw [upd_ne (fun z => by rw [z, e] at this; exact h2 _ (Option.some.inj this))]; exact this
  · have := I.base.frzs b ob v q
    rw [upd_ne (fun z => by rw [z] at q; exact h4 ob v q)]; exact this
  · obtain ⟨m, this⟩ := I.base.tbls b ps q
    exact ⟨m, by rw [upd_ne (fun z => by rw [z, e] at this; exact h3 _ (Option.some.inj this))]; exact this⟩
  · have := I.free
    rw [upd_ne (fun z => by rw [z, e] at this; cases this)]; exact this
  · have := I.freeC x c ec
    rw [upd_ne (fun z => by rw [z, e] at this; cases this)]; exact this
  · obtain ⟨q1, q2, q3⟩ := I.pin p hp
    exact ⟨q1, by rw [upd_ne (fun z => by rw [z, e] at q2; cases q2)]; exact q2, q3⟩
  · by_cases hb : b = a
    · subst hb; rw [upd_same] at eb; cases eb; exact new
    · rw [upd_ne hb] at eb
      refine (I.hok b v eb).stay (fun _ _ _ q => q) (fun c q => ?_) fun c xs q => ?_
      · rw [upd_ne (fun z => by rw [z, e] at q; exact h1 _ (Option.some.inj q))]; exact q
      · rw [upd_ne (fun z => by rw [z, e] at q; exact h2 _ (Option.some.inj q))]; exact q
theorem Inv.thaw {a : Addr} {o : Obj} {kvs : List (Key × V)} (I : Inv X pins σ H s) (e : H a = some (.frz o (.dK kvs))) (h : ∀ o v, X.H₀ a ≠ some (.frz o v)) : Inv X pins σ (upd H a (.dK kvs)) s :=
  I.recast e (fun _ z => nomatch z) (fun _ z => nomatch z) (fun _ z => nomatch z) h (I.hok a _ e).2
theorem Inv.freeze {a : Addr} {o : Obj} {kvs : List (Key × V)} (I : Inv X pins σ H s) (e : H a = some (.dK kvs)) (ho : s.heap.get? a = some o) : Inv X pins σ (upd H a (.frz o (.dK kvs))) s :=
  I.recast e (fun _ z => nomatch z) (fun _ z => nomatch z) (fun _ z => nomatch z) (fun o v z => by rw [I.base.frzs a o v z] at e; cases e) ⟨ho, I.hok a _ e⟩
end
/-- the items of the dict at d, whose object is o -/
def Itv (d : Addr) (o : Obj) (kvs : List (Key × V)) : It :=
  ⟨fun i H => H d = some (.frz o (.dK kvs)) ∧ ∃ kv, kvs[i]? = some kv,
   fun i H x H' => ∃ kv t, kvs[i]? = some kv ∧ x = .ref t ∧ H t = none ∧ H' = upd H t (.tup [kV kv.1, kv.2]),
   fun i H => H d = some (.frz o (.dK kvs)) ∧ kvs.length ≤ i⟩
theorem kvAt : ∀ {kvs : List (Key × V)} {vs : List (Key × Value)}, KV kvs vs → ∀ {i : Nat} {kv : Key × V}, kvs[i]? = some kv → ∃ u, vs[i]? = some (kv.1, u) ∧ RelV kv.2 u := by
  intro kvs vs r
  unfold KV at r
  induction r with
  | nil => intro i kv h; simp at h
  | @cons p q ps qs h0 _ ih =>
    intro i kv h
    cases i with
    | zero =>
      have e : p = kv := by simpa using h
      subst e
      exact ⟨q.2, by rw [h0.1]; rfl, h0.2⟩
    | succ i => exact ih (by simpa using h)
theorem itemiter_entry : entryFor table "dict_itemiterator.__iter__" = some Builtin.«dict_keyiterator.__iter__» := entryFor_alias (id' := "dict_keyiterator.__iter__") (by kernel_rfl) rfl (by decide +kernel) (by kernel_rfl)
theorem turn_items {P : Program} {w : World} {K : PySem.W.Frag} {es : List Expr} {k : Nat} {tp : Pos} (d it : Addr) (o : Obj) (kvs : List (Key × V)) (ep : Nat) (he : ∃ dt, o.data = .dict dt ep) :
    Turn P w K (.Tuple es k tp) (Itv d o kvs) [it] it (fun i h => ∃ a b, IsItemIter h it d i kvs.length ep a b) where
  mem := by simp
  obj := fun i h st b hb => by
    obtain ⟨a, c, e⟩ := st
    have : b = it := by simpa using hb
    subst this
    exact ⟨_, e, fun v z => by
      have z' : Data.fields _ = Data.cell v := z
      cases z'⟩
  keep := fun i h h' st kp => by
    obtain ⟨a, c, e⟩ := st
    exact ⟨a, c, kp it (by simp) _ e⟩
  item := by
    intro X hP hw hK hc i pins s σ H E I hf st hg
    subst hP hw hK
    obtain ⟨hd, kv, hkv⟩ := hg
    obtain ⟨a, c, hit⟩ := st
    obtain ⟨ho, z, hsm, vs, rel, dd⟩ := (show ObjOk X.prog X.w H s.heap d (.frz o (.dK kvs)) from I.hok d _ hd)
    obtain ⟨ep', da⟩ := dd.dictAt
    obtain ⟨dt, hdt⟩ := he
    have eep : ep' = ep := by
      obtain ⟨o', es', q1, q2, q3, _⟩ := da
      rw [ho] at q1
      cases q1
      rw [hdt] at q3
      cases q3
      rfl
    subst eep
    have hl := rel.length
    obtain ⟨u, hu, ru⟩ := kvAt rel hkv
    rw [hl] at hit
    refine wpAny_pyNext_items_item hit da hu fun key h' hkey hout htup hsz kk => ?_
    refine ⟨_, rfl, wpAny_letOwnedTupleGo_items hout fun h'' hit'' hs'' => ?_⟩
    have fit := hf it (by simp)
    have hTn : H s.heap.objs.size = none := I.hok.fresh (Nat.le_refl _)
    have hne : it ≠ s.heap.objs.size := Nat.ne_of_lt (Heap.lt_size hit)
    have I1 : Inv X pins σ (upd H s.heap.objs.size (.tup [kV kv.1, kv.2])) { s with heap := h'', toks := s.toks } := by
      refine I.pairLaid (wr := [it]) (vals := [key, u]) (fun b hb => by rw [List.mem_singleton.mp hb]; exact fit) (Nat.le_refl _) ?_ (.cons (kV_of hkey) (.cons ru .nil)) (by show 2 ≤ sizeLine; decide) (fun b ob hb e => ?_) fun b hb => ?_
      · exact ⟨_, (hs''.2 _ (Ne.symm hne)).trans htup, rfl, _, rfl⟩
      · have hb' : b ≠ it := fun z => hb (by simp [z])
        exact (hs''.2 b hb').trans (kk b ob hb' e)
      · rw [List.mem_singleton.mp hb]; exact ⟨_, hit''⟩
    refine ⟨.ref s.heap.objs.size, _, I1, rfl, ⟨kv, _, hkv, rfl, hTn, rfl⟩, ⟨key, u, by rw [hl]; exact hit''⟩, fun b hb => ?_⟩
    rw [List.mem_singleton.mp hb, upd_ne hne]
    exact fit.1
  done := by
    intro X hP hw hK hc i pins s σ H E I hf st hg
    subst hP hw hK
    obtain ⟨hd, hi⟩ := hg
    obtain ⟨a, c, hit⟩ := st
    obtain ⟨ho, z, hsm, vs, rel, dd⟩ := (show ObjOk X.prog X.w H s.heap d (.frz o (.dK kvs)) from I.hok d _ hd)
    obtain ⟨ep', da⟩ := dd.dictAt
    obtain ⟨dt, hdt⟩ := he
    have eep : ep' = ep := by
      obtain ⟨o', es', q1, q2, q3, _⟩ := da
      rw [ho] at q1
      cases q1
      rw [hdt] at q3
      cases q3
      rfl
    subst eep
    have hl := rel.length
    rw [hl] at hit hi
    refine wpAny_pyNext_items_end (I.ok.hd hc) hit da (List.getElem?_eq_none hi) fun h' hx' => ?_
    exact ⟨rfl, I.turnedMany (tk := s.toks) hf fun b ob hb q => hx' b ob (fun z => hb (by simp [z])) q⟩
  self := fun A i s Q E st h => by
    obtain ⟨a, c, hit⟩ := st
    refine wpAny_pyIter_slot ⟨_, hit, rfl⟩ PySem.F.slot_dict_itemiterator_iter (wpAny_call_entry PySem.F.slot_dict_itemiterator_iter ⟨_, hit, rfl⟩ itemiter_entry ?_ (PySem.F.args_dict_itemiterator_iter_1 _))
    show wpAny _ _ (ret (.ref it)) _ _ s
    exact wpAny_pure ⟨_, rfl, "dict_itemiterator", _, ⟨_, hit, rfl⟩, PySem.F.slot_dict_itemiterator_next.lookup, h⟩
section
variable {X : Cx}
inductive iItemsI (R : (It → Hp → Prop)) (x : V) (H1 : Hp) : Prop
  | mk (d : _) (kvs : _) (h0_ : x = .ref d) (h1_ : H1 d = some (.dK kvs)) (h2_ : ∀ o, R (Itv d o kvs) (upd H1 d (.frz o (.dK kvs)))) : iItemsI R x H1
def iItems (td : TE) : TI := fun σ H R => td σ H fun x H1 => iItemsI R x H1
theorem pi_items {o : Expr} {td : TE} {apos cpos tp : Pos} {es : List Expr} {k : Nat} (ho : PE X o td) (hbase : attributeBase o "items" X.env (eval o X.env) = eval o X.env := by rfl) (hline : (apos.endLine == cpos.line) = true := by rfl) :
    PI X (.Tuple es k tp) (.Call (.Attribute o "items" apos) [] [] cpos) (iItems td) := by
  intro pins s σ H R I h
  refine wpAny_Call_method0_late hbase hline (thn (ho pins s σ H _ I h) fun v s1 ⟨x, H1, I1, r1, d, kvs, ex, hd, q⟩ => ?_)
  subst ex
  cases r1
  obtain ⟨z, hsm, vs, rel, dd⟩ := dk_of I1.hok hd
  refine ⟨"dict", "dict.items", PySem.F.plainAttrs_dict, PySem.F.slot_dict_items, PySem.F.type_dict_items, dd.typeIs, dd.mapOf.noDict, Calls.callWith_builtin rfl (PySem.evalArgs_none ?_)⟩
  refine call_meetsIn PySem.F.slot_dict_items dd.typeIs PySem.F.entry_dict_items (PySem.F.args_dict_items_1 _) (meets_dict_items (mixKind X.prog X.w) d hsm) ⟨⟨vs, dd⟩, ?_⟩
  obtain ⟨ep, da⟩ := dd.dictAt
  have up : ∀ (p : Obj) b ob, s1.heap.get? b = some ob → (s1.heap.push p).get? b = some ob := fun p b ob e => Heap.get?_push_of_some _ e
  refine wpAny_pyIter_items (v := s1.heap.objs.size) (d := d) ⟨_, Heap.get?_push_size _ rfl, rfl, rfl⟩ (da.at' fun ob e => up _ _ _ e) ?_
  obtain ⟨od, des, hod, hc, hdt, _⟩ := id da
  have I2 : Inv X pins σ H1 { s1 with heap := (s1.heap.push { cls := .type "dict_items", data := .fields #[.ref d] }).push { cls := .type "dict_itemiterator", data := .fields #[.none, .bool false, .ref d, .int 0 0, .int vs.length 0, .int ep 0, .none, .none] } } :=
    I1.kept (t' := s1.toks) fun b ob e => Heap.get?_push_of_some _ (Heap.get?_push_of_some _ e)
  have I3 := I2.freeze hd (Heap.get?_push_of_some _ (Heap.get?_push_of_some _ hod))
  have hsz : (s1.heap.push { cls := .type "dict_items", data := .fields #[.ref d] }).objs.size = s1.heap.objs.size + 1 := Heap.size_push ..
  refine ⟨_, [(s1.heap.push { cls := .type "dict_items", data := .fields #[.ref d] }).objs.size], _, _, _, rfl, I3, turn_items d _ od kvs ep ⟨des, hdt⟩, ⟨.none, .none, ?_⟩, fun b hb => ?_, q od⟩
  · rw [rel.length]
    exact Heap.get?_push_size _ rfl
  · have e : b = (s1.heap.push { cls := .type "dict_items", data := .fields #[.ref d] }).objs.size := by simpa using hb
    subst e
    have hb1 : s1.heap.objs.size ≤ (s1.heap.push { cls := .type "dict_items", data := .fields #[.ref d] }).objs.size := by rw [hsz]; exact Nat.le_succ _
    have hn := I1.hok.fresh hb1
    exact I1.fpOk hb1 (by rw [upd_ne (fun z => by rw [z, hd] at hn; cases hn)]; exact hn)
/-- behind the walk the dict is itself again -/
def thawn (X : Cx) (R : Hp → Prop) (H : Hp) : Prop := ∃ d o kvs, H d = some (.frz o (.dK kvs)) ∧ (∀ o v, X.H₀ d ≠ some (.frz o v)) ∧ R (upd H d (.dK kvs))
def tThawE (X : Cx) (te : TE) : TE := fun σ H Q => te σ H fun v H1 => thawn X (Q v) H1
theorem pe_thaw {e : Expr} {te : TE} (h : PE X e te) : PE X e (tThawE X te) := by
  intro pins s σ H Q I q
  refine thn (h pins s σ H _ I q) fun u s1 ⟨v, H1, I1, r, d, o, kvs, e1, e2, z⟩ => ?_
  exact ⟨v, _, I1.thaw e1 e2, r, z⟩
def Ends.thaw (X : Cx) (D : Ends) : Ends := { nx := fun σ => thawn X (D.nx σ), rt := fun v => thawn X (D.rt v), bk := fun σ => thawn X (D.bk σ), ct := fun σ => thawn X (D.ct σ) }
def tThaw (X : Cx) (t : TS) : TS := fun D σ H => t (D.thaw X) σ H
theorem ps_thaw {st : Stmt} {t : TS} (h : PS X st t) : PS X st (tThaw X t) := by
  intro pins s σ H D I q
  refine wpAny_mono (h pins s σ H _ I q) (fun f s1 z => ?_) fun _ _ z => z
  cases f with
  | next => obtain ⟨σ1, H1, I1, d, o, kvs, e1, e2, w⟩ := z; exact ⟨σ1, _, I1.thaw e1 e2, w⟩
  | brk => obtain ⟨σ1, H1, I1, d, o, kvs, e1, e2, w⟩ := z; exact ⟨σ1, _, I1.thaw e1 e2, w⟩
  | cont => obtain ⟨σ1, H1, I1, d, o, kvs, e1, e2, w⟩ := z; exact ⟨σ1, _, I1.thaw e1 e2, w⟩
  | ret u => obtain ⟨v, σ1, H1, I1, r, d, o, kvs, e1, e2, w⟩ := z; exact ⟨v, σ1, _, I1.thaw e1 e2, r, w⟩
end
theorem for_items {d : Addr} {o : Obj} {kvs : List (Key × V)} {g : TG} {tb : TS} {D : Ends} {σ : St} {H : Hp} (Pv : Nat → St → Hp → Prop) (h0 : Pv 0 σ H) (hl : ∀ i σ H, Pv i σ H → H d = some (.frz o (.dK kvs)))
    (hs : ∀ i kv t σ H, kvs[i]? = some kv → Pv i σ H → H t = none → g (.ref t) σ (upd H t (.tup [kV kv.1, kv.2])) fun σ2 H2 => tb { D with nx := Pv (i + 1), ct := Pv (i + 1), bk := D.nx } σ2 H2) (hd : ∀ σ H, Pv kvs.length σ H → D.nx σ H) :
    ∃ W : Nat → Nat → St → Hp → Prop, (∃ m, W 0 m σ H) ∧ ∀ i m σ H, W i m σ H →
      ((Itv d o kvs).stop i H ∧ D.nx σ H) ∨ ((Itv d o kvs).go i H ∧ ∃ N : St → Hp → Prop, (∀ σ' H', N σ' H' → ∃ m', m' < m ∧ W (i + 1) m' σ' H') ∧ ∀ x H', (Itv d o kvs).yld i H x H' → g x σ H' fun σ2 H2 => tb { D with nx := N, ct := N, bk := D.nx } σ2 H2) := by
  refine ⟨fun i m σ H => m = kvs.length - i ∧ i ≤ kvs.length ∧ Pv i σ H, ⟨kvs.length, by simp, Nat.zero_le _, h0⟩, ?_⟩
  rintro i m σ H ⟨rfl, hi, p⟩
  have q := hl i σ H p
  rcases Nat.lt_or_ge i kvs.length with hlt | hge
  · refine .inr ⟨⟨q, kvs[i], List.getElem?_eq_getElem hlt⟩, Pv (i + 1), fun σ' H' p' => ⟨_, Nat.sub_lt_sub_left hlt (Nat.lt_succ_self i), rfl, hlt, p'⟩, fun x H' y => ?_⟩
    obtain ⟨kv, t, e1, rfl, hn, rfl⟩ := y
    exact hs i kv t σ H e1 p hn
  · obtain rfl : i = kvs.length := Nat.le_antisymm hi hge
    exact .inl ⟨⟨q, hge⟩, hd σ H p⟩
theorem comp_items {d : Addr} {o : Obj} {kvs : List (Key × V)} {g : TG} {tc : TT} {te : TE} {D : Addr} {R : Hp → Prop} {σ : St} {H : Hp} (Pv : Nat → List V → St → Hp → Prop) (h0 : Pv 0 [] σ H) (hl : ∀ i ys σ H, Pv i ys σ H → H d = some (.frz o (.dK kvs)))
    (hs : ∀ i ys kv t σ H, kvs[i]? = some kv → Pv i ys σ H → H t = none → ∀ N : List V → St → Hp → Prop, (∀ ys σ H, Pv (i + 1) ys σ H → N ys σ H) → CompT g tc te D ys (.ref t) σ (upd H t (.tup [kV kv.1, kv.2])) N) (hd : ∀ ys σ H, Pv kvs.length ys σ H → R H) : CompW (Itv d o kvs) g tc te D R σ H := by
  refine ⟨fun i m ys σ H => m = kvs.length - i ∧ i ≤ kvs.length ∧ Pv i ys σ H, ⟨kvs.length, by simp, Nat.zero_le _, h0⟩, ?_⟩
  rintro i m ys σ H ⟨rfl, hi, p⟩
  have q := hl i ys σ H p
  rcases Nat.lt_or_ge i kvs.length with hlt | hge
  · refine .inr ⟨⟨q, kvs[i], List.getElem?_eq_getElem hlt⟩, fun x H' y => ?_⟩
    obtain ⟨kv, t, e1, rfl, hn, rfl⟩ := y
    exact hs i ys kv t σ H e1 p hn (fun ys' σ' H' => ∃ m', m' < kvs.length - i ∧ m' = kvs.length - (i + 1) ∧ i + 1 ≤ kvs.length ∧ Pv (i + 1) ys' σ' H') fun ys' σ' H' z => ⟨_, Nat.sub_lt_sub_left hlt (Nat.lt_succ_self i), rfl, hlt, z⟩
  · obtain rfl : i = kvs.length := Nat.le_antisymm hi hge
    exact .inl ⟨⟨q, hge⟩, hd ys σ H p⟩
theorem comp_tup {K : PySem.W.Frag} {a : Addr} {xs : List V} {g : TG} {tc : TT} {te : TE} {D : Addr} {R : Hp → Prop} {σ : St} {H : Hp} (Pv : Nat → List V → St → Hp → Prop) (h0 : Pv 0 [] σ H) (hl : ∀ i ys σ H, Pv i ys σ H → SqT K H a xs)
    (hs : ∀ i ys x σ H, xs[i]? = some x → Pv i ys σ H → ∀ N : List V → St → Hp → Prop, (∀ ys σ H, Pv (i + 1) ys σ H → N ys σ H) → CompT g tc te D ys x σ H N) (hd : ∀ ys σ H, Pv xs.length ys σ H → R H) : CompW (Itt K a) g tc te D R σ H := by
  refine ⟨fun i m ys σ H => m = xs.length - i ∧ i ≤ xs.length ∧ Pv i ys σ H, ⟨xs.length, by simp, Nat.zero_le _, h0⟩, ?_⟩
  rintro i m ys σ H ⟨rfl, hi, p⟩
  have q := hl i ys σ H p
  rcases Nat.lt_or_ge i xs.length with hlt | hge
  · refine .inr ⟨⟨xs, xs[i], q, List.getElem?_eq_getElem hlt⟩, fun x H' y => ?_⟩
    obtain ⟨rfl, e1⟩ := y
    exact hs i ys x σ _ (e1 xs q) p (fun ys' σ' H' => ∃ m', m' < xs.length - i ∧ m' = xs.length - (i + 1) ∧ i + 1 ≤ xs.length ∧ Pv (i + 1) ys' σ' H') fun ys' σ' H' z => ⟨_, Nat.sub_lt_sub_left hlt (Nat.lt_succ_self i), rfl, hlt, z⟩
  · obtain rfl : i = xs.length := Nat.le_antisymm hi hge
    exact .inl ⟨⟨xs, q, hge⟩, hd ys σ H p⟩
/-- written ints ahead of other items -/
theorem pa_ci {X : Cx} {es : List Expr} {t : TA} (h : PA X es t) : ∀ cs : List (Int × Pos), PA X ((cs.map fun c => Expr.Constant (.int c.1) 0 c.2) ++ es) (fun σ H Q => t σ H fun vs H' => Q ((cs.map fun c => V.int c.1) ++ vs) H')
  | [] => h
  | c :: cs => pa_cons pe_int (pa_ci h cs)
/-- the k-th statement of a for's body turned -/
def setIn (s : Stmt) (k : Nat) (f : Stmt → Stmt) : Stmt := match s with
  | .For t i b o p => .For t i (b.take k ++ f (b.getD k (.Pass ⟨0, 0, 0, 0⟩)) :: b.drop (k + 1)) o p
  | s => s
/-- an item of a display, whose first n items are written as v -/
def setSubL (v : List Expr) (n : Nat) (s : Stmt) : Stmt := match s with
  | .Assign ts (.Subscript (.List es lp) i sp) ap => .Assign ts (.Subscript (.List (v ++ es.drop n) lp) i sp) ap
  | s => s
end L2

set_option maxHeartbeats 1000000
namespace Mine
open PySem L2
/-! ### the nine kinds -/
inductive Kd where
  | G | D | R | s | d | r | dot | three | two
  deriving DecidableEq, Repr
def Kd.str : Kd → Str
  | .G => "G" | .D => "D" | .R => "R" | .s => "s" | .d => "d" | .r => "r" | .dot => "." | .three => "3" | .two => "2"
def Kd.cp : Kd → Nat
  | .G => 71 | .D => 68 | .R => 82 | .s => 115 | .d => 100 | .r => 114 | .dot => 46 | .three => 51 | .two => 50
def Kd.great : Kd → Bool
  | .G => true | .D => true | .R => true | _ => false
def Kd.small : Kd → Bool
  | .s => true | .d => true | .r => true | _ => false
def Kd.parting : Kd → Bool
  | .dot => true | .three => true | .two => true | _ => false
def Kd.meas : Kd → Bool
  | .three => true | .two => true | _ => false
def Kd.sounds : Kd → Bool
  | .G => true | .D => true | .s => true | .d => true | _ => false
/-- a kind that may be lacking -/
def okstr : Option Kd → Str
  | some k => k.str
  | none => ""
abbrev Sg := Kd × Int
def inS (x y : Str) : Bool := !(Builtin.Str.occurrences y x 0 y.length 1).isEmpty
theorem str_inj {a b : Kd} : a.str = b.str ↔ a = b := by
  constructor
  · revert a b
    have : ∀ a b : Kd, a.str = b.str → a = b := by
      intro a b
      cases a <;> cases b <;> first | (intro _; rfl) | (intro h; exact absurd h (by decide +kernel))
    exact fun {a b} => this a b
  · exact fun h => by rw [h]
theorem decV (a b : Str) : decide (V.str a = V.str b) = decide (a = b) := by
  by_cases h : a = b
  · rw [h]; simp
  · rw [decide_eq_false h]; exact decide_eq_false fun e => h (V.str.inj e)
theorem decK (a b : Kd) : decide (V.str a.str = V.str b.str) = decide (a = b) := by
  rw [decV]; exact decide_eq_decide.mpr str_inj
theorem k_dot (k : Kd) : decide (V.str k.str = V.str ".") = decide (k = .dot) := decK k .dot
/-! ### signs and lines in the heap -/
def SgAt (H : Hp) (v : V) (s : Sg) : Prop := ∃ p, v = .ref p ∧ H p = some (.tup [.str s.1.str, .int s.2])
abbrev Sgs (H : Hp) : List V → List Sg → Prop := Paired (SgAt H)
theorem pget {α β : Type} {F : α → β → Prop} : ∀ {xs : List α} {ys : List β} {i : Nat} {x : α}, Paired F xs ys → xs[i]? = some x → ∃ y, ys[i]? = some y ∧ F x y
  | _, _, _, _, .nil, e => by simp at e
  | _, _, 0, _, .cons r _, e => by simp at e; subst e; exact ⟨_, rfl, r⟩
  | _, _, i + 1, x, .cons _ t, e => by
    obtain ⟨u, h1, h2⟩ := pget (i := i) (x := x) t (by simpa using e)
    exact ⟨u, by simpa using h1, h2⟩
theorem plen {α β : Type} {F : α → β → Prop} {xs : List α} {ys : List β} (h : Paired F xs ys) : xs.length = ys.length := Paired.length h
theorem psnoc {α β : Type} {F : α → β → Prop} : ∀ {xs : List α} {ys : List β} {x : α} {y : β}, Paired F xs ys → F x y → Paired F (xs ++ [x]) (ys ++ [y])
  | _, _, _, _, .nil, h => .cons h .nil
  | _, _, _, _, .cons a b, h => .cons a (psnoc b h)
theorem papp {α β : Type} {F : α → β → Prop} : ∀ {xs : List α} {ys : List β} {xs' : List α} {ys' : List β}, Paired F xs ys → Paired F xs' ys' → Paired F (xs ++ xs') (ys ++ ys')
  | _, _, _, _, .nil, h => h
  | _, _, _, _, .cons a b, h => .cons a (papp b h)
theorem pdrop {α β : Type} {F : α → β → Prop} : ∀ {xs : List α} {ys : List β} (n : Nat), Paired F xs ys → Paired F (xs.drop n) (ys.drop n)
  | _, _, 0, h => h
  | _, _, n + 1, .nil => .nil
  | _, _, n + 1, .cons a b => pdrop n b
theorem ptake {α β : Type} {F : α → β → Prop} : ∀ {xs : List α} {ys : List β} (n : Nat), Paired F xs ys → Paired F (xs.take n) (ys.take n)
  | _, _, 0, h => .nil
  | _, _, n + 1, .nil => .nil
  | _, _, n + 1, .cons a b => .cons a (ptake n b)
theorem pmono {α β : Type} {F G : α → β → Prop} (h : ∀ x y, F x y → G x y) : ∀ {xs : List α} {ys : List β}, Paired F xs ys → Paired G xs ys
  | _, _, .nil => .nil
  | _, _, .cons a b => .cons (h _ _ a) (pmono h b)
/-- an own list is written: what was tracked ahead of it stays -/
theorem sameOwn {H0 H : Hp} {l : Addr} {o : HO} (s : Same H0 H) (hl : H0 l = none) : Same H0 (upd H l o) := fun b u e => by
  rw [upd_ne (ne_of_none e hl)]
  exact s b u e
section
variable {K : PySem.W.Frag} {H : Hp} {p : Addr} {Q : VK}
/-- an item of a pair -/
theorem ix0 {a b : V} (h : H p = some (.tup [a, b])) (q : Q a H) : rIxL K (.ref p) (.int 0) H Q ∨ rIxT K (.ref p) (.int 0) H Q ∨ rIxS (.ref p) (.int 0) H Q := .inr (.inl ⟨p, _, 0, a, rfl, rfl, SqT.of h, rfl, q⟩)
/-- an item of a list, by its place -/
theorem ixL {xs : List V} {i : Int} {n : Nat} {v : V} (h : SqL K H p xs) (hn : i = n) (e : xs[n]? = some v) (q : Q v H) : rIxL K (.ref p) (.int i) H Q ∨ rIxT K (.ref p) (.int i) H Q ∨ rIxS (.ref p) (.int i) H Q := .inl ⟨p, xs, i, v, rfl, rfl, h, by rw [hn]; exact atI_nat e, q⟩
end
end Mine

set_option maxHeartbeats 1000000
namespace Mine
open PySem L2
/-! ### the reading of a line, as functions of its kinds -/
def nm (m : Int) : Kd → Int
  | .three => 3
  | .two => 2
  | _ => m
def Ms (m : Int) : Prop := m = 3 ∨ m = 2
def measL (m : Int) : List Kd → List Int
  | [] => []
  | k :: t => nm m k :: measL (nm m k) t
def pw : Kd → Int → Int
  | .G, m => if m = 2 then 2 else 3
  | .R, m => if m = 2 then 2 else 3
  | .D, _ => 2
  | .s, _ => 1
  | .d, _ => 1
  | .r, _ => 1
  | _, _ => 0
def bw (m : Int) (k : Kd) (n : Option Kd) : Int := if m = 2 ∧ k = .G ∧ n = some .dot then 3 else pw k m
def baseL (m : Int) : List Kd → List Int
  | [] => []
  | k :: t => bw (nm m k) k t.head? :: baseL (nm m k) t
def baseOn : List Kd → List Int → List Int
  | k :: t, m :: ms => bw m k t.head? :: baseOn t ms
  | _, _ => []
def inR (m : Int) (k : Kd) : Bool := decide (m ≠ 2) && k.small
def insL (m : Int) : List Kd → List Bool
  | [] => []
  | k :: t => inR (nm m k) k :: insL (nm m k) t
def insOn : List Kd → List Int → List Bool
  | k :: t, m :: ms => inR m k :: insOn t ms
  | _, _ => []
/-- the runs of a row of marks, from a place on, a run begun at `first` -/
def runsF (at' first : Nat) : List Bool → List (Nat × Nat)
  | [] => if first < at' then [(first, at')] else []
  | true :: t => runsF (at' + 1) first t
  | false :: t => (if first < at' then [(first, at')] else []) ++ runsF (at' + 1) (at' + 1) t
def runsL (m : Int) (ks : List Kd) : List (Nat × Nat) := runsF 0 0 (insL m ks)
def kAt (ks : List Kd) (i : Int) : Option Kd := if 0 ≤ i then ks[i.toNat]? else none
def greatO : Option Kd → Bool
  | some k => k.great
  | none => false
def leftN (ks : List Kd) (f : List Int) (a : Nat) : Bool := decide (kAt ks ((a : Int) - 1) = some .G) && decide (f.getD (a - 1) 0 = 3)
def rightN (ks : List Kd) (z : Nat) : Bool := decide (ks[z]? = some .G) && !greatO ks[z + 1]?
def settle1 (ks : List Kd) (f : List Int) (a z : Nat) : Bool × List Int := if leftN ks f a then (true, f.set (a - 1) 2) else if rightN ks z then (true, f.set z 2) else (false, f)
def settle2 (ks : List Kd) (f : List Int) (a z : Nat) : Bool × List Int := if greatO ks[z]? && decide (ks[z - 1]? = some .s) then (true, f.set (z - 1) 2) else if leftN ks f a && rightN ks z then (true, (f.set (a - 1) 2).set z 2) else (false, f)
def settle (ks : List Kd) (f : List Int) (a z : Nat) : Bool × List Int := if (z - a) % 3 = 1 then settle1 ks f a z else if (z - a) % 3 = 2 then settle2 ks f a z else (true, f)
abbrev RdS := List Int × List (Nat × Nat)
def rdStep (ks : List Kd) (c : RdS) (p : Nat × Nat) : RdS := ((settle ks c.1 p.1 p.2).2, if (settle ks c.1 p.1 p.2).1 then c.2 else c.2 ++ [p])
def readL (m : Int) (ks : List Kd) : RdS := (runsL m ks).foldl (rdStep ks) (baseL m ks, [])
/-- pairs of places in the heap -/
def PrAt (H : Hp) (v : V) (q : Nat × Nat) : Prop := ∃ p, v = .ref p ∧ H p = some (.tup [.int (q.1 : Int), .int (q.2 : Int)])
abbrev Prs (H : Hp) : List V → List (Nat × Nat) → Prop := Paired (PrAt H)
abbrev kds (ss : List Sg) : List Kd := ss.map Prod.fst
theorem big {n : Nat} (h : n ≤ 1000) : n ≤ sizeLine := Nat.le_of_lt (small1000 h)
def threeL (m : Int) : List Kd → List Bool
  | [] => []
  | k :: t => decide (nm m k = 3) :: threeL (nm m k) t
/-- how many marks stand at the head -/
def lead : List Bool → Nat
  | true :: t => lead t + 1
  | _ => 0
end Mine

set_option maxHeartbeats 1000000
namespace Mine
open PySem L2
/-! ### what the laws have in common -/
theorem cutTo (xs : List V) (n : Nat) : cutV xs none (some (n : Int)) = xs.take n := by
  unfold cutV
  have e : HT.sIx xs.length xs.length (some (n : Int)) = min n xs.length := HT.sIx_nat xs.length xs.length n
  rw [HT.sIx_none, e, Nat.sub_zero, List.drop_zero]
  rcases Nat.le_total n xs.length with h | h
  · rw [Nat.min_eq_left h]
  · rw [Nat.min_eq_right h, List.take_length, List.take_of_length_le h]
theorem cutFrom (xs : List V) (n : Nat) (h : n ≤ xs.length) : cutV xs (some (n : Int)) none = xs.drop n := by
  unfold cutV
  have e : HT.sIx xs.length 0 (some (n : Int)) = min n xs.length := HT.sIx_nat xs.length 0 n
  rw [HT.sIx_none, e, Nat.min_eq_left h]
  exact List.take_of_length_le (by rw [List.length_drop]; omega)
/-- pairs of whole numbers in the heap -/
def PrI (H : Hp) (v : V) (q : Int × Int) : Prop := ∃ p, v = .ref p ∧ H p = some (.tup [.int q.1, .int q.2])
abbrev PrsI (H : Hp) : List V → List (Int × Int) → Prop := Paired (PrI H)
theorem prsISame {H H' : Hp} (e : Same H H') {xs : List V} {qs : List (Int × Int)} (h : PrsI H xs qs) : PrsI H' xs qs := pmono (fun _ _ ⟨p, a, z⟩ => ⟨p, a, e _ _ z⟩) h
theorem prIUpd {H : Hp} {D : Addr} {o : HO} {zs : List V} {v : V} {q : Int × Int} (hD : H D = some (.lst zs)) (h : PrI H v q) : PrI (upd H D o) v q := by
  obtain ⟨p, e, z⟩ := h
  exact ⟨p, e, by rw [upd_ne (ne_of z hD (by intro z; cases z))]; exact z⟩
theorem prsIUpd {H : Hp} {D : Addr} {o : HO} {zs : List V} {xs : List V} {qs : List (Int × Int)} (hD : H D = some (.lst zs)) (h : PrsI H xs qs) : PrsI (upd H D o) xs qs := pmono (fun _ _ q => prIUpd hD q) h
/-- a law's line stands in the heap, new -/
structure LineAt (H0 H : Hp) (l : Addr) (xs : List V) (ss : List Sg) : Prop where
  same : Same H0 H
  new : H0 l = none
  at' : H l = some (.lst xs)
  sg : Sgs H xs ss
def sp_law (K : PySem.W.Frag) : Sp := fun vs H Q _ => ∃ (a : Addr) (ns : List Int), vs = [.ref a] ∧ SqL K H a (ns.map V.int) ∧ ns.length ≤ 63 ∧ ∀ H', Q (.bl true) H'
theorem law_start {K : PySem.W.Frag} {H : Hp} {a : Addr} {ns : List Int} (hl : ns.length ≤ 63) (_ : Only H) (hS : SqL K H a (ns.map V.int)) : sp_law K [.ref a] H (fun v _ => v = .bl true) fun _ _ _ => False :=
  ⟨a, ns, rfl, hS, hl, fun _ => rfl⟩
end Mine

set_option maxHeartbeats 1000000
namespace Mine
open PySem L2
/-! ### prices -/
abbrev Prc := Option Int × Option Int × Option Int
def pvO : Option Int → V
  | none => .non
  | some n => .int n
def costOf (c : Prc) : Kd → Option Int
  | .dot => c.1
  | .D => c.2.1
  | .d => c.2.1
  | .three => c.2.2
  | .two => c.2.2
  | _ => some 0
def priceL (c : Prc) : Int → List Kd → Option Int
  | n, [] => some n
  | n, k :: t => match costOf c k with
    | none => none
    | some m => priceL c (n + m) t
end Mine

set_option maxHeartbeats 4000000
namespace L2
open PySem PySem.Spec PyProof.Rows PySem.SeqAt
section
variable {X : Cx}
/-! ### sorted of a list of texts -/
end
end L2

set_option maxHeartbeats 1000000
namespace Mine
open PySem L2 PyProof.Rows
theorem big4 {n : Nat} (h : n ≤ 1000) : n ≤ sizeLine := Nat.le_of_lt (small1000 h)
def ST : List Str := ["2-", "2G", "2g", "3h0-", "3h0o", "3h0s", "3h1o", "3h1s", "3h2S", "3h2o", "3h2s", "3n0-", "3n0o", "3n0s", "3n1o", "3n1s", "3n2S", "3n2o", "3n2s", "3t0-", "3w0-", "3w0o", "3w0s", "3w1o", "3w1s", "3w2S", "3w2o", "3w2s"]
def closesM (l c : Nat) : Bool := if decide (c = 48) = true then decide (l ≠ 104) else (decide (c = 49) && decide (l = 104))
def twoB (z : Str) : Bool := z.cps.toList.head? == some 50
def endsM (z : Str) : Bool := if twoB z = true then decide (z ≠ "2G") else closesM (z.cps.toList.getD 1 0) (z.cps.toList.getD 2 0)
theorem ST_all (p : Str → Bool) (h : ST.all p = true) {z : Str} (hz : z ∈ ST) : p z = true := List.all_eq_true.mp h z hz
theorem ST_in {z : Str} (hz : z ∈ ST) : inV (.str z) [.str "2-", .str "2g", .str "2G"] = twoB z := of_decide_eq_true (ST_all (fun z => decide (inV (.str z) [.str "2-", .str "2g", .str "2G"] = twoB z)) (by decide +kernel) hz)
theorem ST_size {z : Str} (hz : z ∈ ST) : z.length ≤ 4 := of_decide_eq_true (ST_all (fun z => decide (z.length ≤ 4)) (by decide +kernel) hz)
theorem ST_three {z : Str} (hz : z ∈ ST) (h : ¬ twoB z = true) : ∃ l c t, z.cps.toList = [51, l, c, t] := by
  have := ST_all (fun z => twoB z || decide (z.cps.toList = [51, z.cps.toList.getD 1 0, z.cps.toList.getD 2 0, z.cps.toList.getD 3 0])) (by decide +kernel) hz
  rw [Bool.eq_false_iff.mpr h, Bool.false_or] at this
  exact ⟨_, _, _, of_decide_eq_true this⟩
theorem one_dec (c n : Nat) {s : Str} (h : s = ⟨#[n]⟩) : decide (V.str ⟨#[c]⟩ = V.str s) = decide (c = n) := by
  subst h
  by_cases e : c = n
  · subst e; simp
  · rw [decide_eq_false e, decide_eq_false]
    intro z
    apply e
    have := V.str.inj z
    have := congrArg (fun s : Str => s.cps.toList) this
    simpa using this
theorem one_ne (c n : Nat) {s : Str} (h : s = ⟨#[n]⟩) : (!decide (V.str ⟨#[c]⟩ = V.str s)) = decide (c ≠ n) := by
  rw [one_dec c n h]; simp
theorem str_ne (z s : Str) : (!decide (V.str z = V.str s)) = decide (z ≠ s) := by
  by_cases e : z = s
  · subst e; simp
  · have : V.str z ≠ V.str s := fun q => e (V.str.inj q)
    simp [e, this]
/-- the lists that the two defs put together -/
def LF : List Str := ["n", "w", "h"]
def RN : List Str := ["0s", "0o", "1s", "1o", "2s", "2S", "2o"]
def f3 (l r : Str) : Str := Str.empty ++ "3" ++ l ++ r
def blk (l : Str) : List Str := f3 l "0-" :: RN.map (f3 l)
def B0 : List Str := ["2-", "2g", "2G", "3t0-"]
def accS (i : Nat) : List Str := B0 ++ (LF.take i).flatMap blk
/-- the law's -/
def QF : List Str := ["n", "w", "h", "t"]
def QN : List Str := ["0o", "0s", "1o", "1s", "2S", "2o", "2s"]
def g3 (l r : Str) : Str := "3" ++ l ++ r
def blq (l : Str) : List Str := g3 l "0-" :: (if l = "t" then [] else QN.map (g3 l))
def B1 : List Str := ["2-", "2G", "2g"]
def accQ (i : Nat) : List Str := B1 ++ (QF.take i).flatMap blq
theorem map_get {xs : List Str} {i : Nat} {x : V} (h : (xs.map V.str)[i]? = some x) : ∃ z, xs[i]? = some z ∧ x = .str z := by
  rw [List.getElem?_map] at h
  cases e : xs[i]? with
  | none => rw [e] at h; cases h
  | some z => rw [e] at h; cases h; exact ⟨z, rfl, rfl⟩
end Mine

set_option maxHeartbeats 1000000
namespace Mine
open PySem L2 PyProof.Rows
theorem strD (a b : Str) : decide (V.str a = V.str b) = decide (a = b) := by
  by_cases h : a = b
  · rw [h, decide_eq_true rfl, decide_eq_true rfl]
  · rw [decide_eq_false h, decide_eq_false (fun z => h (V.str.inj z))]
theorem intD (a b : Int) : decide (V.int a = V.int b) = decide (a = b) := by
  by_cases h : a = b
  · rw [h, decide_eq_true rfl, decide_eq_true rfl]
  · rw [decide_eq_false h, decide_eq_false (fun z => h (V.int.inj z))]
def TW : List ((Str × Int) × V) := [(("s", 1), V.str "2-"), (("d", 1), V.str "2-"), (("r", 1), V.str "2-"), (("D", 2), V.str "2-"), (("R", 2), V.str "2-"), (("G", 2), V.str "2g"), (("G", 3), V.str "2G"), ((".", 0), V.str "2-"), (("2", 0), V.str "2-"), (("3", 0), V.str "3n0-")]
def GS : List ((Str × Int) × V) := [(("G", 3), V.str "3w0-"), (("G", 2), V.str "3h0-"), (("D", 2), V.str "3n0-"), (("R", 3), V.str "3n0-")]
def chr (z : Str) (i : Nat) : Str := ⟨#[z.cps.toList.getD i 0]⟩
def clZ (z : Str) : Bool := closesM (z.cps.toList.getD 1 0) (z.cps.toList.getD 2 0)
def twS (z k : Str) (n : Int) : V := if (decide (z = "2G") && !decide (k = ".")) = true then .non else if (decide (z = "2g") && decide (k = ".")) = true then .non else (TW.lookup (k, n)).getD .non
def rnZ (z : Str) : Bool := inV (.str z) [.str "3n1s", .str "3n1o", .str "3h2o"]
def bgZ (z : Str) : Bool := inV (.str z) [.str "3n2S", .str "3w2S"]
def grS (z k : Str) (n : Int) : V := if decide (z = "3t0-") = true then .non else if (rnZ z && (decide (k = "G") && decide (n = 2))) = true then .str "3t0-" else if (clZ z || bgZ z) = true then (GS.lookup (k, n)).getD .non else .non
def ptS (z k : Str) (n : Int) : V := if (!decide (n = 0) || !clZ z) = true then .non else if decide (k = "2") = true then .str "2-" else .str "3n0-"
def tlS (k c : Str) (n : Int) : V := if decide (n = 1) = true then (if decide (k = "s") = true then .str "s" else .str "o") else if (decide (n = 2) && (decide (k = "s") && decide (c = "2"))) = true then .str "S" else .non
theorem tlS_cases (k c : Str) (n : Int) : tlS k c n = .non ∨ tlS k c n = .str "s" ∨ tlS k c n = .str "o" ∨ tlS k c n = .str "S" := by
  unfold tlS
  repeat' split
  all_goals simp
def nxC (c : Nat) : Str := if c = 48 then "1" else if c = 49 then "2" else "0"
theorem nxC_len (c : Nat) : (nxC c).length = 1 := by
  unfold nxC
  repeat' split
  all_goals decide +kernel
theorem slen_app (a b : Str) : (a ++ b).length = a.length + b.length := by
  show (a.cps ++ b.cps).size = _
  rw [Array.size_append]; rfl
theorem slen1 (s : Str) (h : s = "s" ∨ s = "o" ∨ s = "S" ∨ s = "3" ∨ s = "n") : s.length = 1 := by
  rcases h with rfl | rfl | rfl | rfl | rfl <;> decide +kernel
def lfZ (z : Str) : Str := if decide (z.cps.toList.getD 1 0 = 116) = true then "n" else chr z 1
theorem lfZ_len (z : Str) : (lfZ z).length = 1 := by
  unfold lfZ
  split
  · exact slen1 _ (.inr (.inr (.inr (.inr rfl))))
  · rfl
def smS (z k : Str) (n : Int) : V := if decide (z.cps.toList.getD 3 0 = 83) = true then .non else match tlS k (nxC (z.cps.toList.getD 2 0)) n with
  | .str l => .str ("3" ++ lfZ z ++ nxC (z.cps.toList.getD 2 0) ++ l)
  | _ => .non
def stS (z : Str) (k : Kd) (n : Int) : V := if twoB z = true then twS z k.str n else if k.small = true then smS z k.str n else if k.parting = true then ptS z k.str n else grS z k.str n
/-! ### the law's -/
def shS (z k : Str) (n : Int) : Str :=
  let l := z.cps.toList.getD 1 0
  let c := z.cps.toList.getD 2 0
  let t := z.cps.toList.getD 3 0
  let sh := (decide (k = "G") && decide (n = 2))
  if decide (c = 48) = true then (if (decide (l = 104) || (decide (l = 116) && inS k "GDR")) = true then "" else "g")
  else if decide (c = 49) = true then (if (decide (l = 110) && sh) = true then "t" else if decide (l = 104) = true then "g" else "")
  else if (inS k ".32" || decide (t = 115)) = true then ""
  else if decide (t = 83) = true then (if decide (l = 104) = true then "" else "g")
  else if (decide (l = 104) && sh) = true then "t" else ""
def l2S (z k : Str) (n : Int) : V :=
  if (decide (z = "2G") || decide (k = ".")) = true then (if (decide (k = ".") && (decide (n = 0) && !decide (z = "2g"))) = true then .str "2-" else .non)
  else if inS k "32" = true then (if (!decide (n = 0)) = true then .non else if decide (k = "3") = true then .str "3n0-" else .str "2-")
  else if inS k "sdr" = true then (if decide (n = 1) = true then .str "2-" else .non)
  else if (decide (k = "G") && decide (n = 3)) = true then .str "2G"
  else if (!decide (n = 2)) = true then .non
  else if decide (k = "G") = true then .str "2g" else .str "2-"
def lbS (z k : Str) (n : Int) : V :=
  if twoB z = true then l2S z k n
  else if (inS k "sdr" && decide (z.cps.toList.getD 3 0 = 83)) = true then .non
  else if inS k "sdr" = true then
    let c := nxC (z.cps.toList.getD 2 0)
    if (decide (n = 2) && (decide (k = "s") && decide (c = "2"))) = true then .str ("3" ++ lfZ z ++ "2S")
    else if decide (n = 1) = true then .str ("3" ++ lfZ z ++ c ++ (if decide (k = "s") = true then "s" else "o")) else .non
  else if decide (shS z k n = "") = true then .non
  else if inS k ".32" = true then (if (!decide (n = 0)) = true then .non else if decide (k = "2") = true then .str "2-" else .str "3n0-")
  else if (decide (k = "D") || decide (k = "R")) = true then (if decide (n = (if decide (k = "R") = true then 1 else 0) + 2) = true then .str "3n0-" else .non)
  else if decide (shS z k n = "t") = true then .str "3t0-"
  else if decide (n = 3) = true then .str "3w0-" else if decide (n = 2) = true then .str "3h0-" else .non
theorem ST_c {z : Str} (hz : z ∈ ST) {l c e : Nat} (h : z.cps.toList = [51, l, c, e]) : c = 48 ∨ c = 49 ∨ c = 50 := by
  have := of_decide_eq_true (ST_all (fun z => decide (twoB z = true ∨ z.cps.toList.getD 2 0 = 48 ∨ z.cps.toList.getD 2 0 = 49 ∨ z.cps.toList.getD 2 0 = 50)) (by decide +kernel) hz)
  unfold twoB at this
  rw [h] at this
  rcases this with z | z
  · exact absurd z (by simp)
  · exact z
def kds9 : List Kd := [.G, .D, .R, .s, .d, .r, .dot, .three, .two]
theorem kds9_mem (k : Kd) : k ∈ kds9 := by cases k <;> decide
end Mine

set_option maxHeartbeats 1000000
namespace Mine
open PySem L2 PyProof.Rows
/-! ### the writer: signs that may be the module's own -/
section
variable {K : PySem.W.Frag} {H H' : Hp} {p : Addr} {Q : VK}
theorem ixK0 {a b : V} (h : SqT K H p [a, b]) (q : Q a H) : rIxL K (.ref p) (.int 0) H Q ∨ rIxT K (.ref p) (.int 0) H Q ∨ rIxS (.ref p) (.int 0) H Q := .inr (.inl ⟨p, _, 0, a, rfl, rfl, h, rfl, q⟩)
end
def isD : HO → Bool
  | .dK _ => true
  | .frz _ (.dK _) => true
  | _ => false
/-- all but dicts stays -/
def Kn (H H' : Hp) : Prop := ∀ b o, H b = some o → isD o = false → H' b = some o
theorem Kn.trans {H H1 H2 : Hp} (a : Kn H H1) (b : Kn H1 H2) : Kn H H2 := fun c o e n => b c o (a c o e n) n
theorem _root_.L2.Same.kn {H H' : Hp} (s : Same H H') : Kn H H' := fun b o e _ => s b o e
theorem Kn.put {H : Hp} {d : Addr} {o u : HO} (e : H d = some o) (h : isD o = true) : Kn H (upd H d u) := fun b v eb n => by
  rw [upd_ne (fun z => by rw [z, e] at eb; cases eb; rw [h] at n; cases n)]; exact eb
theorem Kn.of {H H' : Hp} {d : Addr} {kvs : List (Key × V)} (e : H d = some (.dK kvs)) (h : ∀ b o, b ≠ d → H b = some o → H' b = some o) : Kn H H' := fun b o eb n => h b o (fun z => by rw [z, e] at eb; cases eb; cases n) eb
theorem Kn.tup {K : PySem.W.Frag} {H H' : Hp} {p : Addr} {xs : List V} (k : Kn H H') (h : SqT K H p xs) : SqT K H' p xs := by
  rcases h with (h | ⟨o, h⟩) | h
  · exact .inl (.inl (k _ _ h rfl))
  · exact .inl (.inr ⟨o, k _ _ h rfl⟩)
  · exact .inr h
def SgK (K : PySem.W.Frag) (H : Hp) (y : V) (s : Sg) : Prop := ∃ p, y = .ref p ∧ SqT K H p [.str s.1.str, .int s.2]
theorem SgK.kn {K : PySem.W.Frag} {H H' : Hp} (k : Kn H H') {y : V} {s : Sg} (h : SgK K H y s) : SgK K H' y s := by
  obtain ⟨p, e, q⟩ := h
  exact ⟨p, e, k.tup q⟩
theorem SgK.kns {K : PySem.W.Frag} {H H' : Hp} (k : Kn H H') {ys : List V} {ss : List Sg} (h : Paired (SgK K H) ys ss) : Paired (SgK K H') ys ss := pmono (fun _ _ q => SgK.kn k q) h
theorem SgK.write {K : PySem.W.Frag} {H : Hp} {l : Addr} {xs : List V} {o : HO} (hl : H l = some (.lst xs)) {y : V} {s : Sg} (h : SgK K H y s) : SgK K (upd H l o) y s := by
  obtain ⟨q, e, h2⟩ := h
  refine ⟨q, e, ?_⟩
  rcases h2 with (h | ⟨o, h⟩) | h
  · exact .inl (.inl (by rw [upd_ne (fun z => by rw [z, hl] at h; cases h)]; exact h))
  · exact .inl (.inr ⟨o, by rw [upd_ne (fun z => by rw [z, hl] at h; cases h)]; exact h⟩)
  · exact .inr h
/-! ### the moves -/
def stO (z : Str) (k : Kd) (n : Int) : Option Str := match stS z k n with
  | .str y => some y
  | _ => none
def tenS (p : Int → Bool) : Bool := (List.range 10).all fun m => p (m : Nat)
theorem st_all : (ST.all fun z => kds9.all fun k => tenS fun c => match stS z k c with | .str y => decide (y ∈ ST) | .non => true | _ => false) = true := by decide +kernel
theorem st_ok {z : Str} (hz : z ∈ ST) (k : Kd) {n : Int} (h0 : 0 ≤ n) (h9 : n ≤ 9) : (stS z k n = .non ∧ stO z k n = none) ∨ ∃ y ∈ ST, stS z k n = .str y ∧ stO z k n = some y := by
  have h1 := List.all_eq_true.mp (List.all_eq_true.mp (List.all_eq_true.mp st_all z hz) k (kds9_mem k)) n.toNat (List.mem_range.mpr (by omega))
  rw [Int.toNat_of_nonneg h0] at h1
  dsimp only at h1
  unfold stO
  cases e : stS z k n with
  | non => exact .inl ⟨rfl, rfl⟩
  | str y => rw [e] at h1; exact .inr ⟨y, of_decide_eq_true h1, rfl, rfl⟩
  | _ => rw [e] at h1; cases h1
abbrev Mv := Sg × Int × Str
def mvOf (c : Prc) (z : Str) (n : Int) (s : Sg) : Option Mv := match costOf c s.1, stO z s.1 n with
  | some m, some y => some (s, m, y)
  | _, _ => none
def movesL (c : Prc) (z : Str) (n : Int) (ss : List Sg) : List Mv := ss.filterMap (mvOf c z n)
theorem moves_st {c : Prc} {z : Str} (hz : z ∈ ST) {n : Int} (h0 : 0 ≤ n) (h9 : n ≤ 9) {ss : List Sg} {m : Mv} (hm : m ∈ movesL c z n ss) : m.2.2 ∈ ST := by
  obtain ⟨s, hs, e⟩ := List.mem_filterMap.mp hm
  unfold mvOf at e
  rcases st_ok hz s.1 h0 h9 with ⟨_, e2⟩ | ⟨y, hy, _, e2⟩
  · rw [e2] at e
    cases h : costOf c s.1 <;> rw [h] at e <;> cases e
  · rw [e2] at e
    cases h : costOf c s.1 with
    | none => rw [h] at e; cases e
    | some k => rw [h] at e; cases e; exact hy
theorem moves_len (c : Prc) (z : Str) (n : Int) (ss : List Sg) : (movesL c z n ss).length ≤ ss.length := List.length_filterMap_le ..
theorem moves_take {c : Prc} {z : Str} {n : Int} {ss : List Sg} {i : Nat} {s : Sg} (h : ss[i]? = some s) : movesL c z n (ss.take (i + 1)) = movesL c z n (ss.take i) ++ (match mvOf c z n s with | some m => [m] | none => []) := by
  unfold movesL
  rw [List.take_succ, h, List.filterMap_append]
  congr 1
  show List.filterMap (mvOf c z n) [s] = _
  rw [List.filterMap_cons]
  cases mvOf c z n s <;> rfl
def MvK (K : PySem.W.Frag) (H : Hp) (y : V) (m : Mv) : Prop := ∃ p q, y = .ref p ∧ H p = some (.tup [.ref q, .int m.2.1, .str m.2.2]) ∧ SqT K H q [.str m.1.1.str, .int m.1.2]
theorem MvK.kn {K : PySem.W.Frag} {H H' : Hp} (k : Kn H H') {y : V} {m : Mv} (h : MvK K H y m) : MvK K H' y m := by
  obtain ⟨p, q, e, h1, h2⟩ := h
  exact ⟨p, q, e, k _ _ h1 rfl, k.tup h2⟩
theorem MvK.write {K : PySem.W.Frag} {H : Hp} {l : Addr} {xs : List V} {o : HO} (hl : H l = some (.lst xs)) {y : V} {m : Mv} (h : MvK K H y m) : MvK K (upd H l o) y m := by
  obtain ⟨p, q, e, h1, h2⟩ := h
  refine ⟨p, q, e, by rw [upd_ne (fun z => by rw [z, hl] at h1; cases h1)]; exact h1, ?_⟩
  rcases h2 with (h | ⟨o, h⟩) | h
  · exact .inl (.inl (by rw [upd_ne (fun z => by rw [z, hl] at h; cases h)]; exact h))
  · exact .inl (.inr ⟨o, by rw [upd_ne (fun z => by rw [z, hl] at h; cases h)]; exact h⟩)
  · exact .inr h
/-! ### the ways -/
abbrev Wy := Str × Int × List Sg
def getW : List Wy → Str → Option (Int × List Sg)
  | [], _ => none
  | w :: t, z => if w.1 = z then some w.2 else getW t z
def setW (ws : List Wy) (z : Str) (c : Int) (ln : List Sg) : List Wy := ws.map fun w => if w.1 = z then (z, c, ln) else w
def putW (ws : List Wy) (z : Str) (c : Int) (ln : List Sg) : List Wy := match getW ws z with
  | none => ws ++ [(z, c, ln)]
  | some _ => setW ws z c ln
def keepW (ws : List Wy) (z : Str) (c : Int) (ln : List Sg) : List Wy := match getW ws z with
  | none => ws ++ [(z, c, ln)]
  | some q => if c < q.1 then setW ws z c ln else ws
def stepW (k : Int) (ln : List Sg) (ms : List Mv) (acc : List Wy) : List Wy := ms.foldl (fun acc m => keepW acc m.2.2 (k + m.2.1) (ln ++ [m.1])) acc
def partS : List Sg := [(.dot, 0), (.three, 0), (.two, 0)]
def partR (c : Prc) (zs : List Str) (acc : List Wy) : List Wy := zs.foldl (fun acc z => match getW acc z with | some q => stepW q.1 q.2 (movesL c z 0 partS) acc | none => acc) acc
def accP (c : Prc) (ws : List Wy) : Nat → List Wy
  | 0 => ws
  | i + 1 => partR c ((accP c ws i).map (·.1)) (accP c ws i)
def withPart (c : Prc) (ws : List Wy) : List Wy := accP c ws 2
def signsT (t : Int) : List Sg := if t = -1 then [(.R, 0), (.r, 0)] else [(.G, t), (.D, t), (.s, t), (.d, t)]
def withWish (c : Prc) (ws : List Wy) (q : Int × Int) : List Wy := ws.foldl (fun acc w => stepW w.2.1 w.2.2 (movesL c w.1 q.2 (signsT q.1)) acc) []
def costsL (ws : List Wy) : List (Str × Int) := ws.map fun w => (w.1, w.2.1)
/-- in order: by their states, each once; lines of at most B signs -/
structure WsOk (B : Nat) (ws : List Wy) : Prop where
  nd : (ws.map (·.1)).Nodup
  st : ∀ w ∈ ws, w.1 ∈ ST
  ln : ∀ w ∈ ws, w.2.2.length ≤ B
theorem WsOk.mono {B B' : Nat} {ws : List Wy} (h : WsOk B ws) (hb : B ≤ B') : WsOk B' ws := ⟨h.nd, h.st, fun w hw => Nat.le_trans (h.ln w hw) hb⟩
theorem nd_len {α : Type} [DecidableEq α] : ∀ (l L : List α), l.Nodup → (∀ x ∈ l, x ∈ L) → l.length ≤ L.length
  | [], _, _, _ => Nat.zero_le _
  | x :: t, L, nd, h => by
    have hx := h x List.mem_cons_self
    have h1 := nd_len t (L.erase x) (List.nodup_cons.mp nd).2 fun y hy => by
      have hne : y ≠ x := fun z => (List.nodup_cons.mp nd).1 (z ▸ hy)
      exact (List.mem_erase_of_ne hne).mpr (h y (List.mem_cons_of_mem _ hy))
    have h2 := List.length_erase_of_mem hx
    have h3 : 0 < L.length := List.length_pos_of_mem hx
    rw [List.length_cons]
    omega
theorem WsOk.len {B : Nat} {ws : List Wy} (h : WsOk B ws) : ws.length ≤ 28 := by
  have := nd_len (ws.map (·.1)) ST h.nd fun x hx => by
    obtain ⟨w, hw, rfl⟩ := List.mem_map.mp hx
    exact h.st w hw
  rwa [List.length_map] at this
theorem getW_none : ∀ {ws : List Wy} {z : Str}, getW ws z = none → z ∉ ws.map (·.1)
  | [], _, _ => by simp
  | w :: t, z, h => by
    unfold getW at h
    split at h
    · cases h
    · next hne =>
      intro hm
      rcases List.mem_cons.mp hm with e | e
      · exact hne e.symm
      · exact getW_none h e
theorem getW_mem : ∀ {ws : List Wy} {z : Str} {q : Int × List Sg}, getW ws z = some q → (z, q) ∈ ws
  | w :: t, z, q, h => by
    unfold getW at h
    split at h
    · next e => cases h; subst e; exact List.mem_cons_self
    · exact List.mem_cons_of_mem _ (getW_mem h)
theorem getW_some {ws : List Wy} {z : Str} (h : z ∈ ws.map (·.1)) : ∃ q, getW ws z = some q := by
  cases e : getW ws z with
  | none => exact absurd h (getW_none e)
  | some q => exact ⟨q, rfl⟩
theorem setW_keys (ws : List Wy) (z : Str) (c : Int) (ln : List Sg) : (setW ws z c ln).map (·.1) = ws.map (·.1) := by
  unfold setW
  rw [List.map_map]
  refine List.map_congr_left fun w _ => ?_
  show (if w.1 = z then (z, c, ln) else w).1 = w.1
  split
  · next e => exact e.symm
  · rfl
theorem keepW_ok {B : Nat} {ws : List Wy} (h : WsOk B ws) {z : Str} (hz : z ∈ ST) {c : Int} {ln : List Sg} (hl : ln.length ≤ B) : WsOk B (keepW ws z c ln) := by
  unfold keepW
  split
  · next e =>
    refine ⟨?_, fun w hw => ?_, fun w hw => ?_⟩
    · rw [List.map_append]
      refine List.nodup_append.mpr ⟨h.nd, by simp, fun a ha b hb => ?_⟩
      have : b = z := by simpa using hb
      subst this
      exact fun e2 => getW_none e (e2 ▸ ha)
    · rcases List.mem_append.mp hw with q | q
      · exact h.st w q
      · rw [List.mem_singleton.mp q]; exact hz
    · rcases List.mem_append.mp hw with q | q
      · exact h.ln w q
      · rw [List.mem_singleton.mp q]; exact hl
  · split
    · refine ⟨by rw [setW_keys]; exact h.nd, fun w hw => ?_, fun w hw => ?_⟩
      all_goals
        obtain ⟨v, hv, rfl⟩ := List.mem_map.mp hw
        split
      · exact hz
      · exact h.st v hv
      · exact hl
      · exact h.ln v hv
    · exact h
theorem keepW_keys (ws : List Wy) (z : Str) (c : Int) (ln : List Sg) {x : Str} (h : x ∈ ws.map (·.1)) : x ∈ (keepW ws z c ln).map (·.1) := by
  unfold keepW
  split
  · rw [List.map_append]; exact List.mem_append_left _ h
  · split
    · rw [setW_keys]; exact h
    · exact h
theorem stepW_ok {B : Nat} {k : Int} {ln : List Sg} (hl : ln.length + 1 ≤ B) : ∀ {ms : List Mv} {acc : List Wy}, (∀ m ∈ ms, m.2.2 ∈ ST) → WsOk B acc → WsOk B (stepW k ln ms acc)
  | [], _, _, h => h
  | m :: t, acc, hm, h => stepW_ok hl (ms := t) (fun x hx => hm x (List.mem_cons_of_mem _ hx)) (keepW_ok h (hm m List.mem_cons_self) (by rw [List.length_append]; exact hl))
theorem stepW_keys (k : Int) (ln : List Sg) : ∀ (ms : List Mv) (acc : List Wy) {x : Str}, x ∈ acc.map (·.1) → x ∈ (stepW k ln ms acc).map (·.1)
  | [], _, _, h => h
  | m :: t, acc, _, h => stepW_keys k ln t _ (keepW_keys _ _ _ _ h)
/-- a way in the heap -/
def WyK (K : PySem.W.Frag) (A : Addr → Prop) (H : Hp) (kv : Key × V) (w : Wy) : Prop := kv.1 = Sum.inr w.1 ∧ ∃ t l ys, kv.2 = .ref t ∧ A l ∧ H t = some (.tup [.int w.2.1, .ref l]) ∧ H l = some (.lst ys) ∧ Paired (SgK K H) ys w.2.2
theorem WyK.kn {K : PySem.W.Frag} {A : Addr → Prop} {H H' : Hp} (k : Kn H H') {kv : Key × V} {w : Wy} (h : WyK K A H kv w) : WyK K A H' kv w := by
  obtain ⟨e, t, l, ys, e2, a, h1, h2, h3⟩ := h
  exact ⟨e, t, l, ys, e2, a, k _ _ h1 rfl, k _ _ h2 rfl, SgK.kns k h3⟩
theorem WyK.kns {K : PySem.W.Frag} {A : Addr → Prop} {H H' : Hp} (k : Kn H H') {kvs : List (Key × V)} {ws : List Wy} (h : Paired (WyK K A H) kvs ws) : Paired (WyK K A H') kvs ws := pmono (fun _ _ q => WyK.kn k q) h
theorem WyK.write {K : PySem.W.Frag} {A : Addr → Prop} {H : Hp} {d : Addr} {xs : List V} {o : HO} (hd : H d = some (.lst xs)) (hA : ¬ A d) {kv : Key × V} {w : Wy} (h : WyK K A H kv w) : WyK K A (upd H d o) kv w := by
  obtain ⟨e, t, l, ys, e2, a, h1, h2, h3⟩ := h
  exact ⟨e, t, l, ys, e2, a, by rw [upd_ne (fun z => by rw [z, hd] at h1; cases h1)]; exact h1, by rw [upd_ne (fun z => hA (by rw [← z]; exact a))]; exact h2, pmono (fun _ _ q => SgK.write hd q) h3⟩
theorem WyK.away {K : PySem.W.Frag} {A : Addr → Prop} {H : Hp} {p : Addr} (hp : H p = none) {kv : Key × V} {w : Wy} (h : WyK K A H kv w) : WyK K (· ≠ p) H kv w := by
  obtain ⟨e, t, l, ys, e2, a, h1, h2, h3⟩ := h
  exact ⟨e, t, l, ys, e2, ne_of_none h2 hp, h1, h2, h3⟩
theorem WyK.val {K : PySem.W.Frag} {A : Addr → Prop} {H : Hp} {kvs : List (Key × V)} {ws : List Wy} (h : Paired (WyK K A H) kvs ws) (z : Str) : (getW ws z = none ∧ valV kvs (Sum.inr z) = none) ∨ ∃ q v, getW ws z = some q ∧ valV kvs (Sum.inr z) = some v ∧ WyK K A H (Sum.inr z, v) (z, q) := by
  induction h with
  | nil => exact .inl ⟨rfl, rfl⟩
  | @cons kv w kvs ws h0 _ ih =>
    unfold getW
    by_cases e : w.1 = z
    · refine .inr ⟨w.2, kv.2, if_pos e, ?_, ?_⟩
      · exact valV_pos (by rw [h0.1, e])
      · subst e
        obtain ⟨e1, r⟩ := h0
        exact ⟨rfl, r⟩
    · rw [if_neg e, valV_neg (fun q => e (Sum.inr.inj (h0.1.symm.trans q)))]
      exact ih
theorem WyK.put {K : PySem.W.Frag} {A : Addr → Prop} {H : Hp} {kvs : List (Key × V)} {ws : List Wy} (h : Paired (WyK K A H) kvs ws) {z : Str} {v : V} {c : Int} {ln : List Sg} (hv : WyK K A H (Sum.inr z, v) (z, c, ln)) : Paired (WyK K A H) (putK kvs (Sum.inr z) v) (putW ws z c ln) := by
  unfold putK putW
  rcases WyK.val h z with ⟨e1, e2⟩ | ⟨q, u, e1, e2, _⟩
  · rw [valV_any, e2, if_neg (by decide), e1]
    exact psnoc h hv
  · rw [valV_any, e2, if_pos (show (some u).isSome = true from rfl), e1]
    clear e1 e2
    show Paired _ _ (setW ws z c ln)
    unfold setW
    induction h with
    | nil => exact .nil
    | @cons kv w kvs ws h0 _ ih =>
      refine .cons ?_ ih
      show WyK K A H (if kv.1 = Sum.inr z then (kv.1, v) else kv) (if w.1 = z then (z, c, ln) else w)
      by_cases e : w.1 = z
      · rw [if_pos e, if_pos (by rw [h0.1, e]), h0.1, e]
        exact hv
      · rw [if_neg e, if_neg (fun q => e (Sum.inr.inj (h0.1.symm.trans q)))]
        exact h0
def partZ (c : Prc) (acc : List Wy) (z : Str) : List Wy := match getW acc z with
  | some q => stepW q.1 q.2 (movesL c z 0 partS) acc
  | none => acc
theorem partR_cons (c : Prc) (z : Str) (t : List Str) (acc : List Wy) : partR c (z :: t) acc = partR c t (partZ c acc z) := rfl
theorem partR_snoc (c : Prc) (zs : List Str) (z : Str) (acc : List Wy) : partR c (zs ++ [z]) acc = partZ c (partR c zs acc) z := by
  unfold partR
  rw [List.foldl_append]
  rfl
theorem moves_part {c : Prc} {z : Str} (hz : z ∈ ST) {m : Mv} (hm : m ∈ movesL c z 0 partS) : m.2.2 ∈ ST := moves_st hz (by decide) (by decide) hm
theorem partZ_ok {B : Nat} {c : Prc} {acc : List Wy} (h : WsOk B acc) {z : Str} (hz : z ∈ ST) : WsOk (B + 1) (partZ c acc z) := by
  unfold partZ
  cases e : getW acc z with
  | none => exact h.mono (Nat.le_succ _)
  | some q =>
    have := h.ln _ (getW_mem e)
    exact stepW_ok (by show q.2.length + 1 ≤ _; have : q.2.length ≤ B := this; omega) (fun m hm => moves_part hz hm) (h.mono (Nat.le_succ _))
theorem partR_ok {c : Prc} : ∀ {zs : List Str} {acc : List Wy} {B : Nat}, (∀ z ∈ zs, z ∈ ST) → WsOk B acc → WsOk (B + zs.length) (partR c zs acc)
  | [], _, _, _, h => h
  | z :: t, acc, B, hz, h => by
    rw [partR_cons]
    exact (partR_ok (zs := t) (fun x hx => hz x (List.mem_cons_of_mem _ hx)) (partZ_ok h (hz z List.mem_cons_self))).mono (by rw [List.length_cons]; omega)
theorem partZ_keys (c : Prc) (acc : List Wy) (z : Str) {x : Str} (h : x ∈ acc.map (·.1)) : x ∈ (partZ c acc z).map (·.1) := by
  unfold partZ
  cases getW acc z with
  | none => exact h
  | some q => exact stepW_keys _ _ _ _ h
theorem partR_keys (c : Prc) : ∀ (zs : List Str) (acc : List Wy) {x : Str}, x ∈ acc.map (·.1) → x ∈ (partR c zs acc).map (·.1)
  | [], _, _, h => h
  | z :: t, acc, _, h => partR_keys c t _ (partZ_keys c acc z h)
theorem accP_ok {c : Prc} {ws : List Wy} {B : Nat} (h : WsOk B ws) : ∀ i, WsOk (B + 28 * i) (accP c ws i)
  | 0 => h
  | i + 1 => by
    have h1 := accP_ok (c := c) h i
    have h2 := partR_ok (c := c) (zs := (accP c ws i).map (·.1)) (fun z hz => by
      obtain ⟨w, hw, rfl⟩ := List.mem_map.mp hz
      exact h1.st w hw) h1
    exact h2.mono (by rw [List.length_map]; have := h1.len; omega)
theorem wsKeys {K : PySem.W.Frag} {A : Addr → Prop} {H : Hp} {kvs : List (Key × V)} {ws : List Wy} (h : Paired (WyK K A H) kvs ws) : (kvs.map fun kv => kV kv.1) = (ws.map (·.1)).map V.str := by
  induction h with
  | nil => rfl
  | cons h0 _ ih =>
    rw [List.map_cons, List.map_cons, List.map_cons, ih, h0.1]
    rfl
def wishFold (c : Prc) (q : Int × Int) (ws : List Wy) (acc : List Wy) : List Wy := ws.foldl (fun acc w => stepW w.2.1 w.2.2 (movesL c w.1 q.2 (signsT q.1)) acc) acc
theorem wishFold_snoc (c : Prc) (q : Int × Int) (ws : List Wy) (w : Wy) (acc : List Wy) : wishFold c q (ws ++ [w]) acc = stepW w.2.1 w.2.2 (movesL c w.1 q.2 (signsT q.1)) (wishFold c q ws acc) := by
  unfold wishFold
  rw [List.foldl_append]
  rfl
theorem WsOk.nil (B : Nat) : WsOk B [] := ⟨.nil, fun _ h => (nomatch h), fun _ h => (nomatch h)⟩
theorem wishFold_ok {B : Nat} {c : Prc} {q : Int × Int} (h0 : 0 ≤ q.2) (h9 : q.2 ≤ 9) : ∀ {ws acc : List Wy}, (∀ w ∈ ws, w.1 ∈ ST) → (∀ w ∈ ws, w.2.2.length ≤ B) → WsOk (B + 1) acc → WsOk (B + 1) (wishFold c q ws acc)
  | [], _, _, _, h => h
  | w :: t, acc, hs, hl, h => wishFold_ok h0 h9 (ws := t) (fun x hx => hs x (List.mem_cons_of_mem _ hx)) (fun x hx => hl x (List.mem_cons_of_mem _ hx))
      (stepW_ok (by have := hl w List.mem_cons_self; omega) (fun m hm => moves_st (hs w List.mem_cons_self) h0 h9 hm) h)
theorem withWish_ok {B : Nat} {c : Prc} {q : Int × Int} (h0 : 0 ≤ q.2) (h9 : q.2 ≤ 9) {ws : List Wy} (h : WsOk B ws) : WsOk (B + 1) (withWish c ws q) := wishFold_ok h0 h9 h.st h.ln (WsOk.nil _)
theorem withPart_ok {B : Nat} {c : Prc} {ws : List Wy} (h : WsOk B ws) : WsOk (B + 56) (withPart c ws) := accP_ok h 2
/-! ### papers, what is written -/
def CsK (H : Hp) (y : V) (q : Str × Int) : Prop := ∃ p, y = .ref p ∧ H p = some (.tup [.str q.1, .int q.2])
theorem CsK.kn {H H' : Hp} (k : Kn H H') {y : V} {q : Str × Int} (h : CsK H y q) : CsK H' y q := by
  obtain ⟨p, e, h1⟩ := h
  exact ⟨p, e, k _ _ h1 rfl⟩
theorem CsK.write {H : Hp} {l : Addr} {xs : List V} {o : HO} (hl : H l = some (.lst xs)) {y : V} {q : Str × Int} (h : CsK H y q) : CsK (upd H l o) y q := by
  obtain ⟨p, e, h1⟩ := h
  exact ⟨p, e, by rw [upd_ne (fun z => by rw [z, hl] at h1; cases h1)]; exact h1⟩
/-- one list of a paper, which is not the paper's own -/
def PpK (pp : Addr) (H : Hp) (y : V) (cs : List (Str × Int)) : Prop := ∃ l xs, y = .ref l ∧ l ≠ pp ∧ H l = some (.lst xs) ∧ Paired (CsK H) xs cs
theorem PpK.kn {pp : Addr} {H H' : Hp} (k : Kn H H') {y : V} {q : List (Str × Int)} (h : PpK pp H y q) : PpK pp H' y q := by
  obtain ⟨l, xs, e, ne, h1, h2⟩ := h
  exact ⟨l, xs, e, ne, k _ _ h1 rfl, pmono (fun _ _ q => CsK.kn k q) h2⟩
theorem PpK.write {pp : Addr} {H : Hp} {zs : List V} {o : HO} (hp : H pp = some (.lst zs)) {y : V} {q : List (Str × Int)} (h : PpK pp H y q) : PpK pp (upd H pp o) y q := by
  obtain ⟨l, xs, e, ne, h1, h2⟩ := h
  exact ⟨l, xs, e, ne, by rw [upd_ne ne]; exact h1, pmono (fun _ _ q => CsK.write hp q) h2⟩
def bgS (b : Int) : Str := if b = 3 then "3n0-" else "2-"
theorem bgS_st (b : Int) : bgS b ∈ ST := by
  unfold bgS
  split <;> decide +kernel
def ways0 (c : Prc) (b : Int) : List Wy := withPart c [(bgS b, 0, [])]
def waysL (c : Prc) (b : Int) (qs : List (Int × Int)) : List Wy := qs.foldl (fun ws q => withPart c (withWish c ws q)) (ways0 c b)
theorem waysL_snoc (c : Prc) (b : Int) (qs : List (Int × Int)) (q : Int × Int) : waysL c b (qs ++ [q]) = withPart c (withWish c (waysL c b qs) q) := by
  unfold waysL
  rw [List.foldl_append]
  rfl
/-- the paper's lists behind i wishes and ahead -/
def papL (c : Prc) (b : Int) (qs : List (Int × Int)) (i : Nat) : List (List (Str × Int)) := (List.range (i + 1)).map fun j => costsL (waysL c b (qs.take j))
theorem papL_succ (c : Prc) (b : Int) (qs : List (Int × Int)) (i : Nat) : papL c b qs (i + 1) = papL c b qs i ++ [costsL (waysL c b (qs.take (i + 1)))] := by
  unfold papL
  rw [List.range_succ, List.map_append]
  rfl
def endsL (c : Prc) (b : Int) (qs : List (Int × Int)) : List Wy := (waysL c b qs).filter fun w => endsM w.1
def Wsh (qs : List (Int × Int)) : Prop := ∀ q ∈ qs, 0 ≤ q.2 ∧ q.2 ≤ 9
theorem ways0_ok (c : Prc) (b : Int) : WsOk 56 (ways0 c b) := withPart_ok (B := 0) ⟨by simp, fun w hw => by rw [List.mem_singleton.mp hw]; exact bgS_st b, fun w hw => by rw [List.mem_singleton.mp hw]; exact Nat.le_refl _⟩
theorem waysL_ok {c : Prc} {b : Int} {qs : List (Int × Int)} (hq : Wsh qs) : ∀ i, WsOk (56 + 57 * i) (waysL c b (qs.take i))
  | 0 => ways0_ok c b
  | i + 1 => by
    have h1 := waysL_ok (c := c) (b := b) hq i
    cases e : qs[i]? with
    | none => rw [List.take_succ, e]; exact (show WsOk _ (waysL c b (qs.take i ++ [])) by rw [List.append_nil]; exact h1.mono (by omega))
    | some q =>
      have hm := hq q (List.mem_of_getElem? e)
      rw [List.take_succ, e]
      show WsOk _ (waysL c b (qs.take i ++ [q]))
      rw [waysL_snoc]
      exact (withPart_ok (withWish_ok hm.1 hm.2 h1)).mono (by omega)
/-! ### a worth from 4 on leads nowhere -/
theorem st4 : (ST.all fun z => kds9.all fun k => [4, 5, 6, 7, 8, 9].all fun n => decide (stS z k n = .non)) = true := by decide +kernel
theorem stO4 {z : Str} (hz : z ∈ ST) (k : Kd) {n : Int} (h4 : 4 ≤ n) (h9 : n ≤ 9) : stO z k n = none := by
  have h1 := List.all_eq_true.mp (List.all_eq_true.mp (List.all_eq_true.mp st4 z hz) k (kds9_mem k)) n (by
    have : n = 4 ∨ n = 5 ∨ n = 6 ∨ n = 7 ∨ n = 8 ∨ n = 9 := by omega
    rcases this with rfl | rfl | rfl | rfl | rfl | rfl <;> simp)
  unfold stO
  rw [of_decide_eq_true h1]
theorem moves4 (c : Prc) {z : Str} (hz : z ∈ ST) {n : Int} (h4 : 4 ≤ n) (h9 : n ≤ 9) (ss : List Sg) : movesL c z n ss = [] := by
  unfold movesL
  refine List.filterMap_eq_nil_iff.mpr fun s _ => ?_
  unfold mvOf
  rw [stO4 hz s.1 h4 h9]
  cases costOf c s.1 <;> rfl
theorem wish4 (c : Prc) {q : Int × Int} (h4 : 4 ≤ q.2) (h9 : q.2 ≤ 9) : ∀ (ws acc : List Wy), (∀ w ∈ ws, w.1 ∈ ST) → wishFold c q ws acc = acc
  | [], _, _ => rfl
  | w :: t, acc, h => by
    show wishFold c q t (stepW w.2.1 w.2.2 (movesL c w.1 q.2 (signsT q.1)) acc) = acc
    rw [moves4 c (h w List.mem_cons_self) h4 h9]
    exact wish4 c h4 h9 t acc fun x hx => h x (List.mem_cons_of_mem _ hx)
theorem waysL_nil (c : Prc) : ∀ (qs : List (Int × Int)), qs.foldl (fun ws q => withPart c (withWish c ws q)) [] = []
  | [] => rfl
  | q :: t => waysL_nil c t
theorem ways4 (c : Prc) (b : Int) {qs : List (Int × Int)} (hq : Wsh qs) (h : ∃ q ∈ qs, 4 ≤ q.2) : waysL c b qs = [] := by
  obtain ⟨q, hm, h4⟩ := h
  obtain ⟨A, B, rfl⟩ := List.append_of_mem hm
  have hA : WsOk (56 + 57 * A.length) (waysL c b A) := by
    have := waysL_ok (c := c) (b := b) hq A.length
    rwa [List.take_left'  rfl] at this
  unfold waysL
  rw [List.foldl_append, List.foldl_cons]
  show List.foldl _ (withPart c (withWish c (waysL c b A) q)) B = []
  have : withWish c (waysL c b A) q = [] := wish4 c h4 (hq q hm).2 _ [] hA.st
  rw [this]
  exact waysL_nil c B
/-- a way's pair -/
def EnK (K : PySem.W.Frag) (H : Hp) (y : V) (w : Wy) : Prop := ∃ t l ys, y = .ref t ∧ H t = some (.tup [.int w.2.1, .ref l]) ∧ H l = some (.lst ys) ∧ Paired (SgK K H) ys w.2.2
theorem endsTake {ws : List Wy} {i : Nat} {w : Wy} (h : ws[i]? = some w) : (ws.take (i + 1)).filter (fun w => endsM w.1) = (ws.take i).filter (fun w => endsM w.1) ++ (if endsM w.1 = true then [w] else []) := by
  rw [List.take_succ, h, List.filter_append]
  congr 1
  show List.filter _ [w] = _
  rw [List.filter_cons]
  rfl
end Mine

set_option maxHeartbeats 1000000
namespace Mine
end Mine

set_option maxHeartbeats 1000000
local macro_rules | `(tactic| array_get_dec) => `(tactic| first
  | refine ⟨_, rfl, ?_⟩
  | refine ⟨_, _, rfl, rfl, ⟨by decide, by decide⟩, ?_⟩
  | refine ⟨_, _, rfl, rfl, (by first | decide | (show (0 : Int) < _; decide)), ?_⟩
  | refine .inl ⟨_, _, rfl, rfl, .inr ⟨by decide, by decide⟩, ?_⟩
  | refine ⟨_, _, rfl, rfl, ?_⟩
  | refine .inl ⟨_, _, rfl, rfl, ?_⟩
  | refine .inl ⟨rfl, ?_⟩
  | refine .inr ⟨_, _, rfl, rfl, ?_⟩
  | refine Mine.ix0 (by assumption) ?_
  | refine Mine.ix1 (by assumption) ?_)

noncomputable section
namespace Hd
open PySem PySem.W
noncomputable abbrev pr : Program := PySem.Challenge.rw_noteworth_k27_never_written.prog
noncomputable def tp (i : Nat) : Stmt := pr.main.body.getD i (.Pass ⟨0, 0, 0, 0⟩)
noncomputable def m0 : Nat := 11
noncomputable def ann : Option Value := some (.ref 6)
noncomputable def drawn : Drawn := boot_drawn
noncomputable def qpos : Pos := ⟨0, 0, 0, 0⟩
noncomputable def code : Value := .ref 13
noncomputable def frame : Nat := 14
noncomputable def o1_11 (P : Params) : Obj := ⟨.type "tuple", none, .seq #[] 0, #[]⟩
noncomputable def o1_12 (P : Params) : Obj := ⟨.none, none, .fields #[], #[]⟩
noncomputable def o1_13 (P : Params) : Obj := ⟨.type "code", none, .fields #[.str "<module>" 182, .str "<module>" 183, .str "/claim/cut.py" 184, .int (1) 0, .int (0) 0, .int (0) 0, .int (0) 0, .int (0) 0, .ref 11, .bool false, .int (181) 0, .ref 12, .none, .none, .none, .none, .int (185) 0, .int (1) 0, .str "/claim/cut.py" 186], #[]⟩
noncomputable def o1_14 (P : Params) : Obj := ⟨.type "frame", none, .plain, #[some (.ref 13), some (.ref 3), some (.ref 3), none, some (.str "__main__" 164), none, some (.ref 0)]⟩
noncomputable def H1 (P : Params) : Heap := ⟨⟨[boot_o_0 P, boot_o_1 P, boot_o_2 P, boot_o_3 P, boot_o_4 P, boot_o_5 P, boot_o_6 P, boot_o_7 P, boot_o_8 P, boot_o_9 P, boot_o_10 P, o1_11 P, o1_12 P, o1_13 P, o1_14 P]⟩, (boot_heap P).life⟩
noncomputable def k1 : Nat := 187
noncomputable def n1 : Nat := 12
noncomputable def p1 : Pos := ⟨0, 0, 0, 0⟩
noncomputable def H2 (P : Params) : Heap := ⟨⟨[boot_o_0 P, boot_o_1 P, boot_o_2 P, boot_o_3 P, boot_o_4 P, boot_o_5 P, boot_o_6 P, boot_o_7 P, boot_o_8 P, boot_o_9 P, boot_o_10 P, o1_11 P, o1_12 P, o1_13 P, o1_14 P]⟩, (boot_heap P).life⟩
noncomputable def k2 : Nat := 187
noncomputable def n2 : Nat := 1
noncomputable def p2 : Pos := ⟨0, 0, 0, 0⟩
noncomputable def o3_3 (P : Params) : Obj := ⟨.type "dict", none, .dict #[⟨PyData.keyHash P "__name__", .str "__name__" 165, .str "noteworth.prices" 219⟩, ⟨PyData.keyHash P "__doc__", .str "__doc__" 166, .none⟩, ⟨PyData.keyHash P "__package__", .str "__package__" 167, .none⟩, ⟨PyData.keyHash P "__loader__", .str "__loader__" 168, .builtin "__main__.__loader__#opaque"⟩, ⟨PyData.keyHash P "__spec__", .str "__spec__" 169, .none⟩, ⟨PyData.keyHash P "__annotations__", .str "__annotations__" 170, .ref 6⟩, ⟨PyData.keyHash P "__builtins__", .str "__builtins__" 171, .ref 4⟩, ⟨PyData.keyHash P "__file__", .str "__file__" 173, .str "/claim/cut.py" 172⟩, ⟨PyData.keyHash P "__cached__", .str "__cached__" 174, .none⟩, ⟨PyData.keyHash P "SMALL_KINDS", .str "SMALL_KINDS" 192, .ref 15⟩, ⟨PyData.keyHash P "PARTING_KINDS", .str "PARTING_KINDS" 196, .ref 16⟩, ⟨PyData.keyHash P "MEASURE_KINDS", .str "MEASURE_KINDS" 199, .ref 17⟩, ⟨PyData.keyHash P "SOUNDING_KINDS", .str "SOUNDING_KINDS" 204, .ref 18⟩, ⟨PyData.keyHash P "small", .str "small" 211, .ref 25⟩, ⟨PyData.keyHash P "parting", .str "parting" 218, .ref 32⟩, ⟨PyData.keyHash P "DARK_KINDS", .str "DARK_KINDS" 223, .ref 33⟩, ⟨PyData.keyHash P "sign_price", .str "sign_price" 234, .ref 40⟩] 17, #[]⟩
noncomputable def o3_12 (P : Params) : Obj := ⟨.none, none, .fields #[.int (6) 0, .int (0) 0, .ref 24, .int (8) 0, .int (0) 0, .ref 31, .int (12) 0, .int (0) 0, .ref 39], #[]⟩
noncomputable def o3_15 (P : Params) : Obj := ⟨.type "tuple", none, .seq #[.str "s" 189, .str "d" 190, .str "r" 191] 0, #[]⟩
noncomputable def o3_16 (P : Params) : Obj := ⟨.type "tuple", none, .seq #[.str "." 193, .str "3" 194, .str "2" 195] 0, #[]⟩
noncomputable def o3_17 (P : Params) : Obj := ⟨.type "tuple", none, .seq #[.str "3" 197, .str "2" 198] 0, #[]⟩
noncomputable def o3_18 (P : Params) : Obj := ⟨.type "tuple", none, .seq #[.str "G" 200, .str "D" 201, .str "s" 202, .str "d" 203] 0, #[]⟩
noncomputable def o3_19 (P : Params) : Obj := ⟨.type "tuple", none, .seq #[] 0, #[]⟩
noncomputable def o3_20 (P : Params) : Obj := ⟨.none, none, .fields #[], #[]⟩
noncomputable def o3_21 (P : Params) : Obj := ⟨.type "tuple", none, .seq #[.str "sign" 208] 0, #[]⟩
noncomputable def o3_22 (P : Params) : Obj := ⟨.type "tuple", none, .seq #[] 0, #[]⟩
noncomputable def o3_23 (P : Params) : Obj := ⟨.none, none, .func { name := "small", qualname := "small", params := L2.defArgs (tp 5), body := .stmts (L2.defBody (tp 5)), scope := L2.defScope (tp 5), globals := 0, closure := [], defaults := .none, kwdefaults := .none, doc := .none, pyModule := .none, annotations := none, code := .none, closureTuple := .none, builtins := 0 }, #[]⟩
noncomputable def o3_24 (P : Params) : Obj := ⟨.type "code", none, .fields #[.str "small" 205, .str "small" 206, .str "/claim/cut.py" 207, .int (6) 0, .int (1) 0, .int (0) 0, .int (0) 0, .int (3) 0, .ref 19, .bool true, .int (181) 0, .ref 20, .none, .ref 21, .ref 22, .ref 23, .int (209) 0, .int (6) 0, .str "/claim/cut.py" 210], #[]⟩
noncomputable def o3_25 (P : Params) : Obj := ⟨.type "function", none, .func { name := "small", qualname := "small", params := L2.defArgs (tp 5), body := .stmts (L2.defBody (tp 5)), scope := L2.defScope (tp 5), globals := 3, closure := [], defaults := .none, kwdefaults := .none, doc := .none, pyModule := .str "noteworth.signs" 187, annotations := none, code := .ref 24, closureTuple := .none, builtins := 0 }, #[]⟩
noncomputable def o3_26 (P : Params) : Obj := ⟨.type "tuple", none, .seq #[] 0, #[]⟩
noncomputable def o3_27 (P : Params) : Obj := ⟨.none, none, .fields #[], #[]⟩
noncomputable def o3_28 (P : Params) : Obj := ⟨.type "tuple", none, .seq #[.str "sign" 215] 0, #[]⟩
noncomputable def o3_29 (P : Params) : Obj := ⟨.type "tuple", none, .seq #[] 0, #[]⟩
noncomputable def o3_30 (P : Params) : Obj := ⟨.none, none, .func { name := "parting", qualname := "parting", params := L2.defArgs (tp 6), body := .stmts (L2.defBody (tp 6)), scope := L2.defScope (tp 6), globals := 0, closure := [], defaults := .none, kwdefaults := .none, doc := .none, pyModule := .none, annotations := none, code := .none, closureTuple := .none, builtins := 0 }, #[]⟩
noncomputable def o3_31 (P : Params) : Obj := ⟨.type "code", none, .fields #[.str "parting" 212, .str "parting" 213, .str "/claim/cut.py" 214, .int (8) 0, .int (1) 0, .int (0) 0, .int (0) 0, .int (3) 0, .ref 26, .bool true, .int (181) 0, .ref 27, .none, .ref 28, .ref 29, .ref 30, .int (216) 0, .int (8) 0, .str "/claim/cut.py" 217], #[]⟩
noncomputable def o3_32 (P : Params) : Obj := ⟨.type "function", none, .func { name := "parting", qualname := "parting", params := L2.defArgs (tp 6), body := .stmts (L2.defBody (tp 6)), scope := L2.defScope (tp 6), globals := 3, closure := [], defaults := .none, kwdefaults := .none, doc := .none, pyModule := .str "noteworth.signs" 187, annotations := none, code := .ref 31, closureTuple := .none, builtins := 0 }, #[]⟩
noncomputable def o3_33 (P : Params) : Obj := ⟨.type "tuple", none, .seq #[.str "D" 221, .str "d" 222] 0, #[]⟩
noncomputable def o3_34 (P : Params) : Obj := ⟨.type "tuple", none, .seq #[] 0, #[]⟩
noncomputable def o3_35 (P : Params) : Obj := ⟨.none, none, .fields #[], #[]⟩
noncomputable def o3_36 (P : Params) : Obj := ⟨.type "tuple", none, .seq #[.str "sign" 227, .str "prices" 228, .str "dot" 229, .str "dark" 230, .str "measure" 231] 0, #[]⟩
noncomputable def o3_37 (P : Params) : Obj := ⟨.type "tuple", none, .seq #[] 0, #[]⟩
noncomputable def o3_38 (P : Params) : Obj := ⟨.none, none, .func { name := "sign_price", qualname := "sign_price", params := L2.defArgs (tp 9), body := .stmts (L2.defBody (tp 9)), scope := L2.defScope (tp 9), globals := 0, closure := [], defaults := .none, kwdefaults := .none, doc := .none, pyModule := .none, annotations := none, code := .none, closureTuple := .none, builtins := 0 }, #[]⟩
noncomputable def o3_39 (P : Params) : Obj := ⟨.type "code", none, .fields #[.str "sign_price" 224, .str "sign_price" 225, .str "/claim/cut.py" 226, .int (12) 0, .int (2) 0, .int (0) 0, .int (0) 0, .int (3) 0, .ref 34, .bool true, .int (181) 0, .ref 35, .none, .ref 36, .ref 37, .ref 38, .int (232) 0, .int (12) 0, .str "/claim/cut.py" 233], #[]⟩
noncomputable def o3_40 (P : Params) : Obj := ⟨.type "function", none, .func { name := "sign_price", qualname := "sign_price", params := L2.defArgs (tp 9), body := .stmts (L2.defBody (tp 9)), scope := L2.defScope (tp 9), globals := 3, closure := [], defaults := .none, kwdefaults := .none, doc := .none, pyModule := .str "noteworth.prices" 219, annotations := none, code := .ref 39, closureTuple := .none, builtins := 0 }, #[]⟩
noncomputable def H3 (P : Params) : Heap := ⟨⟨[boot_o_0 P, boot_o_1 P, boot_o_2 P, o3_3 P, boot_o_4 P, boot_o_5 P, boot_o_6 P, boot_o_7 P, boot_o_8 P, boot_o_9 P, boot_o_10 P, o1_11 P, o3_12 P, o1_13 P, o1_14 P, o3_15 P, o3_16 P, o3_17 P, o3_18 P, o3_19 P, o3_20 P, o3_21 P, o3_22 P, o3_23 P, o3_24 P, o3_25 P, o3_26 P, o3_27 P, o3_28 P, o3_29 P, o3_30 P, o3_31 P, o3_32 P, o3_33 P, o3_34 P, o3_35 P, o3_36 P, o3_37 P, o3_38 P, o3_39 P, o3_40 P]⟩, (boot_heap P).life⟩
noncomputable def k3 : Nat := 235
noncomputable def n3 : Nat := 174
noncomputable def p3 : Pos := ⟨12, 0, 20, 12⟩
noncomputable def s3 : List Stmt := [tp 0, tp 1, tp 2, tp 3, tp 4, tp 5, tp 6, tp 7, tp 8, tp 9]
noncomputable def o4_3 (P : Params) : Obj := ⟨.type "dict", none, .dict #[⟨PyData.keyHash P "__name__", .str "__name__" 165, .str "noteworth.steps" 238⟩, ⟨PyData.keyHash P "__doc__", .str "__doc__" 166, .none⟩, ⟨PyData.keyHash P "__package__", .str "__package__" 167, .none⟩, ⟨PyData.keyHash P "__loader__", .str "__loader__" 168, .builtin "__main__.__loader__#opaque"⟩, ⟨PyData.keyHash P "__spec__", .str "__spec__" 169, .none⟩, ⟨PyData.keyHash P "__annotations__", .str "__annotations__" 170, .ref 6⟩, ⟨PyData.keyHash P "__builtins__", .str "__builtins__" 171, .ref 4⟩, ⟨PyData.keyHash P "__file__", .str "__file__" 173, .str "/claim/cut.py" 172⟩, ⟨PyData.keyHash P "__cached__", .str "__cached__" 174, .none⟩, ⟨PyData.keyHash P "SMALL_KINDS", .str "SMALL_KINDS" 192, .ref 15⟩, ⟨PyData.keyHash P "PARTING_KINDS", .str "PARTING_KINDS" 196, .ref 16⟩, ⟨PyData.keyHash P "MEASURE_KINDS", .str "MEASURE_KINDS" 199, .ref 17⟩, ⟨PyData.keyHash P "SOUNDING_KINDS", .str "SOUNDING_KINDS" 204, .ref 18⟩, ⟨PyData.keyHash P "small", .str "small" 211, .ref 25⟩, ⟨PyData.keyHash P "parting", .str "parting" 218, .ref 32⟩, ⟨PyData.keyHash P "DARK_KINDS", .str "DARK_KINDS" 223, .ref 33⟩, ⟨PyData.keyHash P "sign_price", .str "sign_price" 234, .ref 40⟩, ⟨PyData.keyHash P "REST_TONE", .str "REST_TONE" 237, .int (-1) 236⟩, ⟨PyData.keyHash P "TWOFOLD_STATES", .str "TWOFOLD_STATES" 243, .ref 41⟩, ⟨PyData.keyHash P "TWOFOLD_BEGIN", .str "TWOFOLD_BEGIN" 245, .str "2-" 244⟩, ⟨PyData.keyHash P "THREEFOLD_BEGIN", .str "THREEFOLD_BEGIN" 247, .str "3n0-" 246⟩, ⟨PyData.keyHash P "SHORTENED_FROM_AHEAD", .str "SHORTENED_FROM_AHEAD" 249, .str "3t0-" 248⟩, ⟨PyData.keyHash P "NEXT_COUNTS", .str "NEXT_COUNTS" 259, .ref 42⟩] 23, #[]⟩
noncomputable def o4_41 (P : Params) : Obj := ⟨.type "tuple", none, .seq #[.str "2-" 240, .str "2g" 241, .str "2G" 242] 0, #[]⟩
noncomputable def o4_42 (P : Params) : Obj := ⟨.type "dict", none, .dict #[⟨PyData.keyHash P "0", .str "0" 250, .str "1" 251⟩, ⟨PyData.keyHash P "1", .str "1" 252, .str "2" 253⟩, ⟨PyData.keyHash P "2", .str "2" 254, .str "0" 255⟩] 3, #[]⟩
noncomputable def H4 (P : Params) : Heap := ⟨⟨[boot_o_0 P, boot_o_1 P, boot_o_2 P, o4_3 P, boot_o_4 P, boot_o_5 P, boot_o_6 P, boot_o_7 P, boot_o_8 P, boot_o_9 P, boot_o_10 P, o1_11 P, o3_12 P, o1_13 P, o1_14 P, o3_15 P, o3_16 P, o3_17 P, o3_18 P, o3_19 P, o3_20 P, o3_21 P, o3_22 P, o3_23 P, o3_24 P, o3_25 P, o3_26 P, o3_27 P, o3_28 P, o3_29 P, o3_30 P, o3_31 P, o3_32 P, o3_33 P, o3_34 P, o3_35 P, o3_36 P, o3_37 P, o3_38 P, o3_39 P, o3_40 P, o4_41 P, o4_42 P]⟩, (boot_heap P).life⟩
noncomputable def k4 : Nat := 260
noncomputable def n4 : Nat := 119
noncomputable def p4 : Pos := ⟨27, 0, 27, 11⟩
noncomputable def s4 : List Stmt := [tp 10, tp 11, tp 12, tp 13, tp 14, tp 15, tp 16]
noncomputable def d5 : Nat := 43
noncomputable def dp5 : Pos := ⟨28, 16, 28, 178⟩
noncomputable def vs5 : List (Value × Value) := [(.ref 44, .str "2-" 262), (.ref 45, .str "2-" 265), (.ref 46, .str "2-" 268), (.ref 47, .str "2-" 271), (.ref 48, .str "2-" 274), (.ref 49, .str "2g" 277), (.ref 50, .str "2G" 280), (.ref 51, .str "2-" 283), (.ref 52, .str "2-" 286), (.ref 53, .str "3n0-" 289)]
noncomputable def o5_0_43 (P : Params) : Obj := ⟨.type "dict", none, .dict #[] 0, #[]⟩
noncomputable def o5_0_44 (P : Params) : Obj := ⟨.type "tuple", none, .seq #[.str "s" 260, .int (1) 261] 0, #[]⟩
noncomputable def o5_0_45 (P : Params) : Obj := ⟨.type "tuple", none, .seq #[.str "d" 263, .int (1) 264] 0, #[]⟩
noncomputable def o5_0_46 (P : Params) : Obj := ⟨.type "tuple", none, .seq #[.str "r" 266, .int (1) 267] 0, #[]⟩
noncomputable def o5_0_47 (P : Params) : Obj := ⟨.type "tuple", none, .seq #[.str "D" 269, .int (2) 270] 0, #[]⟩
noncomputable def o5_0_48 (P : Params) : Obj := ⟨.type "tuple", none, .seq #[.str "R" 272, .int (2) 273] 0, #[]⟩
noncomputable def o5_0_49 (P : Params) : Obj := ⟨.type "tuple", none, .seq #[.str "G" 275, .int (2) 276] 0, #[]⟩
noncomputable def o5_0_50 (P : Params) : Obj := ⟨.type "tuple", none, .seq #[.str "G" 278, .int (3) 279] 0, #[]⟩
noncomputable def o5_0_51 (P : Params) : Obj := ⟨.type "tuple", none, .seq #[.str "." 281, .int (0) 282] 0, #[]⟩
noncomputable def o5_0_52 (P : Params) : Obj := ⟨.type "tuple", none, .seq #[.str "2" 284, .int (0) 285] 0, #[]⟩
noncomputable def o5_0_53 (P : Params) : Obj := ⟨.type "tuple", none, .seq #[.str "3" 287, .int (0) 288] 0, #[]⟩
noncomputable def H5_0 (P : Params) : Heap := ⟨⟨[boot_o_0 P, boot_o_1 P, boot_o_2 P, o4_3 P, boot_o_4 P, boot_o_5 P, boot_o_6 P, boot_o_7 P, boot_o_8 P, boot_o_9 P, boot_o_10 P, o1_11 P, o3_12 P, o1_13 P, o1_14 P, o3_15 P, o3_16 P, o3_17 P, o3_18 P, o3_19 P, o3_20 P, o3_21 P, o3_22 P, o3_23 P, o3_24 P, o3_25 P, o3_26 P, o3_27 P, o3_28 P, o3_29 P, o3_30 P, o3_31 P, o3_32 P, o3_33 P, o3_34 P, o3_35 P, o3_36 P, o3_37 P, o3_38 P, o3_39 P, o3_40 P, o4_41 P, o4_42 P, o5_0_43 P, o5_0_44 P, o5_0_45 P, o5_0_46 P, o5_0_47 P, o5_0_48 P, o5_0_49 P, o5_0_50 P, o5_0_51 P, o5_0_52 P, o5_0_53 P]⟩, (boot_heap P).life⟩
noncomputable def k5_0 : Nat := 290
noncomputable def E5_0 (P : Params) : Array DictEntry := #[]
noncomputable def ep5_0 : Nat := 0
noncomputable def a5_0 : Nat := 44
noncomputable def v5_0 : Value := .str "2-" 262
noncomputable def o5_1_43 (P : Params) : Obj := ⟨.type "dict", none, .dict #[⟨th P "s" (1), .ref 44, .str "2-" 262⟩] 1, #[]⟩
noncomputable def H5_1 (P : Params) : Heap := ⟨⟨[boot_o_0 P, boot_o_1 P, boot_o_2 P, o4_3 P, boot_o_4 P, boot_o_5 P, boot_o_6 P, boot_o_7 P, boot_o_8 P, boot_o_9 P, boot_o_10 P, o1_11 P, o3_12 P, o1_13 P, o1_14 P, o3_15 P, o3_16 P, o3_17 P, o3_18 P, o3_19 P, o3_20 P, o3_21 P, o3_22 P, o3_23 P, o3_24 P, o3_25 P, o3_26 P, o3_27 P, o3_28 P, o3_29 P, o3_30 P, o3_31 P, o3_32 P, o3_33 P, o3_34 P, o3_35 P, o3_36 P, o3_37 P, o3_38 P, o3_39 P, o3_40 P, o4_41 P, o4_42 P, o5_1_43 P, o5_0_44 P, o5_0_45 P, o5_0_46 P, o5_0_47 P, o5_0_48 P, o5_0_49 P, o5_0_50 P, o5_0_51 P, o5_0_52 P, o5_0_53 P]⟩, (boot_heap P).life⟩
noncomputable def k5_1 : Nat := 293
noncomputable def E5_1 (P : Params) : Array DictEntry := #[⟨th P "s" (1), .ref 44, .str "2-" 262⟩]
noncomputable def ep5_1 : Nat := 1
noncomputable def a5_1 : Nat := 45
noncomputable def v5_1 : Value := .str "2-" 265
noncomputable def o5_2_43 (P : Params) : Obj := ⟨.type "dict", none, .dict #[⟨th P "s" (1), .ref 44, .str "2-" 262⟩, ⟨th P "d" (1), .ref 45, .str "2-" 265⟩] 2, #[]⟩
noncomputable def H5_2 (P : Params) : Heap := ⟨⟨[boot_o_0 P, boot_o_1 P, boot_o_2 P, o4_3 P, boot_o_4 P, boot_o_5 P, boot_o_6 P, boot_o_7 P, boot_o_8 P, boot_o_9 P, boot_o_10 P, o1_11 P, o3_12 P, o1_13 P, o1_14 P, o3_15 P, o3_16 P, o3_17 P, o3_18 P, o3_19 P, o3_20 P, o3_21 P, o3_22 P, o3_23 P, o3_24 P, o3_25 P, o3_26 P, o3_27 P, o3_28 P, o3_29 P, o3_30 P, o3_31 P, o3_32 P, o3_33 P, o3_34 P, o3_35 P, o3_36 P, o3_37 P, o3_38 P, o3_39 P, o3_40 P, o4_41 P, o4_42 P, o5_2_43 P, o5_0_44 P, o5_0_45 P, o5_0_46 P, o5_0_47 P, o5_0_48 P, o5_0_49 P, o5_0_50 P, o5_0_51 P, o5_0_52 P, o5_0_53 P]⟩, (boot_heap P).life⟩
noncomputable def k5_2 : Nat := 296
noncomputable def E5_2 (P : Params) : Array DictEntry := #[⟨th P "s" (1), .ref 44, .str "2-" 262⟩, ⟨th P "d" (1), .ref 45, .str "2-" 265⟩]
noncomputable def ep5_2 : Nat := 2
noncomputable def a5_2 : Nat := 46
noncomputable def v5_2 : Value := .str "2-" 268
noncomputable def o5_3_43 (P : Params) : Obj := ⟨.type "dict", none, .dict #[⟨th P "s" (1), .ref 44, .str "2-" 262⟩, ⟨th P "d" (1), .ref 45, .str "2-" 265⟩, ⟨th P "r" (1), .ref 46, .str "2-" 268⟩] 3, #[]⟩
noncomputable def H5_3 (P : Params) : Heap := ⟨⟨[boot_o_0 P, boot_o_1 P, boot_o_2 P, o4_3 P, boot_o_4 P, boot_o_5 P, boot_o_6 P, boot_o_7 P, boot_o_8 P, boot_o_9 P, boot_o_10 P, o1_11 P, o3_12 P, o1_13 P, o1_14 P, o3_15 P, o3_16 P, o3_17 P, o3_18 P, o3_19 P, o3_20 P, o3_21 P, o3_22 P, o3_23 P, o3_24 P, o3_25 P, o3_26 P, o3_27 P, o3_28 P, o3_29 P, o3_30 P, o3_31 P, o3_32 P, o3_33 P, o3_34 P, o3_35 P, o3_36 P, o3_37 P, o3_38 P, o3_39 P, o3_40 P, o4_41 P, o4_42 P, o5_3_43 P, o5_0_44 P, o5_0_45 P, o5_0_46 P, o5_0_47 P, o5_0_48 P, o5_0_49 P, o5_0_50 P, o5_0_51 P, o5_0_52 P, o5_0_53 P]⟩, (boot_heap P).life⟩
noncomputable def k5_3 : Nat := 299
noncomputable def E5_3 (P : Params) : Array DictEntry := #[⟨th P "s" (1), .ref 44, .str "2-" 262⟩, ⟨th P "d" (1), .ref 45, .str "2-" 265⟩, ⟨th P "r" (1), .ref 46, .str "2-" 268⟩]
noncomputable def ep5_3 : Nat := 3
noncomputable def a5_3 : Nat := 47
noncomputable def v5_3 : Value := .str "2-" 271
noncomputable def o5_4_43 (P : Params) : Obj := ⟨.type "dict", none, .dict #[⟨th P "s" (1), .ref 44, .str "2-" 262⟩, ⟨th P "d" (1), .ref 45, .str "2-" 265⟩, ⟨th P "r" (1), .ref 46, .str "2-" 268⟩, ⟨th P "D" (2), .ref 47, .str "2-" 271⟩] 4, #[]⟩
noncomputable def H5_4 (P : Params) : Heap := ⟨⟨[boot_o_0 P, boot_o_1 P, boot_o_2 P, o4_3 P, boot_o_4 P, boot_o_5 P, boot_o_6 P, boot_o_7 P, boot_o_8 P, boot_o_9 P, boot_o_10 P, o1_11 P, o3_12 P, o1_13 P, o1_14 P, o3_15 P, o3_16 P, o3_17 P, o3_18 P, o3_19 P, o3_20 P, o3_21 P, o3_22 P, o3_23 P, o3_24 P, o3_25 P, o3_26 P, o3_27 P, o3_28 P, o3_29 P, o3_30 P, o3_31 P, o3_32 P, o3_33 P, o3_34 P, o3_35 P, o3_36 P, o3_37 P, o3_38 P, o3_39 P, o3_40 P, o4_41 P, o4_42 P, o5_4_43 P, o5_0_44 P, o5_0_45 P, o5_0_46 P, o5_0_47 P, o5_0_48 P, o5_0_49 P, o5_0_50 P, o5_0_51 P, o5_0_52 P, o5_0_53 P]⟩, (boot_heap P).life⟩
noncomputable def k5_4 : Nat := 302
noncomputable def E5_4 (P : Params) : Array DictEntry := #[⟨th P "s" (1), .ref 44, .str "2-" 262⟩, ⟨th P "d" (1), .ref 45, .str "2-" 265⟩, ⟨th P "r" (1), .ref 46, .str "2-" 268⟩, ⟨th P "D" (2), .ref 47, .str "2-" 271⟩]
noncomputable def ep5_4 : Nat := 4
noncomputable def a5_4 : Nat := 48
noncomputable def v5_4 : Value := .str "2-" 274
noncomputable def o5_5_43 (P : Params) : Obj := ⟨.type "dict", none, .dict #[⟨th P "s" (1), .ref 44, .str "2-" 262⟩, ⟨th P "d" (1), .ref 45, .str "2-" 265⟩, ⟨th P "r" (1), .ref 46, .str "2-" 268⟩, ⟨th P "D" (2), .ref 47, .str "2-" 271⟩, ⟨th P "R" (2), .ref 48, .str "2-" 274⟩] 5, #[]⟩
noncomputable def H5_5 (P : Params) : Heap := ⟨⟨[boot_o_0 P, boot_o_1 P, boot_o_2 P, o4_3 P, boot_o_4 P, boot_o_5 P, boot_o_6 P, boot_o_7 P, boot_o_8 P, boot_o_9 P, boot_o_10 P, o1_11 P, o3_12 P, o1_13 P, o1_14 P, o3_15 P, o3_16 P, o3_17 P, o3_18 P, o3_19 P, o3_20 P, o3_21 P, o3_22 P, o3_23 P, o3_24 P, o3_25 P, o3_26 P, o3_27 P, o3_28 P, o3_29 P, o3_30 P, o3_31 P, o3_32 P, o3_33 P, o3_34 P, o3_35 P, o3_36 P, o3_37 P, o3_38 P, o3_39 P, o3_40 P, o4_41 P, o4_42 P, o5_5_43 P, o5_0_44 P, o5_0_45 P, o5_0_46 P, o5_0_47 P, o5_0_48 P, o5_0_49 P, o5_0_50 P, o5_0_51 P, o5_0_52 P, o5_0_53 P]⟩, (boot_heap P).life⟩
noncomputable def k5_5 : Nat := 305
noncomputable def E5_5 (P : Params) : Array DictEntry := #[⟨th P "s" (1), .ref 44, .str "2-" 262⟩, ⟨th P "d" (1), .ref 45, .str "2-" 265⟩, ⟨th P "r" (1), .ref 46, .str "2-" 268⟩, ⟨th P "D" (2), .ref 47, .str "2-" 271⟩, ⟨th P "R" (2), .ref 48, .str "2-" 274⟩]
noncomputable def ep5_5 : Nat := 5
noncomputable def a5_5 : Nat := 49
noncomputable def v5_5 : Value := .str "2g" 277
noncomputable def o5_6_43 (P : Params) : Obj := ⟨.type "dict", none, .dict #[⟨th P "s" (1), .ref 44, .str "2-" 262⟩, ⟨th P "d" (1), .ref 45, .str "2-" 265⟩, ⟨th P "r" (1), .ref 46, .str "2-" 268⟩, ⟨th P "D" (2), .ref 47, .str "2-" 271⟩, ⟨th P "R" (2), .ref 48, .str "2-" 274⟩, ⟨th P "G" (2), .ref 49, .str "2g" 277⟩] 6, #[]⟩
noncomputable def H5_6 (P : Params) : Heap := ⟨⟨[boot_o_0 P, boot_o_1 P, boot_o_2 P, o4_3 P, boot_o_4 P, boot_o_5 P, boot_o_6 P, boot_o_7 P, boot_o_8 P, boot_o_9 P, boot_o_10 P, o1_11 P, o3_12 P, o1_13 P, o1_14 P, o3_15 P, o3_16 P, o3_17 P, o3_18 P, o3_19 P, o3_20 P, o3_21 P, o3_22 P, o3_23 P, o3_24 P, o3_25 P, o3_26 P, o3_27 P, o3_28 P, o3_29 P, o3_30 P, o3_31 P, o3_32 P, o3_33 P, o3_34 P, o3_35 P, o3_36 P, o3_37 P, o3_38 P, o3_39 P, o3_40 P, o4_41 P, o4_42 P, o5_6_43 P, o5_0_44 P, o5_0_45 P, o5_0_46 P, o5_0_47 P, o5_0_48 P, o5_0_49 P, o5_0_50 P, o5_0_51 P, o5_0_52 P, o5_0_53 P]⟩, (boot_heap P).life⟩
noncomputable def k5_6 : Nat := 308
noncomputable def E5_6 (P : Params) : Array DictEntry := #[⟨th P "s" (1), .ref 44, .str "2-" 262⟩, ⟨th P "d" (1), .ref 45, .str "2-" 265⟩, ⟨th P "r" (1), .ref 46, .str "2-" 268⟩, ⟨th P "D" (2), .ref 47, .str "2-" 271⟩, ⟨th P "R" (2), .ref 48, .str "2-" 274⟩, ⟨th P "G" (2), .ref 49, .str "2g" 277⟩]
noncomputable def ep5_6 : Nat := 6
noncomputable def a5_6 : Nat := 50
noncomputable def v5_6 : Value := .str "2G" 280
noncomputable def o5_7_43 (P : Params) : Obj := ⟨.type "dict", none, .dict #[⟨th P "s" (1), .ref 44, .str "2-" 262⟩, ⟨th P "d" (1), .ref 45, .str "2-" 265⟩, ⟨th P "r" (1), .ref 46, .str "2-" 268⟩, ⟨th P "D" (2), .ref 47, .str "2-" 271⟩, ⟨th P "R" (2), .ref 48, .str "2-" 274⟩, ⟨th P "G" (2), .ref 49, .str "2g" 277⟩, ⟨th P "G" (3), .ref 50, .str "2G" 280⟩] 7, #[]⟩
noncomputable def H5_7 (P : Params) : Heap := ⟨⟨[boot_o_0 P, boot_o_1 P, boot_o_2 P, o4_3 P, boot_o_4 P, boot_o_5 P, boot_o_6 P, boot_o_7 P, boot_o_8 P, boot_o_9 P, boot_o_10 P, o1_11 P, o3_12 P, o1_13 P, o1_14 P, o3_15 P, o3_16 P, o3_17 P, o3_18 P, o3_19 P, o3_20 P, o3_21 P, o3_22 P, o3_23 P, o3_24 P, o3_25 P, o3_26 P, o3_27 P, o3_28 P, o3_29 P, o3_30 P, o3_31 P, o3_32 P, o3_33 P, o3_34 P, o3_35 P, o3_36 P, o3_37 P, o3_38 P, o3_39 P, o3_40 P, o4_41 P, o4_42 P, o5_7_43 P, o5_0_44 P, o5_0_45 P, o5_0_46 P, o5_0_47 P, o5_0_48 P, o5_0_49 P, o5_0_50 P, o5_0_51 P, o5_0_52 P, o5_0_53 P]⟩, (boot_heap P).life⟩
noncomputable def k5_7 : Nat := 311
noncomputable def E5_7 (P : Params) : Array DictEntry := #[⟨th P "s" (1), .ref 44, .str "2-" 262⟩, ⟨th P "d" (1), .ref 45, .str "2-" 265⟩, ⟨th P "r" (1), .ref 46, .str "2-" 268⟩, ⟨th P "D" (2), .ref 47, .str "2-" 271⟩, ⟨th P "R" (2), .ref 48, .str "2-" 274⟩, ⟨th P "G" (2), .ref 49, .str "2g" 277⟩, ⟨th P "G" (3), .ref 50, .str "2G" 280⟩]
noncomputable def ep5_7 : Nat := 7
noncomputable def a5_7 : Nat := 51
noncomputable def v5_7 : Value := .str "2-" 283
noncomputable def o5_8_43 (P : Params) : Obj := ⟨.type "dict", none, .dict #[⟨th P "s" (1), .ref 44, .str "2-" 262⟩, ⟨th P "d" (1), .ref 45, .str "2-" 265⟩, ⟨th P "r" (1), .ref 46, .str "2-" 268⟩, ⟨th P "D" (2), .ref 47, .str "2-" 271⟩, ⟨th P "R" (2), .ref 48, .str "2-" 274⟩, ⟨th P "G" (2), .ref 49, .str "2g" 277⟩, ⟨th P "G" (3), .ref 50, .str "2G" 280⟩, ⟨th P "." (0), .ref 51, .str "2-" 283⟩] 8, #[]⟩
noncomputable def H5_8 (P : Params) : Heap := ⟨⟨[boot_o_0 P, boot_o_1 P, boot_o_2 P, o4_3 P, boot_o_4 P, boot_o_5 P, boot_o_6 P, boot_o_7 P, boot_o_8 P, boot_o_9 P, boot_o_10 P, o1_11 P, o3_12 P, o1_13 P, o1_14 P, o3_15 P, o3_16 P, o3_17 P, o3_18 P, o3_19 P, o3_20 P, o3_21 P, o3_22 P, o3_23 P, o3_24 P, o3_25 P, o3_26 P, o3_27 P, o3_28 P, o3_29 P, o3_30 P, o3_31 P, o3_32 P, o3_33 P, o3_34 P, o3_35 P, o3_36 P, o3_37 P, o3_38 P, o3_39 P, o3_40 P, o4_41 P, o4_42 P, o5_8_43 P, o5_0_44 P, o5_0_45 P, o5_0_46 P, o5_0_47 P, o5_0_48 P, o5_0_49 P, o5_0_50 P, o5_0_51 P, o5_0_52 P, o5_0_53 P]⟩, (boot_heap P).life⟩
noncomputable def k5_8 : Nat := 314
noncomputable def E5_8 (P : Params) : Array DictEntry := #[⟨th P "s" (1), .ref 44, .str "2-" 262⟩, ⟨th P "d" (1), .ref 45, .str "2-" 265⟩, ⟨th P "r" (1), .ref 46, .str "2-" 268⟩, ⟨th P "D" (2), .ref 47, .str "2-" 271⟩, ⟨th P "R" (2), .ref 48, .str "2-" 274⟩, ⟨th P "G" (2), .ref 49, .str "2g" 277⟩, ⟨th P "G" (3), .ref 50, .str "2G" 280⟩, ⟨th P "." (0), .ref 51, .str "2-" 283⟩]
noncomputable def ep5_8 : Nat := 8
noncomputable def a5_8 : Nat := 52
noncomputable def v5_8 : Value := .str "2-" 286
noncomputable def o5_9_43 (P : Params) : Obj := ⟨.type "dict", none, .dict #[⟨th P "s" (1), .ref 44, .str "2-" 262⟩, ⟨th P "d" (1), .ref 45, .str "2-" 265⟩, ⟨th P "r" (1), .ref 46, .str "2-" 268⟩, ⟨th P "D" (2), .ref 47, .str "2-" 271⟩, ⟨th P "R" (2), .ref 48, .str "2-" 274⟩, ⟨th P "G" (2), .ref 49, .str "2g" 277⟩, ⟨th P "G" (3), .ref 50, .str "2G" 280⟩, ⟨th P "." (0), .ref 51, .str "2-" 283⟩, ⟨th P "2" (0), .ref 52, .str "2-" 286⟩] 9, #[]⟩
noncomputable def H5_9 (P : Params) : Heap := ⟨⟨[boot_o_0 P, boot_o_1 P, boot_o_2 P, o4_3 P, boot_o_4 P, boot_o_5 P, boot_o_6 P, boot_o_7 P, boot_o_8 P, boot_o_9 P, boot_o_10 P, o1_11 P, o3_12 P, o1_13 P, o1_14 P, o3_15 P, o3_16 P, o3_17 P, o3_18 P, o3_19 P, o3_20 P, o3_21 P, o3_22 P, o3_23 P, o3_24 P, o3_25 P, o3_26 P, o3_27 P, o3_28 P, o3_29 P, o3_30 P, o3_31 P, o3_32 P, o3_33 P, o3_34 P, o3_35 P, o3_36 P, o3_37 P, o3_38 P, o3_39 P, o3_40 P, o4_41 P, o4_42 P, o5_9_43 P, o5_0_44 P, o5_0_45 P, o5_0_46 P, o5_0_47 P, o5_0_48 P, o5_0_49 P, o5_0_50 P, o5_0_51 P, o5_0_52 P, o5_0_53 P]⟩, (boot_heap P).life⟩
noncomputable def k5_9 : Nat := 317
noncomputable def E5_9 (P : Params) : Array DictEntry := #[⟨th P "s" (1), .ref 44, .str "2-" 262⟩, ⟨th P "d" (1), .ref 45, .str "2-" 265⟩, ⟨th P "r" (1), .ref 46, .str "2-" 268⟩, ⟨th P "D" (2), .ref 47, .str "2-" 271⟩, ⟨th P "R" (2), .ref 48, .str "2-" 274⟩, ⟨th P "G" (2), .ref 49, .str "2g" 277⟩, ⟨th P "G" (3), .ref 50, .str "2G" 280⟩, ⟨th P "." (0), .ref 51, .str "2-" 283⟩, ⟨th P "2" (0), .ref 52, .str "2-" 286⟩]
noncomputable def ep5_9 : Nat := 9
noncomputable def a5_9 : Nat := 53
noncomputable def v5_9 : Value := .str "3n0-" 289
noncomputable def o5_10_43 (P : Params) : Obj := ⟨.type "dict", none, .dict #[⟨th P "s" (1), .ref 44, .str "2-" 262⟩, ⟨th P "d" (1), .ref 45, .str "2-" 265⟩, ⟨th P "r" (1), .ref 46, .str "2-" 268⟩, ⟨th P "D" (2), .ref 47, .str "2-" 271⟩, ⟨th P "R" (2), .ref 48, .str "2-" 274⟩, ⟨th P "G" (2), .ref 49, .str "2g" 277⟩, ⟨th P "G" (3), .ref 50, .str "2G" 280⟩, ⟨th P "." (0), .ref 51, .str "2-" 283⟩, ⟨th P "2" (0), .ref 52, .str "2-" 286⟩, ⟨th P "3" (0), .ref 53, .str "3n0-" 289⟩] 10, #[]⟩
noncomputable def H5_10 (P : Params) : Heap := ⟨⟨[boot_o_0 P, boot_o_1 P, boot_o_2 P, o4_3 P, boot_o_4 P, boot_o_5 P, boot_o_6 P, boot_o_7 P, boot_o_8 P, boot_o_9 P, boot_o_10 P, o1_11 P, o3_12 P, o1_13 P, o1_14 P, o3_15 P, o3_16 P, o3_17 P, o3_18 P, o3_19 P, o3_20 P, o3_21 P, o3_22 P, o3_23 P, o3_24 P, o3_25 P, o3_26 P, o3_27 P, o3_28 P, o3_29 P, o3_30 P, o3_31 P, o3_32 P, o3_33 P, o3_34 P, o3_35 P, o3_36 P, o3_37 P, o3_38 P, o3_39 P, o3_40 P, o4_41 P, o4_42 P, o5_10_43 P, o5_0_44 P, o5_0_45 P, o5_0_46 P, o5_0_47 P, o5_0_48 P, o5_0_49 P, o5_0_50 P, o5_0_51 P, o5_0_52 P, o5_0_53 P]⟩, (boot_heap P).life⟩
noncomputable def k5_10 : Nat := 320
noncomputable def E5_10 (P : Params) : Array DictEntry := #[⟨th P "s" (1), .ref 44, .str "2-" 262⟩, ⟨th P "d" (1), .ref 45, .str "2-" 265⟩, ⟨th P "r" (1), .ref 46, .str "2-" 268⟩, ⟨th P "D" (2), .ref 47, .str "2-" 271⟩, ⟨th P "R" (2), .ref 48, .str "2-" 274⟩, ⟨th P "G" (2), .ref 49, .str "2g" 277⟩, ⟨th P "G" (3), .ref 50, .str "2G" 280⟩, ⟨th P "." (0), .ref 51, .str "2-" 283⟩, ⟨th P "2" (0), .ref 52, .str "2-" 286⟩, ⟨th P "3" (0), .ref 53, .str "3n0-" 289⟩]
noncomputable def ep5_10 : Nat := 10
noncomputable def t5 : Stmt := tp 17
noncomputable def o5_3 (P : Params) : Obj := ⟨.type "dict", none, .dict #[⟨PyData.keyHash P "__name__", .str "__name__" 165, .str "noteworth.steps" 238⟩, ⟨PyData.keyHash P "__doc__", .str "__doc__" 166, .none⟩, ⟨PyData.keyHash P "__package__", .str "__package__" 167, .none⟩, ⟨PyData.keyHash P "__loader__", .str "__loader__" 168, .builtin "__main__.__loader__#opaque"⟩, ⟨PyData.keyHash P "__spec__", .str "__spec__" 169, .none⟩, ⟨PyData.keyHash P "__annotations__", .str "__annotations__" 170, .ref 6⟩, ⟨PyData.keyHash P "__builtins__", .str "__builtins__" 171, .ref 4⟩, ⟨PyData.keyHash P "__file__", .str "__file__" 173, .str "/claim/cut.py" 172⟩, ⟨PyData.keyHash P "__cached__", .str "__cached__" 174, .none⟩, ⟨PyData.keyHash P "SMALL_KINDS", .str "SMALL_KINDS" 192, .ref 15⟩, ⟨PyData.keyHash P "PARTING_KINDS", .str "PARTING_KINDS" 196, .ref 16⟩, ⟨PyData.keyHash P "MEASURE_KINDS", .str "MEASURE_KINDS" 199, .ref 17⟩, ⟨PyData.keyHash P "SOUNDING_KINDS", .str "SOUNDING_KINDS" 204, .ref 18⟩, ⟨PyData.keyHash P "small", .str "small" 211, .ref 25⟩, ⟨PyData.keyHash P "parting", .str "parting" 218, .ref 32⟩, ⟨PyData.keyHash P "DARK_KINDS", .str "DARK_KINDS" 223, .ref 33⟩, ⟨PyData.keyHash P "sign_price", .str "sign_price" 234, .ref 40⟩, ⟨PyData.keyHash P "REST_TONE", .str "REST_TONE" 237, .int (-1) 236⟩, ⟨PyData.keyHash P "TWOFOLD_STATES", .str "TWOFOLD_STATES" 243, .ref 41⟩, ⟨PyData.keyHash P "TWOFOLD_BEGIN", .str "TWOFOLD_BEGIN" 245, .str "2-" 244⟩, ⟨PyData.keyHash P "THREEFOLD_BEGIN", .str "THREEFOLD_BEGIN" 247, .str "3n0-" 246⟩, ⟨PyData.keyHash P "SHORTENED_FROM_AHEAD", .str "SHORTENED_FROM_AHEAD" 249, .str "3t0-" 248⟩, ⟨PyData.keyHash P "NEXT_COUNTS", .str "NEXT_COUNTS" 259, .ref 42⟩, ⟨PyData.keyHash P "TWOFOLD_STEPS", .str "TWOFOLD_STEPS" 320, .ref 43⟩] 24, #[]⟩
noncomputable def H5 (P : Params) : Heap := ⟨⟨[boot_o_0 P, boot_o_1 P, boot_o_2 P, o5_3 P, boot_o_4 P, boot_o_5 P, boot_o_6 P, boot_o_7 P, boot_o_8 P, boot_o_9 P, boot_o_10 P, o1_11 P, o3_12 P, o1_13 P, o1_14 P, o3_15 P, o3_16 P, o3_17 P, o3_18 P, o3_19 P, o3_20 P, o3_21 P, o3_22 P, o3_23 P, o3_24 P, o3_25 P, o3_26 P, o3_27 P, o3_28 P, o3_29 P, o3_30 P, o3_31 P, o3_32 P, o3_33 P, o3_34 P, o3_35 P, o3_36 P, o3_37 P, o3_38 P, o3_39 P, o3_40 P, o4_41 P, o4_42 P, o5_10_43 P, o5_0_44 P, o5_0_45 P, o5_0_46 P, o5_0_47 P, o5_0_48 P, o5_0_49 P, o5_0_50 P, o5_0_51 P, o5_0_52 P, o5_0_53 P]⟩, (boot_heap P).life⟩
noncomputable def k5 : Nat := 321
noncomputable def n5 : Nat := 351
noncomputable def p5 : Pos := ⟨28, 0, 28, 13⟩
noncomputable def d6 : Nat := 54
noncomputable def dp6 : Pos := ⟨29, 14, 29, 86⟩
noncomputable def vs6 : List (Value × Value) := [(.ref 55, .str "3w0-" 323), (.ref 56, .str "3h0-" 326), (.ref 57, .str "3n0-" 329), (.ref 58, .str "3n0-" 332)]
noncomputable def o6_0_54 (P : Params) : Obj := ⟨.type "dict", none, .dict #[] 0, #[]⟩
noncomputable def o6_0_55 (P : Params) : Obj := ⟨.type "tuple", none, .seq #[.str "G" 321, .int (3) 322] 0, #[]⟩
noncomputable def o6_0_56 (P : Params) : Obj := ⟨.type "tuple", none, .seq #[.str "G" 324, .int (2) 325] 0, #[]⟩
noncomputable def o6_0_57 (P : Params) : Obj := ⟨.type "tuple", none, .seq #[.str "D" 327, .int (2) 328] 0, #[]⟩
noncomputable def o6_0_58 (P : Params) : Obj := ⟨.type "tuple", none, .seq #[.str "R" 330, .int (3) 331] 0, #[]⟩
noncomputable def H6_0 (P : Params) : Heap := ⟨⟨[boot_o_0 P, boot_o_1 P, boot_o_2 P, o5_3 P, boot_o_4 P, boot_o_5 P, boot_o_6 P, boot_o_7 P, boot_o_8 P, boot_o_9 P, boot_o_10 P, o1_11 P, o3_12 P, o1_13 P, o1_14 P, o3_15 P, o3_16 P, o3_17 P, o3_18 P, o3_19 P, o3_20 P, o3_21 P, o3_22 P, o3_23 P, o3_24 P, o3_25 P, o3_26 P, o3_27 P, o3_28 P, o3_29 P, o3_30 P, o3_31 P, o3_32 P, o3_33 P, o3_34 P, o3_35 P, o3_36 P, o3_37 P, o3_38 P, o3_39 P, o3_40 P, o4_41 P, o4_42 P, o5_10_43 P, o5_0_44 P, o5_0_45 P, o5_0_46 P, o5_0_47 P, o5_0_48 P, o5_0_49 P, o5_0_50 P, o5_0_51 P, o5_0_52 P, o5_0_53 P, o6_0_54 P, o6_0_55 P, o6_0_56 P, o6_0_57 P, o6_0_58 P]⟩, (boot_heap P).life⟩
noncomputable def k6_0 : Nat := 333
noncomputable def E6_0 (P : Params) : Array DictEntry := #[]
noncomputable def ep6_0 : Nat := 0
noncomputable def a6_0 : Nat := 55
noncomputable def v6_0 : Value := .str "3w0-" 323
noncomputable def o6_1_54 (P : Params) : Obj := ⟨.type "dict", none, .dict #[⟨th P "G" (3), .ref 55, .str "3w0-" 323⟩] 1, #[]⟩
noncomputable def H6_1 (P : Params) : Heap := ⟨⟨[boot_o_0 P, boot_o_1 P, boot_o_2 P, o5_3 P, boot_o_4 P, boot_o_5 P, boot_o_6 P, boot_o_7 P, boot_o_8 P, boot_o_9 P, boot_o_10 P, o1_11 P, o3_12 P, o1_13 P, o1_14 P, o3_15 P, o3_16 P, o3_17 P, o3_18 P, o3_19 P, o3_20 P, o3_21 P, o3_22 P, o3_23 P, o3_24 P, o3_25 P, o3_26 P, o3_27 P, o3_28 P, o3_29 P, o3_30 P, o3_31 P, o3_32 P, o3_33 P, o3_34 P, o3_35 P, o3_36 P, o3_37 P, o3_38 P, o3_39 P, o3_40 P, o4_41 P, o4_42 P, o5_10_43 P, o5_0_44 P, o5_0_45 P, o5_0_46 P, o5_0_47 P, o5_0_48 P, o5_0_49 P, o5_0_50 P, o5_0_51 P, o5_0_52 P, o5_0_53 P, o6_1_54 P, o6_0_55 P, o6_0_56 P, o6_0_57 P, o6_0_58 P]⟩, (boot_heap P).life⟩
noncomputable def k6_1 : Nat := 336
noncomputable def E6_1 (P : Params) : Array DictEntry := #[⟨th P "G" (3), .ref 55, .str "3w0-" 323⟩]
noncomputable def ep6_1 : Nat := 1
noncomputable def a6_1 : Nat := 56
noncomputable def v6_1 : Value := .str "3h0-" 326
noncomputable def o6_2_54 (P : Params) : Obj := ⟨.type "dict", none, .dict #[⟨th P "G" (3), .ref 55, .str "3w0-" 323⟩, ⟨th P "G" (2), .ref 56, .str "3h0-" 326⟩] 2, #[]⟩
noncomputable def H6_2 (P : Params) : Heap := ⟨⟨[boot_o_0 P, boot_o_1 P, boot_o_2 P, o5_3 P, boot_o_4 P, boot_o_5 P, boot_o_6 P, boot_o_7 P, boot_o_8 P, boot_o_9 P, boot_o_10 P, o1_11 P, o3_12 P, o1_13 P, o1_14 P, o3_15 P, o3_16 P, o3_17 P, o3_18 P, o3_19 P, o3_20 P, o3_21 P, o3_22 P, o3_23 P, o3_24 P, o3_25 P, o3_26 P, o3_27 P, o3_28 P, o3_29 P, o3_30 P, o3_31 P, o3_32 P, o3_33 P, o3_34 P, o3_35 P, o3_36 P, o3_37 P, o3_38 P, o3_39 P, o3_40 P, o4_41 P, o4_42 P, o5_10_43 P, o5_0_44 P, o5_0_45 P, o5_0_46 P, o5_0_47 P, o5_0_48 P, o5_0_49 P, o5_0_50 P, o5_0_51 P, o5_0_52 P, o5_0_53 P, o6_2_54 P, o6_0_55 P, o6_0_56 P, o6_0_57 P, o6_0_58 P]⟩, (boot_heap P).life⟩
noncomputable def k6_2 : Nat := 339
noncomputable def E6_2 (P : Params) : Array DictEntry := #[⟨th P "G" (3), .ref 55, .str "3w0-" 323⟩, ⟨th P "G" (2), .ref 56, .str "3h0-" 326⟩]
noncomputable def ep6_2 : Nat := 2
noncomputable def a6_2 : Nat := 57
noncomputable def v6_2 : Value := .str "3n0-" 329
noncomputable def o6_3_54 (P : Params) : Obj := ⟨.type "dict", none, .dict #[⟨th P "G" (3), .ref 55, .str "3w0-" 323⟩, ⟨th P "G" (2), .ref 56, .str "3h0-" 326⟩, ⟨th P "D" (2), .ref 57, .str "3n0-" 329⟩] 3, #[]⟩
noncomputable def H6_3 (P : Params) : Heap := ⟨⟨[boot_o_0 P, boot_o_1 P, boot_o_2 P, o5_3 P, boot_o_4 P, boot_o_5 P, boot_o_6 P, boot_o_7 P, boot_o_8 P, boot_o_9 P, boot_o_10 P, o1_11 P, o3_12 P, o1_13 P, o1_14 P, o3_15 P, o3_16 P, o3_17 P, o3_18 P, o3_19 P, o3_20 P, o3_21 P, o3_22 P, o3_23 P, o3_24 P, o3_25 P, o3_26 P, o3_27 P, o3_28 P, o3_29 P, o3_30 P, o3_31 P, o3_32 P, o3_33 P, o3_34 P, o3_35 P, o3_36 P, o3_37 P, o3_38 P, o3_39 P, o3_40 P, o4_41 P, o4_42 P, o5_10_43 P, o5_0_44 P, o5_0_45 P, o5_0_46 P, o5_0_47 P, o5_0_48 P, o5_0_49 P, o5_0_50 P, o5_0_51 P, o5_0_52 P, o5_0_53 P, o6_3_54 P, o6_0_55 P, o6_0_56 P, o6_0_57 P, o6_0_58 P]⟩, (boot_heap P).life⟩
noncomputable def k6_3 : Nat := 342
noncomputable def E6_3 (P : Params) : Array DictEntry := #[⟨th P "G" (3), .ref 55, .str "3w0-" 323⟩, ⟨th P "G" (2), .ref 56, .str "3h0-" 326⟩, ⟨th P "D" (2), .ref 57, .str "3n0-" 329⟩]
noncomputable def ep6_3 : Nat := 3
noncomputable def a6_3 : Nat := 58
noncomputable def v6_3 : Value := .str "3n0-" 332
noncomputable def o6_4_54 (P : Params) : Obj := ⟨.type "dict", none, .dict #[⟨th P "G" (3), .ref 55, .str "3w0-" 323⟩, ⟨th P "G" (2), .ref 56, .str "3h0-" 326⟩, ⟨th P "D" (2), .ref 57, .str "3n0-" 329⟩, ⟨th P "R" (3), .ref 58, .str "3n0-" 332⟩] 4, #[]⟩
noncomputable def H6_4 (P : Params) : Heap := ⟨⟨[boot_o_0 P, boot_o_1 P, boot_o_2 P, o5_3 P, boot_o_4 P, boot_o_5 P, boot_o_6 P, boot_o_7 P, boot_o_8 P, boot_o_9 P, boot_o_10 P, o1_11 P, o3_12 P, o1_13 P, o1_14 P, o3_15 P, o3_16 P, o3_17 P, o3_18 P, o3_19 P, o3_20 P, o3_21 P, o3_22 P, o3_23 P, o3_24 P, o3_25 P, o3_26 P, o3_27 P, o3_28 P, o3_29 P, o3_30 P, o3_31 P, o3_32 P, o3_33 P, o3_34 P, o3_35 P, o3_36 P, o3_37 P, o3_38 P, o3_39 P, o3_40 P, o4_41 P, o4_42 P, o5_10_43 P, o5_0_44 P, o5_0_45 P, o5_0_46 P, o5_0_47 P, o5_0_48 P, o5_0_49 P, o5_0_50 P, o5_0_51 P, o5_0_52 P, o5_0_53 P, o6_4_54 P, o6_0_55 P, o6_0_56 P, o6_0_57 P, o6_0_58 P]⟩, (boot_heap P).life⟩
noncomputable def k6_4 : Nat := 345
noncomputable def E6_4 (P : Params) : Array DictEntry := #[⟨th P "G" (3), .ref 55, .str "3w0-" 323⟩, ⟨th P "G" (2), .ref 56, .str "3h0-" 326⟩, ⟨th P "D" (2), .ref 57, .str "3n0-" 329⟩, ⟨th P "R" (3), .ref 58, .str "3n0-" 332⟩]
noncomputable def ep6_4 : Nat := 4
noncomputable def t6 : Stmt := tp 18
noncomputable def o6_3 (P : Params) : Obj := ⟨.type "dict", none, .dict #[⟨PyData.keyHash P "__name__", .str "__name__" 165, .str "noteworth.steps" 238⟩, ⟨PyData.keyHash P "__doc__", .str "__doc__" 166, .none⟩, ⟨PyData.keyHash P "__package__", .str "__package__" 167, .none⟩, ⟨PyData.keyHash P "__loader__", .str "__loader__" 168, .builtin "__main__.__loader__#opaque"⟩, ⟨PyData.keyHash P "__spec__", .str "__spec__" 169, .none⟩, ⟨PyData.keyHash P "__annotations__", .str "__annotations__" 170, .ref 6⟩, ⟨PyData.keyHash P "__builtins__", .str "__builtins__" 171, .ref 4⟩, ⟨PyData.keyHash P "__file__", .str "__file__" 173, .str "/claim/cut.py" 172⟩, ⟨PyData.keyHash P "__cached__", .str "__cached__" 174, .none⟩, ⟨PyData.keyHash P "SMALL_KINDS", .str "SMALL_KINDS" 192, .ref 15⟩, ⟨PyData.keyHash P "PARTING_KINDS", .str "PARTING_KINDS" 196, .ref 16⟩, ⟨PyData.keyHash P "MEASURE_KINDS", .str "MEASURE_KINDS" 199, .ref 17⟩, ⟨PyData.keyHash P "SOUNDING_KINDS", .str "SOUNDING_KINDS" 204, .ref 18⟩, ⟨PyData.keyHash P "small", .str "small" 211, .ref 25⟩, ⟨PyData.keyHash P "parting", .str "parting" 218, .ref 32⟩, ⟨PyData.keyHash P "DARK_KINDS", .str "DARK_KINDS" 223, .ref 33⟩, ⟨PyData.keyHash P "sign_price", .str "sign_price" 234, .ref 40⟩, ⟨PyData.keyHash P "REST_TONE", .str "REST_TONE" 237, .int (-1) 236⟩, ⟨PyData.keyHash P "TWOFOLD_STATES", .str "TWOFOLD_STATES" 243, .ref 41⟩, ⟨PyData.keyHash P "TWOFOLD_BEGIN", .str "TWOFOLD_BEGIN" 245, .str "2-" 244⟩, ⟨PyData.keyHash P "THREEFOLD_BEGIN", .str "THREEFOLD_BEGIN" 247, .str "3n0-" 246⟩, ⟨PyData.keyHash P "SHORTENED_FROM_AHEAD", .str "SHORTENED_FROM_AHEAD" 249, .str "3t0-" 248⟩, ⟨PyData.keyHash P "NEXT_COUNTS", .str "NEXT_COUNTS" 259, .ref 42⟩, ⟨PyData.keyHash P "TWOFOLD_STEPS", .str "TWOFOLD_STEPS" 320, .ref 43⟩, ⟨PyData.keyHash P "GREAT_STEPS", .str "GREAT_STEPS" 345, .ref 54⟩] 25, #[]⟩
noncomputable def H6 (P : Params) : Heap := ⟨⟨[boot_o_0 P, boot_o_1 P, boot_o_2 P, o6_3 P, boot_o_4 P, boot_o_5 P, boot_o_6 P, boot_o_7 P, boot_o_8 P, boot_o_9 P, boot_o_10 P, o1_11 P, o3_12 P, o1_13 P, o1_14 P, o3_15 P, o3_16 P, o3_17 P, o3_18 P, o3_19 P, o3_20 P, o3_21 P, o3_22 P, o3_23 P, o3_24 P, o3_25 P, o3_26 P, o3_27 P, o3_28 P, o3_29 P, o3_30 P, o3_31 P, o3_32 P, o3_33 P, o3_34 P, o3_35 P, o3_36 P, o3_37 P, o3_38 P, o3_39 P, o3_40 P, o4_41 P, o4_42 P, o5_10_43 P, o5_0_44 P, o5_0_45 P, o5_0_46 P, o5_0_47 P, o5_0_48 P, o5_0_49 P, o5_0_50 P, o5_0_51 P, o5_0_52 P, o5_0_53 P, o6_4_54 P, o6_0_55 P, o6_0_56 P, o6_0_57 P, o6_0_58 P]⟩, (boot_heap P).life⟩
noncomputable def k6 : Nat := 346
noncomputable def n6 : Nat := 147
noncomputable def p6 : Pos := ⟨29, 0, 29, 11⟩
noncomputable def o7_3 (P : Params) : Obj := ⟨.type "dict", none, .dict #[⟨PyData.keyHash P "__name__", .str "__name__" 165, .str "noteworth.steps" 238⟩, ⟨PyData.keyHash P "__doc__", .str "__doc__" 166, .none⟩, ⟨PyData.keyHash P "__package__", .str "__package__" 167, .none⟩, ⟨PyData.keyHash P "__loader__", .str "__loader__" 168, .builtin "__main__.__loader__#opaque"⟩, ⟨PyData.keyHash P "__spec__", .str "__spec__" 169, .none⟩, ⟨PyData.keyHash P "__annotations__", .str "__annotations__" 170, .ref 6⟩, ⟨PyData.keyHash P "__builtins__", .str "__builtins__" 171, .ref 4⟩, ⟨PyData.keyHash P "__file__", .str "__file__" 173, .str "/claim/cut.py" 172⟩, ⟨PyData.keyHash P "__cached__", .str "__cached__" 174, .none⟩, ⟨PyData.keyHash P "SMALL_KINDS", .str "SMALL_KINDS" 192, .ref 15⟩, ⟨PyData.keyHash P "PARTING_KINDS", .str "PARTING_KINDS" 196, .ref 16⟩, ⟨PyData.keyHash P "MEASURE_KINDS", .str "MEASURE_KINDS" 199, .ref 17⟩, ⟨PyData.keyHash P "SOUNDING_KINDS", .str "SOUNDING_KINDS" 204, .ref 18⟩, ⟨PyData.keyHash P "small", .str "small" 211, .ref 25⟩, ⟨PyData.keyHash P "parting", .str "parting" 218, .ref 32⟩, ⟨PyData.keyHash P "DARK_KINDS", .str "DARK_KINDS" 223, .ref 33⟩, ⟨PyData.keyHash P "sign_price", .str "sign_price" 234, .ref 40⟩, ⟨PyData.keyHash P "REST_TONE", .str "REST_TONE" 237, .int (-1) 236⟩, ⟨PyData.keyHash P "TWOFOLD_STATES", .str "TWOFOLD_STATES" 243, .ref 41⟩, ⟨PyData.keyHash P "TWOFOLD_BEGIN", .str "TWOFOLD_BEGIN" 245, .str "2-" 244⟩, ⟨PyData.keyHash P "THREEFOLD_BEGIN", .str "THREEFOLD_BEGIN" 247, .str "3n0-" 246⟩, ⟨PyData.keyHash P "SHORTENED_FROM_AHEAD", .str "SHORTENED_FROM_AHEAD" 249, .str "3t0-" 248⟩, ⟨PyData.keyHash P "NEXT_COUNTS", .str "NEXT_COUNTS" 259, .ref 42⟩, ⟨PyData.keyHash P "TWOFOLD_STEPS", .str "TWOFOLD_STEPS" 320, .ref 43⟩, ⟨PyData.keyHash P "GREAT_STEPS", .str "GREAT_STEPS" 345, .ref 54⟩, ⟨PyData.keyHash P "begin_state", .str "begin_state" 353, .ref 66⟩, ⟨PyData.keyHash P "step", .str "step" 362, .ref 73⟩, ⟨PyData.keyHash P "ends", .str "ends" 369, .ref 80⟩, ⟨PyData.keyHash P "twofold_step", .str "twofold_step" 378, .ref 87⟩, ⟨PyData.keyHash P "closes", .str "closes" 387, .ref 94⟩, ⟨PyData.keyHash P "closes_by_great", .str "closes_by_great" 394, .ref 101⟩, ⟨PyData.keyHash P "closes_by_right_note", .str "closes_by_right_note" 401, .ref 108⟩, ⟨PyData.keyHash P "great_step", .str "great_step" 410, .ref 115⟩, ⟨PyData.keyHash P "parting_step", .str "parting_step" 419, .ref 122⟩, ⟨PyData.keyHash P "told_last", .str "told_last" 428, .ref 129⟩] 35, #[]⟩
noncomputable def o7_12 (P : Params) : Obj := ⟨.none, none, .fields #[.int (6) 0, .int (0) 0, .ref 24, .int (8) 0, .int (0) 0, .ref 31, .int (12) 0, .int (0) 0, .ref 39, .int (30) 0, .int (0) 0, .ref 65, .int (34) 0, .int (0) 0, .ref 72, .int (42) 0, .int (0) 0, .ref 79, .int (46) 0, .int (0) 0, .ref 86, .int (52) 0, .int (0) 0, .ref 93, .int (57) 0, .int (0) 0, .ref 100, .int (59) 0, .int (0) 0, .ref 107, .int (61) 0, .int (0) 0, .ref 114, .int (69) 0, .int (0) 0, .ref 121, .int (75) 0, .int (0) 0, .ref 128], #[]⟩
noncomputable def o7_59 (P : Params) : Obj := ⟨.type "tuple", none, .seq #[.int (3) 346] 0, #[]⟩
noncomputable def o7_60 (P : Params) : Obj := ⟨.type "tuple", none, .seq #[] 0, #[]⟩
noncomputable def o7_61 (P : Params) : Obj := ⟨.none, none, .fields #[], #[]⟩
noncomputable def o7_62 (P : Params) : Obj := ⟨.type "tuple", none, .seq #[.str "begin" 350] 0, #[]⟩
noncomputable def o7_63 (P : Params) : Obj := ⟨.type "tuple", none, .seq #[] 0, #[]⟩
noncomputable def o7_64 (P : Params) : Obj := ⟨.none, none, .func { name := "begin_state", qualname := "begin_state", params := L2.defArgs (tp 19), body := .stmts (L2.defBody (tp 19)), scope := L2.defScope (tp 19), globals := 0, closure := [], defaults := .none, kwdefaults := .none, doc := .none, pyModule := .none, annotations := none, code := .none, closureTuple := .none, builtins := 0 }, #[]⟩
noncomputable def o7_65 (P : Params) : Obj := ⟨.type "code", none, .fields #[.str "begin_state" 347, .str "begin_state" 348, .str "/claim/cut.py" 349, .int (30) 0, .int (1) 0, .int (0) 0, .int (0) 0, .int (3) 0, .ref 60, .bool true, .int (181) 0, .ref 61, .none, .ref 62, .ref 63, .ref 64, .int (351) 0, .int (30) 0, .str "/claim/cut.py" 352], #[]⟩
noncomputable def o7_66 (P : Params) : Obj := ⟨.type "function", none, .func { name := "begin_state", qualname := "begin_state", params := L2.defArgs (tp 19), body := .stmts (L2.defBody (tp 19)), scope := L2.defScope (tp 19), globals := 3, closure := [], defaults := .ref 59, kwdefaults := .none, doc := .none, pyModule := .str "noteworth.steps" 238, annotations := none, code := .ref 65, closureTuple := .none, builtins := 0 }, #[]⟩
noncomputable def o7_67 (P : Params) : Obj := ⟨.type "tuple", none, .seq #[] 0, #[]⟩
noncomputable def o7_68 (P : Params) : Obj := ⟨.none, none, .fields #[], #[]⟩
noncomputable def o7_69 (P : Params) : Obj := ⟨.type "tuple", none, .seq #[.str "state" 357, .str "sign" 358, .str "worth" 359] 0, #[]⟩
noncomputable def o7_70 (P : Params) : Obj := ⟨.type "tuple", none, .seq #[] 0, #[]⟩
noncomputable def o7_71 (P : Params) : Obj := ⟨.none, none, .func { name := "step", qualname := "step", params := L2.defArgs (tp 20), body := .stmts (L2.defBody (tp 20)), scope := L2.defScope (tp 20), globals := 0, closure := [], defaults := .none, kwdefaults := .none, doc := .none, pyModule := .none, annotations := none, code := .none, closureTuple := .none, builtins := 0 }, #[]⟩
noncomputable def o7_72 (P : Params) : Obj := ⟨.type "code", none, .fields #[.str "step" 354, .str "step" 355, .str "/claim/cut.py" 356, .int (34) 0, .int (3) 0, .int (0) 0, .int (0) 0, .int (3) 0, .ref 67, .bool true, .int (181) 0, .ref 68, .none, .ref 69, .ref 70, .ref 71, .int (360) 0, .int (34) 0, .str "/claim/cut.py" 361], #[]⟩
noncomputable def o7_73 (P : Params) : Obj := ⟨.type "function", none, .func { name := "step", qualname := "step", params := L2.defArgs (tp 20), body := .stmts (L2.defBody (tp 20)), scope := L2.defScope (tp 20), globals := 3, closure := [], defaults := .none, kwdefaults := .none, doc := .none, pyModule := .str "noteworth.steps" 238, annotations := none, code := .ref 72, closureTuple := .none, builtins := 0 }, #[]⟩
noncomputable def o7_74 (P : Params) : Obj := ⟨.type "tuple", none, .seq #[] 0, #[]⟩
noncomputable def o7_75 (P : Params) : Obj := ⟨.none, none, .fields #[], #[]⟩
noncomputable def o7_76 (P : Params) : Obj := ⟨.type "tuple", none, .seq #[.str "state" 366] 0, #[]⟩
noncomputable def o7_77 (P : Params) : Obj := ⟨.type "tuple", none, .seq #[] 0, #[]⟩
noncomputable def o7_78 (P : Params) : Obj := ⟨.none, none, .func { name := "ends", qualname := "ends", params := L2.defArgs (tp 21), body := .stmts (L2.defBody (tp 21)), scope := L2.defScope (tp 21), globals := 0, closure := [], defaults := .none, kwdefaults := .none, doc := .none, pyModule := .none, annotations := none, code := .none, closureTuple := .none, builtins := 0 }, #[]⟩
noncomputable def o7_79 (P : Params) : Obj := ⟨.type "code", none, .fields #[.str "ends" 363, .str "ends" 364, .str "/claim/cut.py" 365, .int (42) 0, .int (1) 0, .int (0) 0, .int (0) 0, .int (3) 0, .ref 74, .bool true, .int (181) 0, .ref 75, .none, .ref 76, .ref 77, .ref 78, .int (367) 0, .int (42) 0, .str "/claim/cut.py" 368], #[]⟩
noncomputable def o7_80 (P : Params) : Obj := ⟨.type "function", none, .func { name := "ends", qualname := "ends", params := L2.defArgs (tp 21), body := .stmts (L2.defBody (tp 21)), scope := L2.defScope (tp 21), globals := 3, closure := [], defaults := .none, kwdefaults := .none, doc := .none, pyModule := .str "noteworth.steps" 238, annotations := none, code := .ref 79, closureTuple := .none, builtins := 0 }, #[]⟩
noncomputable def o7_81 (P : Params) : Obj := ⟨.type "tuple", none, .seq #[] 0, #[]⟩
noncomputable def o7_82 (P : Params) : Obj := ⟨.none, none, .fields #[], #[]⟩
noncomputable def o7_83 (P : Params) : Obj := ⟨.type "tuple", none, .seq #[.str "state" 373, .str "kind" 374, .str "worth" 375] 0, #[]⟩
noncomputable def o7_84 (P : Params) : Obj := ⟨.type "tuple", none, .seq #[] 0, #[]⟩
noncomputable def o7_85 (P : Params) : Obj := ⟨.none, none, .func { name := "twofold_step", qualname := "twofold_step", params := L2.defArgs (tp 22), body := .stmts (L2.defBody (tp 22)), scope := L2.defScope (tp 22), globals := 0, closure := [], defaults := .none, kwdefaults := .none, doc := .none, pyModule := .none, annotations := none, code := .none, closureTuple := .none, builtins := 0 }, #[]⟩
noncomputable def o7_86 (P : Params) : Obj := ⟨.type "code", none, .fields #[.str "twofold_step" 370, .str "twofold_step" 371, .str "/claim/cut.py" 372, .int (46) 0, .int (3) 0, .int (0) 0, .int (0) 0, .int (3) 0, .ref 81, .bool true, .int (181) 0, .ref 82, .none, .ref 83, .ref 84, .ref 85, .int (376) 0, .int (46) 0, .str "/claim/cut.py" 377], #[]⟩
noncomputable def o7_87 (P : Params) : Obj := ⟨.type "function", none, .func { name := "twofold_step", qualname := "twofold_step", params := L2.defArgs (tp 22), body := .stmts (L2.defBody (tp 22)), scope := L2.defScope (tp 22), globals := 3, closure := [], defaults := .none, kwdefaults := .none, doc := .none, pyModule := .str "noteworth.steps" 238, annotations := none, code := .ref 86, closureTuple := .none, builtins := 0 }, #[]⟩
noncomputable def o7_88 (P : Params) : Obj := ⟨.type "tuple", none, .seq #[] 0, #[]⟩
noncomputable def o7_89 (P : Params) : Obj := ⟨.none, none, .fields #[], #[]⟩
noncomputable def o7_90 (P : Params) : Obj := ⟨.type "tuple", none, .seq #[.str "state" 382, .str "left" 383, .str "count" 384] 0, #[]⟩
noncomputable def o7_91 (P : Params) : Obj := ⟨.type "tuple", none, .seq #[] 0, #[]⟩
noncomputable def o7_92 (P : Params) : Obj := ⟨.none, none, .func { name := "closes", qualname := "closes", params := L2.defArgs (tp 23), body := .stmts (L2.defBody (tp 23)), scope := L2.defScope (tp 23), globals := 0, closure := [], defaults := .none, kwdefaults := .none, doc := .none, pyModule := .none, annotations := none, code := .none, closureTuple := .none, builtins := 0 }, #[]⟩
noncomputable def o7_93 (P : Params) : Obj := ⟨.type "code", none, .fields #[.str "closes" 379, .str "closes" 380, .str "/claim/cut.py" 381, .int (52) 0, .int (1) 0, .int (0) 0, .int (0) 0, .int (3) 0, .ref 88, .bool true, .int (181) 0, .ref 89, .none, .ref 90, .ref 91, .ref 92, .int (385) 0, .int (52) 0, .str "/claim/cut.py" 386], #[]⟩
noncomputable def o7_94 (P : Params) : Obj := ⟨.type "function", none, .func { name := "closes", qualname := "closes", params := L2.defArgs (tp 23), body := .stmts (L2.defBody (tp 23)), scope := L2.defScope (tp 23), globals := 3, closure := [], defaults := .none, kwdefaults := .none, doc := .none, pyModule := .str "noteworth.steps" 238, annotations := none, code := .ref 93, closureTuple := .none, builtins := 0 }, #[]⟩
noncomputable def o7_95 (P : Params) : Obj := ⟨.type "tuple", none, .seq #[] 0, #[]⟩
noncomputable def o7_96 (P : Params) : Obj := ⟨.none, none, .fields #[], #[]⟩
noncomputable def o7_97 (P : Params) : Obj := ⟨.type "tuple", none, .seq #[.str "state" 391] 0, #[]⟩
noncomputable def o7_98 (P : Params) : Obj := ⟨.type "tuple", none, .seq #[] 0, #[]⟩
noncomputable def o7_99 (P : Params) : Obj := ⟨.none, none, .func { name := "closes_by_great", qualname := "closes_by_great", params := L2.defArgs (tp 24), body := .stmts (L2.defBody (tp 24)), scope := L2.defScope (tp 24), globals := 0, closure := [], defaults := .none, kwdefaults := .none, doc := .none, pyModule := .none, annotations := none, code := .none, closureTuple := .none, builtins := 0 }, #[]⟩
noncomputable def o7_100 (P : Params) : Obj := ⟨.type "code", none, .fields #[.str "closes_by_great" 388, .str "closes_by_great" 389, .str "/claim/cut.py" 390, .int (57) 0, .int (1) 0, .int (0) 0, .int (0) 0, .int (3) 0, .ref 95, .bool true, .int (181) 0, .ref 96, .none, .ref 97, .ref 98, .ref 99, .int (392) 0, .int (57) 0, .str "/claim/cut.py" 393], #[]⟩
noncomputable def o7_101 (P : Params) : Obj := ⟨.type "function", none, .func { name := "closes_by_great", qualname := "closes_by_great", params := L2.defArgs (tp 24), body := .stmts (L2.defBody (tp 24)), scope := L2.defScope (tp 24), globals := 3, closure := [], defaults := .none, kwdefaults := .none, doc := .none, pyModule := .str "noteworth.steps" 238, annotations := none, code := .ref 100, closureTuple := .none, builtins := 0 }, #[]⟩
noncomputable def o7_102 (P : Params) : Obj := ⟨.type "tuple", none, .seq #[] 0, #[]⟩
noncomputable def o7_103 (P : Params) : Obj := ⟨.none, none, .fields #[], #[]⟩
noncomputable def o7_104 (P : Params) : Obj := ⟨.type "tuple", none, .seq #[.str "state" 398] 0, #[]⟩
noncomputable def o7_105 (P : Params) : Obj := ⟨.type "tuple", none, .seq #[] 0, #[]⟩
noncomputable def o7_106 (P : Params) : Obj := ⟨.none, none, .func { name := "closes_by_right_note", qualname := "closes_by_right_note", params := L2.defArgs (tp 25), body := .stmts (L2.defBody (tp 25)), scope := L2.defScope (tp 25), globals := 0, closure := [], defaults := .none, kwdefaults := .none, doc := .none, pyModule := .none, annotations := none, code := .none, closureTuple := .none, builtins := 0 }, #[]⟩
noncomputable def o7_107 (P : Params) : Obj := ⟨.type "code", none, .fields #[.str "closes_by_right_note" 395, .str "closes_by_right_note" 396, .str "/claim/cut.py" 397, .int (59) 0, .int (1) 0, .int (0) 0, .int (0) 0, .int (3) 0, .ref 102, .bool true, .int (181) 0, .ref 103, .none, .ref 104, .ref 105, .ref 106, .int (399) 0, .int (59) 0, .str "/claim/cut.py" 400], #[]⟩
noncomputable def o7_108 (P : Params) : Obj := ⟨.type "function", none, .func { name := "closes_by_right_note", qualname := "closes_by_right_note", params := L2.defArgs (tp 25), body := .stmts (L2.defBody (tp 25)), scope := L2.defScope (tp 25), globals := 3, closure := [], defaults := .none, kwdefaults := .none, doc := .none, pyModule := .str "noteworth.steps" 238, annotations := none, code := .ref 107, closureTuple := .none, builtins := 0 }, #[]⟩
noncomputable def o7_109 (P : Params) : Obj := ⟨.type "tuple", none, .seq #[] 0, #[]⟩
noncomputable def o7_110 (P : Params) : Obj := ⟨.none, none, .fields #[], #[]⟩
noncomputable def o7_111 (P : Params) : Obj := ⟨.type "tuple", none, .seq #[.str "state" 405, .str "kind" 406, .str "worth" 407] 0, #[]⟩
noncomputable def o7_112 (P : Params) : Obj := ⟨.type "tuple", none, .seq #[] 0, #[]⟩
noncomputable def o7_113 (P : Params) : Obj := ⟨.none, none, .func { name := "great_step", qualname := "great_step", params := L2.defArgs (tp 26), body := .stmts (L2.defBody (tp 26)), scope := L2.defScope (tp 26), globals := 0, closure := [], defaults := .none, kwdefaults := .none, doc := .none, pyModule := .none, annotations := none, code := .none, closureTuple := .none, builtins := 0 }, #[]⟩
noncomputable def o7_114 (P : Params) : Obj := ⟨.type "code", none, .fields #[.str "great_step" 402, .str "great_step" 403, .str "/claim/cut.py" 404, .int (61) 0, .int (3) 0, .int (0) 0, .int (0) 0, .int (3) 0, .ref 109, .bool true, .int (181) 0, .ref 110, .none, .ref 111, .ref 112, .ref 113, .int (408) 0, .int (61) 0, .str "/claim/cut.py" 409], #[]⟩
noncomputable def o7_115 (P : Params) : Obj := ⟨.type "function", none, .func { name := "great_step", qualname := "great_step", params := L2.defArgs (tp 26), body := .stmts (L2.defBody (tp 26)), scope := L2.defScope (tp 26), globals := 3, closure := [], defaults := .none, kwdefaults := .none, doc := .none, pyModule := .str "noteworth.steps" 238, annotations := none, code := .ref 114, closureTuple := .none, builtins := 0 }, #[]⟩
noncomputable def o7_116 (P : Params) : Obj := ⟨.type "tuple", none, .seq #[] 0, #[]⟩
noncomputable def o7_117 (P : Params) : Obj := ⟨.none, none, .fields #[], #[]⟩
noncomputable def o7_118 (P : Params) : Obj := ⟨.type "tuple", none, .seq #[.str "state" 414, .str "kind" 415, .str "worth" 416] 0, #[]⟩
noncomputable def o7_119 (P : Params) : Obj := ⟨.type "tuple", none, .seq #[] 0, #[]⟩
noncomputable def o7_120 (P : Params) : Obj := ⟨.none, none, .func { name := "parting_step", qualname := "parting_step", params := L2.defArgs (tp 27), body := .stmts (L2.defBody (tp 27)), scope := L2.defScope (tp 27), globals := 0, closure := [], defaults := .none, kwdefaults := .none, doc := .none, pyModule := .none, annotations := none, code := .none, closureTuple := .none, builtins := 0 }, #[]⟩
noncomputable def o7_121 (P : Params) : Obj := ⟨.type "code", none, .fields #[.str "parting_step" 411, .str "parting_step" 412, .str "/claim/cut.py" 413, .int (69) 0, .int (3) 0, .int (0) 0, .int (0) 0, .int (3) 0, .ref 116, .bool true, .int (181) 0, .ref 117, .none, .ref 118, .ref 119, .ref 120, .int (417) 0, .int (69) 0, .str "/claim/cut.py" 418], #[]⟩
noncomputable def o7_122 (P : Params) : Obj := ⟨.type "function", none, .func { name := "parting_step", qualname := "parting_step", params := L2.defArgs (tp 27), body := .stmts (L2.defBody (tp 27)), scope := L2.defScope (tp 27), globals := 3, closure := [], defaults := .none, kwdefaults := .none, doc := .none, pyModule := .str "noteworth.steps" 238, annotations := none, code := .ref 121, closureTuple := .none, builtins := 0 }, #[]⟩
noncomputable def o7_123 (P : Params) : Obj := ⟨.type "tuple", none, .seq #[] 0, #[]⟩
noncomputable def o7_124 (P : Params) : Obj := ⟨.none, none, .fields #[], #[]⟩
noncomputable def o7_125 (P : Params) : Obj := ⟨.type "tuple", none, .seq #[.str "kind" 423, .str "count" 424, .str "worth" 425] 0, #[]⟩
noncomputable def o7_126 (P : Params) : Obj := ⟨.type "tuple", none, .seq #[] 0, #[]⟩
noncomputable def o7_127 (P : Params) : Obj := ⟨.none, none, .func { name := "told_last", qualname := "told_last", params := L2.defArgs (tp 28), body := .stmts (L2.defBody (tp 28)), scope := L2.defScope (tp 28), globals := 0, closure := [], defaults := .none, kwdefaults := .none, doc := .none, pyModule := .none, annotations := none, code := .none, closureTuple := .none, builtins := 0 }, #[]⟩
noncomputable def o7_128 (P : Params) : Obj := ⟨.type "code", none, .fields #[.str "told_last" 420, .str "told_last" 421, .str "/claim/cut.py" 422, .int (75) 0, .int (3) 0, .int (0) 0, .int (0) 0, .int (3) 0, .ref 123, .bool true, .int (181) 0, .ref 124, .none, .ref 125, .ref 126, .ref 127, .int (426) 0, .int (75) 0, .str "/claim/cut.py" 427], #[]⟩
noncomputable def o7_129 (P : Params) : Obj := ⟨.type "function", none, .func { name := "told_last", qualname := "told_last", params := L2.defArgs (tp 28), body := .stmts (L2.defBody (tp 28)), scope := L2.defScope (tp 28), globals := 3, closure := [], defaults := .none, kwdefaults := .none, doc := .none, pyModule := .str "noteworth.steps" 238, annotations := none, code := .ref 128, closureTuple := .none, builtins := 0 }, #[]⟩
noncomputable def H7 (P : Params) : Heap := ⟨⟨[boot_o_0 P, boot_o_1 P, boot_o_2 P, o7_3 P, boot_o_4 P, boot_o_5 P, boot_o_6 P, boot_o_7 P, boot_o_8 P, boot_o_9 P, boot_o_10 P, o1_11 P, o7_12 P, o1_13 P, o1_14 P, o3_15 P, o3_16 P, o3_17 P, o3_18 P, o3_19 P, o3_20 P, o3_21 P, o3_22 P, o3_23 P, o3_24 P, o3_25 P, o3_26 P, o3_27 P, o3_28 P, o3_29 P, o3_30 P, o3_31 P, o3_32 P, o3_33 P, o3_34 P, o3_35 P, o3_36 P, o3_37 P, o3_38 P, o3_39 P, o3_40 P, o4_41 P, o4_42 P, o5_10_43 P, o5_0_44 P, o5_0_45 P, o5_0_46 P, o5_0_47 P, o5_0_48 P, o5_0_49 P, o5_0_50 P, o5_0_51 P, o5_0_52 P, o5_0_53 P, o6_4_54 P, o6_0_55 P, o6_0_56 P, o6_0_57 P, o6_0_58 P, o7_59 P, o7_60 P, o7_61 P, o7_62 P, o7_63 P, o7_64 P, o7_65 P, o7_66 P, o7_67 P, o7_68 P, o7_69 P, o7_70 P, o7_71 P, o7_72 P, o7_73 P, o7_74 P, o7_75 P, o7_76 P, o7_77 P, o7_78 P, o7_79 P, o7_80 P, o7_81 P, o7_82 P, o7_83 P, o7_84 P, o7_85 P, o7_86 P, o7_87 P, o7_88 P, o7_89 P, o7_90 P, o7_91 P, o7_92 P, o7_93 P, o7_94 P, o7_95 P, o7_96 P, o7_97 P, o7_98 P, o7_99 P, o7_100 P, o7_101 P, o7_102 P, o7_103 P, o7_104 P, o7_105 P, o7_106 P, o7_107 P, o7_108 P, o7_109 P, o7_110 P, o7_111 P, o7_112 P, o7_113 P, o7_114 P, o7_115 P, o7_116 P, o7_117 P, o7_118 P, o7_119 P, o7_120 P, o7_121 P, o7_122 P, o7_123 P, o7_124 P, o7_125 P, o7_126 P, o7_127 P, o7_128 P, o7_129 P]⟩, (boot_heap P).life⟩
noncomputable def k7 : Nat := 429
noncomputable def n7 : Nat := 305
noncomputable def p7 : Pos := ⟨75, 0, 80, 15⟩
noncomputable def s7 : List Stmt := [tp 19, tp 20, tp 21, tp 22, tp 23, tp 24, tp 25, tp 26, tp 27, tp 28]
noncomputable def o8_3 (P : Params) : Obj := ⟨.type "dict", none, .dict #[⟨PyData.keyHash P "__name__", .str "__name__" 165, .str "noteworth.writer" 494⟩, ⟨PyData.keyHash P "__doc__", .str "__doc__" 166, .none⟩, ⟨PyData.keyHash P "__package__", .str "__package__" 167, .none⟩, ⟨PyData.keyHash P "__loader__", .str "__loader__" 168, .builtin "__main__.__loader__#opaque"⟩, ⟨PyData.keyHash P "__spec__", .str "__spec__" 169, .none⟩, ⟨PyData.keyHash P "__annotations__", .str "__annotations__" 170, .ref 6⟩, ⟨PyData.keyHash P "__builtins__", .str "__builtins__" 171, .ref 4⟩, ⟨PyData.keyHash P "__file__", .str "__file__" 173, .str "/claim/cut.py" 172⟩, ⟨PyData.keyHash P "__cached__", .str "__cached__" 174, .none⟩, ⟨PyData.keyHash P "SMALL_KINDS", .str "SMALL_KINDS" 192, .ref 15⟩, ⟨PyData.keyHash P "PARTING_KINDS", .str "PARTING_KINDS" 196, .ref 16⟩, ⟨PyData.keyHash P "MEASURE_KINDS", .str "MEASURE_KINDS" 199, .ref 17⟩, ⟨PyData.keyHash P "SOUNDING_KINDS", .str "SOUNDING_KINDS" 204, .ref 18⟩, ⟨PyData.keyHash P "small", .str "small" 211, .ref 25⟩, ⟨PyData.keyHash P "parting", .str "parting" 218, .ref 32⟩, ⟨PyData.keyHash P "DARK_KINDS", .str "DARK_KINDS" 223, .ref 33⟩, ⟨PyData.keyHash P "sign_price", .str "sign_price" 234, .ref 40⟩, ⟨PyData.keyHash P "REST_TONE", .str "REST_TONE" 237, .int (-1) 236⟩, ⟨PyData.keyHash P "TWOFOLD_STATES", .str "TWOFOLD_STATES" 243, .ref 41⟩, ⟨PyData.keyHash P "TWOFOLD_BEGIN", .str "TWOFOLD_BEGIN" 245, .str "2-" 244⟩, ⟨PyData.keyHash P "THREEFOLD_BEGIN", .str "THREEFOLD_BEGIN" 247, .str "3n0-" 246⟩, ⟨PyData.keyHash P "SHORTENED_FROM_AHEAD", .str "SHORTENED_FROM_AHEAD" 249, .str "3t0-" 248⟩, ⟨PyData.keyHash P "NEXT_COUNTS", .str "NEXT_COUNTS" 259, .ref 42⟩, ⟨PyData.keyHash P "TWOFOLD_STEPS", .str "TWOFOLD_STEPS" 320, .ref 43⟩, ⟨PyData.keyHash P "GREAT_STEPS", .str "GREAT_STEPS" 345, .ref 54⟩, ⟨PyData.keyHash P "begin_state", .str "begin_state" 353, .ref 66⟩, ⟨PyData.keyHash P "step", .str "step" 362, .ref 73⟩, ⟨PyData.keyHash P "ends", .str "ends" 369, .ref 80⟩, ⟨PyData.keyHash P "twofold_step", .str "twofold_step" 378, .ref 87⟩, ⟨PyData.keyHash P "closes", .str "closes" 387, .ref 94⟩, ⟨PyData.keyHash P "closes_by_great", .str "closes_by_great" 394, .ref 101⟩, ⟨PyData.keyHash P "closes_by_right_note", .str "closes_by_right_note" 401, .ref 108⟩, ⟨PyData.keyHash P "great_step", .str "great_step" 410, .ref 115⟩, ⟨PyData.keyHash P "parting_step", .str "parting_step" 419, .ref 122⟩, ⟨PyData.keyHash P "told_last", .str "told_last" 428, .ref 129⟩, ⟨PyData.keyHash P "small_step", .str "small_step" 440, .ref 136⟩, ⟨PyData.keyHash P "PARTING_SIGNS", .str "PARTING_SIGNS" 449, .ref 140⟩, ⟨PyData.keyHash P "REST_SIGNS", .str "REST_SIGNS" 454, .ref 143⟩, ⟨PyData.keyHash P "moves", .str "moves" 468, .ref 150⟩, ⟨PyData.keyHash P "parting_moves", .str "parting_moves" 476, .ref 157⟩, ⟨PyData.keyHash P "wished_signs", .str "wished_signs" 482, .ref 162⟩, ⟨PyData.keyHash P "wish_moves", .str "wish_moves" 493, .ref 169⟩, ⟨PyData.keyHash P "MOST_PARTING_SIGNS", .str "MOST_PARTING_SIGNS" 497, .int (2) 496⟩] 43, #[]⟩
noncomputable def o8_12 (P : Params) : Obj := ⟨.none, none, .fields #[.int (6) 0, .int (0) 0, .ref 24, .int (8) 0, .int (0) 0, .ref 31, .int (12) 0, .int (0) 0, .ref 39, .int (30) 0, .int (0) 0, .ref 65, .int (34) 0, .int (0) 0, .ref 72, .int (42) 0, .int (0) 0, .ref 79, .int (46) 0, .int (0) 0, .ref 86, .int (52) 0, .int (0) 0, .ref 93, .int (57) 0, .int (0) 0, .ref 100, .int (59) 0, .int (0) 0, .ref 107, .int (61) 0, .int (0) 0, .ref 114, .int (69) 0, .int (0) 0, .ref 121, .int (75) 0, .int (0) 0, .ref 128, .int (81) 0, .int (0) 0, .ref 135, .int (93) 0, .int (0) 0, .ref 149, .int (101) 0, .int (0) 0, .ref 156, .int (103) 0, .int (0) 0, .ref 161, .int (107) 0, .int (0) 0, .ref 168], #[]⟩
noncomputable def o8_130 (P : Params) : Obj := ⟨.type "tuple", none, .seq #[] 0, #[]⟩
noncomputable def o8_131 (P : Params) : Obj := ⟨.none, none, .fields #[], #[]⟩
noncomputable def o8_132 (P : Params) : Obj := ⟨.type "tuple", none, .seq #[.str "state" 432, .str "kind" 433, .str "worth" 434, .str "count" 435, .str "last" 436, .str "left" 437] 0, #[]⟩
noncomputable def o8_133 (P : Params) : Obj := ⟨.type "tuple", none, .seq #[] 0, #[]⟩
noncomputable def o8_134 (P : Params) : Obj := ⟨.none, none, .func { name := "small_step", qualname := "small_step", params := L2.defArgs (tp 29), body := .stmts (L2.defBody (tp 29)), scope := L2.defScope (tp 29), globals := 0, closure := [], defaults := .none, kwdefaults := .none, doc := .none, pyModule := .none, annotations := none, code := .none, closureTuple := .none, builtins := 0 }, #[]⟩
noncomputable def o8_135 (P : Params) : Obj := ⟨.type "code", none, .fields #[.str "small_step" 429, .str "small_step" 430, .str "/claim/cut.py" 431, .int (81) 0, .int (3) 0, .int (0) 0, .int (0) 0, .int (3) 0, .ref 130, .bool true, .int (181) 0, .ref 131, .none, .ref 132, .ref 133, .ref 134, .int (438) 0, .int (81) 0, .str "/claim/cut.py" 439], #[]⟩
noncomputable def o8_136 (P : Params) : Obj := ⟨.type "function", none, .func { name := "small_step", qualname := "small_step", params := L2.defArgs (tp 29), body := .stmts (L2.defBody (tp 29)), scope := L2.defScope (tp 29), globals := 3, closure := [], defaults := .none, kwdefaults := .none, doc := .none, pyModule := .str "noteworth.steps" 238, annotations := none, code := .ref 135, closureTuple := .none, builtins := 0 }, #[]⟩
noncomputable def o8_137 (P : Params) : Obj := ⟨.type "tuple", none, .seq #[.str "." 443, .int (0) 444] 0, #[]⟩
noncomputable def o8_138 (P : Params) : Obj := ⟨.type "tuple", none, .seq #[.str "3" 445, .int (0) 446] 0, #[]⟩
noncomputable def o8_139 (P : Params) : Obj := ⟨.type "tuple", none, .seq #[.str "2" 447, .int (0) 448] 0, #[]⟩
noncomputable def o8_140 (P : Params) : Obj := ⟨.type "tuple", none, .seq #[.ref 137, .ref 138, .ref 139] 0, #[]⟩
noncomputable def o8_141 (P : Params) : Obj := ⟨.type "tuple", none, .seq #[.str "R" 450, .int (0) 451] 0, #[]⟩
noncomputable def o8_142 (P : Params) : Obj := ⟨.type "tuple", none, .seq #[.str "r" 452, .int (0) 453] 0, #[]⟩
noncomputable def o8_143 (P : Params) : Obj := ⟨.type "tuple", none, .seq #[.ref 141, .ref 142] 0, #[]⟩
noncomputable def o8_144 (P : Params) : Obj := ⟨.type "tuple", none, .seq #[] 0, #[]⟩
noncomputable def o8_145 (P : Params) : Obj := ⟨.none, none, .fields #[], #[]⟩
noncomputable def o8_146 (P : Params) : Obj := ⟨.type "tuple", none, .seq #[.str "state" 458, .str "signs" 459, .str "worth" 460, .str "prices" 461, .str "found" 462, .str "sign" 463, .str "cost" 464, .str "to" 465] 0, #[]⟩
noncomputable def o8_147 (P : Params) : Obj := ⟨.type "tuple", none, .seq #[] 0, #[]⟩
noncomputable def o8_148 (P : Params) : Obj := ⟨.none, none, .func { name := "moves", qualname := "moves", params := L2.defArgs (tp 33), body := .stmts (L2.defBody (tp 33)), scope := L2.defScope (tp 33), globals := 0, closure := [], defaults := .none, kwdefaults := .none, doc := .none, pyModule := .none, annotations := none, code := .none, closureTuple := .none, builtins := 0 }, #[]⟩
noncomputable def o8_149 (P : Params) : Obj := ⟨.type "code", none, .fields #[.str "moves" 455, .str "moves" 456, .str "/claim/cut.py" 457, .int (93) 0, .int (4) 0, .int (0) 0, .int (0) 0, .int (3) 0, .ref 144, .bool true, .int (181) 0, .ref 145, .none, .ref 146, .ref 147, .ref 148, .int (466) 0, .int (93) 0, .str "/claim/cut.py" 467], #[]⟩
noncomputable def o8_150 (P : Params) : Obj := ⟨.type "function", none, .func { name := "moves", qualname := "moves", params := L2.defArgs (tp 33), body := .stmts (L2.defBody (tp 33)), scope := L2.defScope (tp 33), globals := 3, closure := [], defaults := .none, kwdefaults := .none, doc := .none, pyModule := .str "noteworth.moves" 441, annotations := none, code := .ref 149, closureTuple := .none, builtins := 0 }, #[]⟩
noncomputable def o8_151 (P : Params) : Obj := ⟨.type "tuple", none, .seq #[] 0, #[]⟩
noncomputable def o8_152 (P : Params) : Obj := ⟨.none, none, .fields #[], #[]⟩
noncomputable def o8_153 (P : Params) : Obj := ⟨.type "tuple", none, .seq #[.str "state" 472, .str "prices" 473] 0, #[]⟩
noncomputable def o8_154 (P : Params) : Obj := ⟨.type "tuple", none, .seq #[] 0, #[]⟩
noncomputable def o8_155 (P : Params) : Obj := ⟨.none, none, .func { name := "parting_moves", qualname := "parting_moves", params := L2.defArgs (tp 34), body := .stmts (L2.defBody (tp 34)), scope := L2.defScope (tp 34), globals := 0, closure := [], defaults := .none, kwdefaults := .none, doc := .none, pyModule := .none, annotations := none, code := .none, closureTuple := .none, builtins := 0 }, #[]⟩
noncomputable def o8_156 (P : Params) : Obj := ⟨.type "code", none, .fields #[.str "parting_moves" 469, .str "parting_moves" 470, .str "/claim/cut.py" 471, .int (101) 0, .int (2) 0, .int (0) 0, .int (0) 0, .int (3) 0, .ref 151, .bool true, .int (181) 0, .ref 152, .none, .ref 153, .ref 154, .ref 155, .int (474) 0, .int (101) 0, .str "/claim/cut.py" 475], #[]⟩
noncomputable def o8_157 (P : Params) : Obj := ⟨.type "function", none, .func { name := "parting_moves", qualname := "parting_moves", params := L2.defArgs (tp 34), body := .stmts (L2.defBody (tp 34)), scope := L2.defScope (tp 34), globals := 3, closure := [], defaults := .none, kwdefaults := .none, doc := .none, pyModule := .str "noteworth.moves" 441, annotations := none, code := .ref 156, closureTuple := .none, builtins := 0 }, #[]⟩
noncomputable def o8_158 (P : Params) : Obj := ⟨.type "tuple", none, .seq #[] 0, #[]⟩
noncomputable def o8_159 (P : Params) : Obj := ⟨.none, none, .fields #[], #[]⟩
noncomputable def o8_160 (P : Params) : Obj := ⟨.none, none, .func { name := "wished_signs", qualname := "wished_signs", params := L2.defArgs (tp 35), body := .stmts (L2.defBody (tp 35)), scope := L2.defScope (tp 35), globals := 0, closure := [], defaults := .none, kwdefaults := .none, doc := .none, pyModule := .none, annotations := none, code := .none, closureTuple := .none, builtins := 0 }, #[]⟩
noncomputable def o8_161 (P : Params) : Obj := ⟨.type "code", none, .fields #[.str "wished_signs" 477, .str "wished_signs" 478, .str "/claim/cut.py" 479, .int (103) 0, .int (1) 0, .int (0) 0, .int (0) 0, .int (3) 0, .ref 158, .bool true, .int (181) 0, .ref 159, .none, .none, .none, .ref 160, .int (480) 0, .int (103) 0, .str "/claim/cut.py" 481], #[]⟩
noncomputable def o8_162 (P : Params) : Obj := ⟨.type "function", none, .func { name := "wished_signs", qualname := "wished_signs", params := L2.defArgs (tp 35), body := .stmts (L2.defBody (tp 35)), scope := L2.defScope (tp 35), globals := 3, closure := [], defaults := .none, kwdefaults := .none, doc := .none, pyModule := .str "noteworth.moves" 441, annotations := none, code := .ref 161, closureTuple := .none, builtins := 0 }, #[]⟩
noncomputable def o8_163 (P : Params) : Obj := ⟨.type "tuple", none, .seq #[] 0, #[]⟩
noncomputable def o8_164 (P : Params) : Obj := ⟨.none, none, .fields #[], #[]⟩
noncomputable def o8_165 (P : Params) : Obj := ⟨.type "tuple", none, .seq #[.str "state" 486, .str "wish" 487, .str "prices" 488, .str "tone" 489, .str "worth" 490] 0, #[]⟩
noncomputable def o8_166 (P : Params) : Obj := ⟨.type "tuple", none, .seq #[] 0, #[]⟩
noncomputable def o8_167 (P : Params) : Obj := ⟨.none, none, .func { name := "wish_moves", qualname := "wish_moves", params := L2.defArgs (tp 36), body := .stmts (L2.defBody (tp 36)), scope := L2.defScope (tp 36), globals := 0, closure := [], defaults := .none, kwdefaults := .none, doc := .none, pyModule := .none, annotations := none, code := .none, closureTuple := .none, builtins := 0 }, #[]⟩
noncomputable def o8_168 (P : Params) : Obj := ⟨.type "code", none, .fields #[.str "wish_moves" 483, .str "wish_moves" 484, .str "/claim/cut.py" 485, .int (107) 0, .int (3) 0, .int (0) 0, .int (0) 0, .int (3) 0, .ref 163, .bool true, .int (181) 0, .ref 164, .none, .ref 165, .ref 166, .ref 167, .int (491) 0, .int (107) 0, .str "/claim/cut.py" 492], #[]⟩
noncomputable def o8_169 (P : Params) : Obj := ⟨.type "function", none, .func { name := "wish_moves", qualname := "wish_moves", params := L2.defArgs (tp 36), body := .stmts (L2.defBody (tp 36)), scope := L2.defScope (tp 36), globals := 3, closure := [], defaults := .none, kwdefaults := .none, doc := .none, pyModule := .str "noteworth.moves" 441, annotations := none, code := .ref 168, closureTuple := .none, builtins := 0 }, #[]⟩
noncomputable def H8 (P : Params) : Heap := ⟨⟨[boot_o_0 P, boot_o_1 P, boot_o_2 P, o8_3 P, boot_o_4 P, boot_o_5 P, boot_o_6 P, boot_o_7 P, boot_o_8 P, boot_o_9 P, boot_o_10 P, o1_11 P, o8_12 P, o1_13 P, o1_14 P, o3_15 P, o3_16 P, o3_17 P, o3_18 P, o3_19 P, o3_20 P, o3_21 P, o3_22 P, o3_23 P, o3_24 P, o3_25 P, o3_26 P, o3_27 P, o3_28 P, o3_29 P, o3_30 P, o3_31 P, o3_32 P, o3_33 P, o3_34 P, o3_35 P, o3_36 P, o3_37 P, o3_38 P, o3_39 P, o3_40 P, o4_41 P, o4_42 P, o5_10_43 P, o5_0_44 P, o5_0_45 P, o5_0_46 P, o5_0_47 P, o5_0_48 P, o5_0_49 P, o5_0_50 P, o5_0_51 P, o5_0_52 P, o5_0_53 P, o6_4_54 P, o6_0_55 P, o6_0_56 P, o6_0_57 P, o6_0_58 P, o7_59 P, o7_60 P, o7_61 P, o7_62 P, o7_63 P, o7_64 P, o7_65 P, o7_66 P, o7_67 P, o7_68 P, o7_69 P, o7_70 P, o7_71 P, o7_72 P, o7_73 P, o7_74 P, o7_75 P, o7_76 P, o7_77 P, o7_78 P, o7_79 P, o7_80 P, o7_81 P, o7_82 P, o7_83 P, o7_84 P, o7_85 P, o7_86 P, o7_87 P, o7_88 P, o7_89 P, o7_90 P, o7_91 P, o7_92 P, o7_93 P, o7_94 P, o7_95 P, o7_96 P, o7_97 P, o7_98 P, o7_99 P, o7_100 P, o7_101 P, o7_102 P, o7_103 P, o7_104 P, o7_105 P, o7_106 P, o7_107 P, o7_108 P, o7_109 P, o7_110 P, o7_111 P, o7_112 P, o7_113 P, o7_114 P, o7_115 P, o7_116 P, o7_117 P, o7_118 P, o7_119 P, o7_120 P, o7_121 P, o7_122 P, o7_123 P, o7_124 P, o7_125 P, o7_126 P, o7_127 P, o7_128 P, o7_129 P, o8_130 P, o8_131 P, o8_132 P, o8_133 P, o8_134 P, o8_135 P, o8_136 P, o8_137 P, o8_138 P, o8_139 P, o8_140 P, o8_141 P, o8_142 P, o8_143 P, o8_144 P, o8_145 P, o8_146 P, o8_147 P, o8_148 P, o8_149 P, o8_150 P, o8_151 P, o8_152 P, o8_153 P, o8_154 P, o8_155 P, o8_156 P, o8_157 P, o8_158 P, o8_159 P, o8_160 P, o8_161 P, o8_162 P, o8_163 P, o8_164 P, o8_165 P, o8_166 P, o8_167 P, o8_168 P, o8_169 P]⟩, (boot_heap P).life⟩
noncomputable def k8 : Nat := 498
noncomputable def n8 : Nat := 227
noncomputable def p8 : Pos := ⟨111, 0, 111, 18⟩
noncomputable def s8 : List Stmt := [tp 29, tp 30, tp 31, tp 32, tp 33, tp 34, tp 35, tp 36, tp 37, tp 38]
noncomputable def o9_3 (P : Params) : Obj := ⟨.type "dict", none, .dict #[⟨PyData.keyHash P "__name__", .str "__name__" 165, .str "law_noteworth_k27_never_written" 553⟩, ⟨PyData.keyHash P "__doc__", .str "__doc__" 166, .none⟩, ⟨PyData.keyHash P "__package__", .str "__package__" 167, .none⟩, ⟨PyData.keyHash P "__loader__", .str "__loader__" 168, .builtin "__main__.__loader__#opaque"⟩, ⟨PyData.keyHash P "__spec__", .str "__spec__" 169, .none⟩, ⟨PyData.keyHash P "__annotations__", .str "__annotations__" 170, .ref 6⟩, ⟨PyData.keyHash P "__builtins__", .str "__builtins__" 171, .ref 4⟩, ⟨PyData.keyHash P "__file__", .str "__file__" 173, .str "/claim/cut.py" 172⟩, ⟨PyData.keyHash P "__cached__", .str "__cached__" 174, .none⟩, ⟨PyData.keyHash P "SMALL_KINDS", .str "SMALL_KINDS" 192, .ref 15⟩, ⟨PyData.keyHash P "PARTING_KINDS", .str "PARTING_KINDS" 196, .ref 16⟩, ⟨PyData.keyHash P "MEASURE_KINDS", .str "MEASURE_KINDS" 199, .ref 17⟩, ⟨PyData.keyHash P "SOUNDING_KINDS", .str "SOUNDING_KINDS" 204, .ref 18⟩, ⟨PyData.keyHash P "small", .str "small" 211, .ref 25⟩, ⟨PyData.keyHash P "parting", .str "parting" 218, .ref 32⟩, ⟨PyData.keyHash P "DARK_KINDS", .str "DARK_KINDS" 223, .ref 33⟩, ⟨PyData.keyHash P "sign_price", .str "sign_price" 234, .ref 40⟩, ⟨PyData.keyHash P "REST_TONE", .str "REST_TONE" 237, .int (-1) 236⟩, ⟨PyData.keyHash P "TWOFOLD_STATES", .str "TWOFOLD_STATES" 243, .ref 41⟩, ⟨PyData.keyHash P "TWOFOLD_BEGIN", .str "TWOFOLD_BEGIN" 245, .str "2-" 244⟩, ⟨PyData.keyHash P "THREEFOLD_BEGIN", .str "THREEFOLD_BEGIN" 247, .str "3n0-" 246⟩, ⟨PyData.keyHash P "SHORTENED_FROM_AHEAD", .str "SHORTENED_FROM_AHEAD" 249, .str "3t0-" 248⟩, ⟨PyData.keyHash P "NEXT_COUNTS", .str "NEXT_COUNTS" 259, .ref 42⟩, ⟨PyData.keyHash P "TWOFOLD_STEPS", .str "TWOFOLD_STEPS" 320, .ref 43⟩, ⟨PyData.keyHash P "GREAT_STEPS", .str "GREAT_STEPS" 345, .ref 54⟩, ⟨PyData.keyHash P "begin_state", .str "begin_state" 353, .ref 66⟩, ⟨PyData.keyHash P "step", .str "step" 362, .ref 73⟩, ⟨PyData.keyHash P "ends", .str "ends" 369, .ref 80⟩, ⟨PyData.keyHash P "twofold_step", .str "twofold_step" 378, .ref 87⟩, ⟨PyData.keyHash P "closes", .str "closes" 387, .ref 94⟩, ⟨PyData.keyHash P "closes_by_great", .str "closes_by_great" 394, .ref 101⟩, ⟨PyData.keyHash P "closes_by_right_note", .str "closes_by_right_note" 401, .ref 108⟩, ⟨PyData.keyHash P "great_step", .str "great_step" 410, .ref 115⟩, ⟨PyData.keyHash P "parting_step", .str "parting_step" 419, .ref 122⟩, ⟨PyData.keyHash P "told_last", .str "told_last" 428, .ref 129⟩, ⟨PyData.keyHash P "small_step", .str "small_step" 440, .ref 136⟩, ⟨PyData.keyHash P "PARTING_SIGNS", .str "PARTING_SIGNS" 449, .ref 140⟩, ⟨PyData.keyHash P "REST_SIGNS", .str "REST_SIGNS" 454, .ref 143⟩, ⟨PyData.keyHash P "moves", .str "moves" 468, .ref 150⟩, ⟨PyData.keyHash P "parting_moves", .str "parting_moves" 476, .ref 157⟩, ⟨PyData.keyHash P "wished_signs", .str "wished_signs" 482, .ref 162⟩, ⟨PyData.keyHash P "wish_moves", .str "wish_moves" 493, .ref 169⟩, ⟨PyData.keyHash P "MOST_PARTING_SIGNS", .str "MOST_PARTING_SIGNS" 497, .int (2) 496⟩, ⟨PyData.keyHash P "keep_cheaper", .str "keep_cheaper" 507, .ref 176⟩, ⟨PyData.keyHash P "with_parting_signs", .str "with_parting_signs" 523, .ref 183⟩, ⟨PyData.keyHash P "with_wish", .str "with_wish" 539, .ref 190⟩, ⟨PyData.keyHash P "costs", .str "costs" 545, .ref 195⟩, ⟨PyData.keyHash P "written", .str "written" 552, .ref 201⟩, ⟨PyData.keyHash P "_law_mixed", .str "_law_mixed" 564, .ref 208⟩, ⟨PyData.keyHash P "_law_cell_at", .str "_law_cell_at" 572, .ref 215⟩, ⟨PyData.keyHash P "_law_any_wishes", .str "_law_any_wishes" 586, .ref 222⟩, ⟨PyData.keyHash P "_law_begin", .str "_law_begin" 593, .ref 229⟩] 52, #[]⟩
noncomputable def o9_12 (P : Params) : Obj := ⟨.none, none, .fields #[.int (6) 0, .int (0) 0, .ref 24, .int (8) 0, .int (0) 0, .ref 31, .int (12) 0, .int (0) 0, .ref 39, .int (30) 0, .int (0) 0, .ref 65, .int (34) 0, .int (0) 0, .ref 72, .int (42) 0, .int (0) 0, .ref 79, .int (46) 0, .int (0) 0, .ref 86, .int (52) 0, .int (0) 0, .ref 93, .int (57) 0, .int (0) 0, .ref 100, .int (59) 0, .int (0) 0, .ref 107, .int (61) 0, .int (0) 0, .ref 114, .int (69) 0, .int (0) 0, .ref 121, .int (75) 0, .int (0) 0, .ref 128, .int (81) 0, .int (0) 0, .ref 135, .int (93) 0, .int (0) 0, .ref 149, .int (101) 0, .int (0) 0, .ref 156, .int (103) 0, .int (0) 0, .ref 161, .int (107) 0, .int (0) 0, .ref 168, .int (112) 0, .int (0) 0, .ref 175, .int (115) 0, .int (0) 0, .ref 182, .int (123) 0, .int (0) 0, .ref 189, .int (129) 0, .int (0) 0, .ref 194, .int (131) 0, .int (0) 0, .ref 200, .int (143) 0, .int (0) 0, .ref 207, .int (147) 0, .int (0) 0, .ref 214, .int (151) 0, .int (0) 0, .ref 221, .int (159) 0, .int (0) 0, .ref 228], #[]⟩
noncomputable def o9_170 (P : Params) : Obj := ⟨.type "tuple", none, .seq #[] 0, #[]⟩
noncomputable def o9_171 (P : Params) : Obj := ⟨.none, none, .fields #[], #[]⟩
noncomputable def o9_172 (P : Params) : Obj := ⟨.type "tuple", none, .seq #[.str "ways" 501, .str "state" 502, .str "cost" 503, .str "line" 504] 0, #[]⟩
noncomputable def o9_173 (P : Params) : Obj := ⟨.type "tuple", none, .seq #[] 0, #[]⟩
noncomputable def o9_174 (P : Params) : Obj := ⟨.none, none, .func { name := "keep_cheaper", qualname := "keep_cheaper", params := L2.defArgs (tp 39), body := .stmts (L2.defBody (tp 39)), scope := L2.defScope (tp 39), globals := 0, closure := [], defaults := .none, kwdefaults := .none, doc := .none, pyModule := .none, annotations := none, code := .none, closureTuple := .none, builtins := 0 }, #[]⟩
noncomputable def o9_175 (P : Params) : Obj := ⟨.type "code", none, .fields #[.str "keep_cheaper" 498, .str "keep_cheaper" 499, .str "/claim/cut.py" 500, .int (112) 0, .int (4) 0, .int (0) 0, .int (0) 0, .int (3) 0, .ref 170, .bool true, .int (181) 0, .ref 171, .none, .ref 172, .ref 173, .ref 174, .int (505) 0, .int (112) 0, .str "/claim/cut.py" 506], #[]⟩
noncomputable def o9_176 (P : Params) : Obj := ⟨.type "function", none, .func { name := "keep_cheaper", qualname := "keep_cheaper", params := L2.defArgs (tp 39), body := .stmts (L2.defBody (tp 39)), scope := L2.defScope (tp 39), globals := 3, closure := [], defaults := .none, kwdefaults := .none, doc := .none, pyModule := .str "noteworth.writer" 494, annotations := none, code := .ref 175, closureTuple := .none, builtins := 0 }, #[]⟩
noncomputable def o9_177 (P : Params) : Obj := ⟨.type "tuple", none, .seq #[] 0, #[]⟩
noncomputable def o9_178 (P : Params) : Obj := ⟨.none, none, .fields #[], #[]⟩
noncomputable def o9_179 (P : Params) : Obj := ⟨.type "tuple", none, .seq #[.str "ways" 511, .str "prices" 512, .str "found" 513, .str "again" 514, .str "state" 515, .str "cost" 516, .str "line" 517, .str "sign" 518, .str "more" 519, .str "to" 520] 0, #[]⟩
noncomputable def o9_180 (P : Params) : Obj := ⟨.type "tuple", none, .seq #[] 0, #[]⟩
noncomputable def o9_181 (P : Params) : Obj := ⟨.none, none, .func { name := "with_parting_signs", qualname := "with_parting_signs", params := L2.defArgs (tp 40), body := .stmts (L2.defBody (tp 40)), scope := L2.defScope (tp 40), globals := 0, closure := [], defaults := .none, kwdefaults := .none, doc := .none, pyModule := .none, annotations := none, code := .none, closureTuple := .none, builtins := 0 }, #[]⟩
noncomputable def o9_182 (P : Params) : Obj := ⟨.type "code", none, .fields #[.str "with_parting_signs" 508, .str "with_parting_signs" 509, .str "/claim/cut.py" 510, .int (115) 0, .int (2) 0, .int (0) 0, .int (0) 0, .int (3) 0, .ref 177, .bool true, .int (181) 0, .ref 178, .none, .ref 179, .ref 180, .ref 181, .int (521) 0, .int (115) 0, .str "/claim/cut.py" 522], #[]⟩
noncomputable def o9_183 (P : Params) : Obj := ⟨.type "function", none, .func { name := "with_parting_signs", qualname := "with_parting_signs", params := L2.defArgs (tp 40), body := .stmts (L2.defBody (tp 40)), scope := L2.defScope (tp 40), globals := 3, closure := [], defaults := .none, kwdefaults := .none, doc := .none, pyModule := .str "noteworth.writer" 494, annotations := none, code := .ref 182, closureTuple := .none, builtins := 0 }, #[]⟩
noncomputable def o9_184 (P : Params) : Obj := ⟨.type "tuple", none, .seq #[] 0, #[]⟩
noncomputable def o9_185 (P : Params) : Obj := ⟨.none, none, .fields #[], #[]⟩
noncomputable def o9_186 (P : Params) : Obj := ⟨.type "tuple", none, .seq #[.str "ways" 527, .str "wish" 528, .str "prices" 529, .str "found" 530, .str "state" 531, .str "cost" 532, .str "line" 533, .str "sign" 534, .str "more" 535, .str "to" 536] 0, #[]⟩
noncomputable def o9_187 (P : Params) : Obj := ⟨.type "tuple", none, .seq #[] 0, #[]⟩
noncomputable def o9_188 (P : Params) : Obj := ⟨.none, none, .func { name := "with_wish", qualname := "with_wish", params := L2.defArgs (tp 41), body := .stmts (L2.defBody (tp 41)), scope := L2.defScope (tp 41), globals := 0, closure := [], defaults := .none, kwdefaults := .none, doc := .none, pyModule := .none, annotations := none, code := .none, closureTuple := .none, builtins := 0 }, #[]⟩
noncomputable def o9_189 (P : Params) : Obj := ⟨.type "code", none, .fields #[.str "with_wish" 524, .str "with_wish" 525, .str "/claim/cut.py" 526, .int (123) 0, .int (3) 0, .int (0) 0, .int (0) 0, .int (3) 0, .ref 184, .bool true, .int (181) 0, .ref 185, .none, .ref 186, .ref 187, .ref 188, .int (537) 0, .int (123) 0, .str "/claim/cut.py" 538], #[]⟩
noncomputable def o9_190 (P : Params) : Obj := ⟨.type "function", none, .func { name := "with_wish", qualname := "with_wish", params := L2.defArgs (tp 41), body := .stmts (L2.defBody (tp 41)), scope := L2.defScope (tp 41), globals := 3, closure := [], defaults := .none, kwdefaults := .none, doc := .none, pyModule := .str "noteworth.writer" 494, annotations := none, code := .ref 189, closureTuple := .none, builtins := 0 }, #[]⟩
noncomputable def o9_191 (P : Params) : Obj := ⟨.type "tuple", none, .seq #[] 0, #[]⟩
noncomputable def o9_192 (P : Params) : Obj := ⟨.none, none, .fields #[], #[]⟩
noncomputable def o9_193 (P : Params) : Obj := ⟨.none, none, .func { name := "costs", qualname := "costs", params := L2.defArgs (tp 42), body := .stmts (L2.defBody (tp 42)), scope := L2.defScope (tp 42), globals := 0, closure := [], defaults := .none, kwdefaults := .none, doc := .none, pyModule := .none, annotations := none, code := .none, closureTuple := .none, builtins := 0 }, #[]⟩
noncomputable def o9_194 (P : Params) : Obj := ⟨.type "code", none, .fields #[.str "costs" 540, .str "costs" 541, .str "/claim/cut.py" 542, .int (129) 0, .int (1) 0, .int (0) 0, .int (0) 0, .int (3) 0, .ref 191, .bool true, .int (181) 0, .ref 192, .none, .none, .none, .ref 193, .int (543) 0, .int (129) 0, .str "/claim/cut.py" 544], #[]⟩
noncomputable def o9_195 (P : Params) : Obj := ⟨.type "function", none, .func { name := "costs", qualname := "costs", params := L2.defArgs (tp 42), body := .stmts (L2.defBody (tp 42)), scope := L2.defScope (tp 42), globals := 3, closure := [], defaults := .none, kwdefaults := .none, doc := .none, pyModule := .str "noteworth.writer" 494, annotations := none, code := .ref 194, closureTuple := .none, builtins := 0 }, #[]⟩
noncomputable def o9_196 (P : Params) : Obj := ⟨.type "tuple", none, .seq #[.int (3) 546] 0, #[]⟩
noncomputable def o9_197 (P : Params) : Obj := ⟨.type "tuple", none, .seq #[] 0, #[]⟩
noncomputable def o9_198 (P : Params) : Obj := ⟨.none, none, .fields #[], #[]⟩
noncomputable def o9_199 (P : Params) : Obj := ⟨.none, none, .func { name := "written", qualname := "written", params := L2.defArgs (tp 43), body := .stmts (L2.defBody (tp 43)), scope := L2.defScope (tp 43), globals := 0, closure := [], defaults := .none, kwdefaults := .none, doc := .none, pyModule := .none, annotations := none, code := .none, closureTuple := .none, builtins := 0 }, #[]⟩
noncomputable def o9_200 (P : Params) : Obj := ⟨.type "code", none, .fields #[.str "written" 547, .str "written" 548, .str "/claim/cut.py" 549, .int (131) 0, .int (3) 0, .int (0) 0, .int (0) 0, .int (3) 0, .ref 197, .bool true, .int (181) 0, .ref 198, .none, .none, .none, .ref 199, .int (550) 0, .int (131) 0, .str "/claim/cut.py" 551], #[]⟩
noncomputable def o9_201 (P : Params) : Obj := ⟨.type "function", none, .func { name := "written", qualname := "written", params := L2.defArgs (tp 43), body := .stmts (L2.defBody (tp 43)), scope := L2.defScope (tp 43), globals := 3, closure := [], defaults := .ref 196, kwdefaults := .none, doc := .none, pyModule := .str "noteworth.writer" 494, annotations := none, code := .ref 200, closureTuple := .none, builtins := 0 }, #[]⟩
noncomputable def o9_202 (P : Params) : Obj := ⟨.type "tuple", none, .seq #[] 0, #[]⟩
noncomputable def o9_203 (P : Params) : Obj := ⟨.none, none, .fields #[], #[]⟩
noncomputable def o9_204 (P : Params) : Obj := ⟨.type "tuple", none, .seq #[.str "_law_seed" 558, .str "_law_k" 559, .str "_law_one" 560, .str "_law_two" 561] 0, #[]⟩
noncomputable def o9_205 (P : Params) : Obj := ⟨.type "tuple", none, .seq #[] 0, #[]⟩
noncomputable def o9_206 (P : Params) : Obj := ⟨.none, none, .func { name := "_law_mixed", qualname := "_law_mixed", params := L2.defArgs (tp 45), body := .stmts (L2.defBody (tp 45)), scope := L2.defScope (tp 45), globals := 0, closure := [], defaults := .none, kwdefaults := .none, doc := .none, pyModule := .none, annotations := none, code := .none, closureTuple := .none, builtins := 0 }, #[]⟩
noncomputable def o9_207 (P : Params) : Obj := ⟨.type "code", none, .fields #[.str "_law_mixed" 555, .str "_law_mixed" 556, .str "/claim/cut.py" 557, .int (143) 0, .int (2) 0, .int (0) 0, .int (0) 0, .int (3) 0, .ref 202, .bool true, .int (181) 0, .ref 203, .none, .ref 204, .ref 205, .ref 206, .int (562) 0, .int (143) 0, .str "/claim/cut.py" 563], #[]⟩
noncomputable def o9_208 (P : Params) : Obj := ⟨.type "function", none, .func { name := "_law_mixed", qualname := "_law_mixed", params := L2.defArgs (tp 45), body := .stmts (L2.defBody (tp 45)), scope := L2.defScope (tp 45), globals := 3, closure := [], defaults := .none, kwdefaults := .none, doc := .none, pyModule := .str "law_noteworth_k27_never_written" 553, annotations := none, code := .ref 207, closureTuple := .none, builtins := 0 }, #[]⟩
noncomputable def o9_209 (P : Params) : Obj := ⟨.type "tuple", none, .seq #[] 0, #[]⟩
noncomputable def o9_210 (P : Params) : Obj := ⟨.none, none, .fields #[], #[]⟩
noncomputable def o9_211 (P : Params) : Obj := ⟨.type "tuple", none, .seq #[.str "_law_script" 568, .str "_law_k" 569] 0, #[]⟩
noncomputable def o9_212 (P : Params) : Obj := ⟨.type "tuple", none, .seq #[] 0, #[]⟩
noncomputable def o9_213 (P : Params) : Obj := ⟨.none, none, .func { name := "_law_cell_at", qualname := "_law_cell_at", params := L2.defArgs (tp 46), body := .stmts (L2.defBody (tp 46)), scope := L2.defScope (tp 46), globals := 0, closure := [], defaults := .none, kwdefaults := .none, doc := .none, pyModule := .none, annotations := none, code := .none, closureTuple := .none, builtins := 0 }, #[]⟩
noncomputable def o9_214 (P : Params) : Obj := ⟨.type "code", none, .fields #[.str "_law_cell_at" 565, .str "_law_cell_at" 566, .str "/claim/cut.py" 567, .int (147) 0, .int (2) 0, .int (0) 0, .int (0) 0, .int (3) 0, .ref 209, .bool true, .int (181) 0, .ref 210, .none, .ref 211, .ref 212, .ref 213, .int (570) 0, .int (147) 0, .str "/claim/cut.py" 571], #[]⟩
noncomputable def o9_215 (P : Params) : Obj := ⟨.type "function", none, .func { name := "_law_cell_at", qualname := "_law_cell_at", params := L2.defArgs (tp 46), body := .stmts (L2.defBody (tp 46)), scope := L2.defScope (tp 46), globals := 3, closure := [], defaults := .none, kwdefaults := .none, doc := .none, pyModule := .str "law_noteworth_k27_never_written" 553, annotations := none, code := .ref 214, closureTuple := .none, builtins := 0 }, #[]⟩
noncomputable def o9_216 (P : Params) : Obj := ⟨.type "tuple", none, .seq #[] 0, #[]⟩
noncomputable def o9_217 (P : Params) : Obj := ⟨.none, none, .fields #[], #[]⟩
noncomputable def o9_218 (P : Params) : Obj := ⟨.type "tuple", none, .seq #[.str "_law_script" 576, .str "_law_at" 577, .str "_law_many" 578, .str "_law_told" 579, .str "_law_k" 580, .str "_law_number" 581, .str "_law_worth" 582, .str "_law_tone" 583] 0, #[]⟩
noncomputable def o9_219 (P : Params) : Obj := ⟨.type "tuple", none, .seq #[] 0, #[]⟩
noncomputable def o9_220 (P : Params) : Obj := ⟨.none, none, .func { name := "_law_any_wishes", qualname := "_law_any_wishes", params := L2.defArgs (tp 47), body := .stmts (L2.defBody (tp 47)), scope := L2.defScope (tp 47), globals := 0, closure := [], defaults := .none, kwdefaults := .none, doc := .none, pyModule := .none, annotations := none, code := .none, closureTuple := .none, builtins := 0 }, #[]⟩
noncomputable def o9_221 (P : Params) : Obj := ⟨.type "code", none, .fields #[.str "_law_any_wishes" 573, .str "_law_any_wishes" 574, .str "/claim/cut.py" 575, .int (151) 0, .int (3) 0, .int (0) 0, .int (0) 0, .int (3) 0, .ref 216, .bool true, .int (181) 0, .ref 217, .none, .ref 218, .ref 219, .ref 220, .int (584) 0, .int (151) 0, .str "/claim/cut.py" 585], #[]⟩
noncomputable def o9_222 (P : Params) : Obj := ⟨.type "function", none, .func { name := "_law_any_wishes", qualname := "_law_any_wishes", params := L2.defArgs (tp 47), body := .stmts (L2.defBody (tp 47)), scope := L2.defScope (tp 47), globals := 3, closure := [], defaults := .none, kwdefaults := .none, doc := .none, pyModule := .str "law_noteworth_k27_never_written" 553, annotations := none, code := .ref 221, closureTuple := .none, builtins := 0 }, #[]⟩
noncomputable def o9_223 (P : Params) : Obj := ⟨.type "tuple", none, .seq #[] 0, #[]⟩
noncomputable def o9_224 (P : Params) : Obj := ⟨.none, none, .fields #[], #[]⟩
noncomputable def o9_225 (P : Params) : Obj := ⟨.type "tuple", none, .seq #[.str "_law_cell" 590] 0, #[]⟩
noncomputable def o9_226 (P : Params) : Obj := ⟨.type "tuple", none, .seq #[] 0, #[]⟩
noncomputable def o9_227 (P : Params) : Obj := ⟨.none, none, .func { name := "_law_begin", qualname := "_law_begin", params := L2.defArgs (tp 48), body := .stmts (L2.defBody (tp 48)), scope := L2.defScope (tp 48), globals := 0, closure := [], defaults := .none, kwdefaults := .none, doc := .none, pyModule := .none, annotations := none, code := .none, closureTuple := .none, builtins := 0 }, #[]⟩
noncomputable def o9_228 (P : Params) : Obj := ⟨.type "code", none, .fields #[.str "_law_begin" 587, .str "_law_begin" 588, .str "/claim/cut.py" 589, .int (159) 0, .int (1) 0, .int (0) 0, .int (0) 0, .int (3) 0, .ref 223, .bool true, .int (181) 0, .ref 224, .none, .ref 225, .ref 226, .ref 227, .int (591) 0, .int (159) 0, .str "/claim/cut.py" 592], #[]⟩
noncomputable def o9_229 (P : Params) : Obj := ⟨.type "function", none, .func { name := "_law_begin", qualname := "_law_begin", params := L2.defArgs (tp 48), body := .stmts (L2.defBody (tp 48)), scope := L2.defScope (tp 48), globals := 3, closure := [], defaults := .none, kwdefaults := .none, doc := .none, pyModule := .str "law_noteworth_k27_never_written" 553, annotations := none, code := .ref 228, closureTuple := .none, builtins := 0 }, #[]⟩
noncomputable def H9 (P : Params) : Heap := ⟨⟨[boot_o_0 P, boot_o_1 P, boot_o_2 P, o9_3 P, boot_o_4 P, boot_o_5 P, boot_o_6 P, boot_o_7 P, boot_o_8 P, boot_o_9 P, boot_o_10 P, o1_11 P, o9_12 P, o1_13 P, o1_14 P, o3_15 P, o3_16 P, o3_17 P, o3_18 P, o3_19 P, o3_20 P, o3_21 P, o3_22 P, o3_23 P, o3_24 P, o3_25 P, o3_26 P, o3_27 P, o3_28 P, o3_29 P, o3_30 P, o3_31 P, o3_32 P, o3_33 P, o3_34 P, o3_35 P, o3_36 P, o3_37 P, o3_38 P, o3_39 P, o3_40 P, o4_41 P, o4_42 P, o5_10_43 P, o5_0_44 P, o5_0_45 P, o5_0_46 P, o5_0_47 P, o5_0_48 P, o5_0_49 P, o5_0_50 P, o5_0_51 P, o5_0_52 P, o5_0_53 P, o6_4_54 P, o6_0_55 P, o6_0_56 P, o6_0_57 P, o6_0_58 P, o7_59 P, o7_60 P, o7_61 P, o7_62 P, o7_63 P, o7_64 P, o7_65 P, o7_66 P, o7_67 P, o7_68 P, o7_69 P, o7_70 P, o7_71 P, o7_72 P, o7_73 P, o7_74 P, o7_75 P, o7_76 P, o7_77 P, o7_78 P, o7_79 P, o7_80 P, o7_81 P, o7_82 P, o7_83 P, o7_84 P, o7_85 P, o7_86 P, o7_87 P, o7_88 P, o7_89 P, o7_90 P, o7_91 P, o7_92 P, o7_93 P, o7_94 P, o7_95 P, o7_96 P, o7_97 P, o7_98 P, o7_99 P, o7_100 P, o7_101 P, o7_102 P, o7_103 P, o7_104 P, o7_105 P, o7_106 P, o7_107 P, o7_108 P, o7_109 P, o7_110 P, o7_111 P, o7_112 P, o7_113 P, o7_114 P, o7_115 P, o7_116 P, o7_117 P, o7_118 P, o7_119 P, o7_120 P, o7_121 P, o7_122 P, o7_123 P, o7_124 P, o7_125 P, o7_126 P, o7_127 P, o7_128 P, o7_129 P, o8_130 P, o8_131 P, o8_132 P, o8_133 P, o8_134 P, o8_135 P, o8_136 P, o8_137 P, o8_138 P, o8_139 P, o8_140 P, o8_141 P, o8_142 P, o8_143 P, o8_144 P, o8_145 P, o8_146 P, o8_147 P, o8_148 P, o8_149 P, o8_150 P, o8_151 P, o8_152 P, o8_153 P, o8_154 P, o8_155 P, o8_156 P, o8_157 P, o8_158 P, o8_159 P, o8_160 P, o8_161 P, o8_162 P, o8_163 P, o8_164 P, o8_165 P, o8_166 P, o8_167 P, o8_168 P, o8_169 P, o9_170 P, o9_171 P, o9_172 P, o9_173 P, o9_174 P, o9_175 P, o9_176 P, o9_177 P, o9_178 P, o9_179 P, o9_180 P, o9_181 P, o9_182 P, o9_183 P, o9_184 P, o9_185 P, o9_186 P, o9_187 P, o9_188 P, o9_189 P, o9_190 P, o9_191 P, o9_192 P, o9_193 P, o9_194 P, o9_195 P, o9_196 P, o9_197 P, o9_198 P, o9_199 P, o9_200 P, o9_201 P, o9_202 P, o9_203 P, o9_204 P, o9_205 P, o9_206 P, o9_207 P, o9_208 P, o9_209 P, o9_210 P, o9_211 P, o9_212 P, o9_213 P, o9_214 P, o9_215 P, o9_216 P, o9_217 P, o9_218 P, o9_219 P, o9_220 P, o9_221 P, o9_222 P, o9_223 P, o9_224 P, o9_225 P, o9_226 P, o9_227 P, o9_228 P, o9_229 P]⟩, (boot_heap P).life⟩
noncomputable def k9 : Nat := 594
noncomputable def n9 : Nat := 299
noncomputable def p9 : Pos := ⟨159, 0, 160, 38⟩
noncomputable def s9 : List Stmt := [tp 39, tp 40, tp 41, tp 42, tp 43, tp 44, tp 45, tp 46, tp 47, tp 48]
noncomputable def o10_3 (P : Params) : Obj := ⟨.type "dict", none, .dict #[⟨PyData.keyHash P "__name__", .str "__name__" 165, .str "law_noteworth_k27_never_written" 553⟩, ⟨PyData.keyHash P "__doc__", .str "__doc__" 166, .none⟩, ⟨PyData.keyHash P "__package__", .str "__package__" 167, .none⟩, ⟨PyData.keyHash P "__loader__", .str "__loader__" 168, .builtin "__main__.__loader__#opaque"⟩, ⟨PyData.keyHash P "__spec__", .str "__spec__" 169, .none⟩, ⟨PyData.keyHash P "__annotations__", .str "__annotations__" 170, .ref 6⟩, ⟨PyData.keyHash P "__builtins__", .str "__builtins__" 171, .ref 4⟩, ⟨PyData.keyHash P "__file__", .str "__file__" 173, .str "/claim/cut.py" 172⟩, ⟨PyData.keyHash P "__cached__", .str "__cached__" 174, .none⟩, ⟨PyData.keyHash P "SMALL_KINDS", .str "SMALL_KINDS" 192, .ref 15⟩, ⟨PyData.keyHash P "PARTING_KINDS", .str "PARTING_KINDS" 196, .ref 16⟩, ⟨PyData.keyHash P "MEASURE_KINDS", .str "MEASURE_KINDS" 199, .ref 17⟩, ⟨PyData.keyHash P "SOUNDING_KINDS", .str "SOUNDING_KINDS" 204, .ref 18⟩, ⟨PyData.keyHash P "small", .str "small" 211, .ref 25⟩, ⟨PyData.keyHash P "parting", .str "parting" 218, .ref 32⟩, ⟨PyData.keyHash P "DARK_KINDS", .str "DARK_KINDS" 223, .ref 33⟩, ⟨PyData.keyHash P "sign_price", .str "sign_price" 234, .ref 40⟩, ⟨PyData.keyHash P "REST_TONE", .str "REST_TONE" 237, .int (-1) 236⟩, ⟨PyData.keyHash P "TWOFOLD_STATES", .str "TWOFOLD_STATES" 243, .ref 41⟩, ⟨PyData.keyHash P "TWOFOLD_BEGIN", .str "TWOFOLD_BEGIN" 245, .str "2-" 244⟩, ⟨PyData.keyHash P "THREEFOLD_BEGIN", .str "THREEFOLD_BEGIN" 247, .str "3n0-" 246⟩, ⟨PyData.keyHash P "SHORTENED_FROM_AHEAD", .str "SHORTENED_FROM_AHEAD" 249, .str "3t0-" 248⟩, ⟨PyData.keyHash P "NEXT_COUNTS", .str "NEXT_COUNTS" 259, .ref 42⟩, ⟨PyData.keyHash P "TWOFOLD_STEPS", .str "TWOFOLD_STEPS" 320, .ref 43⟩, ⟨PyData.keyHash P "GREAT_STEPS", .str "GREAT_STEPS" 345, .ref 54⟩, ⟨PyData.keyHash P "begin_state", .str "begin_state" 353, .ref 66⟩, ⟨PyData.keyHash P "step", .str "step" 362, .ref 73⟩, ⟨PyData.keyHash P "ends", .str "ends" 369, .ref 80⟩, ⟨PyData.keyHash P "twofold_step", .str "twofold_step" 378, .ref 87⟩, ⟨PyData.keyHash P "closes", .str "closes" 387, .ref 94⟩, ⟨PyData.keyHash P "closes_by_great", .str "closes_by_great" 394, .ref 101⟩, ⟨PyData.keyHash P "closes_by_right_note", .str "closes_by_right_note" 401, .ref 108⟩, ⟨PyData.keyHash P "great_step", .str "great_step" 410, .ref 115⟩, ⟨PyData.keyHash P "parting_step", .str "parting_step" 419, .ref 122⟩, ⟨PyData.keyHash P "told_last", .str "told_last" 428, .ref 129⟩, ⟨PyData.keyHash P "small_step", .str "small_step" 440, .ref 136⟩, ⟨PyData.keyHash P "PARTING_SIGNS", .str "PARTING_SIGNS" 449, .ref 140⟩, ⟨PyData.keyHash P "REST_SIGNS", .str "REST_SIGNS" 454, .ref 143⟩, ⟨PyData.keyHash P "moves", .str "moves" 468, .ref 150⟩, ⟨PyData.keyHash P "parting_moves", .str "parting_moves" 476, .ref 157⟩, ⟨PyData.keyHash P "wished_signs", .str "wished_signs" 482, .ref 162⟩, ⟨PyData.keyHash P "wish_moves", .str "wish_moves" 493, .ref 169⟩, ⟨PyData.keyHash P "MOST_PARTING_SIGNS", .str "MOST_PARTING_SIGNS" 497, .int (2) 496⟩, ⟨PyData.keyHash P "keep_cheaper", .str "keep_cheaper" 507, .ref 176⟩, ⟨PyData.keyHash P "with_parting_signs", .str "with_parting_signs" 523, .ref 183⟩, ⟨PyData.keyHash P "with_wish", .str "with_wish" 539, .ref 190⟩, ⟨PyData.keyHash P "costs", .str "costs" 545, .ref 195⟩, ⟨PyData.keyHash P "written", .str "written" 552, .ref 201⟩, ⟨PyData.keyHash P "_law_mixed", .str "_law_mixed" 564, .ref 208⟩, ⟨PyData.keyHash P "_law_cell_at", .str "_law_cell_at" 572, .ref 215⟩, ⟨PyData.keyHash P "_law_any_wishes", .str "_law_any_wishes" 586, .ref 222⟩, ⟨PyData.keyHash P "_law_begin", .str "_law_begin" 593, .ref 229⟩, ⟨PyData.keyHash P "_law_prices", .str "_law_prices" 602, .ref 236⟩, ⟨PyData.keyHash P "law", .str "law" 614, .ref 243⟩] 54, #[]⟩
noncomputable def o10_12 (P : Params) : Obj := ⟨.none, none, .fields #[.int (6) 0, .int (0) 0, .ref 24, .int (8) 0, .int (0) 0, .ref 31, .int (12) 0, .int (0) 0, .ref 39, .int (30) 0, .int (0) 0, .ref 65, .int (34) 0, .int (0) 0, .ref 72, .int (42) 0, .int (0) 0, .ref 79, .int (46) 0, .int (0) 0, .ref 86, .int (52) 0, .int (0) 0, .ref 93, .int (57) 0, .int (0) 0, .ref 100, .int (59) 0, .int (0) 0, .ref 107, .int (61) 0, .int (0) 0, .ref 114, .int (69) 0, .int (0) 0, .ref 121, .int (75) 0, .int (0) 0, .ref 128, .int (81) 0, .int (0) 0, .ref 135, .int (93) 0, .int (0) 0, .ref 149, .int (101) 0, .int (0) 0, .ref 156, .int (103) 0, .int (0) 0, .ref 161, .int (107) 0, .int (0) 0, .ref 168, .int (112) 0, .int (0) 0, .ref 175, .int (115) 0, .int (0) 0, .ref 182, .int (123) 0, .int (0) 0, .ref 189, .int (129) 0, .int (0) 0, .ref 194, .int (131) 0, .int (0) 0, .ref 200, .int (143) 0, .int (0) 0, .ref 207, .int (147) 0, .int (0) 0, .ref 214, .int (151) 0, .int (0) 0, .ref 221, .int (159) 0, .int (0) 0, .ref 228, .int (161) 0, .int (0) 0, .ref 235, .int (167) 0, .int (0) 0, .ref 242], #[]⟩
noncomputable def o10_230 (P : Params) : Obj := ⟨.type "tuple", none, .seq #[] 0, #[]⟩
noncomputable def o10_231 (P : Params) : Obj := ⟨.none, none, .fields #[], #[]⟩
noncomputable def o10_232 (P : Params) : Obj := ⟨.type "tuple", none, .seq #[.str "_law_cell" 597, .str "_law_told" 598, .str "_law_k" 599] 0, #[]⟩
noncomputable def o10_233 (P : Params) : Obj := ⟨.type "tuple", none, .seq #[] 0, #[]⟩
noncomputable def o10_234 (P : Params) : Obj := ⟨.none, none, .func { name := "_law_prices", qualname := "_law_prices", params := L2.defArgs (tp 49), body := .stmts (L2.defBody (tp 49)), scope := L2.defScope (tp 49), globals := 0, closure := [], defaults := .none, kwdefaults := .none, doc := .none, pyModule := .none, annotations := none, code := .none, closureTuple := .none, builtins := 0 }, #[]⟩
noncomputable def o10_235 (P : Params) : Obj := ⟨.type "code", none, .fields #[.str "_law_prices" 594, .str "_law_prices" 595, .str "/claim/cut.py" 596, .int (161) 0, .int (1) 0, .int (0) 0, .int (0) 0, .int (3) 0, .ref 230, .bool true, .int (181) 0, .ref 231, .none, .ref 232, .ref 233, .ref 234, .int (600) 0, .int (161) 0, .str "/claim/cut.py" 601], #[]⟩
noncomputable def o10_236 (P : Params) : Obj := ⟨.type "function", none, .func { name := "_law_prices", qualname := "_law_prices", params := L2.defArgs (tp 49), body := .stmts (L2.defBody (tp 49)), scope := L2.defScope (tp 49), globals := 3, closure := [], defaults := .none, kwdefaults := .none, doc := .none, pyModule := .str "law_noteworth_k27_never_written" 553, annotations := none, code := .ref 235, closureTuple := .none, builtins := 0 }, #[]⟩
noncomputable def o10_237 (P : Params) : Obj := ⟨.type "tuple", none, .seq #[] 0, #[]⟩
noncomputable def o10_238 (P : Params) : Obj := ⟨.none, none, .fields #[], #[]⟩
noncomputable def o10_239 (P : Params) : Obj := ⟨.type "tuple", none, .seq #[.str "_law_script" 606, .str "_law_wishes" 607, .str "_law_at" 608, .str "_law_worth" 609, .str "_law_costs" 610, .str "_law_found" 611] 0, #[]⟩
noncomputable def o10_240 (P : Params) : Obj := ⟨.type "tuple", none, .seq #[] 0, #[]⟩
noncomputable def o10_241 (P : Params) : Obj := ⟨.none, none, .func { name := "law", qualname := "law", params := L2.defArgs (tp 50), body := .stmts (L2.defBody (tp 50)), scope := L2.defScope (tp 50), globals := 0, closure := [], defaults := .none, kwdefaults := .none, doc := .none, pyModule := .none, annotations := none, code := .none, closureTuple := .none, builtins := 0 }, #[]⟩
noncomputable def o10_242 (P : Params) : Obj := ⟨.type "code", none, .fields #[.str "law" 603, .str "law" 604, .str "/claim/cut.py" 605, .int (167) 0, .int (1) 0, .int (0) 0, .int (0) 0, .int (3) 0, .ref 237, .bool true, .int (181) 0, .ref 238, .none, .ref 239, .ref 240, .ref 241, .int (612) 0, .int (167) 0, .str "/claim/cut.py" 613], #[]⟩
noncomputable def o10_243 (P : Params) : Obj := ⟨.type "function", none, .func { name := "law", qualname := "law", params := L2.defArgs (tp 50), body := .stmts (L2.defBody (tp 50)), scope := L2.defScope (tp 50), globals := 3, closure := [], defaults := .none, kwdefaults := .none, doc := .none, pyModule := .str "law_noteworth_k27_never_written" 553, annotations := none, code := .ref 242, closureTuple := .none, builtins := 0 }, #[]⟩
noncomputable def H10 (P : Params) : Heap := ⟨⟨[boot_o_0 P, boot_o_1 P, boot_o_2 P, o10_3 P, boot_o_4 P, boot_o_5 P, boot_o_6 P, boot_o_7 P, boot_o_8 P, boot_o_9 P, boot_o_10 P, o1_11 P, o10_12 P, o1_13 P, o1_14 P, o3_15 P, o3_16 P, o3_17 P, o3_18 P, o3_19 P, o3_20 P, o3_21 P, o3_22 P, o3_23 P, o3_24 P, o3_25 P, o3_26 P, o3_27 P, o3_28 P, o3_29 P, o3_30 P, o3_31 P, o3_32 P, o3_33 P, o3_34 P, o3_35 P, o3_36 P, o3_37 P, o3_38 P, o3_39 P, o3_40 P, o4_41 P, o4_42 P, o5_10_43 P, o5_0_44 P, o5_0_45 P, o5_0_46 P, o5_0_47 P, o5_0_48 P, o5_0_49 P, o5_0_50 P, o5_0_51 P, o5_0_52 P, o5_0_53 P, o6_4_54 P, o6_0_55 P, o6_0_56 P, o6_0_57 P, o6_0_58 P, o7_59 P, o7_60 P, o7_61 P, o7_62 P, o7_63 P, o7_64 P, o7_65 P, o7_66 P, o7_67 P, o7_68 P, o7_69 P, o7_70 P, o7_71 P, o7_72 P, o7_73 P, o7_74 P, o7_75 P, o7_76 P, o7_77 P, o7_78 P, o7_79 P, o7_80 P, o7_81 P, o7_82 P, o7_83 P, o7_84 P, o7_85 P, o7_86 P, o7_87 P, o7_88 P, o7_89 P, o7_90 P, o7_91 P, o7_92 P, o7_93 P, o7_94 P, o7_95 P, o7_96 P, o7_97 P, o7_98 P, o7_99 P, o7_100 P, o7_101 P, o7_102 P, o7_103 P, o7_104 P, o7_105 P, o7_106 P, o7_107 P, o7_108 P, o7_109 P, o7_110 P, o7_111 P, o7_112 P, o7_113 P, o7_114 P, o7_115 P, o7_116 P, o7_117 P, o7_118 P, o7_119 P, o7_120 P, o7_121 P, o7_122 P, o7_123 P, o7_124 P, o7_125 P, o7_126 P, o7_127 P, o7_128 P, o7_129 P, o8_130 P, o8_131 P, o8_132 P, o8_133 P, o8_134 P, o8_135 P, o8_136 P, o8_137 P, o8_138 P, o8_139 P, o8_140 P, o8_141 P, o8_142 P, o8_143 P, o8_144 P, o8_145 P, o8_146 P, o8_147 P, o8_148 P, o8_149 P, o8_150 P, o8_151 P, o8_152 P, o8_153 P, o8_154 P, o8_155 P, o8_156 P, o8_157 P, o8_158 P, o8_159 P, o8_160 P, o8_161 P, o8_162 P, o8_163 P, o8_164 P, o8_165 P, o8_166 P, o8_167 P, o8_168 P, o8_169 P, o9_170 P, o9_171 P, o9_172 P, o9_173 P, o9_174 P, o9_175 P, o9_176 P, o9_177 P, o9_178 P, o9_179 P, o9_180 P, o9_181 P, o9_182 P, o9_183 P, o9_184 P, o9_185 P, o9_186 P, o9_187 P, o9_188 P, o9_189 P, o9_190 P, o9_191 P, o9_192 P, o9_193 P, o9_194 P, o9_195 P, o9_196 P, o9_197 P, o9_198 P, o9_199 P, o9_200 P, o9_201 P, o9_202 P, o9_203 P, o9_204 P, o9_205 P, o9_206 P, o9_207 P, o9_208 P, o9_209 P, o9_210 P, o9_211 P, o9_212 P, o9_213 P, o9_214 P, o9_215 P, o9_216 P, o9_217 P, o9_218 P, o9_219 P, o9_220 P, o9_221 P, o9_222 P, o9_223 P, o9_224 P, o9_225 P, o9_226 P, o9_227 P, o9_228 P, o9_229 P, o10_230 P, o10_231 P, o10_232 P, o10_233 P, o10_234 P, o10_235 P, o10_236 P, o10_237 P, o10_238 P, o10_239 P, o10_240 P, o10_241 P, o10_242 P, o10_243 P]⟩, (boot_heap P).life⟩
noncomputable def k10 : Nat := 615
noncomputable def n10 : Nat := 66
noncomputable def p10 : Pos := ⟨167, 0, 176, 94⟩
noncomputable def s10 : List Stmt := [tp 49, tp 50]
noncomputable def H11 (P : Params) : Heap := ⟨⟨[boot_o_0 P, boot_o_1 P, boot_o_2 P, o10_3 P, boot_o_4 P, boot_o_5 P, boot_o_6 P, boot_o_7 P, boot_o_8 P, boot_o_9 P, boot_o_10 P, o1_11 P, o10_12 P, o1_13 P, o1_14 P, o3_15 P, o3_16 P, o3_17 P, o3_18 P, o3_19 P, o3_20 P, o3_21 P, o3_22 P, o3_23 P, o3_24 P, o3_25 P, o3_26 P, o3_27 P, o3_28 P, o3_29 P, o3_30 P, o3_31 P, o3_32 P, o3_33 P, o3_34 P, o3_35 P, o3_36 P, o3_37 P, o3_38 P, o3_39 P, o3_40 P, o4_41 P, o4_42 P, o5_10_43 P, o5_0_44 P, o5_0_45 P, o5_0_46 P, o5_0_47 P, o5_0_48 P, o5_0_49 P, o5_0_50 P, o5_0_51 P, o5_0_52 P, o5_0_53 P, o6_4_54 P, o6_0_55 P, o6_0_56 P, o6_0_57 P, o6_0_58 P, o7_59 P, o7_60 P, o7_61 P, o7_62 P, o7_63 P, o7_64 P, o7_65 P, o7_66 P, o7_67 P, o7_68 P, o7_69 P, o7_70 P, o7_71 P, o7_72 P, o7_73 P, o7_74 P, o7_75 P, o7_76 P, o7_77 P, o7_78 P, o7_79 P, o7_80 P, o7_81 P, o7_82 P, o7_83 P, o7_84 P, o7_85 P, o7_86 P, o7_87 P, o7_88 P, o7_89 P, o7_90 P, o7_91 P, o7_92 P, o7_93 P, o7_94 P, o7_95 P, o7_96 P, o7_97 P, o7_98 P, o7_99 P, o7_100 P, o7_101 P, o7_102 P, o7_103 P, o7_104 P, o7_105 P, o7_106 P, o7_107 P, o7_108 P, o7_109 P, o7_110 P, o7_111 P, o7_112 P, o7_113 P, o7_114 P, o7_115 P, o7_116 P, o7_117 P, o7_118 P, o7_119 P, o7_120 P, o7_121 P, o7_122 P, o7_123 P, o7_124 P, o7_125 P, o7_126 P, o7_127 P, o7_128 P, o7_129 P, o8_130 P, o8_131 P, o8_132 P, o8_133 P, o8_134 P, o8_135 P, o8_136 P, o8_137 P, o8_138 P, o8_139 P, o8_140 P, o8_141 P, o8_142 P, o8_143 P, o8_144 P, o8_145 P, o8_146 P, o8_147 P, o8_148 P, o8_149 P, o8_150 P, o8_151 P, o8_152 P, o8_153 P, o8_154 P, o8_155 P, o8_156 P, o8_157 P, o8_158 P, o8_159 P, o8_160 P, o8_161 P, o8_162 P, o8_163 P, o8_164 P, o8_165 P, o8_166 P, o8_167 P, o8_168 P, o8_169 P, o9_170 P, o9_171 P, o9_172 P, o9_173 P, o9_174 P, o9_175 P, o9_176 P, o9_177 P, o9_178 P, o9_179 P, o9_180 P, o9_181 P, o9_182 P, o9_183 P, o9_184 P, o9_185 P, o9_186 P, o9_187 P, o9_188 P, o9_189 P, o9_190 P, o9_191 P, o9_192 P, o9_193 P, o9_194 P, o9_195 P, o9_196 P, o9_197 P, o9_198 P, o9_199 P, o9_200 P, o9_201 P, o9_202 P, o9_203 P, o9_204 P, o9_205 P, o9_206 P, o9_207 P, o9_208 P, o9_209 P, o9_210 P, o9_211 P, o9_212 P, o9_213 P, o9_214 P, o9_215 P, o9_216 P, o9_217 P, o9_218 P, o9_219 P, o9_220 P, o9_221 P, o9_222 P, o9_223 P, o9_224 P, o9_225 P, o9_226 P, o9_227 P, o9_228 P, o9_229 P, o10_230 P, o10_231 P, o10_232 P, o10_233 P, o10_234 P, o10_235 P, o10_236 P, o10_237 P, o10_238 P, o10_239 P, o10_240 P, o10_241 P, o10_242 P, o10_243 P]⟩, (boot_heap P).life⟩
noncomputable def k11 : Nat := 615
noncomputable def n11 : Nat := 2
noncomputable def frg (P : Params) : PySem.W.Frag := (nat_lit 2, boot_o_2 P) :: (nat_lit 3, o10_3 P) :: (nat_lit 15, o3_15 P) :: (nat_lit 16, o3_16 P) :: (nat_lit 17, o3_17 P) :: (nat_lit 18, o3_18 P) :: (nat_lit 19, o3_19 P) :: (nat_lit 21, o3_21 P) :: (nat_lit 22, o3_22 P) :: (nat_lit 24, o3_24 P) :: (nat_lit 25, o3_25 P) :: (nat_lit 26, o3_26 P) :: (nat_lit 28, o3_28 P) :: (nat_lit 29, o3_29 P) :: (nat_lit 31, o3_31 P) :: (nat_lit 32, o3_32 P) :: (nat_lit 33, o3_33 P) :: (nat_lit 34, o3_34 P) :: (nat_lit 36, o3_36 P) :: (nat_lit 37, o3_37 P) :: (nat_lit 39, o3_39 P) :: (nat_lit 40, o3_40 P) :: (nat_lit 41, o4_41 P) :: (nat_lit 42, o4_42 P) :: (nat_lit 43, o5_10_43 P) :: (nat_lit 44, o5_0_44 P) :: (nat_lit 45, o5_0_45 P) :: (nat_lit 46, o5_0_46 P) :: (nat_lit 47, o5_0_47 P) :: (nat_lit 48, o5_0_48 P) :: (nat_lit 49, o5_0_49 P) :: (nat_lit 50, o5_0_50 P) :: (nat_lit 51, o5_0_51 P) :: (nat_lit 52, o5_0_52 P) :: (nat_lit 53, o5_0_53 P) :: (nat_lit 54, o6_4_54 P) :: (nat_lit 55, o6_0_55 P) :: (nat_lit 56, o6_0_56 P) :: (nat_lit 57, o6_0_57 P) :: (nat_lit 58, o6_0_58 P) :: (nat_lit 59, o7_59 P) :: (nat_lit 60, o7_60 P) :: (nat_lit 62, o7_62 P) :: (nat_lit 63, o7_63 P) :: (nat_lit 65, o7_65 P) :: (nat_lit 66, o7_66 P) :: (nat_lit 67, o7_67 P) :: (nat_lit 69, o7_69 P) :: (nat_lit 70, o7_70 P) :: (nat_lit 72, o7_72 P) :: (nat_lit 73, o7_73 P) :: (nat_lit 74, o7_74 P) :: (nat_lit 76, o7_76 P) :: (nat_lit 77, o7_77 P) :: (nat_lit 79, o7_79 P) :: (nat_lit 80, o7_80 P) :: (nat_lit 81, o7_81 P) :: (nat_lit 83, o7_83 P) :: (nat_lit 84, o7_84 P) :: (nat_lit 86, o7_86 P) :: (nat_lit 87, o7_87 P) :: (nat_lit 88, o7_88 P) :: (nat_lit 90, o7_90 P) :: (nat_lit 91, o7_91 P) :: (nat_lit 93, o7_93 P) :: (nat_lit 94, o7_94 P) :: (nat_lit 95, o7_95 P) :: (nat_lit 97, o7_97 P) :: (nat_lit 98, o7_98 P) :: (nat_lit 100, o7_100 P) :: (nat_lit 101, o7_101 P) :: (nat_lit 102, o7_102 P) :: (nat_lit 104, o7_104 P) :: (nat_lit 105, o7_105 P) :: (nat_lit 107, o7_107 P) :: (nat_lit 108, o7_108 P) :: (nat_lit 109, o7_109 P) :: (nat_lit 111, o7_111 P) :: (nat_lit 112, o7_112 P) :: (nat_lit 114, o7_114 P) :: (nat_lit 115, o7_115 P) :: (nat_lit 116, o7_116 P) :: (nat_lit 118, o7_118 P) :: (nat_lit 119, o7_119 P) :: (nat_lit 121, o7_121 P) :: (nat_lit 122, o7_122 P) :: (nat_lit 123, o7_123 P) :: (nat_lit 125, o7_125 P) :: (nat_lit 126, o7_126 P) :: (nat_lit 128, o7_128 P) :: (nat_lit 129, o7_129 P) :: (nat_lit 130, o8_130 P) :: (nat_lit 132, o8_132 P) :: (nat_lit 133, o8_133 P) :: (nat_lit 135, o8_135 P) :: (nat_lit 136, o8_136 P) :: (nat_lit 137, o8_137 P) :: (nat_lit 138, o8_138 P) :: (nat_lit 139, o8_139 P) :: (nat_lit 140, o8_140 P) :: (nat_lit 141, o8_141 P) :: (nat_lit 142, o8_142 P) :: (nat_lit 143, o8_143 P) :: (nat_lit 144, o8_144 P) :: (nat_lit 146, o8_146 P) :: (nat_lit 147, o8_147 P) :: (nat_lit 149, o8_149 P) :: (nat_lit 150, o8_150 P) :: (nat_lit 151, o8_151 P) :: (nat_lit 153, o8_153 P) :: (nat_lit 154, o8_154 P) :: (nat_lit 156, o8_156 P) :: (nat_lit 157, o8_157 P) :: (nat_lit 158, o8_158 P) :: (nat_lit 161, o8_161 P) :: (nat_lit 162, o8_162 P) :: (nat_lit 163, o8_163 P) :: (nat_lit 165, o8_165 P) :: (nat_lit 166, o8_166 P) :: (nat_lit 168, o8_168 P) :: (nat_lit 169, o8_169 P) :: (nat_lit 170, o9_170 P) :: (nat_lit 172, o9_172 P) :: (nat_lit 173, o9_173 P) :: (nat_lit 175, o9_175 P) :: (nat_lit 176, o9_176 P) :: (nat_lit 177, o9_177 P) :: (nat_lit 179, o9_179 P) :: (nat_lit 180, o9_180 P) :: (nat_lit 182, o9_182 P) :: (nat_lit 183, o9_183 P) :: (nat_lit 184, o9_184 P) :: (nat_lit 186, o9_186 P) :: (nat_lit 187, o9_187 P) :: (nat_lit 189, o9_189 P) :: (nat_lit 190, o9_190 P) :: (nat_lit 191, o9_191 P) :: (nat_lit 194, o9_194 P) :: (nat_lit 195, o9_195 P) :: (nat_lit 196, o9_196 P) :: (nat_lit 197, o9_197 P) :: (nat_lit 200, o9_200 P) :: (nat_lit 201, o9_201 P) :: (nat_lit 202, o9_202 P) :: (nat_lit 204, o9_204 P) :: (nat_lit 205, o9_205 P) :: (nat_lit 207, o9_207 P) :: (nat_lit 208, o9_208 P) :: (nat_lit 209, o9_209 P) :: (nat_lit 211, o9_211 P) :: (nat_lit 212, o9_212 P) :: (nat_lit 214, o9_214 P) :: (nat_lit 215, o9_215 P) :: (nat_lit 216, o9_216 P) :: (nat_lit 218, o9_218 P) :: (nat_lit 219, o9_219 P) :: (nat_lit 221, o9_221 P) :: (nat_lit 222, o9_222 P) :: (nat_lit 223, o9_223 P) :: (nat_lit 225, o9_225 P) :: (nat_lit 226, o9_226 P) :: (nat_lit 228, o9_228 P) :: (nat_lit 229, o9_229 P) :: (nat_lit 230, o10_230 P) :: (nat_lit 232, o10_232 P) :: (nat_lit 233, o10_233 P) :: (nat_lit 235, o10_235 P) :: (nat_lit 236, o10_236 P) :: (nat_lit 237, o10_237 P) :: (nat_lit 239, o10_239 P) :: (nat_lit 240, o10_240 P) :: (nat_lit 242, o10_242 P) :: (nat_lit 243, o10_243 P) :: []
noncomputable def adr : List Addr := [2, 3, 15, 16, 17, 18, 19, 21, 22, 24, 25, 26, 28, 29, 31, 32, 33, 34, 36, 37, 39, 40, 41, 42, 43, 44, 45, 46, 47, 48, 49, 50, 51, 52, 53, 54, 55, 56, 57, 58, 59, 60, 62, 63, 65, 66, 67, 69, 70, 72, 73, 74, 76, 77, 79, 80, 81, 83, 84, 86, 87, 88, 90, 91, 93, 94, 95, 97, 98, 100, 101, 102, 104, 105, 107, 108, 109, 111, 112, 114, 115, 116, 118, 119, 121, 122, 123, 125, 126, 128, 129, 130, 132, 133, 135, 136, 137, 138, 139, 140, 141, 142, 143, 144, 146, 147, 149, 150, 151, 153, 154, 156, 157, 158, 161, 162, 163, 165, 166, 168, 169, 170, 172, 173, 175, 176, 177, 179, 180, 182, 183, 184, 186, 187, 189, 190, 191, 194, 195, 196, 197, 200, 201, 202, 204, 205, 207, 208, 209, 211, 212, 214, 215, 216, 218, 219, 221, 222, 223, 225, 226, 228, 229, 230, 232, 233, 235, 236, 237, 239, 240, 242, 243]
noncomputable def env : Env := { scope := pr.main.scope, locals := mainNs, globals := mainNs, cells := [], code := code, frame := some frame }
noncomputable abbrev cE : Code := .body pr.main.body env
noncomputable abbrev fr : List Frame := [topFrame qpos]
noncomputable abbrev st (H : Params → Heap) (k : Nat) (w : World) (os : OsState) : Shared := stt H drawn k w os
theorem pre (w os) : topGo treeTable pr w m0 ann n1 ⟨boot_heap w.params, Array.mk [], boot_drawn, boot_toks, os⟩ (topStub pr) = some (st H1 k1 w os, ⟨denote treeTable cE, cE, p1, fr⟩) := by kernel_rfl
theorem blk (w os) : segRun treeTable pr w m0 ann 1 n2 (st H1 k1 w os) (blockOf pr.main.body env cE p1 fr) = some (.next, st H2 k2 w os, cE, p2) := by kernel_rfl
theorem g3 (w : World) (os : OsState) : segRun treeTable pr w m0 ann 1 n3 (st H2 k2 w os) (piecesOf s3 env cE p2 fr) = some (.next, st H3 k3 w os, cE, p3) := byRow (P := fun w => segRun treeTable pr w m0 ann 1 n3 (st H2 k2 w os) (piecesOf s3 env cE p2 fr) = some (.next, st H3 k3 w os, cE, p3)) (fun w b => by cases b <;> kernel_rfl) w
theorem g4 (w : World) (os : OsState) : segRun treeTable pr w m0 ann 1 n4 (st H3 k3 w os) (piecesOf s4 env cE p3 fr) = some (.next, st H4 k4 w os, cE, p4) := byRow (P := fun w => segRun treeTable pr w m0 ann 1 n4 (st H3 k3 w os) (piecesOf s4 env cE p3 fr) = some (.next, st H4 k4 w os, cE, p4)) (fun w b => by cases b <;> kernel_rfl) w
theorem P5_0 (w : World) (os : OsState) : RT pr w m0 ann qpos cE ((1 + (1 + (1 + (20 + 1)))) + ((1 + ((3 + (0 * 3 + 0)) + (0 * (1 + (16 + (1 + (1 + 0)))) + 0))) + (1 + 3))) (dictSet d5 (.ref a5_0) v5_0) (st H5_0 k5_0 w os) (st H5_1 k5_1 w os) () := by
  refine byRow (P := fun w => RT pr w m0 ann qpos cE ((1 + (1 + (1 + (20 + 1)))) + ((1 + ((3 + (0 * 3 + 0)) + (0 * (1 + (16 + (1 + (1 + 0)))) + 0))) + (1 + 3))) (dictSet d5 (.ref a5_0) v5_0) (st H5_0 k5_0 w os) (st H5_1 k5_1 w os) ()) (fun w b => ?_) w
  refine rt_set (h := th (w.withFollow rw b).params "s" 1) (s1 := st H5_0 k5_1 (w.withFollow rw b) os) ?_ (rt_find (es := E5_0 (w.withFollow rw b).params) (n := ep5_0) (fun K H gd lv pos => ⟨pos, 1, Nat.le_refl _, by kernel_rfl⟩) (by kernel_rfl) ?_ (fun K H gd lv pos => ⟨pos, 3, Nat.le_refl _, by kernel_rfl⟩) ?_ (fun K H gd lv pos => ⟨pos, 1, Nat.le_refl _, by kernel_rfl⟩) ?_) (fun K H gd lv pos => ⟨pos, 3, Nat.le_refl _, by kernel_rfl⟩)
  · unfold pyHash pyHashByItsType
    dsimp only
    refine RT.bind (a := ()) (s1 := st H5_0 k5_0 (w.withFollow rw b) os) (fun K H gd lv pos => ⟨pos, 1, Nat.le_refl _, by kernel_rfl⟩) ?_
    refine RT.bind (a := some (.builtin "tuple.__hash__")) (s1 := st H5_0 k5_0 (w.withFollow rw b) os) (fun K H gd lv pos => ⟨pos, 1, Nat.le_refl _, by kernel_rfl⟩) ?_
    rw [if_neg (by decide)]
    refine RT.bind (a := some (.builtin "tuple.__hash__")) (s1 := st H5_0 k5_0 (w.withFollow rw b) os) (fun K H gd lv pos => ⟨pos, 1, Nat.le_refl _, by kernel_rfl⟩) ?_
    rw [if_neg (by decide)]
    refine RT.bind (a := some (.int (Builtin.Tuple.tupleHashOf [PyData.keyHash (w.withFollow rw b).params "s", hashInt 1]) (k5_0 + 2))) (s1 := st H5_0 k5_1 (w.withFollow rw b) os) (fun K H gd lv pos => ⟨pos, 20, (by decide : 20 ≤ 20), by cases b <;> kernel_rfl⟩) ?_
    exact rt_reduced _
  · exact fm_nil
  · exact fm_nil
  · exact fm_nil
theorem P5_1 (w : World) (os : OsState) : RT pr w m0 ann qpos cE ((1 + (1 + (1 + (20 + 1)))) + ((1 + ((3 + (1 * 3 + 0)) + (1 * (1 + (16 + (1 + (1 + 0)))) + 0))) + (1 + 3))) (dictSet d5 (.ref a5_1) v5_1) (st H5_1 k5_1 w os) (st H5_2 k5_2 w os) () := by
  refine byRow (P := fun w => RT pr w m0 ann qpos cE ((1 + (1 + (1 + (20 + 1)))) + ((1 + ((3 + (1 * 3 + 0)) + (1 * (1 + (16 + (1 + (1 + 0)))) + 0))) + (1 + 3))) (dictSet d5 (.ref a5_1) v5_1) (st H5_1 k5_1 w os) (st H5_2 k5_2 w os) ()) (fun w b => ?_) w
  refine rt_set (h := th (w.withFollow rw b).params "d" 1) (s1 := st H5_1 k5_2 (w.withFollow rw b) os) ?_ (rt_find (es := E5_1 (w.withFollow rw b).params) (n := ep5_1) (fun K H gd lv pos => ⟨pos, 1, Nat.le_refl _, by kernel_rfl⟩) (by kernel_rfl) ?_ (fun K H gd lv pos => ⟨pos, 3, Nat.le_refl _, by kernel_rfl⟩) ?_ (fun K H gd lv pos => ⟨pos, 1, Nat.le_refl _, by kernel_rfl⟩) ?_) (fun K H gd lv pos => ⟨pos, 3, Nat.le_refl _, by kernel_rfl⟩)
  · unfold pyHash pyHashByItsType
    dsimp only
    refine RT.bind (a := ()) (s1 := st H5_1 k5_1 (w.withFollow rw b) os) (fun K H gd lv pos => ⟨pos, 1, Nat.le_refl _, by kernel_rfl⟩) ?_
    refine RT.bind (a := some (.builtin "tuple.__hash__")) (s1 := st H5_1 k5_1 (w.withFollow rw b) os) (fun K H gd lv pos => ⟨pos, 1, Nat.le_refl _, by kernel_rfl⟩) ?_
    rw [if_neg (by decide)]
    refine RT.bind (a := some (.builtin "tuple.__hash__")) (s1 := st H5_1 k5_1 (w.withFollow rw b) os) (fun K H gd lv pos => ⟨pos, 1, Nat.le_refl _, by kernel_rfl⟩) ?_
    rw [if_neg (by decide)]
    refine RT.bind (a := some (.int (Builtin.Tuple.tupleHashOf [PyData.keyHash (w.withFollow rw b).params "d", hashInt 1]) (k5_1 + 2))) (s1 := st H5_1 k5_2 (w.withFollow rw b) os) (fun K H gd lv pos => ⟨pos, 20, (by decide : 20 ≤ 20), by cases b <;> kernel_rfl⟩) ?_
    exact rt_reduced _
  · exact (fm_cons (rfl) fm_nil)
  · exact (fm_cons ((fun K H gd lv pos => ⟨pos, 3, Nat.le_refl _, by kernel_rfl⟩)) fm_nil)
  · exact (fm_cons ((fun K H gd lv pos => ⟨pos, 16, (by decide : 16 ≤ 16), by cases b <;> kernel_rfl⟩)) fm_nil)
theorem P5_2 (w : World) (os : OsState) : RT pr w m0 ann qpos cE ((1 + (1 + (1 + (20 + 1)))) + ((1 + ((3 + (2 * 3 + 0)) + (2 * (1 + (16 + (1 + (1 + 0)))) + 0))) + (1 + 3))) (dictSet d5 (.ref a5_2) v5_2) (st H5_2 k5_2 w os) (st H5_3 k5_3 w os) () := by
  refine byRow (P := fun w => RT pr w m0 ann qpos cE ((1 + (1 + (1 + (20 + 1)))) + ((1 + ((3 + (2 * 3 + 0)) + (2 * (1 + (16 + (1 + (1 + 0)))) + 0))) + (1 + 3))) (dictSet d5 (.ref a5_2) v5_2) (st H5_2 k5_2 w os) (st H5_3 k5_3 w os) ()) (fun w b => ?_) w
  refine rt_set (h := th (w.withFollow rw b).params "r" 1) (s1 := st H5_2 k5_3 (w.withFollow rw b) os) ?_ (rt_find (es := E5_2 (w.withFollow rw b).params) (n := ep5_2) (fun K H gd lv pos => ⟨pos, 1, Nat.le_refl _, by kernel_rfl⟩) (by kernel_rfl) ?_ (fun K H gd lv pos => ⟨pos, 3, Nat.le_refl _, by kernel_rfl⟩) ?_ (fun K H gd lv pos => ⟨pos, 1, Nat.le_refl _, by kernel_rfl⟩) ?_) (fun K H gd lv pos => ⟨pos, 3, Nat.le_refl _, by kernel_rfl⟩)
  · unfold pyHash pyHashByItsType
    dsimp only
    refine RT.bind (a := ()) (s1 := st H5_2 k5_2 (w.withFollow rw b) os) (fun K H gd lv pos => ⟨pos, 1, Nat.le_refl _, by kernel_rfl⟩) ?_
    refine RT.bind (a := some (.builtin "tuple.__hash__")) (s1 := st H5_2 k5_2 (w.withFollow rw b) os) (fun K H gd lv pos => ⟨pos, 1, Nat.le_refl _, by kernel_rfl⟩) ?_
    rw [if_neg (by decide)]
    refine RT.bind (a := some (.builtin "tuple.__hash__")) (s1 := st H5_2 k5_2 (w.withFollow rw b) os) (fun K H gd lv pos => ⟨pos, 1, Nat.le_refl _, by kernel_rfl⟩) ?_
    rw [if_neg (by decide)]
    refine RT.bind (a := some (.int (Builtin.Tuple.tupleHashOf [PyData.keyHash (w.withFollow rw b).params "r", hashInt 1]) (k5_2 + 2))) (s1 := st H5_2 k5_3 (w.withFollow rw b) os) (fun K H gd lv pos => ⟨pos, 20, (by decide : 20 ≤ 20), by cases b <;> kernel_rfl⟩) ?_
    exact rt_reduced _
  · exact (fm_cons (rfl) (fm_cons (rfl) fm_nil))
  · exact (fm_cons ((fun K H gd lv pos => ⟨pos, 3, Nat.le_refl _, by kernel_rfl⟩)) (fm_cons ((fun K H gd lv pos => ⟨pos, 3, Nat.le_refl _, by kernel_rfl⟩)) fm_nil))
  · exact (fm_cons ((fun K H gd lv pos => ⟨pos, 16, (by decide : 16 ≤ 16), by cases b <;> kernel_rfl⟩)) (fm_cons ((fun K H gd lv pos => ⟨pos, 16, (by decide : 16 ≤ 16), by cases b <;> kernel_rfl⟩)) fm_nil))
theorem P5_3 (w : World) (os : OsState) : RT pr w m0 ann qpos cE ((1 + (1 + (1 + (20 + 1)))) + ((1 + ((3 + (3 * 3 + 0)) + (3 * (1 + (16 + (1 + (1 + 0)))) + 0))) + (1 + 3))) (dictSet d5 (.ref a5_3) v5_3) (st H5_3 k5_3 w os) (st H5_4 k5_4 w os) () := by
  refine byRow (P := fun w => RT pr w m0 ann qpos cE ((1 + (1 + (1 + (20 + 1)))) + ((1 + ((3 + (3 * 3 + 0)) + (3 * (1 + (16 + (1 + (1 + 0)))) + 0))) + (1 + 3))) (dictSet d5 (.ref a5_3) v5_3) (st H5_3 k5_3 w os) (st H5_4 k5_4 w os) ()) (fun w b => ?_) w
  refine rt_set (h := th (w.withFollow rw b).params "D" 2) (s1 := st H5_3 k5_4 (w.withFollow rw b) os) ?_ (rt_find (es := E5_3 (w.withFollow rw b).params) (n := ep5_3) (fun K H gd lv pos => ⟨pos, 1, Nat.le_refl _, by kernel_rfl⟩) (by kernel_rfl) ?_ (fun K H gd lv pos => ⟨pos, 3, Nat.le_refl _, by kernel_rfl⟩) ?_ (fun K H gd lv pos => ⟨pos, 1, Nat.le_refl _, by kernel_rfl⟩) ?_) (fun K H gd lv pos => ⟨pos, 3, Nat.le_refl _, by kernel_rfl⟩)
  · unfold pyHash pyHashByItsType
    dsimp only
    refine RT.bind (a := ()) (s1 := st H5_3 k5_3 (w.withFollow rw b) os) (fun K H gd lv pos => ⟨pos, 1, Nat.le_refl _, by kernel_rfl⟩) ?_
    refine RT.bind (a := some (.builtin "tuple.__hash__")) (s1 := st H5_3 k5_3 (w.withFollow rw b) os) (fun K H gd lv pos => ⟨pos, 1, Nat.le_refl _, by kernel_rfl⟩) ?_
    rw [if_neg (by decide)]
    refine RT.bind (a := some (.builtin "tuple.__hash__")) (s1 := st H5_3 k5_3 (w.withFollow rw b) os) (fun K H gd lv pos => ⟨pos, 1, Nat.le_refl _, by kernel_rfl⟩) ?_
    rw [if_neg (by decide)]
    refine RT.bind (a := some (.int (Builtin.Tuple.tupleHashOf [PyData.keyHash (w.withFollow rw b).params "D", hashInt 2]) (k5_3 + 2))) (s1 := st H5_3 k5_4 (w.withFollow rw b) os) (fun K H gd lv pos => ⟨pos, 20, (by decide : 20 ≤ 20), by cases b <;> kernel_rfl⟩) ?_
    exact rt_reduced _
  · exact (fm_cons (rfl) (fm_cons (rfl) (fm_cons (rfl) fm_nil)))
  · exact (fm_cons ((fun K H gd lv pos => ⟨pos, 3, Nat.le_refl _, by kernel_rfl⟩)) (fm_cons ((fun K H gd lv pos => ⟨pos, 3, Nat.le_refl _, by kernel_rfl⟩)) (fm_cons ((fun K H gd lv pos => ⟨pos, 3, Nat.le_refl _, by kernel_rfl⟩)) fm_nil)))
  · exact (fm_cons ((fun K H gd lv pos => ⟨pos, 16, (by decide : 16 ≤ 16), by cases b <;> kernel_rfl⟩)) (fm_cons ((fun K H gd lv pos => ⟨pos, 16, (by decide : 16 ≤ 16), by cases b <;> kernel_rfl⟩)) (fm_cons ((fun K H gd lv pos => ⟨pos, 16, (by decide : 16 ≤ 16), by cases b <;> kernel_rfl⟩)) fm_nil)))
theorem P5_4 (w : World) (os : OsState) : RT pr w m0 ann qpos cE ((1 + (1 + (1 + (20 + 1)))) + ((1 + ((3 + (4 * 3 + 0)) + (4 * (1 + (16 + (1 + (1 + 0)))) + 0))) + (1 + 3))) (dictSet d5 (.ref a5_4) v5_4) (st H5_4 k5_4 w os) (st H5_5 k5_5 w os) () := by
  refine byRow (P := fun w => RT pr w m0 ann qpos cE ((1 + (1 + (1 + (20 + 1)))) + ((1 + ((3 + (4 * 3 + 0)) + (4 * (1 + (16 + (1 + (1 + 0)))) + 0))) + (1 + 3))) (dictSet d5 (.ref a5_4) v5_4) (st H5_4 k5_4 w os) (st H5_5 k5_5 w os) ()) (fun w b => ?_) w
  refine rt_set (h := th (w.withFollow rw b).params "R" 2) (s1 := st H5_4 k5_5 (w.withFollow rw b) os) ?_ (rt_find (es := E5_4 (w.withFollow rw b).params) (n := ep5_4) (fun K H gd lv pos => ⟨pos, 1, Nat.le_refl _, by kernel_rfl⟩) (by kernel_rfl) ?_ (fun K H gd lv pos => ⟨pos, 3, Nat.le_refl _, by kernel_rfl⟩) ?_ (fun K H gd lv pos => ⟨pos, 1, Nat.le_refl _, by kernel_rfl⟩) ?_) (fun K H gd lv pos => ⟨pos, 3, Nat.le_refl _, by kernel_rfl⟩)
  · unfold pyHash pyHashByItsType
    dsimp only
    refine RT.bind (a := ()) (s1 := st H5_4 k5_4 (w.withFollow rw b) os) (fun K H gd lv pos => ⟨pos, 1, Nat.le_refl _, by kernel_rfl⟩) ?_
    refine RT.bind (a := some (.builtin "tuple.__hash__")) (s1 := st H5_4 k5_4 (w.withFollow rw b) os) (fun K H gd lv pos => ⟨pos, 1, Nat.le_refl _, by kernel_rfl⟩) ?_
    rw [if_neg (by decide)]
    refine RT.bind (a := some (.builtin "tuple.__hash__")) (s1 := st H5_4 k5_4 (w.withFollow rw b) os) (fun K H gd lv pos => ⟨pos, 1, Nat.le_refl _, by kernel_rfl⟩) ?_
    rw [if_neg (by decide)]
    refine RT.bind (a := some (.int (Builtin.Tuple.tupleHashOf [PyData.keyHash (w.withFollow rw b).params "R", hashInt 2]) (k5_4 + 2))) (s1 := st H5_4 k5_5 (w.withFollow rw b) os) (fun K H gd lv pos => ⟨pos, 20, (by decide : 20 ≤ 20), by cases b <;> kernel_rfl⟩) ?_
    exact rt_reduced _
  · exact (fm_cons (rfl) (fm_cons (rfl) (fm_cons (rfl) (fm_cons (rfl) fm_nil))))
  · exact (fm_cons ((fun K H gd lv pos => ⟨pos, 3, Nat.le_refl _, by kernel_rfl⟩)) (fm_cons ((fun K H gd lv pos => ⟨pos, 3, Nat.le_refl _, by kernel_rfl⟩)) (fm_cons ((fun K H gd lv pos => ⟨pos, 3, Nat.le_refl _, by kernel_rfl⟩)) (fm_cons ((fun K H gd lv pos => ⟨pos, 3, Nat.le_refl _, by kernel_rfl⟩)) fm_nil))))
  · exact (fm_cons ((fun K H gd lv pos => ⟨pos, 16, (by decide : 16 ≤ 16), by cases b <;> kernel_rfl⟩)) (fm_cons ((fun K H gd lv pos => ⟨pos, 16, (by decide : 16 ≤ 16), by cases b <;> kernel_rfl⟩)) (fm_cons ((fun K H gd lv pos => ⟨pos, 16, (by decide : 16 ≤ 16), by cases b <;> kernel_rfl⟩)) (fm_cons ((fun K H gd lv pos => ⟨pos, 16, (by decide : 16 ≤ 16), by cases b <;> kernel_rfl⟩)) fm_nil))))
theorem P5_5 (w : World) (os : OsState) : RT pr w m0 ann qpos cE ((1 + (1 + (1 + (20 + 1)))) + ((1 + ((3 + (5 * 3 + 0)) + (5 * (1 + (16 + (1 + (1 + 0)))) + 0))) + (1 + 3))) (dictSet d5 (.ref a5_5) v5_5) (st H5_5 k5_5 w os) (st H5_6 k5_6 w os) () := by
  refine byRow (P := fun w => RT pr w m0 ann qpos cE ((1 + (1 + (1 + (20 + 1)))) + ((1 + ((3 + (5 * 3 + 0)) + (5 * (1 + (16 + (1 + (1 + 0)))) + 0))) + (1 + 3))) (dictSet d5 (.ref a5_5) v5_5) (st H5_5 k5_5 w os) (st H5_6 k5_6 w os) ()) (fun w b => ?_) w
  refine rt_set (h := th (w.withFollow rw b).params "G" 2) (s1 := st H5_5 k5_6 (w.withFollow rw b) os) ?_ (rt_find (es := E5_5 (w.withFollow rw b).params) (n := ep5_5) (fun K H gd lv pos => ⟨pos, 1, Nat.le_refl _, by kernel_rfl⟩) (by kernel_rfl) ?_ (fun K H gd lv pos => ⟨pos, 3, Nat.le_refl _, by kernel_rfl⟩) ?_ (fun K H gd lv pos => ⟨pos, 1, Nat.le_refl _, by kernel_rfl⟩) ?_) (fun K H gd lv pos => ⟨pos, 3, Nat.le_refl _, by kernel_rfl⟩)
  · unfold pyHash pyHashByItsType
    dsimp only
    refine RT.bind (a := ()) (s1 := st H5_5 k5_5 (w.withFollow rw b) os) (fun K H gd lv pos => ⟨pos, 1, Nat.le_refl _, by kernel_rfl⟩) ?_
    refine RT.bind (a := some (.builtin "tuple.__hash__")) (s1 := st H5_5 k5_5 (w.withFollow rw b) os) (fun K H gd lv pos => ⟨pos, 1, Nat.le_refl _, by kernel_rfl⟩) ?_
    rw [if_neg (by decide)]
    refine RT.bind (a := some (.builtin "tuple.__hash__")) (s1 := st H5_5 k5_5 (w.withFollow rw b) os) (fun K H gd lv pos => ⟨pos, 1, Nat.le_refl _, by kernel_rfl⟩) ?_
    rw [if_neg (by decide)]
    refine RT.bind (a := some (.int (Builtin.Tuple.tupleHashOf [PyData.keyHash (w.withFollow rw b).params "G", hashInt 2]) (k5_5 + 2))) (s1 := st H5_5 k5_6 (w.withFollow rw b) os) (fun K H gd lv pos => ⟨pos, 20, (by decide : 20 ≤ 20), by cases b <;> kernel_rfl⟩) ?_
    exact rt_reduced _
  · exact (fm_cons (rfl) (fm_cons (rfl) (fm_cons (rfl) (fm_cons (rfl) (fm_cons (rfl) fm_nil)))))
  · exact (fm_cons ((fun K H gd lv pos => ⟨pos, 3, Nat.le_refl _, by kernel_rfl⟩)) (fm_cons ((fun K H gd lv pos => ⟨pos, 3, Nat.le_refl _, by kernel_rfl⟩)) (fm_cons ((fun K H gd lv pos => ⟨pos, 3, Nat.le_refl _, by kernel_rfl⟩)) (fm_cons ((fun K H gd lv pos => ⟨pos, 3, Nat.le_refl _, by kernel_rfl⟩)) (fm_cons ((fun K H gd lv pos => ⟨pos, 3, Nat.le_refl _, by kernel_rfl⟩)) fm_nil)))))
  · exact (fm_cons ((fun K H gd lv pos => ⟨pos, 16, (by decide : 16 ≤ 16), by cases b <;> kernel_rfl⟩)) (fm_cons ((fun K H gd lv pos => ⟨pos, 16, (by decide : 16 ≤ 16), by cases b <;> kernel_rfl⟩)) (fm_cons ((fun K H gd lv pos => ⟨pos, 16, (by decide : 16 ≤ 16), by cases b <;> kernel_rfl⟩)) (fm_cons ((fun K H gd lv pos => ⟨pos, 16, (by decide : 16 ≤ 16), by cases b <;> kernel_rfl⟩)) (fm_cons ((fun K H gd lv pos => ⟨pos, 16, (by decide : 16 ≤ 16), by cases b <;> kernel_rfl⟩)) fm_nil)))))
theorem P5_6 (w : World) (os : OsState) : RT pr w m0 ann qpos cE ((1 + (1 + (1 + (20 + 1)))) + ((1 + ((3 + (6 * 3 + 0)) + (6 * (1 + (20 + (1 + (1 + 0)))) + 0))) + (1 + 3))) (dictSet d5 (.ref a5_6) v5_6) (st H5_6 k5_6 w os) (st H5_7 k5_7 w os) () := by
  refine byRow (P := fun w => RT pr w m0 ann qpos cE ((1 + (1 + (1 + (20 + 1)))) + ((1 + ((3 + (6 * 3 + 0)) + (6 * (1 + (20 + (1 + (1 + 0)))) + 0))) + (1 + 3))) (dictSet d5 (.ref a5_6) v5_6) (st H5_6 k5_6 w os) (st H5_7 k5_7 w os) ()) (fun w b => ?_) w
  refine rt_set (h := th (w.withFollow rw b).params "G" 3) (s1 := st H5_6 k5_7 (w.withFollow rw b) os) ?_ (rt_find (es := E5_6 (w.withFollow rw b).params) (n := ep5_6) (fun K H gd lv pos => ⟨pos, 1, Nat.le_refl _, by kernel_rfl⟩) (by kernel_rfl) ?_ (fun K H gd lv pos => ⟨pos, 3, Nat.le_refl _, by kernel_rfl⟩) ?_ (fun K H gd lv pos => ⟨pos, 1, Nat.le_refl _, by kernel_rfl⟩) ?_) (fun K H gd lv pos => ⟨pos, 3, Nat.le_refl _, by kernel_rfl⟩)
  · unfold pyHash pyHashByItsType
    dsimp only
    refine RT.bind (a := ()) (s1 := st H5_6 k5_6 (w.withFollow rw b) os) (fun K H gd lv pos => ⟨pos, 1, Nat.le_refl _, by kernel_rfl⟩) ?_
    refine RT.bind (a := some (.builtin "tuple.__hash__")) (s1 := st H5_6 k5_6 (w.withFollow rw b) os) (fun K H gd lv pos => ⟨pos, 1, Nat.le_refl _, by kernel_rfl⟩) ?_
    rw [if_neg (by decide)]
    refine RT.bind (a := some (.builtin "tuple.__hash__")) (s1 := st H5_6 k5_6 (w.withFollow rw b) os) (fun K H gd lv pos => ⟨pos, 1, Nat.le_refl _, by kernel_rfl⟩) ?_
    rw [if_neg (by decide)]
    refine RT.bind (a := some (.int (Builtin.Tuple.tupleHashOf [PyData.keyHash (w.withFollow rw b).params "G", hashInt 3]) (k5_6 + 2))) (s1 := st H5_6 k5_7 (w.withFollow rw b) os) (fun K H gd lv pos => ⟨pos, 20, (by decide : 20 ≤ 20), by cases b <;> kernel_rfl⟩) ?_
    exact rt_reduced _
  · exact (fm_cons (rfl) (fm_cons (rfl) (fm_cons (rfl) (fm_cons (rfl) (fm_cons (rfl) (fm_cons (rfl) fm_nil))))))
  · exact (fm_cons ((fun K H gd lv pos => ⟨pos, 3, Nat.le_refl _, by kernel_rfl⟩)) (fm_cons ((fun K H gd lv pos => ⟨pos, 3, Nat.le_refl _, by kernel_rfl⟩)) (fm_cons ((fun K H gd lv pos => ⟨pos, 3, Nat.le_refl _, by kernel_rfl⟩)) (fm_cons ((fun K H gd lv pos => ⟨pos, 3, Nat.le_refl _, by kernel_rfl⟩)) (fm_cons ((fun K H gd lv pos => ⟨pos, 3, Nat.le_refl _, by kernel_rfl⟩)) (fm_cons ((fun K H gd lv pos => ⟨pos, 3, Nat.le_refl _, by kernel_rfl⟩)) fm_nil))))))
  · exact (fm_cons ((fun K H gd lv pos => ⟨pos, 16, (by decide : 16 ≤ 20), by cases b <;> kernel_rfl⟩)) (fm_cons ((fun K H gd lv pos => ⟨pos, 16, (by decide : 16 ≤ 20), by cases b <;> kernel_rfl⟩)) (fm_cons ((fun K H gd lv pos => ⟨pos, 16, (by decide : 16 ≤ 20), by cases b <;> kernel_rfl⟩)) (fm_cons ((fun K H gd lv pos => ⟨pos, 16, (by decide : 16 ≤ 20), by cases b <;> kernel_rfl⟩)) (fm_cons ((fun K H gd lv pos => ⟨pos, 16, (by decide : 16 ≤ 20), by cases b <;> kernel_rfl⟩)) (fm_cons ((fun K H gd lv pos => ⟨pos, 20, (by decide : 20 ≤ 20), by cases b <;> kernel_rfl⟩)) fm_nil))))))
theorem P5_7 (w : World) (os : OsState) : RT pr w m0 ann qpos cE ((1 + (1 + (1 + (20 + 1)))) + ((1 + ((3 + (7 * 3 + 0)) + (7 * (1 + (16 + (1 + (1 + 0)))) + 0))) + (1 + 3))) (dictSet d5 (.ref a5_7) v5_7) (st H5_7 k5_7 w os) (st H5_8 k5_8 w os) () := by
  refine byRow (P := fun w => RT pr w m0 ann qpos cE ((1 + (1 + (1 + (20 + 1)))) + ((1 + ((3 + (7 * 3 + 0)) + (7 * (1 + (16 + (1 + (1 + 0)))) + 0))) + (1 + 3))) (dictSet d5 (.ref a5_7) v5_7) (st H5_7 k5_7 w os) (st H5_8 k5_8 w os) ()) (fun w b => ?_) w
  refine rt_set (h := th (w.withFollow rw b).params "." 0) (s1 := st H5_7 k5_8 (w.withFollow rw b) os) ?_ (rt_find (es := E5_7 (w.withFollow rw b).params) (n := ep5_7) (fun K H gd lv pos => ⟨pos, 1, Nat.le_refl _, by kernel_rfl⟩) (by kernel_rfl) ?_ (fun K H gd lv pos => ⟨pos, 3, Nat.le_refl _, by kernel_rfl⟩) ?_ (fun K H gd lv pos => ⟨pos, 1, Nat.le_refl _, by kernel_rfl⟩) ?_) (fun K H gd lv pos => ⟨pos, 3, Nat.le_refl _, by kernel_rfl⟩)
  · unfold pyHash pyHashByItsType
    dsimp only
    refine RT.bind (a := ()) (s1 := st H5_7 k5_7 (w.withFollow rw b) os) (fun K H gd lv pos => ⟨pos, 1, Nat.le_refl _, by kernel_rfl⟩) ?_
    refine RT.bind (a := some (.builtin "tuple.__hash__")) (s1 := st H5_7 k5_7 (w.withFollow rw b) os) (fun K H gd lv pos => ⟨pos, 1, Nat.le_refl _, by kernel_rfl⟩) ?_
    rw [if_neg (by decide)]
    refine RT.bind (a := some (.builtin "tuple.__hash__")) (s1 := st H5_7 k5_7 (w.withFollow rw b) os) (fun K H gd lv pos => ⟨pos, 1, Nat.le_refl _, by kernel_rfl⟩) ?_
    rw [if_neg (by decide)]
    refine RT.bind (a := some (.int (Builtin.Tuple.tupleHashOf [PyData.keyHash (w.withFollow rw b).params ".", hashInt 0]) (k5_7 + 2))) (s1 := st H5_7 k5_8 (w.withFollow rw b) os) (fun K H gd lv pos => ⟨pos, 20, (by decide : 20 ≤ 20), by cases b <;> kernel_rfl⟩) ?_
    exact rt_reduced _
  · exact (fm_cons (rfl) (fm_cons (rfl) (fm_cons (rfl) (fm_cons (rfl) (fm_cons (rfl) (fm_cons (rfl) (fm_cons (rfl) fm_nil)))))))
  · exact (fm_cons ((fun K H gd lv pos => ⟨pos, 3, Nat.le_refl _, by kernel_rfl⟩)) (fm_cons ((fun K H gd lv pos => ⟨pos, 3, Nat.le_refl _, by kernel_rfl⟩)) (fm_cons ((fun K H gd lv pos => ⟨pos, 3, Nat.le_refl _, by kernel_rfl⟩)) (fm_cons ((fun K H gd lv pos => ⟨pos, 3, Nat.le_refl _, by kernel_rfl⟩)) (fm_cons ((fun K H gd lv pos => ⟨pos, 3, Nat.le_refl _, by kernel_rfl⟩)) (fm_cons ((fun K H gd lv pos => ⟨pos, 3, Nat.le_refl _, by kernel_rfl⟩)) (fm_cons ((fun K H gd lv pos => ⟨pos, 3, Nat.le_refl _, by kernel_rfl⟩)) fm_nil)))))))
  · exact (fm_cons ((fun K H gd lv pos => ⟨pos, 16, (by decide : 16 ≤ 16), by cases b <;> kernel_rfl⟩)) (fm_cons ((fun K H gd lv pos => ⟨pos, 16, (by decide : 16 ≤ 16), by cases b <;> kernel_rfl⟩)) (fm_cons ((fun K H gd lv pos => ⟨pos, 16, (by decide : 16 ≤ 16), by cases b <;> kernel_rfl⟩)) (fm_cons ((fun K H gd lv pos => ⟨pos, 16, (by decide : 16 ≤ 16), by cases b <;> kernel_rfl⟩)) (fm_cons ((fun K H gd lv pos => ⟨pos, 16, (by decide : 16 ≤ 16), by cases b <;> kernel_rfl⟩)) (fm_cons ((fun K H gd lv pos => ⟨pos, 16, (by decide : 16 ≤ 16), by cases b <;> kernel_rfl⟩)) (fm_cons ((fun K H gd lv pos => ⟨pos, 16, (by decide : 16 ≤ 16), by cases b <;> kernel_rfl⟩)) fm_nil)))))))
theorem P5_8 (w : World) (os : OsState) : RT pr w m0 ann qpos cE ((1 + (1 + (1 + (20 + 1)))) + ((1 + ((3 + (8 * 3 + 0)) + (8 * (1 + (16 + (1 + (1 + 0)))) + 0))) + (1 + 3))) (dictSet d5 (.ref a5_8) v5_8) (st H5_8 k5_8 w os) (st H5_9 k5_9 w os) () := by
  refine byRow (P := fun w => RT pr w m0 ann qpos cE ((1 + (1 + (1 + (20 + 1)))) + ((1 + ((3 + (8 * 3 + 0)) + (8 * (1 + (16 + (1 + (1 + 0)))) + 0))) + (1 + 3))) (dictSet d5 (.ref a5_8) v5_8) (st H5_8 k5_8 w os) (st H5_9 k5_9 w os) ()) (fun w b => ?_) w
  refine rt_set (h := th (w.withFollow rw b).params "2" 0) (s1 := st H5_8 k5_9 (w.withFollow rw b) os) ?_ (rt_find (es := E5_8 (w.withFollow rw b).params) (n := ep5_8) (fun K H gd lv pos => ⟨pos, 1, Nat.le_refl _, by kernel_rfl⟩) (by kernel_rfl) ?_ (fun K H gd lv pos => ⟨pos, 3, Nat.le_refl _, by kernel_rfl⟩) ?_ (fun K H gd lv pos => ⟨pos, 1, Nat.le_refl _, by kernel_rfl⟩) ?_) (fun K H gd lv pos => ⟨pos, 3, Nat.le_refl _, by kernel_rfl⟩)
  · unfold pyHash pyHashByItsType
    dsimp only
    refine RT.bind (a := ()) (s1 := st H5_8 k5_8 (w.withFollow rw b) os) (fun K H gd lv pos => ⟨pos, 1, Nat.le_refl _, by kernel_rfl⟩) ?_
    refine RT.bind (a := some (.builtin "tuple.__hash__")) (s1 := st H5_8 k5_8 (w.withFollow rw b) os) (fun K H gd lv pos => ⟨pos, 1, Nat.le_refl _, by kernel_rfl⟩) ?_
    rw [if_neg (by decide)]
    refine RT.bind (a := some (.builtin "tuple.__hash__")) (s1 := st H5_8 k5_8 (w.withFollow rw b) os) (fun K H gd lv pos => ⟨pos, 1, Nat.le_refl _, by kernel_rfl⟩) ?_
    rw [if_neg (by decide)]
    refine RT.bind (a := some (.int (Builtin.Tuple.tupleHashOf [PyData.keyHash (w.withFollow rw b).params "2", hashInt 0]) (k5_8 + 2))) (s1 := st H5_8 k5_9 (w.withFollow rw b) os) (fun K H gd lv pos => ⟨pos, 20, (by decide : 20 ≤ 20), by cases b <;> kernel_rfl⟩) ?_
    exact rt_reduced _
  · exact (fm_cons (rfl) (fm_cons (rfl) (fm_cons (rfl) (fm_cons (rfl) (fm_cons (rfl) (fm_cons (rfl) (fm_cons (rfl) (fm_cons (rfl) fm_nil))))))))
  · exact (fm_cons ((fun K H gd lv pos => ⟨pos, 3, Nat.le_refl _, by kernel_rfl⟩)) (fm_cons ((fun K H gd lv pos => ⟨pos, 3, Nat.le_refl _, by kernel_rfl⟩)) (fm_cons ((fun K H gd lv pos => ⟨pos, 3, Nat.le_refl _, by kernel_rfl⟩)) (fm_cons ((fun K H gd lv pos => ⟨pos, 3, Nat.le_refl _, by kernel_rfl⟩)) (fm_cons ((fun K H gd lv pos => ⟨pos, 3, Nat.le_refl _, by kernel_rfl⟩)) (fm_cons ((fun K H gd lv pos => ⟨pos, 3, Nat.le_refl _, by kernel_rfl⟩)) (fm_cons ((fun K H gd lv pos => ⟨pos, 3, Nat.le_refl _, by kernel_rfl⟩)) (fm_cons ((fun K H gd lv pos => ⟨pos, 3, Nat.le_refl _, by kernel_rfl⟩)) fm_nil))))))))
  · exact (fm_cons ((fun K H gd lv pos => ⟨pos, 16, (by decide : 16 ≤ 16), by cases b <;> kernel_rfl⟩)) (fm_cons ((fun K H gd lv pos => ⟨pos, 16, (by decide : 16 ≤ 16), by cases b <;> kernel_rfl⟩)) (fm_cons ((fun K H gd lv pos => ⟨pos, 16, (by decide : 16 ≤ 16), by cases b <;> kernel_rfl⟩)) (fm_cons ((fun K H gd lv pos => ⟨pos, 16, (by decide : 16 ≤ 16), by cases b <;> kernel_rfl⟩)) (fm_cons ((fun K H gd lv pos => ⟨pos, 16, (by decide : 16 ≤ 16), by cases b <;> kernel_rfl⟩)) (fm_cons ((fun K H gd lv pos => ⟨pos, 16, (by decide : 16 ≤ 16), by cases b <;> kernel_rfl⟩)) (fm_cons ((fun K H gd lv pos => ⟨pos, 16, (by decide : 16 ≤ 16), by cases b <;> kernel_rfl⟩)) (fm_cons ((fun K H gd lv pos => ⟨pos, 16, (by decide : 16 ≤ 16), by cases b <;> kernel_rfl⟩)) fm_nil))))))))
theorem P5_9 (w : World) (os : OsState) : RT pr w m0 ann qpos cE ((1 + (1 + (1 + (20 + 1)))) + ((1 + ((3 + (9 * 3 + 0)) + (9 * (1 + (16 + (1 + (1 + 0)))) + 0))) + (1 + 3))) (dictSet d5 (.ref a5_9) v5_9) (st H5_9 k5_9 w os) (st H5_10 k5_10 w os) () := by
  refine byRow (P := fun w => RT pr w m0 ann qpos cE ((1 + (1 + (1 + (20 + 1)))) + ((1 + ((3 + (9 * 3 + 0)) + (9 * (1 + (16 + (1 + (1 + 0)))) + 0))) + (1 + 3))) (dictSet d5 (.ref a5_9) v5_9) (st H5_9 k5_9 w os) (st H5_10 k5_10 w os) ()) (fun w b => ?_) w
  refine rt_set (h := th (w.withFollow rw b).params "3" 0) (s1 := st H5_9 k5_10 (w.withFollow rw b) os) ?_ (rt_find (es := E5_9 (w.withFollow rw b).params) (n := ep5_9) (fun K H gd lv pos => ⟨pos, 1, Nat.le_refl _, by kernel_rfl⟩) (by kernel_rfl) ?_ (fun K H gd lv pos => ⟨pos, 3, Nat.le_refl _, by kernel_rfl⟩) ?_ (fun K H gd lv pos => ⟨pos, 1, Nat.le_refl _, by kernel_rfl⟩) ?_) (fun K H gd lv pos => ⟨pos, 3, Nat.le_refl _, by kernel_rfl⟩)
  · unfold pyHash pyHashByItsType
    dsimp only
    refine RT.bind (a := ()) (s1 := st H5_9 k5_9 (w.withFollow rw b) os) (fun K H gd lv pos => ⟨pos, 1, Nat.le_refl _, by kernel_rfl⟩) ?_
    refine RT.bind (a := some (.builtin "tuple.__hash__")) (s1 := st H5_9 k5_9 (w.withFollow rw b) os) (fun K H gd lv pos => ⟨pos, 1, Nat.le_refl _, by kernel_rfl⟩) ?_
    rw [if_neg (by decide)]
    refine RT.bind (a := some (.builtin "tuple.__hash__")) (s1 := st H5_9 k5_9 (w.withFollow rw b) os) (fun K H gd lv pos => ⟨pos, 1, Nat.le_refl _, by kernel_rfl⟩) ?_
    rw [if_neg (by decide)]
    refine RT.bind (a := some (.int (Builtin.Tuple.tupleHashOf [PyData.keyHash (w.withFollow rw b).params "3", hashInt 0]) (k5_9 + 2))) (s1 := st H5_9 k5_10 (w.withFollow rw b) os) (fun K H gd lv pos => ⟨pos, 20, (by decide : 20 ≤ 20), by cases b <;> kernel_rfl⟩) ?_
    exact rt_reduced _
  · exact (fm_cons (rfl) (fm_cons (rfl) (fm_cons (rfl) (fm_cons (rfl) (fm_cons (rfl) (fm_cons (rfl) (fm_cons (rfl) (fm_cons (rfl) (fm_cons (rfl) fm_nil)))))))))
  · exact (fm_cons ((fun K H gd lv pos => ⟨pos, 3, Nat.le_refl _, by kernel_rfl⟩)) (fm_cons ((fun K H gd lv pos => ⟨pos, 3, Nat.le_refl _, by kernel_rfl⟩)) (fm_cons ((fun K H gd lv pos => ⟨pos, 3, Nat.le_refl _, by kernel_rfl⟩)) (fm_cons ((fun K H gd lv pos => ⟨pos, 3, Nat.le_refl _, by kernel_rfl⟩)) (fm_cons ((fun K H gd lv pos => ⟨pos, 3, Nat.le_refl _, by kernel_rfl⟩)) (fm_cons ((fun K H gd lv pos => ⟨pos, 3, Nat.le_refl _, by kernel_rfl⟩)) (fm_cons ((fun K H gd lv pos => ⟨pos, 3, Nat.le_refl _, by kernel_rfl⟩)) (fm_cons ((fun K H gd lv pos => ⟨pos, 3, Nat.le_refl _, by kernel_rfl⟩)) (fm_cons ((fun K H gd lv pos => ⟨pos, 3, Nat.le_refl _, by kernel_rfl⟩)) fm_nil)))))))))
  · exact (fm_cons ((fun K H gd lv pos => ⟨pos, 16, (by decide : 16 ≤ 16), by cases b <;> kernel_rfl⟩)) (fm_cons ((fun K H gd lv pos => ⟨pos, 16, (by decide : 16 ≤ 16), by cases b <;> kernel_rfl⟩)) (fm_cons ((fun K H gd lv pos => ⟨pos, 16, (by decide : 16 ≤ 16), by cases b <;> kernel_rfl⟩)) (fm_cons ((fun K H gd lv pos => ⟨pos, 16, (by decide : 16 ≤ 16), by cases b <;> kernel_rfl⟩)) (fm_cons ((fun K H gd lv pos => ⟨pos, 16, (by decide : 16 ≤ 16), by cases b <;> kernel_rfl⟩)) (fm_cons ((fun K H gd lv pos => ⟨pos, 16, (by decide : 16 ≤ 16), by cases b <;> kernel_rfl⟩)) (fm_cons ((fun K H gd lv pos => ⟨pos, 16, (by decide : 16 ≤ 16), by cases b <;> kernel_rfl⟩)) (fm_cons ((fun K H gd lv pos => ⟨pos, 16, (by decide : 16 ≤ 16), by cases b <;> kernel_rfl⟩)) (fm_cons ((fun K H gd lv pos => ⟨pos, 16, (by decide : 16 ≤ 16), by cases b <;> kernel_rfl⟩)) fm_nil)))))))))
theorem C5 (w : World) (os : OsState) : Puts pr w m0 ann qpos cE d5 (((1 + (1 + (1 + (20 + 1)))) + ((1 + ((3 + (0 * 3 + 0)) + (0 * (1 + (16 + (1 + (1 + 0)))) + 0))) + (1 + 3))) + (((1 + (1 + (1 + (20 + 1)))) + ((1 + ((3 + (1 * 3 + 0)) + (1 * (1 + (16 + (1 + (1 + 0)))) + 0))) + (1 + 3))) + (((1 + (1 + (1 + (20 + 1)))) + ((1 + ((3 + (2 * 3 + 0)) + (2 * (1 + (16 + (1 + (1 + 0)))) + 0))) + (1 + 3))) + (((1 + (1 + (1 + (20 + 1)))) + ((1 + ((3 + (3 * 3 + 0)) + (3 * (1 + (16 + (1 + (1 + 0)))) + 0))) + (1 + 3))) + (((1 + (1 + (1 + (20 + 1)))) + ((1 + ((3 + (4 * 3 + 0)) + (4 * (1 + (16 + (1 + (1 + 0)))) + 0))) + (1 + 3))) + (((1 + (1 + (1 + (20 + 1)))) + ((1 + ((3 + (5 * 3 + 0)) + (5 * (1 + (16 + (1 + (1 + 0)))) + 0))) + (1 + 3))) + (((1 + (1 + (1 + (20 + 1)))) + ((1 + ((3 + (6 * 3 + 0)) + (6 * (1 + (20 + (1 + (1 + 0)))) + 0))) + (1 + 3))) + (((1 + (1 + (1 + (20 + 1)))) + ((1 + ((3 + (7 * 3 + 0)) + (7 * (1 + (16 + (1 + (1 + 0)))) + 0))) + (1 + 3))) + (((1 + (1 + (1 + (20 + 1)))) + ((1 + ((3 + (8 * 3 + 0)) + (8 * (1 + (16 + (1 + (1 + 0)))) + 0))) + (1 + 3))) + (((1 + (1 + (1 + (20 + 1)))) + ((1 + ((3 + (9 * 3 + 0)) + (9 * (1 + (16 + (1 + (1 + 0)))) + 0))) + (1 + 3))) + 0)))))))))) (st H5_0 k5_0 w os) vs5 (st H5_10 k5_10 w os) := (.cons (P5_0 w os) (.cons (P5_1 w os) (.cons (P5_2 w os) (.cons (P5_3 w os) (.cons (P5_4 w os) (.cons (P5_5 w os) (.cons (P5_6 w os) (.cons (P5_7 w os) (.cons (P5_8 w os) (.cons (P5_9 w os) .nil))))))))))
theorem R5 (w : World) (os : OsState) : RTP pr w m0 ann qpos cE (1 + ((1 + ((1 + ((60 + ((((1 + (1 + (1 + (20 + 1)))) + ((1 + ((3 + (0 * 3 + 0)) + (0 * (1 + (16 + (1 + (1 + 0)))) + 0))) + (1 + 3))) + (((1 + (1 + (1 + (20 + 1)))) + ((1 + ((3 + (1 * 3 + 0)) + (1 * (1 + (16 + (1 + (1 + 0)))) + 0))) + (1 + 3))) + (((1 + (1 + (1 + (20 + 1)))) + ((1 + ((3 + (2 * 3 + 0)) + (2 * (1 + (16 + (1 + (1 + 0)))) + 0))) + (1 + 3))) + (((1 + (1 + (1 + (20 + 1)))) + ((1 + ((3 + (3 * 3 + 0)) + (3 * (1 + (16 + (1 + (1 + 0)))) + 0))) + (1 + 3))) + (((1 + (1 + (1 + (20 + 1)))) + ((1 + ((3 + (4 * 3 + 0)) + (4 * (1 + (16 + (1 + (1 + 0)))) + 0))) + (1 + 3))) + (((1 + (1 + (1 + (20 + 1)))) + ((1 + ((3 + (5 * 3 + 0)) + (5 * (1 + (16 + (1 + (1 + 0)))) + 0))) + (1 + 3))) + (((1 + (1 + (1 + (20 + 1)))) + ((1 + ((3 + (6 * 3 + 0)) + (6 * (1 + (20 + (1 + (1 + 0)))) + 0))) + (1 + 3))) + (((1 + (1 + (1 + (20 + 1)))) + ((1 + ((3 + (7 * 3 + 0)) + (7 * (1 + (16 + (1 + (1 + 0)))) + 0))) + (1 + 3))) + (((1 + (1 + (1 + (20 + 1)))) + ((1 + ((3 + (8 * 3 + 0)) + (8 * (1 + (16 + (1 + (1 + 0)))) + 0))) + (1 + 3))) + (((1 + (1 + (1 + (20 + 1)))) + ((1 + ((3 + (9 * 3 + 0)) + (9 * (1 + (16 + (1 + (1 + 0)))) + 0))) + (1 + 3))) + 0)))))))))) + 0)) + 0)) + 0)) + 7)) (exec t5 env) (st H4 k4 w os) (st H5 k5 w os) .next p5 :=
  rt_top (d := d5) (s1 := ⟨(H4 w.params).push { cls := .type "dict", data := .dict #[] }, #[], drawn, k4, os⟩) (s2 := st H5_0 k5_0 w os) (s3 := st H5_10 k5_10 w os) (vs := vs5) rfl rfl (Nat.le_of_ble_eq_true (by kernel_rfl)) (ne_of_len (by kernel_rfl)) (fun K H gd lv pos => ⟨pos, 1, Nat.le_refl _, by kernel_rfl⟩) (fun K H gd lv pos => ⟨dp5, 60, Nat.le_refl _, by kernel_rfl⟩) (C5 w os) (fun K H gd lv pos => ⟨7, Nat.le_refl _, by kernel_rfl⟩)
theorem g5 (w : World) (os : OsState) : segRun treeTable pr w m0 ann 1 1405 (st H4 k4 w os) (pieceOf t5 env cE p4 fr) = some (.next, st H5 k5 w os, cE, p5) := (R5 w os).piece
theorem P6_0 (w : World) (os : OsState) : RT pr w m0 ann qpos cE ((1 + (1 + (1 + (20 + 1)))) + ((1 + ((3 + (0 * 3 + 0)) + (0 * (1 + (16 + (1 + (1 + 0)))) + 0))) + (1 + 3))) (dictSet d6 (.ref a6_0) v6_0) (st H6_0 k6_0 w os) (st H6_1 k6_1 w os) () := by
  refine byRow (P := fun w => RT pr w m0 ann qpos cE ((1 + (1 + (1 + (20 + 1)))) + ((1 + ((3 + (0 * 3 + 0)) + (0 * (1 + (16 + (1 + (1 + 0)))) + 0))) + (1 + 3))) (dictSet d6 (.ref a6_0) v6_0) (st H6_0 k6_0 w os) (st H6_1 k6_1 w os) ()) (fun w b => ?_) w
  refine rt_set (h := th (w.withFollow rw b).params "G" 3) (s1 := st H6_0 k6_1 (w.withFollow rw b) os) ?_ (rt_find (es := E6_0 (w.withFollow rw b).params) (n := ep6_0) (fun K H gd lv pos => ⟨pos, 1, Nat.le_refl _, by kernel_rfl⟩) (by kernel_rfl) ?_ (fun K H gd lv pos => ⟨pos, 3, Nat.le_refl _, by kernel_rfl⟩) ?_ (fun K H gd lv pos => ⟨pos, 1, Nat.le_refl _, by kernel_rfl⟩) ?_) (fun K H gd lv pos => ⟨pos, 3, Nat.le_refl _, by kernel_rfl⟩)
  · unfold pyHash pyHashByItsType
    dsimp only
    refine RT.bind (a := ()) (s1 := st H6_0 k6_0 (w.withFollow rw b) os) (fun K H gd lv pos => ⟨pos, 1, Nat.le_refl _, by kernel_rfl⟩) ?_
    refine RT.bind (a := some (.builtin "tuple.__hash__")) (s1 := st H6_0 k6_0 (w.withFollow rw b) os) (fun K H gd lv pos => ⟨pos, 1, Nat.le_refl _, by kernel_rfl⟩) ?_
    rw [if_neg (by decide)]
    refine RT.bind (a := some (.builtin "tuple.__hash__")) (s1 := st H6_0 k6_0 (w.withFollow rw b) os) (fun K H gd lv pos => ⟨pos, 1, Nat.le_refl _, by kernel_rfl⟩) ?_
    rw [if_neg (by decide)]
    refine RT.bind (a := some (.int (Builtin.Tuple.tupleHashOf [PyData.keyHash (w.withFollow rw b).params "G", hashInt 3]) (k6_0 + 2))) (s1 := st H6_0 k6_1 (w.withFollow rw b) os) (fun K H gd lv pos => ⟨pos, 20, (by decide : 20 ≤ 20), by cases b <;> kernel_rfl⟩) ?_
    exact rt_reduced _
  · exact fm_nil
  · exact fm_nil
  · exact fm_nil
theorem P6_1 (w : World) (os : OsState) : RT pr w m0 ann qpos cE ((1 + (1 + (1 + (20 + 1)))) + ((1 + ((3 + (1 * 3 + 0)) + (1 * (1 + (20 + (1 + (1 + 0)))) + 0))) + (1 + 3))) (dictSet d6 (.ref a6_1) v6_1) (st H6_1 k6_1 w os) (st H6_2 k6_2 w os) () := by
  refine byRow (P := fun w => RT pr w m0 ann qpos cE ((1 + (1 + (1 + (20 + 1)))) + ((1 + ((3 + (1 * 3 + 0)) + (1 * (1 + (20 + (1 + (1 + 0)))) + 0))) + (1 + 3))) (dictSet d6 (.ref a6_1) v6_1) (st H6_1 k6_1 w os) (st H6_2 k6_2 w os) ()) (fun w b => ?_) w
  refine rt_set (h := th (w.withFollow rw b).params "G" 2) (s1 := st H6_1 k6_2 (w.withFollow rw b) os) ?_ (rt_find (es := E6_1 (w.withFollow rw b).params) (n := ep6_1) (fun K H gd lv pos => ⟨pos, 1, Nat.le_refl _, by kernel_rfl⟩) (by kernel_rfl) ?_ (fun K H gd lv pos => ⟨pos, 3, Nat.le_refl _, by kernel_rfl⟩) ?_ (fun K H gd lv pos => ⟨pos, 1, Nat.le_refl _, by kernel_rfl⟩) ?_) (fun K H gd lv pos => ⟨pos, 3, Nat.le_refl _, by kernel_rfl⟩)
  · unfold pyHash pyHashByItsType
    dsimp only
    refine RT.bind (a := ()) (s1 := st H6_1 k6_1 (w.withFollow rw b) os) (fun K H gd lv pos => ⟨pos, 1, Nat.le_refl _, by kernel_rfl⟩) ?_
    refine RT.bind (a := some (.builtin "tuple.__hash__")) (s1 := st H6_1 k6_1 (w.withFollow rw b) os) (fun K H gd lv pos => ⟨pos, 1, Nat.le_refl _, by kernel_rfl⟩) ?_
    rw [if_neg (by decide)]
    refine RT.bind (a := some (.builtin "tuple.__hash__")) (s1 := st H6_1 k6_1 (w.withFollow rw b) os) (fun K H gd lv pos => ⟨pos, 1, Nat.le_refl _, by kernel_rfl⟩) ?_
    rw [if_neg (by decide)]
    refine RT.bind (a := some (.int (Builtin.Tuple.tupleHashOf [PyData.keyHash (w.withFollow rw b).params "G", hashInt 2]) (k6_1 + 2))) (s1 := st H6_1 k6_2 (w.withFollow rw b) os) (fun K H gd lv pos => ⟨pos, 20, (by decide : 20 ≤ 20), by cases b <;> kernel_rfl⟩) ?_
    exact rt_reduced _
  · exact (fm_cons (rfl) fm_nil)
  · exact (fm_cons ((fun K H gd lv pos => ⟨pos, 3, Nat.le_refl _, by kernel_rfl⟩)) fm_nil)
  · exact (fm_cons ((fun K H gd lv pos => ⟨pos, 20, (by decide : 20 ≤ 20), by cases b <;> kernel_rfl⟩)) fm_nil)
theorem P6_2 (w : World) (os : OsState) : RT pr w m0 ann qpos cE ((1 + (1 + (1 + (20 + 1)))) + ((1 + ((3 + (2 * 3 + 0)) + (2 * (1 + (16 + (1 + (1 + 0)))) + 0))) + (1 + 3))) (dictSet d6 (.ref a6_2) v6_2) (st H6_2 k6_2 w os) (st H6_3 k6_3 w os) () := by
  refine byRow (P := fun w => RT pr w m0 ann qpos cE ((1 + (1 + (1 + (20 + 1)))) + ((1 + ((3 + (2 * 3 + 0)) + (2 * (1 + (16 + (1 + (1 + 0)))) + 0))) + (1 + 3))) (dictSet d6 (.ref a6_2) v6_2) (st H6_2 k6_2 w os) (st H6_3 k6_3 w os) ()) (fun w b => ?_) w
  refine rt_set (h := th (w.withFollow rw b).params "D" 2) (s1 := st H6_2 k6_3 (w.withFollow rw b) os) ?_ (rt_find (es := E6_2 (w.withFollow rw b).params) (n := ep6_2) (fun K H gd lv pos => ⟨pos, 1, Nat.le_refl _, by kernel_rfl⟩) (by kernel_rfl) ?_ (fun K H gd lv pos => ⟨pos, 3, Nat.le_refl _, by kernel_rfl⟩) ?_ (fun K H gd lv pos => ⟨pos, 1, Nat.le_refl _, by kernel_rfl⟩) ?_) (fun K H gd lv pos => ⟨pos, 3, Nat.le_refl _, by kernel_rfl⟩)
  · unfold pyHash pyHashByItsType
    dsimp only
    refine RT.bind (a := ()) (s1 := st H6_2 k6_2 (w.withFollow rw b) os) (fun K H gd lv pos => ⟨pos, 1, Nat.le_refl _, by kernel_rfl⟩) ?_
    refine RT.bind (a := some (.builtin "tuple.__hash__")) (s1 := st H6_2 k6_2 (w.withFollow rw b) os) (fun K H gd lv pos => ⟨pos, 1, Nat.le_refl _, by kernel_rfl⟩) ?_
    rw [if_neg (by decide)]
    refine RT.bind (a := some (.builtin "tuple.__hash__")) (s1 := st H6_2 k6_2 (w.withFollow rw b) os) (fun K H gd lv pos => ⟨pos, 1, Nat.le_refl _, by kernel_rfl⟩) ?_
    rw [if_neg (by decide)]
    refine RT.bind (a := some (.int (Builtin.Tuple.tupleHashOf [PyData.keyHash (w.withFollow rw b).params "D", hashInt 2]) (k6_2 + 2))) (s1 := st H6_2 k6_3 (w.withFollow rw b) os) (fun K H gd lv pos => ⟨pos, 20, (by decide : 20 ≤ 20), by cases b <;> kernel_rfl⟩) ?_
    exact rt_reduced _
  · exact (fm_cons (rfl) (fm_cons (rfl) fm_nil))
  · exact (fm_cons ((fun K H gd lv pos => ⟨pos, 3, Nat.le_refl _, by kernel_rfl⟩)) (fm_cons ((fun K H gd lv pos => ⟨pos, 3, Nat.le_refl _, by kernel_rfl⟩)) fm_nil))
  · exact (fm_cons ((fun K H gd lv pos => ⟨pos, 16, (by decide : 16 ≤ 16), by cases b <;> kernel_rfl⟩)) (fm_cons ((fun K H gd lv pos => ⟨pos, 16, (by decide : 16 ≤ 16), by cases b <;> kernel_rfl⟩)) fm_nil))
theorem P6_3 (w : World) (os : OsState) : RT pr w m0 ann qpos cE ((1 + (1 + (1 + (20 + 1)))) + ((1 + ((3 + (3 * 3 + 0)) + (3 * (1 + (16 + (1 + (1 + 0)))) + 0))) + (1 + 3))) (dictSet d6 (.ref a6_3) v6_3) (st H6_3 k6_3 w os) (st H6_4 k6_4 w os) () := by
  refine byRow (P := fun w => RT pr w m0 ann qpos cE ((1 + (1 + (1 + (20 + 1)))) + ((1 + ((3 + (3 * 3 + 0)) + (3 * (1 + (16 + (1 + (1 + 0)))) + 0))) + (1 + 3))) (dictSet d6 (.ref a6_3) v6_3) (st H6_3 k6_3 w os) (st H6_4 k6_4 w os) ()) (fun w b => ?_) w
  refine rt_set (h := th (w.withFollow rw b).params "R" 3) (s1 := st H6_3 k6_4 (w.withFollow rw b) os) ?_ (rt_find (es := E6_3 (w.withFollow rw b).params) (n := ep6_3) (fun K H gd lv pos => ⟨pos, 1, Nat.le_refl _, by kernel_rfl⟩) (by kernel_rfl) ?_ (fun K H gd lv pos => ⟨pos, 3, Nat.le_refl _, by kernel_rfl⟩) ?_ (fun K H gd lv pos => ⟨pos, 1, Nat.le_refl _, by kernel_rfl⟩) ?_) (fun K H gd lv pos => ⟨pos, 3, Nat.le_refl _, by kernel_rfl⟩)
  · unfold pyHash pyHashByItsType
    dsimp only
    refine RT.bind (a := ()) (s1 := st H6_3 k6_3 (w.withFollow rw b) os) (fun K H gd lv pos => ⟨pos, 1, Nat.le_refl _, by kernel_rfl⟩) ?_
    refine RT.bind (a := some (.builtin "tuple.__hash__")) (s1 := st H6_3 k6_3 (w.withFollow rw b) os) (fun K H gd lv pos => ⟨pos, 1, Nat.le_refl _, by kernel_rfl⟩) ?_
    rw [if_neg (by decide)]
    refine RT.bind (a := some (.builtin "tuple.__hash__")) (s1 := st H6_3 k6_3 (w.withFollow rw b) os) (fun K H gd lv pos => ⟨pos, 1, Nat.le_refl _, by kernel_rfl⟩) ?_
    rw [if_neg (by decide)]
    refine RT.bind (a := some (.int (Builtin.Tuple.tupleHashOf [PyData.keyHash (w.withFollow rw b).params "R", hashInt 3]) (k6_3 + 2))) (s1 := st H6_3 k6_4 (w.withFollow rw b) os) (fun K H gd lv pos => ⟨pos, 20, (by decide : 20 ≤ 20), by cases b <;> kernel_rfl⟩) ?_
    exact rt_reduced _
  · exact (fm_cons (rfl) (fm_cons (rfl) (fm_cons (rfl) fm_nil)))
  · exact (fm_cons ((fun K H gd lv pos => ⟨pos, 3, Nat.le_refl _, by kernel_rfl⟩)) (fm_cons ((fun K H gd lv pos => ⟨pos, 3, Nat.le_refl _, by kernel_rfl⟩)) (fm_cons ((fun K H gd lv pos => ⟨pos, 3, Nat.le_refl _, by kernel_rfl⟩)) fm_nil)))
  · exact (fm_cons ((fun K H gd lv pos => ⟨pos, 16, (by decide : 16 ≤ 16), by cases b <;> kernel_rfl⟩)) (fm_cons ((fun K H gd lv pos => ⟨pos, 16, (by decide : 16 ≤ 16), by cases b <;> kernel_rfl⟩)) (fm_cons ((fun K H gd lv pos => ⟨pos, 16, (by decide : 16 ≤ 16), by cases b <;> kernel_rfl⟩)) fm_nil)))
theorem C6 (w : World) (os : OsState) : Puts pr w m0 ann qpos cE d6 (((1 + (1 + (1 + (20 + 1)))) + ((1 + ((3 + (0 * 3 + 0)) + (0 * (1 + (16 + (1 + (1 + 0)))) + 0))) + (1 + 3))) + (((1 + (1 + (1 + (20 + 1)))) + ((1 + ((3 + (1 * 3 + 0)) + (1 * (1 + (20 + (1 + (1 + 0)))) + 0))) + (1 + 3))) + (((1 + (1 + (1 + (20 + 1)))) + ((1 + ((3 + (2 * 3 + 0)) + (2 * (1 + (16 + (1 + (1 + 0)))) + 0))) + (1 + 3))) + (((1 + (1 + (1 + (20 + 1)))) + ((1 + ((3 + (3 * 3 + 0)) + (3 * (1 + (16 + (1 + (1 + 0)))) + 0))) + (1 + 3))) + 0)))) (st H6_0 k6_0 w os) vs6 (st H6_4 k6_4 w os) := (.cons (P6_0 w os) (.cons (P6_1 w os) (.cons (P6_2 w os) (.cons (P6_3 w os) .nil))))
theorem R6 (w : World) (os : OsState) : RTP pr w m0 ann qpos cE (1 + ((1 + ((1 + ((24 + ((((1 + (1 + (1 + (20 + 1)))) + ((1 + ((3 + (0 * 3 + 0)) + (0 * (1 + (16 + (1 + (1 + 0)))) + 0))) + (1 + 3))) + (((1 + (1 + (1 + (20 + 1)))) + ((1 + ((3 + (1 * 3 + 0)) + (1 * (1 + (20 + (1 + (1 + 0)))) + 0))) + (1 + 3))) + (((1 + (1 + (1 + (20 + 1)))) + ((1 + ((3 + (2 * 3 + 0)) + (2 * (1 + (16 + (1 + (1 + 0)))) + 0))) + (1 + 3))) + (((1 + (1 + (1 + (20 + 1)))) + ((1 + ((3 + (3 * 3 + 0)) + (3 * (1 + (16 + (1 + (1 + 0)))) + 0))) + (1 + 3))) + 0)))) + 0)) + 0)) + 0)) + 7)) (exec t6 env) (st H5 k5 w os) (st H6 k6 w os) .next p6 :=
  rt_top (d := d6) (s1 := ⟨(H5 w.params).push { cls := .type "dict", data := .dict #[] }, #[], drawn, k5, os⟩) (s2 := st H6_0 k6_0 w os) (s3 := st H6_4 k6_4 w os) (vs := vs6) rfl rfl (Nat.le_of_ble_eq_true (by kernel_rfl)) (ne_of_len (by kernel_rfl)) (fun K H gd lv pos => ⟨pos, 1, Nat.le_refl _, by kernel_rfl⟩) (fun K H gd lv pos => ⟨dp6, 24, Nat.le_refl _, by kernel_rfl⟩) (C6 w os) (fun K H gd lv pos => ⟨7, Nat.le_refl _, by kernel_rfl⟩)
theorem g6 (w : World) (os : OsState) : segRun treeTable pr w m0 ann 1 299 (st H5 k5 w os) (pieceOf t6 env cE p5 fr) = some (.next, st H6 k6 w os, cE, p6) := (R6 w os).piece
theorem g7 (w : World) (os : OsState) : segRun treeTable pr w m0 ann 1 n7 (st H6 k6 w os) (piecesOf s7 env cE p6 fr) = some (.next, st H7 k7 w os, cE, p7) := byRow (P := fun w => segRun treeTable pr w m0 ann 1 n7 (st H6 k6 w os) (piecesOf s7 env cE p6 fr) = some (.next, st H7 k7 w os, cE, p7)) (fun w b => by cases b <;> kernel_rfl) w
theorem g8 (w : World) (os : OsState) : segRun treeTable pr w m0 ann 1 n8 (st H7 k7 w os) (piecesOf s8 env cE p7 fr) = some (.next, st H8 k8 w os, cE, p8) := byRow (P := fun w => segRun treeTable pr w m0 ann 1 n8 (st H7 k7 w os) (piecesOf s8 env cE p7 fr) = some (.next, st H8 k8 w os, cE, p8)) (fun w b => by cases b <;> kernel_rfl) w
theorem g9 (w : World) (os : OsState) : segRun treeTable pr w m0 ann 1 n9 (st H8 k8 w os) (piecesOf s9 env cE p8 fr) = some (.next, st H9 k9 w os, cE, p9) := byRow (P := fun w => segRun treeTable pr w m0 ann 1 n9 (st H8 k8 w os) (piecesOf s9 env cE p8 fr) = some (.next, st H9 k9 w os, cE, p9)) (fun w b => by cases b <;> kernel_rfl) w
theorem g10 (w : World) (os : OsState) : segRun treeTable pr w m0 ann 1 n10 (st H9 k9 w os) (piecesOf s10 env cE p9 fr) = some (.next, st H10 k10 w os, cE, p10) := byRow (P := fun w => segRun treeTable pr w m0 ann 1 n10 (st H9 k9 w os) (piecesOf s10 env cE p9 fr) = some (.next, st H10 k10 w os, cE, p10)) (fun w b => by cases b <;> kernel_rfl) w
theorem fin (w os) : topRun treeTable pr w m0 ann n11 (st H10 k10 w os) ⟨doneF .next, cE, p10, fr⟩ = some (st H11 k11 w os) := by kernel_rfl
theorem r10 (w : World) (os : OsState) : topRun treeTable pr w m0 ann (n10 + n11) (st H9 k9 w os) (restOf (s10 ++ []) env cE p9 fr) = some (st H11 k11 w os) := piece_app (tb := treeTable) (p := pr) (w := w) (n₀ := m0) (ann := ann) (env := env) (q := qpos) (n := n10) (N := n11) (s := (st H9 k9 w os)) (s' := (st H10 k10 w os)) (r := (st H11 k11 w os)) (l := s10) (rest := []) (c := cE) (pos := p9) (p' := p10) (g10 w os) (piece_nil (fin w os))
theorem r9 (w : World) (os : OsState) : topRun treeTable pr w m0 ann (n9 + (n10 + n11)) (st H8 k8 w os) (restOf (s9 ++ (s10 ++ [])) env cE p8 fr) = some (st H11 k11 w os) := piece_app (tb := treeTable) (p := pr) (w := w) (n₀ := m0) (ann := ann) (env := env) (q := qpos) (n := n9) (N := (n10 + n11)) (s := (st H8 k8 w os)) (s' := (st H9 k9 w os)) (r := (st H11 k11 w os)) (l := s9) (rest := (s10 ++ [])) (c := cE) (pos := p8) (p' := p9) (g9 w os) (r10 w os)
theorem r8 (w : World) (os : OsState) : topRun treeTable pr w m0 ann (n8 + (n9 + (n10 + n11))) (st H7 k7 w os) (restOf (s8 ++ (s9 ++ (s10 ++ []))) env cE p7 fr) = some (st H11 k11 w os) := piece_app (tb := treeTable) (p := pr) (w := w) (n₀ := m0) (ann := ann) (env := env) (q := qpos) (n := n8) (N := (n9 + (n10 + n11))) (s := (st H7 k7 w os)) (s' := (st H8 k8 w os)) (r := (st H11 k11 w os)) (l := s8) (rest := (s9 ++ (s10 ++ []))) (c := cE) (pos := p7) (p' := p8) (g8 w os) (r9 w os)
theorem r7 (w : World) (os : OsState) : topRun treeTable pr w m0 ann (n7 + (n8 + (n9 + (n10 + n11)))) (st H6 k6 w os) (restOf (s7 ++ (s8 ++ (s9 ++ (s10 ++ [])))) env cE p6 fr) = some (st H11 k11 w os) := piece_app (tb := treeTable) (p := pr) (w := w) (n₀ := m0) (ann := ann) (env := env) (q := qpos) (n := n7) (N := (n8 + (n9 + (n10 + n11)))) (s := (st H6 k6 w os)) (s' := (st H7 k7 w os)) (r := (st H11 k11 w os)) (l := s7) (rest := (s8 ++ (s9 ++ (s10 ++ [])))) (c := cE) (pos := p6) (p' := p7) (g7 w os) (r8 w os)
theorem r6 (w : World) (os : OsState) : topRun treeTable pr w m0 ann (299 + (n7 + (n8 + (n9 + (n10 + n11))))) (st H5 k5 w os) (restOf (t6 :: (s7 ++ (s8 ++ (s9 ++ (s10 ++ []))))) env cE p5 fr) = some (st H11 k11 w os) := piece_cons (tb := treeTable) (p := pr) (w := w) (n₀ := m0) (ann := ann) (env := env) (q := qpos) (n := 299) (N := (n7 + (n8 + (n9 + (n10 + n11))))) (s := (st H5 k5 w os)) (s' := (st H6 k6 w os)) (r := (st H11 k11 w os)) (st := t6) (rest := (s7 ++ (s8 ++ (s9 ++ (s10 ++ []))))) (c := cE) (pos := p5) (p' := p6) (g6 w os) (r7 w os)
theorem r5 (w : World) (os : OsState) : topRun treeTable pr w m0 ann (1405 + (299 + (n7 + (n8 + (n9 + (n10 + n11)))))) (st H4 k4 w os) (restOf (t5 :: (t6 :: (s7 ++ (s8 ++ (s9 ++ (s10 ++ [])))))) env cE p4 fr) = some (st H11 k11 w os) := piece_cons (tb := treeTable) (p := pr) (w := w) (n₀ := m0) (ann := ann) (env := env) (q := qpos) (n := 1405) (N := (299 + (n7 + (n8 + (n9 + (n10 + n11)))))) (s := (st H4 k4 w os)) (s' := (st H5 k5 w os)) (r := (st H11 k11 w os)) (st := t5) (rest := (t6 :: (s7 ++ (s8 ++ (s9 ++ (s10 ++ [])))))) (c := cE) (pos := p4) (p' := p5) (g5 w os) (r6 w os)
theorem r4 (w : World) (os : OsState) : topRun treeTable pr w m0 ann (n4 + (1405 + (299 + (n7 + (n8 + (n9 + (n10 + n11))))))) (st H3 k3 w os) (restOf (s4 ++ (t5 :: (t6 :: (s7 ++ (s8 ++ (s9 ++ (s10 ++ []))))))) env cE p3 fr) = some (st H11 k11 w os) := piece_app (tb := treeTable) (p := pr) (w := w) (n₀ := m0) (ann := ann) (env := env) (q := qpos) (n := n4) (N := (1405 + (299 + (n7 + (n8 + (n9 + (n10 + n11))))))) (s := (st H3 k3 w os)) (s' := (st H4 k4 w os)) (r := (st H11 k11 w os)) (l := s4) (rest := (t5 :: (t6 :: (s7 ++ (s8 ++ (s9 ++ (s10 ++ []))))))) (c := cE) (pos := p3) (p' := p4) (g4 w os) (r5 w os)
theorem r3 (w : World) (os : OsState) : topRun treeTable pr w m0 ann (n3 + (n4 + (1405 + (299 + (n7 + (n8 + (n9 + (n10 + n11)))))))) (st H2 k2 w os) (restOf (s3 ++ (s4 ++ (t5 :: (t6 :: (s7 ++ (s8 ++ (s9 ++ (s10 ++ [])))))))) env cE p2 fr) = some (st H11 k11 w os) := piece_app (tb := treeTable) (p := pr) (w := w) (n₀ := m0) (ann := ann) (env := env) (q := qpos) (n := n3) (N := (n4 + (1405 + (299 + (n7 + (n8 + (n9 + (n10 + n11)))))))) (s := (st H2 k2 w os)) (s' := (st H3 k3 w os)) (r := (st H11 k11 w os)) (l := s3) (rest := (s4 ++ (t5 :: (t6 :: (s7 ++ (s8 ++ (s9 ++ (s10 ++ [])))))))) (c := cE) (pos := p2) (p' := p3) (g3 w os) (r4 w os)
theorem hb : pr.main.body = (s3 ++ (s4 ++ (t5 :: (t6 :: (s7 ++ (s8 ++ (s9 ++ (s10 ++ [])))))))) := by kernel_rfl
theorem r2 (w : World) (os : OsState) : topRun treeTable pr w m0 ann (n2 + (n3 + (n4 + (1405 + (299 + (n7 + (n8 + (n9 + (n10 + n11))))))))) (st H1 k1 w os) ⟨denote treeTable cE, cE, p1, fr⟩ = some (st H11 k11 w os) := piece_block (tb := treeTable) (p := pr) (w := w) (n₀ := m0) (ann := ann) (env := env) (q := qpos) (n := n2) (N := (n3 + (n4 + (1405 + (299 + (n7 + (n8 + (n9 + (n10 + n11))))))))) (s := (st H1 k1 w os)) (s' := (st H2 k2 w os)) (r := (st H11 k11 w os)) (b := pr.main.body) (c := cE) (pos := p1) (p' := p2) (blk w os) ((congrArg (fun l => topRun treeTable pr w m0 ann (n3 + (n4 + (1405 + (299 + (n7 + (n8 + (n9 + (n10 + n11)))))))) (st H2 k2 w os) (restOf l env cE p2 fr)) hb).trans (r3 w os))
theorem r1 (w : World) (os : OsState) : topRun treeTable pr w m0 ann (n1 + (n2 + (n3 + (n4 + (1405 + (299 + (n7 + (n8 + (n9 + (n10 + n11)))))))))) ⟨boot_heap w.params, Array.mk [], boot_drawn, boot_toks, os⟩ (topStub pr) = some (st H11 k11 w os) := go_top (tb := treeTable) (p := pr) (w := w) (n₀ := m0) (ann := ann) (n := n1) (N := n2 + (n3 + (n4 + (1405 + (299 + (n7 + (n8 + (n9 + (n10 + n11))))))))) (s := ⟨boot_heap w.params, Array.mk [], boot_drawn, boot_toks, os⟩) (s' := (st H1 k1 w os)) (r := (st H11 k11 w os)) (t := topStub pr) (t' := ⟨denote treeTable cE, cE, p1, fr⟩) (pre w os) (r2 w os)
noncomputable def view : Program := { pr with main := { pr.main with body := [tp 1, tp 2, tp 3, tp 4, tp 5, tp 6, tp 8, tp 9, tp 10, tp 12, tp 13, tp 14, tp 15, tp 16, tp 17, tp 18, tp 20, tp 21, tp 22, tp 23, tp 24, tp 25, tp 26, tp 27, tp 28, tp 29, tp 31, tp 32, tp 33, tp 34, tp 35, tp 36, tp 38, tp 39, tp 40, tp 41, tp 42, tp 45, tp 46, tp 47, tp 48, tp 49, tp 50] } }
noncomputable def loose : List PySem.Str := ["NEXT_COUNTS", "TWOFOLD_STEPS", "GREAT_STEPS", "begin_state", "written"]
theorem fit (P : Params) : adr = (frg P).map (·.1) := by kernel_rfl
noncomputable abbrev hook : Hook := kHook frg adr fit
noncomputable def fuel : Nat := 3486
end Hd
end

namespace Mine
open PySem L2
def top (i : Nat) : Stmt := PySem.Challenge.pw_noteworth_k27_never_written.main.body.getD i (.Pass ⟨0, 0, 0, 0⟩)
abbrev s_l_mixed : Stmt := top 45
abbrev s_l_cell_at : Stmt := top 46
abbrev s_l_any_wishes : Stmt := top 47
abbrev s_l_prices : Stmt := top 49
abbrev s_sign_price : Stmt := top 9
abbrev s_small : Stmt := top 5
abbrev s_parting : Stmt := top 6
abbrev s_closes_by_right_note : Stmt := top 25
abbrev s_closes : Stmt := top 23
abbrev s_closes_by_great : Stmt := top 24
abbrev s_great_step : Stmt := top 26
abbrev s_twofold_step : Stmt := top 22
abbrev s_told_last : Stmt := top 28
abbrev s_small_step : Stmt := top 29
abbrev s_parting_step : Stmt := top 27
abbrev s_step : Stmt := top 20
abbrev s_moves : Stmt := top 33
abbrev s_parting_moves : Stmt := top 34
abbrev s_keep_cheaper : Stmt := top 39
abbrev s_with_parting_signs : Stmt := top 40
abbrev s_costs : Stmt := top 42
abbrev s_begin_state : Stmt := top 19
abbrev s_wished_signs : Stmt := top 35
abbrev s_wish_moves : Stmt := top 36
abbrev s_with_wish : Stmt := top 41
abbrev s_ends : Stmt := top 21
abbrev s_written : Stmt := top 43
abbrev s_l_begin : Stmt := top 48
abbrev s_law : Stmt := top 50
theorem sc_l_mixed : FnScope ["_law_seed", "_law_k", "_law_one", "_law_two"] ["_law_seed", "_law_k"] (defScope s_l_mixed) := ⟨rfl, rfl, rfl, by decide +kernel, rfl, by decide +kernel, by decide +kernel⟩
theorem sc_l_cell_at : FnScope ["_law_script", "_law_k"] ["_law_script", "_law_k"] (defScope s_l_cell_at) := ⟨rfl, rfl, rfl, by decide +kernel, rfl, by decide +kernel, by decide +kernel⟩
theorem sc_l_any_wishes : FnScope ["_law_script", "_law_at", "_law_many", "_law_told", "_law_k", "_law_number", "_law_worth", "_law_tone"] ["_law_script", "_law_at", "_law_many"] (defScope s_l_any_wishes) := ⟨rfl, rfl, rfl, by decide +kernel, rfl, by decide +kernel, by decide +kernel⟩
theorem sc_l_prices : FnScope ["_law_cell", "_law_told", "_law_k"] ["_law_cell"] (defScope s_l_prices) := ⟨rfl, rfl, rfl, by decide +kernel, rfl, by decide +kernel, by decide +kernel⟩
theorem sc_sign_price : FnScope ["sign", "prices", "dot", "dark", "measure"] ["sign", "prices"] (defScope s_sign_price) := ⟨rfl, rfl, rfl, by decide +kernel, rfl, by decide +kernel, by decide +kernel⟩
theorem sc_small : FnScope ["sign"] ["sign"] (defScope s_small) := ⟨rfl, rfl, rfl, by decide +kernel, rfl, by decide +kernel, by decide +kernel⟩
theorem sc_parting : FnScope ["sign"] ["sign"] (defScope s_parting) := ⟨rfl, rfl, rfl, by decide +kernel, rfl, by decide +kernel, by decide +kernel⟩
theorem sc_closes_by_right_note : FnScope ["state"] ["state"] (defScope s_closes_by_right_note) := ⟨rfl, rfl, rfl, by decide +kernel, rfl, by decide +kernel, by decide +kernel⟩
theorem sc_closes : FnScope ["state", "left", "count"] ["state"] (defScope s_closes) := ⟨rfl, rfl, rfl, by decide +kernel, rfl, by decide +kernel, by decide +kernel⟩
theorem sc_closes_by_great : FnScope ["state"] ["state"] (defScope s_closes_by_great) := ⟨rfl, rfl, rfl, by decide +kernel, rfl, by decide +kernel, by decide +kernel⟩
theorem sc_great_step : FnScope ["state", "kind", "worth"] ["state", "kind", "worth"] (defScope s_great_step) := ⟨rfl, rfl, rfl, by decide +kernel, rfl, by decide +kernel, by decide +kernel⟩
theorem sc_twofold_step : FnScope ["state", "kind", "worth"] ["state", "kind", "worth"] (defScope s_twofold_step) := ⟨rfl, rfl, rfl, by decide +kernel, rfl, by decide +kernel, by decide +kernel⟩
theorem sc_told_last : FnScope ["kind", "count", "worth"] ["kind", "count", "worth"] (defScope s_told_last) := ⟨rfl, rfl, rfl, by decide +kernel, rfl, by decide +kernel, by decide +kernel⟩
theorem sc_small_step : FnScope ["state", "kind", "worth", "count", "last", "left"] ["state", "kind", "worth"] (defScope s_small_step) := ⟨rfl, rfl, rfl, by decide +kernel, rfl, by decide +kernel, by decide +kernel⟩
theorem sc_parting_step : FnScope ["state", "kind", "worth"] ["state", "kind", "worth"] (defScope s_parting_step) := ⟨rfl, rfl, rfl, by decide +kernel, rfl, by decide +kernel, by decide +kernel⟩
theorem sc_step : FnScope ["state", "sign", "worth"] ["state", "sign", "worth"] (defScope s_step) := ⟨rfl, rfl, rfl, by decide +kernel, rfl, by decide +kernel, by decide +kernel⟩
theorem sc_moves : FnScope ["state", "signs", "worth", "prices", "found", "sign", "cost", "to"] ["state", "signs", "worth", "prices"] (defScope s_moves) := ⟨rfl, rfl, rfl, by decide +kernel, rfl, by decide +kernel, by decide +kernel⟩
theorem sc_parting_moves : FnScope ["state", "prices"] ["state", "prices"] (defScope s_parting_moves) := ⟨rfl, rfl, rfl, by decide +kernel, rfl, by decide +kernel, by decide +kernel⟩
theorem sc_keep_cheaper : FnScope ["ways", "state", "cost", "line"] ["ways", "state", "cost", "line"] (defScope s_keep_cheaper) := ⟨rfl, rfl, rfl, by decide +kernel, rfl, by decide +kernel, by decide +kernel⟩
theorem sc_with_parting_signs : FnScope ["ways", "prices", "found", "again", "state", "cost", "line", "sign", "more", "to"] ["ways", "prices"] (defScope s_with_parting_signs) := ⟨rfl, rfl, rfl, by decide +kernel, rfl, by decide +kernel, by decide +kernel⟩
theorem sc_costs : FnScope ["ways"] ["ways"] (defScope s_costs) := ⟨rfl, rfl, rfl, by decide +kernel, rfl, by decide +kernel, by decide +kernel⟩
theorem sc_begin_state : FnScope ["begin"] ["begin"] (defScope s_begin_state) := ⟨rfl, rfl, rfl, by decide +kernel, rfl, by decide +kernel, by decide +kernel⟩
theorem sc_wished_signs : FnScope ["tone"] ["tone"] (defScope s_wished_signs) := ⟨rfl, rfl, rfl, by decide +kernel, rfl, by decide +kernel, by decide +kernel⟩
theorem sc_wish_moves : FnScope ["state", "wish", "prices", "tone", "worth"] ["state", "wish", "prices"] (defScope s_wish_moves) := ⟨rfl, rfl, rfl, by decide +kernel, rfl, by decide +kernel, by decide +kernel⟩
theorem sc_with_wish : FnScope ["ways", "wish", "prices", "found", "state", "cost", "line", "sign", "more", "to"] ["ways", "wish", "prices"] (defScope s_with_wish) := ⟨rfl, rfl, rfl, by decide +kernel, rfl, by decide +kernel, by decide +kernel⟩
theorem sc_ends : FnScope ["state"] ["state"] (defScope s_ends) := ⟨rfl, rfl, rfl, by decide +kernel, rfl, by decide +kernel, by decide +kernel⟩
theorem sc_written : FnScope ["wishes", "prices", "begin", "ways", "paper", "wish", "endings", "cost", "line"] ["wishes", "prices", "begin"] (defScope s_written) := ⟨rfl, rfl, rfl, by decide +kernel, rfl, by decide +kernel, by decide +kernel⟩
theorem sc_l_begin : FnScope ["_law_cell"] ["_law_cell"] (defScope s_l_begin) := ⟨rfl, rfl, rfl, by decide +kernel, rfl, by decide +kernel, by decide +kernel⟩
theorem sc_law : FnScope ["_law_script", "_law_wishes", "_law_at", "_law_worth", "_law_costs", "_law_found"] ["_law_script"] (defScope s_law) := ⟨rfl, rfl, rfl, by decide +kernel, rfl, by decide +kernel, by decide +kernel⟩
theorem nd_costs_0 : (["state", "cost", "line", "ways"] : List Str).Nodup := by decide +kernel
theorem nd_wished_signs_1 : (["kind", "tone"] : List Str).Nodup := by decide +kernel
theorem nd_written_2 : (["state", "way", "wishes", "prices", "begin", "ways", "paper", "wish", "endings", "cost", "line"] : List Str).Nodup := by decide +kernel
def ci_l_any_wishes_1 : List (Int × Pos) := [(1, ⟨155, 22, 155, 23⟩), (2, ⟨155, 25, 155, 26⟩), (1, ⟨155, 28, 155, 29⟩), (3, ⟨155, 31, 155, 32⟩), (1, ⟨155, 34, 155, 35⟩), (2, ⟨155, 37, 155, 38⟩), (2, ⟨155, 40, 155, 41⟩)]
set_option genInjectivity false in
set_option genSizeOf false in
structure Adr where
  f_l_mixed : Addr
  d_l_mixed : FuncData
  f_l_cell_at : Addr
  d_l_cell_at : FuncData
  f_l_any_wishes : Addr
  d_l_any_wishes : FuncData
  f_l_prices : Addr
  d_l_prices : FuncData
  f_sign_price : Addr
  d_sign_price : FuncData
  f_small : Addr
  d_small : FuncData
  f_parting : Addr
  d_parting : FuncData
  f_closes_by_right_note : Addr
  d_closes_by_right_note : FuncData
  f_closes : Addr
  d_closes : FuncData
  f_closes_by_great : Addr
  d_closes_by_great : FuncData
  f_great_step : Addr
  d_great_step : FuncData
  f_twofold_step : Addr
  d_twofold_step : FuncData
  f_told_last : Addr
  d_told_last : FuncData
  f_small_step : Addr
  d_small_step : FuncData
  f_parting_step : Addr
  d_parting_step : FuncData
  f_step : Addr
  d_step : FuncData
  f_moves : Addr
  d_moves : FuncData
  f_parting_moves : Addr
  d_parting_moves : FuncData
  f_keep_cheaper : Addr
  d_keep_cheaper : FuncData
  f_with_parting_signs : Addr
  d_with_parting_signs : FuncData
  f_costs : Addr
  d_costs : FuncData
  f_begin_state : Addr
  d_begin_state : FuncData
  df_begin_state : Addr
  dt0_begin_state : Tok
  f_wished_signs : Addr
  d_wished_signs : FuncData
  f_wish_moves : Addr
  d_wish_moves : FuncData
  f_with_wish : Addr
  d_with_wish : FuncData
  f_ends : Addr
  d_ends : FuncData
  f_written : Addr
  d_written : FuncData
  df_written : Addr
  dt0_written : Tok
  f_l_begin : Addr
  d_l_begin : FuncData
  f_law : Addr
  d_law : FuncData
  a_SMALL_KINDS : Addr
  a_PARTING_KINDS : Addr
  a_MEASURE_KINDS : Addr
  a_SOUNDING_KINDS : Addr
  a_DARK_KINDS : Addr
  t_REST_TONE : Tok
  a_TWOFOLD_STATES : Addr
  t_TWOFOLD_BEGIN : Tok
  t_THREEFOLD_BEGIN : Tok
  t_SHORTENED_FROM_AHEAD : Tok
  a_NEXT_COUNTS : Addr
  a_TWOFOLD_STEPS : Addr
  a_GREAT_STEPS : Addr
  a_PARTING_SIGNS : Addr
  a_PARTING_SIGNS_0 : Addr
  a_PARTING_SIGNS_1 : Addr
  a_PARTING_SIGNS_2 : Addr
  a_REST_SIGNS : Addr
  a_REST_SIGNS_0 : Addr
  a_REST_SIGNS_1 : Addr
  t_MOST_PARTING_SIGNS : Tok
structure Txt (K : PySem.W.Frag) (w : World) (mg : Str → Option Value) (t : Adr) : Prop where
  F_l_mixed : Fun K "_law_mixed" "_law_mixed" s_l_mixed t.f_l_mixed t.d_l_mixed
  b_l_mixed : Binds K t.d_l_mixed ["_law_seed", "_law_k"] []
  mg_l_mixed : mg "_law_mixed" = some (.ref t.f_l_mixed)
  F_l_cell_at : Fun K "_law_cell_at" "_law_cell_at" s_l_cell_at t.f_l_cell_at t.d_l_cell_at
  b_l_cell_at : Binds K t.d_l_cell_at ["_law_script", "_law_k"] []
  mg_l_cell_at : mg "_law_cell_at" = some (.ref t.f_l_cell_at)
  F_l_any_wishes : Fun K "_law_any_wishes" "_law_any_wishes" s_l_any_wishes t.f_l_any_wishes t.d_l_any_wishes
  b_l_any_wishes : Binds K t.d_l_any_wishes ["_law_script", "_law_at", "_law_many"] []
  mg_l_any_wishes : mg "_law_any_wishes" = some (.ref t.f_l_any_wishes)
  F_l_prices : Fun K "_law_prices" "_law_prices" s_l_prices t.f_l_prices t.d_l_prices
  b_l_prices : Binds K t.d_l_prices ["_law_cell"] []
  mg_l_prices : mg "_law_prices" = some (.ref t.f_l_prices)
  F_sign_price : Fun K "sign_price" "sign_price" s_sign_price t.f_sign_price t.d_sign_price
  b_sign_price : Binds K t.d_sign_price ["sign", "prices"] []
  mg_sign_price : mg "sign_price" = some (.ref t.f_sign_price)
  F_small : Fun K "small" "small" s_small t.f_small t.d_small
  b_small : Binds K t.d_small ["sign"] []
  mg_small : mg "small" = some (.ref t.f_small)
  F_parting : Fun K "parting" "parting" s_parting t.f_parting t.d_parting
  b_parting : Binds K t.d_parting ["sign"] []
  mg_parting : mg "parting" = some (.ref t.f_parting)
  F_closes_by_right_note : Fun K "closes_by_right_note" "closes_by_right_note" s_closes_by_right_note t.f_closes_by_right_note t.d_closes_by_right_note
  b_closes_by_right_note : Binds K t.d_closes_by_right_note ["state"] []
  mg_closes_by_right_note : mg "closes_by_right_note" = some (.ref t.f_closes_by_right_note)
  F_closes : Fun K "closes" "closes" s_closes t.f_closes t.d_closes
  b_closes : Binds K t.d_closes ["state"] []
  mg_closes : mg "closes" = some (.ref t.f_closes)
  F_closes_by_great : Fun K "closes_by_great" "closes_by_great" s_closes_by_great t.f_closes_by_great t.d_closes_by_great
  b_closes_by_great : Binds K t.d_closes_by_great ["state"] []
  mg_closes_by_great : mg "closes_by_great" = some (.ref t.f_closes_by_great)
  F_great_step : Fun K "great_step" "great_step" s_great_step t.f_great_step t.d_great_step
  b_great_step : Binds K t.d_great_step ["state", "kind", "worth"] []
  mg_great_step : mg "great_step" = some (.ref t.f_great_step)
  F_twofold_step : Fun K "twofold_step" "twofold_step" s_twofold_step t.f_twofold_step t.d_twofold_step
  b_twofold_step : Binds K t.d_twofold_step ["state", "kind", "worth"] []
  mg_twofold_step : mg "twofold_step" = some (.ref t.f_twofold_step)
  F_told_last : Fun K "told_last" "told_last" s_told_last t.f_told_last t.d_told_last
  b_told_last : Binds K t.d_told_last ["kind", "count", "worth"] []
  mg_told_last : mg "told_last" = some (.ref t.f_told_last)
  F_small_step : Fun K "small_step" "small_step" s_small_step t.f_small_step t.d_small_step
  b_small_step : Binds K t.d_small_step ["state", "kind", "worth"] []
  mg_small_step : mg "small_step" = some (.ref t.f_small_step)
  F_parting_step : Fun K "parting_step" "parting_step" s_parting_step t.f_parting_step t.d_parting_step
  b_parting_step : Binds K t.d_parting_step ["state", "kind", "worth"] []
  mg_parting_step : mg "parting_step" = some (.ref t.f_parting_step)
  F_step : Fun K "step" "step" s_step t.f_step t.d_step
  b_step : Binds K t.d_step ["state", "sign", "worth"] []
  mg_step : mg "step" = some (.ref t.f_step)
  F_moves : Fun K "moves" "moves" s_moves t.f_moves t.d_moves
  b_moves : Binds K t.d_moves ["state", "signs", "worth", "prices"] []
  mg_moves : mg "moves" = some (.ref t.f_moves)
  F_parting_moves : Fun K "parting_moves" "parting_moves" s_parting_moves t.f_parting_moves t.d_parting_moves
  b_parting_moves : Binds K t.d_parting_moves ["state", "prices"] []
  mg_parting_moves : mg "parting_moves" = some (.ref t.f_parting_moves)
  F_keep_cheaper : Fun K "keep_cheaper" "keep_cheaper" s_keep_cheaper t.f_keep_cheaper t.d_keep_cheaper
  b_keep_cheaper : Binds K t.d_keep_cheaper ["ways", "state", "cost", "line"] []
  mg_keep_cheaper : mg "keep_cheaper" = some (.ref t.f_keep_cheaper)
  F_with_parting_signs : Fun K "with_parting_signs" "with_parting_signs" s_with_parting_signs t.f_with_parting_signs t.d_with_parting_signs
  b_with_parting_signs : Binds K t.d_with_parting_signs ["ways", "prices"] []
  mg_with_parting_signs : mg "with_parting_signs" = some (.ref t.f_with_parting_signs)
  F_costs : Fun K "costs" "costs" s_costs t.f_costs t.d_costs
  b_costs : Binds K t.d_costs ["ways"] []
  mg_costs : mg "costs" = some (.ref t.f_costs)
  F_begin_state : FunD K "begin_state" "begin_state" s_begin_state t.f_begin_state t.d_begin_state (.ref t.df_begin_state)
  bd_begin_state : Binds K t.d_begin_state ["begin"] [.int 3 t.dt0_begin_state]
  b_begin_state : Binds K t.d_begin_state ["begin"] []
  mg_begin_state : mg "begin_state" = some (.ref t.f_begin_state)
  F_wished_signs : Fun K "wished_signs" "wished_signs" s_wished_signs t.f_wished_signs t.d_wished_signs
  b_wished_signs : Binds K t.d_wished_signs ["tone"] []
  mg_wished_signs : mg "wished_signs" = some (.ref t.f_wished_signs)
  F_wish_moves : Fun K "wish_moves" "wish_moves" s_wish_moves t.f_wish_moves t.d_wish_moves
  b_wish_moves : Binds K t.d_wish_moves ["state", "wish", "prices"] []
  mg_wish_moves : mg "wish_moves" = some (.ref t.f_wish_moves)
  F_with_wish : Fun K "with_wish" "with_wish" s_with_wish t.f_with_wish t.d_with_wish
  b_with_wish : Binds K t.d_with_wish ["ways", "wish", "prices"] []
  mg_with_wish : mg "with_wish" = some (.ref t.f_with_wish)
  F_ends : Fun K "ends" "ends" s_ends t.f_ends t.d_ends
  b_ends : Binds K t.d_ends ["state"] []
  mg_ends : mg "ends" = some (.ref t.f_ends)
  F_written : FunD K "written" "written" s_written t.f_written t.d_written (.ref t.df_written)
  bd_written : Binds K t.d_written ["wishes", "prices", "begin"] [.int 3 t.dt0_written]
  b_written : Binds K t.d_written ["wishes", "prices", "begin"] []
  mg_written : mg "written" = some (.ref t.f_written)
  F_l_begin : Fun K "_law_begin" "_law_begin" s_l_begin t.f_l_begin t.d_l_begin
  b_l_begin : Binds K t.d_l_begin ["_law_cell"] []
  mg_l_begin : mg "_law_begin" = some (.ref t.f_l_begin)
  F_law : Fun K "law" "law" s_law t.f_law t.d_law
  b_law : Binds K t.d_law ["_law_script"] []
  mg_law : mg "law" = some (.ref t.f_law)
  nb_dict : mg "dict" = none
  nb_int : mg "int" = none
  nb_isinstance : mg "isinstance" = none
  nb_len : mg "len" = none
  nb_list : mg "list" = none
  nb_min : mg "min" = none
  nb_range : mg "range" = none
  nb_tuple : mg "tuple" = none
  c_SMALL_KINDS : mg "SMALL_KINDS" = some (.ref t.a_SMALL_KINDS)
  q_SMALL_KINDS : ∀ H, SqT K H t.a_SMALL_KINDS [.str "s", .str "d", .str "r"]
  c_PARTING_KINDS : mg "PARTING_KINDS" = some (.ref t.a_PARTING_KINDS)
  q_PARTING_KINDS : ∀ H, SqT K H t.a_PARTING_KINDS [.str ".", .str "3", .str "2"]
  c_MEASURE_KINDS : mg "MEASURE_KINDS" = some (.ref t.a_MEASURE_KINDS)
  q_MEASURE_KINDS : ∀ H, SqT K H t.a_MEASURE_KINDS [.str "3", .str "2"]
  c_SOUNDING_KINDS : mg "SOUNDING_KINDS" = some (.ref t.a_SOUNDING_KINDS)
  q_SOUNDING_KINDS : ∀ H, SqT K H t.a_SOUNDING_KINDS [.str "G", .str "D", .str "s", .str "d"]
  c_DARK_KINDS : mg "DARK_KINDS" = some (.ref t.a_DARK_KINDS)
  q_DARK_KINDS : ∀ H, SqT K H t.a_DARK_KINDS [.str "D", .str "d"]
  c_REST_TONE : mg "REST_TONE" = some (.int (-1) t.t_REST_TONE)
  c_TWOFOLD_STATES : mg "TWOFOLD_STATES" = some (.ref t.a_TWOFOLD_STATES)
  q_TWOFOLD_STATES : ∀ H, SqT K H t.a_TWOFOLD_STATES [.str "2-", .str "2g", .str "2G"]
  c_TWOFOLD_BEGIN : mg "TWOFOLD_BEGIN" = some (.str "2-" t.t_TWOFOLD_BEGIN)
  c_THREEFOLD_BEGIN : mg "THREEFOLD_BEGIN" = some (.str "3n0-" t.t_THREEFOLD_BEGIN)
  c_SHORTENED_FROM_AHEAD : mg "SHORTENED_FROM_AHEAD" = some (.str "3t0-" t.t_SHORTENED_FROM_AHEAD)
  c_NEXT_COUNTS : mg "NEXT_COUNTS" = some (.ref t.a_NEXT_COUNTS)
  kd_NEXT_COUNTS : KD K w t.a_NEXT_COUNTS [("0", .str "1"), ("1", .str "2"), ("2", .str "0")]
  c_TWOFOLD_STEPS : mg "TWOFOLD_STEPS" = some (.ref t.a_TWOFOLD_STEPS)
  kd_TWOFOLD_STEPS : KP K w t.a_TWOFOLD_STEPS [(("s", 1), .str "2-"), (("d", 1), .str "2-"), (("r", 1), .str "2-"), (("D", 2), .str "2-"), (("R", 2), .str "2-"), (("G", 2), .str "2g"), (("G", 3), .str "2G"), ((".", 0), .str "2-"), (("2", 0), .str "2-"), (("3", 0), .str "3n0-")]
  c_GREAT_STEPS : mg "GREAT_STEPS" = some (.ref t.a_GREAT_STEPS)
  kd_GREAT_STEPS : KP K w t.a_GREAT_STEPS [(("G", 3), .str "3w0-"), (("G", 2), .str "3h0-"), (("D", 2), .str "3n0-"), (("R", 3), .str "3n0-")]
  c_PARTING_SIGNS : mg "PARTING_SIGNS" = some (.ref t.a_PARTING_SIGNS)
  q_PARTING_SIGNS : ∀ H, SqT K H t.a_PARTING_SIGNS [.ref t.a_PARTING_SIGNS_0, .ref t.a_PARTING_SIGNS_1, .ref t.a_PARTING_SIGNS_2]
  q_PARTING_SIGNS_0 : ∀ H, SqT K H t.a_PARTING_SIGNS_0 [.str ".", .int 0]
  q_PARTING_SIGNS_1 : ∀ H, SqT K H t.a_PARTING_SIGNS_1 [.str "3", .int 0]
  q_PARTING_SIGNS_2 : ∀ H, SqT K H t.a_PARTING_SIGNS_2 [.str "2", .int 0]
  c_REST_SIGNS : mg "REST_SIGNS" = some (.ref t.a_REST_SIGNS)
  q_REST_SIGNS : ∀ H, SqT K H t.a_REST_SIGNS [.ref t.a_REST_SIGNS_0, .ref t.a_REST_SIGNS_1]
  q_REST_SIGNS_0 : ∀ H, SqT K H t.a_REST_SIGNS_0 [.str "R", .int 0]
  q_REST_SIGNS_1 : ∀ H, SqT K H t.a_REST_SIGNS_1 [.str "r", .int 0]
  c_MOST_PARTING_SIGNS : mg "MOST_PARTING_SIGNS" = some (.int 2 t.t_MOST_PARTING_SIGNS)
end Mine

namespace Mine
open PySem L2
def sp_l_mixed : Sp := fun vs H Q _ => ∃ seed k : Int, vs = [.int seed, .int k] ∧ ∀ r : Int, 0 ≤ r → r < 65521 → Q (.int r) H
theorem ok_l_mixed {P : Program} {w : World} {K : PySem.W.Frag} {mg : Str → Option Value} {base : Heap} {t : Adr} (T : Txt K w mg t) : FnOk P w K mg base CX0 (0 + 1) t.f_l_mixed t.d_l_mixed ["_law_seed", "_law_k"] sp_l_mixed := by
  refine T.F_l_mixed.ok sc_l_mixed (fun vs H Q E h => ?_) (fun cdv A outer s H vs Q E hr h => ?_)
  · obtain ⟨_, _, rfl, _⟩ := h
    rfl
  · obtain ⟨seed, k, rfl, q⟩ := h
    refine bodyOk (pss_cons (ps_set (i := 2) sc_l_mixed.nd rfl (Or.inl rfl) (pe_op op_mod (pe_op (op_add.or (op_add_str.or op_cat)) (pe_op (op_add.or (op_add_str.or op_cat)) (pe_op (op_mul.or op_rep) (pe_op op_mod (pv 0) pe_int) pe_int) (pe_op (op_mul.or op_rep) (pv 1) pe_int)) pe_int) pe_int)) (pss_cons (ps_set (i := 3) sc_l_mixed.nd rfl (Or.inl rfl) (pe_op op_mod (pe_op (op_add.or (op_add_str.or op_cat)) (pe_op (op_add.or (op_add_str.or op_cat)) (pe_op (op_mul.or op_rep) (pv 2) (pv 2)) (pe_op (op_mul.or op_rep) (pv 1) pe_int)) (pe_op op_mod (pe_op op_fdiv (pv 0) pe_int) pe_int)) pe_int)) (pss_one (ps_ret (pe_op op_mod (pe_op (op_add.or (op_add_str.or op_cat)) (pe_op op_fdiv (pe_op (op_mul.or op_rep) (pv 3) (pv 3)) pe_int) (pv 3)) pe_int))))) ?_
    have p2 : (2 : Int) ^ 64 = 18446744073709551616 := by decide
    refine ⟨_, rfl, _, _, rfl, rfl, (by decide : (0 : Int) < 1000003), .inl ⟨_, _, rfl, rfl, .inr ⟨by decide, by decide⟩, _, rfl, .inl ⟨_, _, rfl, rfl, .inr ⟨by decide, by decide⟩, .inl ⟨_, _, rfl, rfl, .inl ⟨_, _, rfl, rfl, _, _, rfl, rfl, (by decide : (0 : Int) < 1000033), ?_⟩⟩⟩⟩⟩
    generalize hone : (seed % 1000003 * 48271 + k * 30011 + 17) % 1000033 = one
    have b1 : 0 ≤ one ∧ one < 1000033 := by omega
    refine ⟨_, rfl, _, rfl, .inl ⟨_, _, rfl, rfl, .inl ⟨by rw [p2]; omega, by rw [p2]; omega⟩, _, rfl, .inl ⟨_, _, rfl, rfl, .inr ⟨by decide, by decide⟩, .inl ⟨_, _, rfl, rfl, _, rfl, _, _, rfl, rfl, ⟨by decide, by decide⟩, _, _, rfl, rfl, (by decide : (0 : Int) < 997), .inl ⟨_, _, rfl, rfl, _, _, rfl, rfl, (by decide : (0 : Int) < 999983), ?_⟩⟩⟩⟩⟩
    generalize htwo : (one * one + k * 613 + seed / 1000003 % 997) % 999983 = two
    have b2 : 0 ≤ two ∧ two < 999983 := by omega
    refine ⟨_, rfl, _, rfl, .inl ⟨_, _, rfl, rfl, .inl ⟨by rw [p2]; omega, by rw [p2]; omega⟩, _, _, rfl, rfl, ⟨by decide, by decide⟩, _, rfl, .inl ⟨_, _, rfl, rfl, _, _, rfl, rfl, (by decide : (0 : Int) < 65521), ?_⟩⟩⟩
    exact q _ (by omega) (by omega)

end Mine

namespace Mine
open PySem L2
/-! ### a cell of the script -/
def cellN (ns : List Int) (k : Nat) : Int := ns.getD k 0
def sp_l_cell_at (K : PySem.W.Frag) : Sp := fun vs H Q _ => ∃ (a : Addr) (ns : List Int) (k : Nat), vs = [.ref a, .int (k : Int)] ∧ SqL K H a (ns.map V.int) ∧ ns.length ≤ 63 ∧ Q (.int (cellN ns k)) H
theorem ok_l_cell_at {P : Program} {w : World} {K : PySem.W.Frag} {mg : Str → Option Value} {base : Heap} {t : Adr} (T : Txt K w mg t) : FnOk P w K mg base CX0 (0 + 1) t.f_l_cell_at t.d_l_cell_at ["_law_script", "_law_k"] (sp_l_cell_at K) := by
  refine T.F_l_cell_at.ok sc_l_cell_at (fun vs H Q E h => ?_) (fun cdv A outer s H vs Q E hr h => ?_)
  · obtain ⟨a, ns, k, rfl, _⟩ := h
    rfl
  · obtain ⟨a, ns, k, rfl, hS, hl, q⟩ := h
    refine bodyOk (pss_cons (ps_if (pt_cmpR op_lt (pv 1) (pe_callB (call_min2 rfl) rfl T.nb_min bt_min (pa_cons pe_int (pa_cons (pe_callB (call_len_seq.or call_len_str) rfl T.nb_len bt_len (pa_cons (pv 0) pa_nil)) pa_nil))) (nomark _)) (pss_one (ps_ret (pe_ix ix_seq (pv 0) (pv 1) (fun _ _ => rfl)))) pss_nil) (pss_one (ps_ret pe_int))) ?_
    refine ⟨_, rfl, _, rfl, .inl ⟨_, _, rfl, .inl hS, _, _, rfl, _, _, rfl, rfl, _, rfl, ?_⟩⟩
    rw [List.length_map]
    refine ite2 (fun h => ?_) (fun h => ?_)
    · have hk : k < ns.length := by
        have := of_decide_eq_true h
        split at this <;> omega
      have e : (ns.map V.int)[k]? = some (V.int (cellN ns k)) := by
        rw [List.getElem?_map, List.getElem?_eq_getElem hk]
        unfold cellN
        rw [List.getD_eq_getElem?_getD, List.getElem?_eq_getElem hk]
        rfl
      exact ⟨_, rfl, _, rfl, .inl ⟨_, _, _, _, rfl, rfl, hS, atI_nat e, q⟩⟩
    · have hk : ns.length ≤ k := by
        have h' : ¬ ((k : Int) < if (ns.length : Int) < 63 then (ns.length : Int) else 63) := fun z => h (decide_eq_true z)
        split at h' <;> omega
      have e : cellN ns k = 0 := by
        unfold cellN
        rw [List.getD_eq_getElem?_getD, List.getElem?_eq_none hk]
        rfl
      rw [e] at q
      exact q

end Mine

namespace Mine
open PySem L2
def sp_l_any_wishes (K : PySem.W.Frag) : Sp := fun vs H Q _ => ∃ (a : Addr) (ns : List Int) (k m : Nat), vs = [.ref a, .int (k : Int), .int (m : Int)] ∧ SqL K H a (ns.map V.int) ∧ ns.length ≤ 63 ∧ m ≤ 60 ∧
  ∀ (f : Addr) (ys : List V) (qs : List (Int × Int)) (H' : Hp), Same H H' → H f = none → H' f = some (.lst ys) → PrsI H' ys qs → Wsh qs → qs.length = m → Q (.ref f) H'
theorem ok_l_any_wishes {P : Program} {w : World} {K : PySem.W.Frag} {mg : Str → Option Value} {base : Heap} {t : Adr} (T : Txt K w mg t) : FnOk P w K mg base CX0 (0 + 2) t.f_l_any_wishes t.d_l_any_wishes ["_law_script", "_law_at", "_law_many"] (sp_l_any_wishes K) := by
  have G_l_mixed := ok_l_mixed (P := P) (w := w) (base := base) T
  have G_l_cell_at := ok_l_cell_at (P := P) (w := w) (base := base) T
  refine T.F_l_any_wishes.ok sc_l_any_wishes (fun vs H Q E h => ?_) (fun cdv A outer s H vs Q E hr h => ?_)
  · obtain ⟨_, _, _, _, rfl, _⟩ := h
    rfl
  · obtain ⟨a, ns, k, m, rfl, hS, hl, hm, q⟩ := h
    obtain ⟨vci_l_any_wishes_1, hci_l_any_wishes_1⟩ : ∃ v : List (Int × Pos), v = ci_l_any_wishes_1 := ⟨_, rfl⟩
    have hbody : defBody s_l_any_wishes = (defBody s_l_any_wishes).take 1 ++ setIn ((defBody s_l_any_wishes).getD 1 (.Pass ⟨0, 0, 0, 0⟩)) 1 (setSubL (vci_l_any_wishes_1.map fun c => Expr.Constant (.int c.1) 0 c.2) 7) :: (defBody s_l_any_wishes).drop 2 := by subst hci_l_any_wishes_1; rfl
    rw [hbody]
    refine bodyOk (pss_cons (ps_set (i := 3) sc_l_any_wishes.nd rfl (Or.inl rfl) (pe_lst pa_nil)) (pss_cons (ps_for PassesOwn.never rfl (pi_range1 rfl T.nb_range (pa_cons (pv 2) pa_nil)) (pg_name (i := 4) sc_l_any_wishes.nd rfl (Or.inl rfl)) (pss_cons (ps_set (i := 5) sc_l_any_wishes.nd rfl (Or.inl rfl) (pe_call G_l_mixed (hr.mono (by decide)) rfl T.mg_l_mixed T.F_l_mixed.kp T.b_l_mixed .nil pass0 (pa_cons (pe_op (op_add.or (op_add_str.or op_cat)) (pe_call G_l_cell_at (hr.mono (by decide)) rfl T.mg_l_cell_at T.F_l_cell_at.kp T.b_l_cell_at .nil pass0 (pa_cons (pv 0) (pa_cons (pv 1) pa_nil))) (pe_op (op_mul.or op_rep) pe_int (pe_call G_l_cell_at (hr.mono (by decide)) rfl T.mg_l_cell_at T.F_l_cell_at.kp T.b_l_cell_at .nil pass0 (pa_cons (pv 0) (pa_cons (pe_op (op_add.or (op_add_str.or op_cat)) (pe_op (op_add.or (op_add_str.or op_cat)) (pv 1) pe_int) (pv 4)) pa_nil))))) (pa_cons (pv 4) pa_nil)))) (pss_cons (ps_set (i := 6) sc_l_any_wishes.nd rfl (Or.inl rfl) (pe_ix ix_seq (pe_lst (pa_ci (pa_cons (pe_op (op_add.or (op_add_str.or op_cat)) pe_int (pe_op op_mod (pe_op op_fdiv (pv 5) pe_int) pe_int)) pa_nil) vci_l_any_wishes_1)) (pe_op op_mod (pv 5) pe_int) (fun _ _ => rfl))) (pss_cons (ps_set (i := 7) sc_l_any_wishes.nd rfl (Or.inl rfl) (pe_mid (pe_ifExp (pt_cmpR (op_eq.or (op_eqD (hu_of64 hr))) (pe_op op_mod (pe_op op_fdiv (pv 5) pe_int) pe_int) pe_int (nomark _)) (pe_un un_neg pe_int) (pe_op op_sub (pe_op op_mod (pe_op op_fdiv (pv 5) pe_int) pe_int) pe_int)))) (pss_one (ps_expr (pe_bm PySem.F.plainAttrs_list PySem.F.slot_list_append PySem.F.type_list_append mt_append (pv 3) (pa_cons (pe_tup (pa_cons (pv 7) (pa_cons (pv 6) pa_nil))) pa_nil)))))))) (pss_one (ps_ret (pv 3))))) ?_
    subst hci_l_any_wishes_1
    refine ⟨big (by show 0 ≤ 1000; omega), fun f hf => ?_⟩
    have s0 := Same.upd (o := .lst []) hf
    (repeat array_get_dec)
    refine ⟨by omega, by omega, for_range (n := ((m : Int)).toNat) (fun i σ H' => ∃ (v1 v2 v3 v4 : Option V) (zs : List V) (qs : List (Int × Int)), σ = [some (.ref a), some (.int (k : Int)), some (.int (m : Int)), some (.ref f), v1, v2, v3, v4] ∧ Same H H' ∧ H' f = some (.lst zs) ∧ PrsI H' zs qs ∧ Wsh qs ∧ qs.length = i)
      ⟨none, none, none, none, [], [], rfl, s0, upd_same, .nil, fun _ h => (nomatch h), rfl⟩ ?_ ?_⟩
    · rintro i σ H' hi ⟨v1, v2, v3, v4, zs, qs, rfl, s1, hf1, p1, w1, ql⟩
      have hS1 := s1.seq hS
      (repeat array_get_dec)
      refine ⟨a, ns, k, rfl, hS1, hl, ?_⟩
      (repeat array_get_dec)
      refine ⟨a, ns, k + 1 + i, ?_, hS1, hl, ?_⟩
      · show [V.ref a, V.int ((k : Int) + 1 + (0 + (i : Int)))] = [V.ref a, V.int ((k + 1 + i : Nat) : Int)]
        have e : (k : Int) + 1 + (0 + (i : Int)) = ((k + 1 + i : Nat) : Int) := by omega
        rw [e]
      refine .inl ⟨_, _, rfl, rfl, .inl ⟨by decide, by decide⟩, ?_⟩
      (repeat array_get_dec)
      refine ⟨_, _, rfl, fun r h0 h1 => ?_⟩
      (repeat array_get_dec)
      refine ⟨by show 8 ≤ sizeLine; decide, fun lp hlp => ?_⟩
      have sl := Same.upd (o := .lst ((ci_l_any_wishes_1.map fun c => V.int c.1) ++ [V.int (1 + r / 8 % 9)])) hlp
      have hlp2 := upd_same (H := H') (a := lp) (o := .lst ((ci_l_any_wishes_1.map fun c => V.int c.1) ++ [V.int (1 + r / 8 % 9)]))
      generalize upd H' lp (.lst ((ci_l_any_wishes_1.map fun c => V.int c.1) ++ [V.int (1 + r / 8 % 9)])) = H2 at sl hlp2
      (repeat array_get_dec)
      obtain ⟨wo, hwo, wo1, wo9⟩ : ∃ wo : Int, ((ci_l_any_wishes_1.map fun c => V.int c.1) ++ [V.int (1 + r / 8 % 9)])[(r % 8).toNat]? = some (.int wo) ∧ 1 ≤ wo ∧ wo ≤ 9 := by
        have : r % 8 = 0 ∨ r % 8 = 1 ∨ r % 8 = 2 ∨ r % 8 = 3 ∨ r % 8 = 4 ∨ r % 8 = 5 ∨ r % 8 = 6 ∨ r % 8 = 7 := by omega
        rcases this with e | e | e | e | e | e | e | e <;> rw [e]
        · exact ⟨1, rfl, by decide, by decide⟩
        · exact ⟨2, rfl, by decide, by decide⟩
        · exact ⟨1, rfl, by decide, by decide⟩
        · exact ⟨3, rfl, by decide, by decide⟩
        · exact ⟨1, rfl, by decide, by decide⟩
        · exact ⟨2, rfl, by decide, by decide⟩
        · exact ⟨2, rfl, by decide, by decide⟩
        · exact ⟨_, rfl, by omega, by omega⟩
      refine ixL (SqL.of hlp2) (n := (r % 8).toNat) (by omega) hwo ?_
      refine ⟨fun v H3 => (∃ tn : Int, v = .int tn) ∧ H3 = H2, ?_, ?_⟩
      · (repeat array_get_dec)
        rw [intD]
        refine ite2 (fun _ => ?_) (fun _ => ?_)
        · exact ⟨_, rfl, ⟨_, rfl⟩, rfl⟩
        · (repeat array_get_dec)
          exact ⟨⟨_, rfl⟩, rfl⟩
      · rintro _ _ ⟨⟨tn, rfl⟩, rfl⟩
        have hf2 := sl _ _ hf1
        (repeat array_get_dec)
        refine ⟨.inl ⟨rfl, _, SqL.of hf2⟩, ?_⟩
        (repeat array_get_dec)
        refine ⟨by show 2 ≤ sizeLine; decide, fun tp htp => ?_⟩
        have sT := sl.trans (Same.upd (o := .tup [.int tn, .int wo]) htp)
        have hf3 := sT _ _ hf1
        refine ⟨f, zs, _, rfl, rfl, hf3, small1000 (by rw [plen p1]; omega), ?_⟩
        refine ⟨_, _, _, _, _, qs ++ [(tn, wo)], rfl, sameOwn (s1.trans sT) hf, upd_same, psnoc (prsIUpd hf3 (prsISame sT p1)) (prIUpd hf3 ⟨tp, rfl, upd_same⟩), fun q hq => ?_, by simp [ql]⟩
        rcases List.mem_append.mp hq with z | z
        · exact w1 q z
        · rw [List.mem_singleton.mp z]
          exact ⟨by show 0 ≤ wo; omega, wo9⟩
    · rintro σ H' ⟨v1, v2, v3, v4, zs, qs, rfl, s1, hf1, p1, w1, ql⟩
      (repeat array_get_dec)
      exact q f zs qs H' s1 hf hf1 p1 w1 (by omega)

end Mine

namespace Mine
open PySem L2
def prcL : Prc → List V := fun c => [pvO c.1, pvO c.2.1, pvO c.2.2]
def sp_l_prices : Sp := fun vs H Q _ => ∃ n : Int, vs = [.int n] ∧ ∀ (c : Prc) (z : Addr) (H' : Hp), Same H H' → H z = none → H' z = some (.tup (prcL c)) → Q (.ref z) H'
theorem ok_l_prices {P : Program} {w : World} {K : PySem.W.Frag} {mg : Str → Option Value} {base : Heap} {t : Adr} (T : Txt K w mg t) : FnOk P w K mg base CX0 (0 + 1) t.f_l_prices t.d_l_prices ["_law_cell"] sp_l_prices := by
  refine T.F_l_prices.ok sc_l_prices (fun vs H Q E h => ?_) (fun cdv A outer s H vs Q E hr h => ?_)
  · obtain ⟨_, rfl, _⟩ := h
    rfl
  · obtain ⟨n, rfl, q⟩ := h
    refine bodyOk (pss_cons (ps_set (i := 1) sc_l_prices.nd rfl (Or.inl rfl) (pe_lst pa_nil)) (pss_cons (ps_for PassesOwn.never rfl (pi_range1 rfl T.nb_range (pa_cons pe_int pa_nil)) (pg_name (i := 2) sc_l_prices.nd rfl (Or.inl rfl)) (pss_cons (ps_expr (pe_bm PySem.F.plainAttrs_list PySem.F.slot_list_append PySem.F.type_list_append mt_append (pv 1) (pa_cons (pe_mid (pe_ifExp (pt_cmpR op_gt (pe_op op_mod (pv 0) pe_int) pe_int (nomark _)) pe_non (pe_op (op_add.or (op_add_str.or op_cat)) (pe_op op_mod (pv 0) pe_int) pe_int))) pa_nil))) (pss_one (ps_set (i := 0) sc_l_prices.nd rfl (Or.inl rfl) (pe_op op_fdiv (pv 0) pe_int))))) (pss_one (ps_ret (pe_tup (pa_cons (pe_ix ix_seq (pv 1) pe_int (fun _ _ => rfl)) (pa_cons (pe_ix ix_seq (pv 1) pe_int (fun _ _ => rfl)) (pa_cons (pe_ix ix_seq (pv 1) pe_int (fun _ _ => rfl)) pa_nil)))))))) ?_
    refine ⟨big (by show 0 ≤ 1000; omega), fun f hf => ?_⟩
    (repeat array_get_dec)
    refine ⟨by decide, by decide, for_range (n := 3) (fun i σ H' => ∃ (m : Int) (v : Option V) (cs : List (Option Int)), σ = [some (.int m), some (.ref f), v] ∧ H' = upd H f (.lst (cs.map pvO)) ∧ cs.length = i)
      ⟨n, none, [], rfl, rfl, rfl⟩ ?_ ?_⟩
    · rintro i σ H' hi ⟨m, v, cs, rfl, rfl, hl⟩
      (repeat array_get_dec)
      refine ⟨.inl ⟨rfl, _, SqL.of upd_same⟩, ?_⟩
      refine ⟨fun v H2 => (∃ o, v = pvO o) ∧ H2 = upd H f (.lst (cs.map pvO)), ?_, ?_⟩
      · (repeat array_get_dec)
        refine ite2 (fun _ => ?_) (fun _ => ?_)
        · exact ⟨⟨none, rfl⟩, rfl⟩
        · (repeat array_get_dec)
          exact ⟨⟨some _, rfl⟩, rfl⟩
      · rintro _ _ ⟨⟨o, rfl⟩, rfl⟩
        refine ⟨_, _, _, rfl, rfl, upd_same, by rw [List.length_map]; exact small1000 (by omega), ?_⟩
        (repeat array_get_dec)
        exact ⟨_, _, cs ++ [o], rfl, by rw [upd_upd, List.map_append]; rfl, by simp [hl]⟩
    · rintro σ H' ⟨m, v, cs, rfl, rfl, hl⟩
      match cs, hl with
      | [a, b, c], _ =>
        (repeat array_get_dec)
        refine .inl ⟨f, _, 0, _, rfl, rfl, SqL.of upd_same, rfl, ?_⟩
        (repeat array_get_dec)
        refine .inl ⟨f, _, 1, _, rfl, rfl, SqL.of upd_same, rfl, ?_⟩
        (repeat array_get_dec)
        refine .inl ⟨f, _, 2, _, rfl, rfl, SqL.of upd_same, rfl, ?_⟩
        refine ⟨by show 3 ≤ sizeLine; decide, fun z hz => ?_⟩
        exact q (a, b, c) z _ ((Same.upd hf).trans (Same.upd hz)) ((Same.upd hf).free hz) upd_same

end Mine

namespace Mine
open PySem L2
def sp_sign_price (K : PySem.W.Frag) : Sp := fun vs H Q _ => ∃ (p z : Addr) (s : Sg) (c : Prc), vs = [.ref p, .ref z] ∧ SqT K H p [.str s.1.str, .int s.2] ∧ H z = some (.tup [pvO c.1, pvO c.2.1, pvO c.2.2]) ∧ Q (pvO (costOf c s.1)) H
theorem in_Dd (k : Kd) : inV (.str k.str) [.str "D", .str "d"] = (decide (k = .D) || decide (k = .d)) := by cases k <;> decide +kernel
theorem in_32 (k : Kd) : inV (.str k.str) [.str "3", .str "2"] = (decide (k = .three) || decide (k = .two)) := by cases k <;> decide +kernel
theorem ok_sign_price {P : Program} {w : World} {K : PySem.W.Frag} {mg : Str → Option Value} {base : Heap} {t : Adr} (T : Txt K w mg t) : FnOk P w K mg base CX0 (0 + 1) t.f_sign_price t.d_sign_price ["sign", "prices"] (sp_sign_price K) := by
  refine T.F_sign_price.ok sc_sign_price (fun vs H Q E h => ?_) (fun cdv A outer s H vs Q E hr h => ?_)
  · obtain ⟨_, _, _, _, rfl, _⟩ := h
    rfl
  · obtain ⟨p, z, s, c, rfl, hp, hz, q⟩ := h
    refine bodyOk (pss_cons (ps_asg (pv 1) (pg_tup rfl (pgs_cons (pg_name (i := 2) sc_sign_price.nd rfl (Or.inl rfl)) (pgs_cons (pg_name (i := 3) sc_sign_price.nd rfl (Or.inl rfl)) (pgs_cons (pg_name (i := 4) sc_sign_price.nd rfl (Or.inl rfl)) pgs_nil))))) (pss_cons (ps_if (pt_cmpR (op_eq.or (op_eqD (hu_of64 hr))) (pe_ix ix_seq (pv 0) pe_int (fun _ _ => rfl)) pe_str (nomark _)) (pss_one (ps_ret (pv 2))) pss_nil) (pss_cons (ps_if (pt_cmpR (op_in_seq.or op_in_str) (pe_ix ix_seq (pv 0) pe_int (fun _ _ => rfl)) (pe_glob (v := .ref t.a_DARK_KINDS) rfl T.c_DARK_KINDS rfl) rfl) (pss_one (ps_ret (pv 3))) pss_nil) (pss_cons (ps_if (pt_cmpR (op_in_seq.or op_in_str) (pe_ix ix_seq (pv 0) pe_int (fun _ _ => rfl)) (pe_glob (v := .ref t.a_MEASURE_KINDS) rfl T.c_MEASURE_KINDS rfl) rfl) (pss_one (ps_ret (pv 4))) pss_nil) (pss_one (ps_ret pe_int)))))) ?_
    refine ⟨_, rfl, z, _, rfl, SqT.of hz, rfl, _, _, rfl, _, _, rfl, _, _, rfl, rfl, ?_⟩
    (repeat array_get_dec)
    refine ixK0 hp ?_
    (repeat array_get_dec)
    rw [k_dot]
    refine ite2 (fun h => ?_) (fun h => ?_)
    · rw [of_decide_eq_true h] at q
      exact ⟨_, rfl, q⟩
    · have h1 : s.1 ≠ .dot := fun e => h (decide_eq_true e)
      (repeat array_get_dec)
      refine ixK0 hp ?_
      (repeat array_get_dec)
      refine .inl ⟨_, _, rfl, .inr (T.q_DARK_KINDS _), rfl, rfl, _, rfl, ?_⟩
      rw [in_Dd]
      refine ite2 (fun h => ?_) (fun h => ?_)
      · have e : costOf c s.1 = c.2.1 := by revert h; cases s.1 <;> first | (intro h; rfl) | (intro h; exact absurd h (by decide))
        rw [e] at q
        exact ⟨_, rfl, q⟩
      · (repeat array_get_dec)
        refine ixK0 hp ?_
        (repeat array_get_dec)
        refine .inl ⟨_, _, rfl, .inr (T.q_MEASURE_KINDS _), rfl, rfl, _, rfl, ?_⟩
        rw [in_32]
        refine ite2 (fun h2 => ?_) (fun h2 => ?_)
        · have e : costOf c s.1 = c.2.2 := by revert h2; cases s.1 <;> first | (intro h; rfl) | (intro h; exact absurd h (by decide))
          rw [e] at q
          exact ⟨_, rfl, q⟩
        · have e : costOf c s.1 = some 0 := by
            revert h1 h h2
            cases s.1 <;> first | (intro _ _ _; rfl) | (intro a _ _; exact absurd rfl a) | (intro _ a _; exact absurd rfl a) | (intro _ _ a; exact absurd rfl a)
          rw [e] at q
          exact q

end Mine

namespace Mine
open PySem L2
def sp_small (K : PySem.W.Frag) : Sp := fun vs H Q _ => ∃ (p : Addr) (s : Sg), vs = [.ref p] ∧ SqT K H p [.str s.1.str, .int s.2] ∧ Q (.bl s.1.small) H
theorem k_small (k : Kd) : inV (.str k.str) [.str "s", .str "d", .str "r"] = k.small := by cases k <;> decide +kernel
theorem ok_small {P : Program} {w : World} {K : PySem.W.Frag} {mg : Str → Option Value} {base : Heap} {t : Adr} (T : Txt K w mg t) : FnOk P w K mg base CX0 (0 + 1) t.f_small t.d_small ["sign"] (sp_small K) := by
  refine T.F_small.ok sc_small (fun vs H Q E h => ?_) (fun cdv A outer s H vs Q E hr h => ?_)
  · obtain ⟨_, _, rfl, _⟩ := h
    rfl
  · obtain ⟨p, s, rfl, hp, q⟩ := h
    rw [← k_small] at q
    refine bodyOk (pss_one (ps_ret (pe_cmpR (op_in_seq.or op_in_str) (pe_ix ix_seq (pv 0) pe_int (fun _ _ => rfl)) (pe_glob (v := .ref t.a_SMALL_KINDS) rfl T.c_SMALL_KINDS rfl) rfl))) ?_
    (repeat array_get_dec)
    refine ixK0 hp ?_
    (repeat array_get_dec)
    exact .inl ⟨_, _, rfl, .inr (T.q_SMALL_KINDS _), rfl, rfl, q⟩

end Mine

namespace Mine
open PySem L2
def sp_parting (K : PySem.W.Frag) : Sp := fun vs H Q _ => ∃ (p : Addr) (s : Sg), vs = [.ref p] ∧ SqT K H p [.str s.1.str, .int s.2] ∧ Q (.bl s.1.parting) H
theorem k_partT (k : Kd) : inV (.str k.str) [.str ".", .str "3", .str "2"] = k.parting := by cases k <;> decide +kernel
theorem ok_parting {P : Program} {w : World} {K : PySem.W.Frag} {mg : Str → Option Value} {base : Heap} {t : Adr} (T : Txt K w mg t) : FnOk P w K mg base CX0 (0 + 1) t.f_parting t.d_parting ["sign"] (sp_parting K) := by
  refine T.F_parting.ok sc_parting (fun vs H Q E h => ?_) (fun cdv A outer s H vs Q E hr h => ?_)
  · obtain ⟨_, _, rfl, _⟩ := h
    rfl
  · obtain ⟨p, s, rfl, hp, q⟩ := h
    rw [← k_partT] at q
    refine bodyOk (pss_one (ps_ret (pe_cmpR (op_in_seq.or op_in_str) (pe_ix ix_seq (pv 0) pe_int (fun _ _ => rfl)) (pe_glob (v := .ref t.a_PARTING_KINDS) rfl T.c_PARTING_KINDS rfl) rfl))) ?_
    (repeat array_get_dec)
    refine ixK0 hp ?_
    (repeat array_get_dec)
    exact .inl ⟨_, _, rfl, .inr (T.q_PARTING_KINDS _), rfl, rfl, q⟩

end Mine

namespace Mine
open PySem L2
def sp_closes_by_right_note : Sp := fun vs H Q _ => ∃ (z : Str), vs = [.str z] ∧ ∀ H', Same H H' → Q (.bl (rnZ z)) H'
theorem ok_closes_by_right_note {P : Program} {w : World} {K : PySem.W.Frag} {mg : Str → Option Value} {base : Heap} {t : Adr} (T : Txt K w mg t) : FnOk P w K mg base CX0 (0 + 1) t.f_closes_by_right_note t.d_closes_by_right_note ["state"] sp_closes_by_right_note := by
  refine T.F_closes_by_right_note.ok sc_closes_by_right_note (fun vs H Q E h => ?_) (fun cdv A outer s H vs Q E hr h => ?_)
  · obtain ⟨_, rfl, _⟩ := h
    rfl
  · obtain ⟨z, rfl, q⟩ := h
    refine bodyOk (pss_one (ps_ret (pe_cmpR (op_in_seq.or op_in_str) (pv 0) (pe_tup (pa_cons pe_str (pa_cons pe_str (pa_cons pe_str pa_nil)))) rfl))) ?_
    (repeat array_get_dec)
    refine ⟨by show 3 ≤ sizeLine; decide, fun p hp => ?_⟩
    exact .inl ⟨p, _, rfl, .inr (SqT.of upd_same), rfl, rfl, q _ (Same.upd hp)⟩

end Mine

namespace Mine
open PySem L2
def sp_closes : Sp := fun vs H Q _ => ∃ (z : Str) (l c t : Nat), vs = [.str z] ∧ z.cps.toList = [51, l, c, t] ∧ z.length ≤ 4 ∧ Q (.bl (closesM l c)) H
theorem ok_closes {P : Program} {w : World} {K : PySem.W.Frag} {mg : Str → Option Value} {base : Heap} {t : Adr} (T : Txt K w mg t) : FnOk P w K mg base CX0 (0 + 1) t.f_closes t.d_closes ["state"] sp_closes := by
  refine T.F_closes.ok sc_closes (fun vs H Q E h => ?_) (fun cdv A outer s H vs Q E hr h => ?_)
  · obtain ⟨_, _, _, _, rfl, _⟩ := h
    rfl
  · obtain ⟨z, l, c, t, rfl, hz, hl, q⟩ := h
    have hl' : z.length ≤ sizeLine := big4 (by omega)
    refine bodyOk (pss_cons (ps_par (i := 1) (j := 2) rfl sc_closes.nd rfl rfl (by decide) rfl rfl (pa_cons (pe_ix ix_seq (pv 0) pe_int (fun _ _ => rfl)) (pa_cons (pe_ix ix_seq (pv 0) pe_int (fun _ _ => rfl)) pa_nil)) rfl) (pss_cons (ps_if (pt_cmpR (op_eq.or (op_eqD (hu_of64 hr))) (pv 2) pe_str (nomark _)) (pss_one (ps_ret (pe_cmpR (op_ne.or (op_neD (hu_of64 hr))) (pv 1) pe_str (nomark _)))) pss_nil) (pss_one (ps_ret (pe_mid (pe_and (pe_cmpR (op_eq.or (op_eqD (hu_of64 hr))) (pv 2) pe_str (nomark _)) (pe_one (pe_cmpR (op_eq.or (op_eqD (hu_of64 hr))) (pv 1) pe_str (nomark _))))))))) ?_
    refine ⟨_, rfl, .inr (.inr ⟨_, _, l, rfl, rfl, hl', by rw [hz]; rfl, ?_⟩)⟩
    refine ⟨_, rfl, .inr (.inr ⟨_, _, c, rfl, rfl, hl', by rw [hz]; rfl, ?_⟩)⟩
    refine ⟨_, _, rfl, ?_⟩
    (repeat array_get_dec)
    rw [one_dec c 48 (by decide +kernel)]
    unfold closesM at q
    refine ite2 (fun h => ?_) (fun h => ?_)
    · (repeat array_get_dec)
      rw [if_pos h] at q
      rw [one_ne l 104 (by decide +kernel)]
      exact q
    · rw [if_neg h] at q
      refine midV (.bl (decide (c = 49) && decide (l = 104))) ?_ ?_
      · (repeat array_get_dec)
        rw [one_dec c 49 (by decide +kernel)]
        refine ite2 (fun h => ?_) (fun h => ?_)
        · (repeat array_get_dec)
          rw [one_dec l 104 (by decide +kernel)]
          exact endV (by rw [h]; rfl)
        · exact endV (by rw [Bool.eq_false_iff.mpr h]; rfl)
      · exact q

end Mine

namespace Mine
open PySem L2
def sp_closes_by_great : Sp := fun vs H Q _ => ∃ (z : Str), vs = [.str z] ∧ ∀ H', Same H H' → Q (.bl (bgZ z)) H'
theorem ok_closes_by_great {P : Program} {w : World} {K : PySem.W.Frag} {mg : Str → Option Value} {base : Heap} {t : Adr} (T : Txt K w mg t) : FnOk P w K mg base CX0 (0 + 1) t.f_closes_by_great t.d_closes_by_great ["state"] sp_closes_by_great := by
  refine T.F_closes_by_great.ok sc_closes_by_great (fun vs H Q E h => ?_) (fun cdv A outer s H vs Q E hr h => ?_)
  · obtain ⟨_, rfl, _⟩ := h
    rfl
  · obtain ⟨z, rfl, q⟩ := h
    refine bodyOk (pss_one (ps_ret (pe_cmpR (op_in_seq.or op_in_str) (pv 0) (pe_tup (pa_cons pe_str (pa_cons pe_str pa_nil))) rfl))) ?_
    (repeat array_get_dec)
    refine ⟨by show 2 ≤ sizeLine; decide, fun p hp => ?_⟩
    exact .inl ⟨p, _, rfl, .inr (SqT.of upd_same), rfl, rfl, q _ (Same.upd hp)⟩

end Mine

namespace Mine
open PySem L2
def sp_great_step : Sp := fun vs H Q _ => ∃ (z k : Str) (n : Int) (l c e : Nat), vs = [.str z, .str k, .int n] ∧ z.cps.toList = [51, l, c, e] ∧ z.length ≤ 4 ∧ ∀ H', Same H H' → Q (grS z k n) H'
theorem ok_great_step {P : Program} {w : World} {K : PySem.W.Frag} {mg : Str → Option Value} {base : Heap} {t : Adr} (T : Txt K w mg t) : FnOk P w K mg base CX0 (0 + 2) t.f_great_step t.d_great_step ["state", "kind", "worth"] sp_great_step := by
  have G_closes_by_right_note := ok_closes_by_right_note (P := P) (w := w) (base := base) T
  have G_closes := ok_closes (P := P) (w := w) (base := base) T
  have G_closes_by_great := ok_closes_by_great (P := P) (w := w) (base := base) T
  refine T.F_great_step.ok sc_great_step (fun vs H Q E h => ?_) (fun cdv A outer s H vs Q E hr h => ?_)
  · obtain ⟨_, _, _, _, _, _, rfl, _⟩ := h
    rfl
  · obtain ⟨z, k, n, l, c, e, rfl, hz, hl, q⟩ := h
    refine bodyOk (pss_cons (ps_if (pt_cmpR (op_eq.or (op_eqD (hu_of64 hr))) (pv 0) (pe_glob (v := .str "3t0-") rfl T.c_SHORTENED_FROM_AHEAD ⟨_, rfl⟩) (nomark _)) (pss_one (ps_ret pe_non)) pss_nil) (pss_cons (ps_if (pt_mid (PW.pt (pw_and (pt_val (pe_call G_closes_by_right_note (hr.mono (by decide)) rfl T.mg_closes_by_right_note T.F_closes_by_right_note.kp T.b_closes_by_right_note .nil pass0 (pa_cons (pv 0) pa_nil))) (pw_and (pt_cmpR (op_eq.or (op_eqD (hu_of64 hr))) (pv 1) pe_str (nomark _)) (pw_and1 (pt_cmpR (op_eq.or (op_eqD (hu_of64 hr))) (pv 2) pe_int (nomark _))))))) (pss_one (ps_ret (pe_glob (v := .str "3t0-") rfl T.c_SHORTENED_FROM_AHEAD ⟨_, rfl⟩))) pss_nil) (pss_cons (ps_if (pt_mid (PW.pt (pw_or (pt_val (pe_call G_closes (hr.mono (by decide)) rfl T.mg_closes T.F_closes.kp T.b_closes .nil pass0 (pa_cons (pv 0) pa_nil))) (pw_or1 (pt_val (pe_call G_closes_by_great (hr.mono (by decide)) rfl T.mg_closes_by_great T.F_closes_by_great.kp T.b_closes_by_great .nil pass0 (pa_cons (pv 0) pa_nil))))))) (pss_one (ps_ret (pe_kgetT (hu_of hr) (pe_glob (v := .ref t.a_GREAT_STEPS) rfl T.c_GREAT_STEPS rfl) (pe_tup (pa_cons (pv 1) (pa_cons (pv 2) pa_nil)))))) pss_nil) (pss_one (ps_ret pe_non))))) ?_
    unfold grS at q
    (repeat array_get_dec)
    rw [strD]
    refine ite2 (fun h => ?_) (fun h => ?_)
    · rw [if_pos h] at q
      (repeat array_get_dec)
      exact q _ (Same.refl _)
    rw [if_neg h] at q
    (repeat array_get_dec)
    refine ⟨fun b H' => b = (rnZ z && (decide (k = "G") && decide (n = 2))) ∧ Same H H', ?_, ?_⟩
    · (repeat array_get_dec)
      intro H1 S1
      (repeat array_get_dec)
      cases rnZ z with
      | false => exact iteF ⟨rfl, S1⟩
      | true =>
        refine iteT ?_
        (repeat array_get_dec)
        rw [strD]
        cases decide (k = "G") with
        | false => exact iteF ⟨rfl, S1⟩
        | true =>
          refine iteT ?_
          (repeat array_get_dec)
          rw [intD]
          exact ⟨rfl, S1⟩
    rintro _ H1 ⟨rfl, S1⟩
    refine ite2 (fun h => ?_) (fun h => ?_)
    · rw [if_pos h] at q
      (repeat array_get_dec)
      exact q _ S1
    rw [if_neg h] at q
    (repeat array_get_dec)
    refine ⟨fun b H' => b = (clZ z || bgZ z) ∧ Same H H', ?_, ?_⟩
    · (repeat array_get_dec)
      refine ⟨z, l, c, e, rfl, hz, hl, ?_⟩
      have ec : clZ z = closesM l c := by unfold clZ; rw [hz]; rfl
      rw [← ec]
      (repeat array_get_dec)
      cases clZ z with
      | true => exact iteT ⟨rfl, S1⟩
      | false =>
        refine iteF ?_
        (repeat array_get_dec)
        intro H2 S2
        exact ⟨_, rfl, rfl, S1.trans S2⟩
    rintro _ H2 ⟨rfl, S2⟩
    refine ite2 (fun h => ?_) (fun h => ?_)
    · rw [if_pos h] at q
      (repeat array_get_dec)
      refine ⟨_, _, rfl, T.kd_GREAT_STEPS, ?_⟩
      (repeat array_get_dec)
      refine ⟨by show 2 ≤ sizeLine; decide, fun p hp => ?_⟩
      exact ⟨p, k, n, rfl, upd_same, q _ (S2.trans (Same.upd hp))⟩
    rw [if_neg h] at q
    (repeat array_get_dec)
    exact q _ S2

end Mine

namespace Mine
open PySem L2
def sp_twofold_step : Sp := fun vs H Q _ => ∃ (z k : Str) (n : Int), vs = [.str z, .str k, .int n] ∧ ∀ H', Same H H' → Q (twS z k n) H'
theorem ok_twofold_step {P : Program} {w : World} {K : PySem.W.Frag} {mg : Str → Option Value} {base : Heap} {t : Adr} (T : Txt K w mg t) : FnOk P w K mg base CX0 (0 + 1) t.f_twofold_step t.d_twofold_step ["state", "kind", "worth"] sp_twofold_step := by
  refine T.F_twofold_step.ok sc_twofold_step (fun vs H Q E h => ?_) (fun cdv A outer s H vs Q E hr h => ?_)
  · obtain ⟨_, _, _, rfl, _⟩ := h
    rfl
  · obtain ⟨z, k, n, rfl, q⟩ := h
    refine bodyOk (pss_cons (ps_if (pt_mid (PW.pt (pw_and (pt_cmpR (op_eq.or (op_eqD (hu_of64 hr))) (pv 0) pe_str (nomark _)) (pw_and1 (pt_cmpR (op_ne.or (op_neD (hu_of64 hr))) (pv 1) pe_str (nomark _)))))) (pss_one (ps_ret pe_non)) pss_nil) (pss_cons (ps_if (pt_mid (PW.pt (pw_and (pt_cmpR (op_eq.or (op_eqD (hu_of64 hr))) (pv 0) pe_str (nomark _)) (pw_and1 (pt_cmpR (op_eq.or (op_eqD (hu_of64 hr))) (pv 1) pe_str (nomark _)))))) (pss_one (ps_ret pe_non)) pss_nil) (pss_one (ps_ret (pe_kgetT (hu_of hr) (pe_glob (v := .ref t.a_TWOFOLD_STEPS) rfl T.c_TWOFOLD_STEPS rfl) (pe_tup (pa_cons (pv 1) (pa_cons (pv 2) pa_nil)))))))) ?_
    refine midB (decide (z = "2G") && !decide (k = ".")) ?_ ?_
    · (repeat array_get_dec)
      rw [strD]
      cases decide (z = "2G") with
      | false => exact endB rfl
      | true =>
        refine iteT ?_
        (repeat array_get_dec)
        rw [strD]
        exact endB rfl
    unfold twS at q
    refine ite2 (fun h => ?_) (fun h => ?_)
    · rw [if_pos h] at q
      (repeat array_get_dec)
      exact q H (Same.refl _)
    rw [if_neg h] at q
    refine midB (decide (z = "2g") && decide (k = ".")) ?_ ?_
    · (repeat array_get_dec)
      rw [strD]
      cases decide (z = "2g") with
      | false => exact endB rfl
      | true =>
        refine iteT ?_
        (repeat array_get_dec)
        rw [strD]
        exact endB rfl
    refine ite2 (fun h => ?_) (fun h => ?_)
    · rw [if_pos h] at q
      (repeat array_get_dec)
      exact q H (Same.refl _)
    rw [if_neg h] at q
    (repeat array_get_dec)
    refine ⟨_, _, rfl, T.kd_TWOFOLD_STEPS, ?_⟩
    (repeat array_get_dec)
    refine ⟨by show 2 ≤ sizeLine; decide, fun p hp => ?_⟩
    exact ⟨p, k, n, rfl, upd_same, q _ (Same.upd hp)⟩

end Mine

namespace Mine
open PySem L2
def sp_told_last : Sp := fun vs H Q _ => ∃ (k c : Str) (n : Int), vs = [.str k, .str c, .int n] ∧ Q (tlS k c n) H
theorem ok_told_last {P : Program} {w : World} {K : PySem.W.Frag} {mg : Str → Option Value} {base : Heap} {t : Adr} (T : Txt K w mg t) : FnOk P w K mg base CX0 (0 + 1) t.f_told_last t.d_told_last ["kind", "count", "worth"] sp_told_last := by
  refine T.F_told_last.ok sc_told_last (fun vs H Q E h => ?_) (fun cdv A outer s H vs Q E hr h => ?_)
  · obtain ⟨_, _, _, rfl, _⟩ := h
    rfl
  · obtain ⟨k, c, n, rfl, q⟩ := h
    refine bodyOk (pss_cons (ps_if (pt_cmpR (op_eq.or (op_eqD (hu_of64 hr))) (pv 2) pe_int (nomark _)) (pss_one (ps_ret (pe_mid (pe_ifExp (pt_cmpR (op_eq.or (op_eqD (hu_of64 hr))) (pv 0) pe_str (nomark _)) pe_str pe_str)))) pss_nil) (pss_cons (ps_if (pt_mid (PW.pt (pw_and (pt_cmpR (op_eq.or (op_eqD (hu_of64 hr))) (pv 2) pe_int (nomark _)) (pw_and (pt_cmpR (op_eq.or (op_eqD (hu_of64 hr))) (pv 0) pe_str (nomark _)) (pw_and1 (pt_cmpR (op_eq.or (op_eqD (hu_of64 hr))) (pv 1) pe_str (nomark _))))))) (pss_one (ps_ret pe_str)) pss_nil) (pss_one (ps_ret pe_non)))) ?_
    unfold tlS at q
    (repeat array_get_dec)
    rw [intD]
    refine ite2 (fun h => ?_) (fun h => ?_)
    · rw [if_pos h] at q
      refine midV (if decide (k = "s") = true then .str "s" else .str "o") ?_ q
      (repeat array_get_dec)
      rw [strD]
      refine ite2 (fun h => ?_) (fun h => ?_)
      · (repeat array_get_dec)
        exact endV (by rw [if_pos h])
      · (repeat array_get_dec)
        exact endV (by rw [if_neg h])
    rw [if_neg h] at q
    refine midB (decide (n = 2) && (decide (k = "s") && decide (c = "2"))) ?_ ?_
    · (repeat array_get_dec)
      rw [intD]
      cases decide (n = 2) with
      | false => exact endB rfl
      | true =>
        refine iteT ?_
        (repeat array_get_dec)
        rw [strD]
        cases decide (k = "s") with
        | false => exact endB rfl
        | true =>
          refine iteT ?_
          (repeat array_get_dec)
          rw [strD]
          exact endB rfl
    refine ite2 (fun h => ?_) (fun h => ?_)
    · rw [if_pos h] at q
      (repeat array_get_dec)
      exact q
    rw [if_neg h] at q
    (repeat array_get_dec)
    exact q

end Mine

namespace Mine
open PySem L2
def sp_small_step : Sp := fun vs H Q _ => ∃ (z k : Str) (n : Int) (l c e : Nat), vs = [.str z, .str k, .int n] ∧ z.cps.toList = [51, l, c, e] ∧ (c = 48 ∨ c = 49 ∨ c = 50) ∧ z.length ≤ 4 ∧ Q (smS z k n) H
theorem ok_small_step {P : Program} {w : World} {K : PySem.W.Frag} {mg : Str → Option Value} {base : Heap} {t : Adr} (T : Txt K w mg t) : FnOk P w K mg base CX0 (0 + 2) t.f_small_step t.d_small_step ["state", "kind", "worth"] sp_small_step := by
  have G_told_last := ok_told_last (P := P) (w := w) (base := base) T
  refine T.F_small_step.ok sc_small_step (fun vs H Q E h => ?_) (fun cdv A outer s H vs Q E hr h => ?_)
  · obtain ⟨_, _, _, _, _, _, rfl, _⟩ := h
    rfl
  · obtain ⟨z, k, n, l, c, e, rfl, hz, hc, hl, q⟩ := h
    have hl' : z.length ≤ sizeLine := big4 (by omega)
    refine bodyOk (pss_cons (ps_if (pt_cmpR (op_eq.or (op_eqD (hu_of64 hr))) (pe_ix ix_seq (pv 0) pe_int (fun _ _ => rfl)) pe_str (nomark _)) (pss_one (ps_ret pe_non)) pss_nil) (pss_cons (ps_set (i := 3) sc_small_step.nd rfl (Or.inl rfl) (pe_ix ix_kd (pe_glob (v := .ref t.a_NEXT_COUNTS) rfl T.c_NEXT_COUNTS rfl) (pe_ix ix_seq (pv 0) pe_int (fun _ _ => rfl)) (fun _ _ => rfl))) (pss_cons (ps_set (i := 4) sc_small_step.nd rfl (Or.inl rfl) (pe_call G_told_last (hr.mono (by decide)) rfl T.mg_told_last T.F_told_last.kp T.b_told_last .nil pass0 (pa_cons (pv 1) (pa_cons (pv 3) (pa_cons (pv 2) pa_nil))))) (pss_cons (ps_if (pt_cmpR op_isN (pv 4) pe_non (nomark _)) (pss_one (ps_ret pe_non)) pss_nil) (pss_cons (ps_set (i := 5) sc_small_step.nd rfl (Or.inl rfl) (pe_mid (pe_ifExp (pt_cmpR (op_eq.or (op_eqD (hu_of64 hr))) (pe_ix ix_seq (pv 0) pe_int (fun _ _ => rfl)) pe_str (nomark _)) pe_str (pe_ix ix_seq (pv 0) pe_int (fun _ _ => rfl))))) (pss_one (ps_ret (pe_fstr (pps_cons pp_const (pps_cons (pp_val (pv 5)) (pps_cons (pp_val (pv 3)) (pps_cons (pp_val (pv 4)) pps_nil)))))))))))) ?_
    unfold smS at q
    (repeat array_get_dec)
    refine .inr (.inr ⟨_, _, e, rfl, rfl, hl', by rw [hz]; rfl, ?_⟩)
    (repeat array_get_dec)
    rw [one_dec e 83 (by decide +kernel)]
    have e3 : z.cps.toList.getD 3 0 = e := by rw [hz]; rfl
    have e2 : z.cps.toList.getD 2 0 = c := by rw [hz]; rfl
    have e1 : z.cps.toList.getD 1 0 = l := by rw [hz]; rfl
    rw [e3, e2] at q
    refine ite2 (fun h => ?_) (fun h => ?_)
    · rw [if_pos h] at q
      (repeat array_get_dec)
      exact q
    rw [if_neg h] at q
    (repeat array_get_dec)
    refine .inr (.inr ⟨_, _, c, rfl, rfl, hl', by rw [hz]; rfl, ?_⟩)
    refine ⟨_, _, _, .str (nxC c), rfl, rfl, T.kd_NEXT_COUNTS, by rcases hc with rfl | rfl | rfl <;> decide +kernel, ?_⟩
    (repeat array_get_dec)
    refine ⟨k, nxC c, n, rfl, ?_⟩
    (repeat array_get_dec)
    have cl := nxC_len c
    have ll := lfZ_len z
    have l3 : ("3" : Str).length = 1 := slen1 _ (.inr (.inr (.inr (.inl rfl))))
    have ls := slen1 "s" (.inl rfl)
    have lo := slen1 "o" (.inr (.inl rfl))
    have lS := slen1 "S" (.inr (.inr (.inl rfl)))
    generalize nxC c = cc at q cl
    rcases tlS_cases k cc n with ht | ht | ht | ht <;> rw [ht] at q ⊢
    · refine ⟨rfl, _, rfl, iteT ?_⟩
      (repeat array_get_dec)
      exact q
    all_goals
      refine ⟨rfl, _, rfl, iteF ?_⟩
      refine midV (.str (lfZ z)) ?_ ?_
      · (repeat array_get_dec)
        refine .inr (.inr ⟨_, _, l, rfl, rfl, hl', by rw [hz]; rfl, ?_⟩)
        (repeat array_get_dec)
        rw [one_dec l 116 (by decide +kernel)]
        unfold lfZ chr
        rw [e1]
        refine ite2 (fun h => ?_) (fun h => ?_)
        · (repeat array_get_dec)
          exact endV (by rw [if_pos h])
        · (repeat array_get_dec)
          refine .inr (.inr ⟨_, _, l, rfl, rfl, hl', by rw [hz]; rfl, ?_⟩)
          exact endV (by rw [if_neg h])
      refine ⟨?_, _, rfl, .inl ⟨_, rfl, ?_, ?_, _, rfl, .inl ⟨_, rfl, ?_, ?_, _, rfl, .inl ⟨_, rfl, ?_, ?_, ?_, ?_⟩⟩⟩⟩
      all_goals first
        | exact big4 (by omega)
        | exact big4 (by simp only [PySem.Str.empty_append, slen_app]; omega)
        | (rw [PySem.Str.empty_append]; exact q)

end Mine

namespace Mine
open PySem L2
def sp_parting_step : Sp := fun vs H Q _ => ∃ (z k : Str) (n : Int) (l c e : Nat), vs = [.str z, .str k, .int n] ∧ z.cps.toList = [51, l, c, e] ∧ z.length ≤ 4 ∧ Q (ptS z k n) H
theorem ok_parting_step {P : Program} {w : World} {K : PySem.W.Frag} {mg : Str → Option Value} {base : Heap} {t : Adr} (T : Txt K w mg t) : FnOk P w K mg base CX0 (0 + 2) t.f_parting_step t.d_parting_step ["state", "kind", "worth"] sp_parting_step := by
  have G_closes := ok_closes (P := P) (w := w) (base := base) T
  refine T.F_parting_step.ok sc_parting_step (fun vs H Q E h => ?_) (fun cdv A outer s H vs Q E hr h => ?_)
  · obtain ⟨_, _, _, _, _, _, rfl, _⟩ := h
    rfl
  · obtain ⟨z, k, n, l, c, e, rfl, hz, hl, q⟩ := h
    refine bodyOk (pss_cons (ps_if (pt_mid (PW.pt (pw_or (pt_cmpR (op_ne.or (op_neD (hu_of64 hr))) (pv 2) pe_int (nomark _)) (pw_or1 (pt_not (pt_val (pe_call G_closes (hr.mono (by decide)) rfl T.mg_closes T.F_closes.kp T.b_closes .nil pass0 (pa_cons (pv 0) pa_nil)))))))) (pss_one (ps_ret pe_non)) pss_nil) (pss_cons (ps_if (pt_cmpR (op_eq.or (op_eqD (hu_of64 hr))) (pv 1) pe_str (nomark _)) (pss_one (ps_ret (pe_glob (v := .str "2-") rfl T.c_TWOFOLD_BEGIN ⟨_, rfl⟩))) pss_nil) (pss_one (ps_ret (pe_glob (v := .str "3n0-") rfl T.c_THREEFOLD_BEGIN ⟨_, rfl⟩))))) ?_
    refine midB (!decide (n = 0) || !clZ z) ?_ ?_
    · (repeat array_get_dec)
      rw [intD]
      cases hn : decide (n = 0) with
      | false => exact endB rfl
      | true =>
        refine iteF ?_
        (repeat array_get_dec)
        refine ⟨z, l, c, e, rfl, hz, hl, ?_⟩
        have ec : clZ z = closesM l c := by unfold clZ; rw [hz]; rfl
        rw [← ec]
        exact ⟨_, rfl, rfl, rfl⟩
    unfold ptS at q
    refine ite2 (fun h => ?_) (fun h => ?_)
    · rw [if_pos h] at q
      (repeat array_get_dec)
      exact q
    rw [if_neg h] at q
    (repeat array_get_dec)
    rw [strD]
    refine ite2 (fun h => ?_) (fun h => ?_)
    · rw [if_pos h] at q
      (repeat array_get_dec)
      exact q
    rw [if_neg h] at q
    (repeat array_get_dec)
    exact q

end Mine

namespace Mine
open PySem L2
def sp_step (K : PySem.W.Frag) : Sp := fun vs H Q _ => ∃ (z : Str) (p : Addr) (g : Sg) (n : Int), vs = [.str z, .ref p, .int n] ∧ z ∈ ST ∧ SqT K H p [.str g.1.str, .int g.2] ∧ ∀ H', Same H H' → Q (stS z g.1 n) H'
theorem ok_step {P : Program} {w : World} {K : PySem.W.Frag} {mg : Str → Option Value} {base : Heap} {t : Adr} (T : Txt K w mg t) : FnOk P w K mg base CX0 (0 + 3) t.f_step t.d_step ["state", "sign", "worth"] (sp_step K) := by
  have G_small := ok_small (P := P) (w := w) (base := base) T
  have G_parting := ok_parting (P := P) (w := w) (base := base) T
  have G_great_step := ok_great_step (P := P) (w := w) (base := base) T
  have G_twofold_step := ok_twofold_step (P := P) (w := w) (base := base) T
  have G_small_step := ok_small_step (P := P) (w := w) (base := base) T
  have G_parting_step := ok_parting_step (P := P) (w := w) (base := base) T
  refine T.F_step.ok sc_step (fun vs H Q E h => ?_) (fun cdv A outer s H vs Q E hr h => ?_)
  · obtain ⟨_, _, _, _, rfl, _⟩ := h
    rfl
  · obtain ⟨z, p, g, n, rfl, hz, hp, q⟩ := h
    have hl := ST_size hz
    refine bodyOk (pss_cons (ps_if (pt_cmpR (op_in_seq.or op_in_str) (pv 0) (pe_glob (v := .ref t.a_TWOFOLD_STATES) rfl T.c_TWOFOLD_STATES rfl) rfl) (pss_one (ps_ret (pe_call G_twofold_step (hr.mono (by decide)) rfl T.mg_twofold_step T.F_twofold_step.kp T.b_twofold_step .nil pass0 (pa_cons (pv 0) (pa_cons (pe_ix ix_seq (pv 1) pe_int (fun _ _ => rfl)) (pa_cons (pv 2) pa_nil)))))) pss_nil) (pss_cons (ps_if (pt_val (pe_call G_small (hr.mono (by decide)) rfl T.mg_small T.F_small.kp T.b_small .nil pass0 (pa_cons (pv 1) pa_nil))) (pss_one (ps_ret (pe_call G_small_step (hr.mono (by decide)) rfl T.mg_small_step T.F_small_step.kp T.b_small_step .nil pass0 (pa_cons (pv 0) (pa_cons (pe_ix ix_seq (pv 1) pe_int (fun _ _ => rfl)) (pa_cons (pv 2) pa_nil)))))) pss_nil) (pss_cons (ps_if (pt_val (pe_call G_parting (hr.mono (by decide)) rfl T.mg_parting T.F_parting.kp T.b_parting .nil pass0 (pa_cons (pv 1) pa_nil))) (pss_one (ps_ret (pe_call G_parting_step (hr.mono (by decide)) rfl T.mg_parting_step T.F_parting_step.kp T.b_parting_step .nil pass0 (pa_cons (pv 0) (pa_cons (pe_ix ix_seq (pv 1) pe_int (fun _ _ => rfl)) (pa_cons (pv 2) pa_nil)))))) pss_nil) (pss_one (ps_ret (pe_call G_great_step (hr.mono (by decide)) rfl T.mg_great_step T.F_great_step.kp T.b_great_step .nil pass0 (pa_cons (pv 0) (pa_cons (pe_ix ix_seq (pv 1) pe_int (fun _ _ => rfl)) (pa_cons (pv 2) pa_nil))))))))) ?_
    unfold stS at q
    (repeat array_get_dec)
    refine .inl ⟨_, _, rfl, .inr (T.q_TWOFOLD_STATES _), rfl, rfl, ?_⟩
    rw [ST_in hz]
    (repeat array_get_dec)
    refine ite2 (fun h => ?_) (fun h => ?_)
    · have h : twoB z = true := h
      rw [if_pos h] at q
      refine ⟨_, rfl, _, rfl, ixK0 hp ⟨_, rfl, z, g.1.str, n, rfl, q⟩⟩
    have h : ¬ twoB z = true := h
    obtain ⟨l, c, e, h3⟩ := ST_three hz h
    rw [if_neg h] at q
    refine ⟨_, rfl, p, g, rfl, hp, _, rfl, ?_⟩
    refine ite2 (fun h => ?_) (fun h => ?_)
    · rw [if_pos h] at q
      exact ⟨_, rfl, _, rfl, ixK0 hp ⟨_, rfl, z, g.1.str, n, l, c, e, rfl, h3, ST_c hz h3, hl, q H (Same.refl _)⟩⟩
    rw [if_neg h] at q
    refine ⟨_, rfl, p, g, rfl, hp, _, rfl, ?_⟩
    refine ite2 (fun h => ?_) (fun h => ?_)
    · rw [if_pos h] at q
      exact ⟨_, rfl, _, rfl, ixK0 hp ⟨_, rfl, z, g.1.str, n, l, c, e, rfl, h3, hl, q H (Same.refl _)⟩⟩
    rw [if_neg h] at q
    exact ⟨_, rfl, _, rfl, ixK0 hp ⟨_, rfl, z, g.1.str, n, l, c, e, rfl, h3, hl, q⟩⟩

end Mine

namespace Mine
open PySem L2
def sp_moves (K : PySem.W.Frag) : Sp := fun vs H Q _ => ∃ (z : Str) (sg : Addr) (n : Int) (pz : Addr) (ys : List V) (ss : List Sg) (c : Prc), vs = [.str z, .ref sg, .int n, .ref pz] ∧ z ∈ ST ∧ 0 ≤ n ∧ n ≤ 9 ∧ SqT K H sg ys ∧ Paired (SgK K H) ys ss ∧ ss.length ≤ 10 ∧ H pz = some (.tup [pvO c.1, pvO c.2.1, pvO c.2.2]) ∧
  ∀ (l : Addr) (xs : List V) (H' : Hp), Same H H' → H l = none → H' l = some (.lst xs) → Paired (MvK K H') xs (movesL c z n ss) → Q (.ref l) H'
theorem ok_moves {P : Program} {w : World} {K : PySem.W.Frag} {mg : Str → Option Value} {base : Heap} {t : Adr} (T : Txt K w mg t) : FnOk P w K mg base CX0 (0 + 4) t.f_moves t.d_moves ["state", "signs", "worth", "prices"] (sp_moves K) := by
  have G_sign_price := ok_sign_price (P := P) (w := w) (base := base) T
  have G_step := ok_step (P := P) (w := w) (base := base) T
  refine T.F_moves.ok sc_moves (fun vs H Q E h => ?_) (fun cdv A outer s H vs Q E hr h => ?_)
  · obtain ⟨_, _, _, _, _, _, _, rfl, _⟩ := h
    rfl
  · obtain ⟨z, sg, n, pz, ys, ss, c, rfl, hz, h0, h9, hsg, hss, hl, hpz, q⟩ := h
    refine bodyOk (pss_cons (ps_set (i := 4) sc_moves.nd rfl (Or.inl rfl) (pe_lst pa_nil)) (pss_cons (ps_for PassesOwn.never rfl (pi_tup (pv 1)) (pg_name (i := 5) sc_moves.nd rfl (Or.inl rfl)) (pss_cons (ps_set (i := 6) sc_moves.nd rfl (Or.inl rfl) (pe_call G_sign_price (hr.mono (by decide)) rfl T.mg_sign_price T.F_sign_price.kp T.b_sign_price .nil pass0 (pa_cons (pv 5) (pa_cons (pv 3) pa_nil)))) (pss_cons (ps_set (i := 7) sc_moves.nd rfl (Or.inl rfl) (pe_call G_step (hr.mono (by decide)) rfl T.mg_step T.F_step.kp T.b_step .nil pass0 (pa_cons (pv 0) (pa_cons (pv 5) (pa_cons (pv 2) pa_nil))))) (pss_one (ps_if (pt_mid (PW.pt (pw_and (pt_cmpR op_notN (pv 6) pe_non (nomark _)) (pw_and1 (pt_cmpR op_notN (pv 7) pe_non (nomark _)))))) (pss_one (ps_expr (pe_bm PySem.F.plainAttrs_list PySem.F.slot_list_append PySem.F.type_list_append mt_append (pv 4) (pa_cons (pe_tup (pa_cons (pv 5) (pa_cons (pv 6) (pa_cons (pv 7) pa_nil)))) pa_nil)))) pss_nil))))) (pss_one (ps_ret (pv 4))))) ?_
    refine ⟨big (by show 0 ≤ 1000; omega), fun f hf => ?_⟩
    have s0 := Same.upd (o := .lst []) hf
    (repeat array_get_dec)
    refine ⟨⟨ys, s0.tup hsg⟩, for_tup (K := K) (xs := ys) (fun i σ H' => ∃ (u v w : Option V) (xs : List V), σ = [some (.str z), some (.ref sg), some (.int n), some (.ref pz), some (.ref f), u, v, w] ∧ Same H H' ∧ H' f = some (.lst xs) ∧ Paired (MvK K H') xs (movesL c z n (ss.take i)) ∧ i ≤ ss.length)
      ⟨none, none, none, [], rfl, s0, upd_same, .nil, Nat.zero_le _⟩ ?_ ?_ ?_⟩
    · rintro i σ H' _ ⟨u, v, w, xs, rfl, s1, _⟩
      exact s1.tup hsg
    · rintro i x σ H' hx ⟨u, v, w, xs, rfl, s1, hf1, p1, il⟩
      obtain ⟨s, hs, p, rfl, hp⟩ := pget hss hx
      have il2 : i < ss.length := (List.getElem?_eq_some_iff.mp hs).1
      have hp1 := s1.tup hp
      have xl : xs.length ≤ 10 := by
        rw [plen p1]
        exact Nat.le_trans (moves_len _ _ _ _) (by rw [List.length_take]; omega)
      have ht := moves_take (c := c) (z := z) (n := n) hs
      unfold mvOf at ht
      (repeat array_get_dec)
      refine ⟨p, pz, s, c, rfl, hp1, s1 _ _ hpz, ?_⟩
      (repeat array_get_dec)
      refine ⟨z, p, s, n, rfl, hz, hp1, fun H2 s2 => ?_⟩
      have sF := s1.trans s2
      have pF := pmono (fun _ _ q => MvK.kn s2.kn q) p1
      have hfF := s2 _ _ hf1
      rcases st_ok hz s.1 h0 h9 with ⟨e1, e2⟩ | ⟨y, hy, e1, e2⟩
      · rw [e2] at ht
        have ht : movesL c z n (ss.take (i + 1)) = movesL c z n (ss.take i) := by
          rw [ht]
          cases costOf c s.1 <;> exact List.append_nil _
        rw [e1]
        refine ⟨fun b H3 => H3 = H2 ∧ b = false, ?_, ?_⟩
        · cases costOf c s.1 with
          | none =>
            (repeat array_get_dec)
            exact ⟨rfl, _, rfl, iteF ⟨rfl, rfl⟩⟩
          | some m =>
            (repeat array_get_dec)
            refine ⟨rfl, _, rfl, iteT ?_⟩
            (repeat array_get_dec)
            exact ⟨rfl, _, rfl, rfl, rfl⟩
        · rintro _ _ ⟨rfl, rfl⟩
          exact iteF ⟨_, _, _, xs, rfl, sF, hfF, by rw [ht]; exact pF, il2⟩
      · rw [e2] at ht
        rw [e1]
        cases ec : costOf c s.1 with
        | none =>
          rw [ec] at ht
          have ht : movesL c z n (ss.take (i + 1)) = movesL c z n (ss.take i) := by rw [ht]; exact List.append_nil _
          refine ⟨fun b H3 => H3 = H2 ∧ b = false, ?_, ?_⟩
          · (repeat array_get_dec)
            exact ⟨rfl, _, rfl, iteF ⟨rfl, rfl⟩⟩
          · rintro _ _ ⟨rfl, rfl⟩
            exact iteF ⟨_, _, _, xs, rfl, sF, hfF, by rw [ht]; exact pF, il2⟩
        | some m =>
          rw [ec] at ht
          refine ⟨fun b H3 => H3 = H2 ∧ b = true, ?_, ?_⟩
          · (repeat array_get_dec)
            refine ⟨rfl, _, rfl, iteT ?_⟩
            (repeat array_get_dec)
            exact ⟨rfl, _, rfl, rfl, rfl⟩
          · rintro _ _ ⟨rfl, rfl⟩
            refine iteT ?_
            (repeat array_get_dec)
            refine ⟨.inl ⟨rfl, _, SqL.of hfF⟩, ?_⟩
            (repeat array_get_dec)
            refine ⟨by show 3 ≤ sizeLine; decide, fun tp htp => ?_⟩
            have sT := Same.upd (o := .tup [.ref p, .int m, .str y]) htp
            have hfT := sT _ _ hfF
            refine ⟨f, xs, _, rfl, rfl, hfT, small1000 (by omega), ?_⟩
            refine ⟨_, _, _, _, rfl, sameOwn (sF.trans sT) hf, upd_same, ?_, il2⟩
            rw [ht]
            exact pmono (fun _ _ q => MvK.write hfT q) (psnoc (pmono (fun _ _ q => MvK.kn sT.kn q) pF) ⟨tp, p, rfl, upd_same, (s2.trans sT).tup hp1⟩)
    · rintro σ H' ⟨u, v, w, xs, rfl, s1, hf1, p1, _⟩
      rw [plen hss, List.take_length] at p1
      (repeat array_get_dec)
      exact q f xs H' s1 hf hf1 p1

end Mine

namespace Mine
open PySem L2
def sp_parting_moves (K : PySem.W.Frag) : Sp := fun vs H Q _ => ∃ (z : Str) (pz : Addr) (c : Prc), vs = [.str z, .ref pz] ∧ z ∈ ST ∧ H pz = some (.tup [pvO c.1, pvO c.2.1, pvO c.2.2]) ∧
  ∀ (l : Addr) (xs : List V) (H' : Hp), Same H H' → H l = none → H' l = some (.lst xs) → Paired (MvK K H') xs (movesL c z 0 partS) → Q (.ref l) H'
theorem ok_parting_moves {P : Program} {w : World} {K : PySem.W.Frag} {mg : Str → Option Value} {base : Heap} {t : Adr} (T : Txt K w mg t) : FnOk P w K mg base CX0 (0 + 5) t.f_parting_moves t.d_parting_moves ["state", "prices"] (sp_parting_moves K) := by
  have G_moves := ok_moves (P := P) (w := w) (base := base) T
  refine T.F_parting_moves.ok sc_parting_moves (fun vs H Q E h => ?_) (fun cdv A outer s H vs Q E hr h => ?_)
  · obtain ⟨_, _, _, rfl, _⟩ := h
    rfl
  · obtain ⟨z, pz, c, rfl, hz, hpz, q⟩ := h
    refine bodyOk (pss_one (ps_ret (pe_call G_moves (hr.mono (by decide)) rfl T.mg_moves T.F_moves.kp T.b_moves .nil pass0 (pa_cons (pv 0) (pa_cons (pe_glob (v := .ref t.a_PARTING_SIGNS) rfl T.c_PARTING_SIGNS rfl) (pa_cons pe_int (pa_cons (pv 1) pa_nil))))))) ?_
    (repeat array_get_dec)
    exact ⟨z, _, 0, pz, _, partS, c, rfl, hz, by decide, by decide, T.q_PARTING_SIGNS _, .cons ⟨_, rfl, T.q_PARTING_SIGNS_0 _⟩ (.cons ⟨_, rfl, T.q_PARTING_SIGNS_1 _⟩ (.cons ⟨_, rfl, T.q_PARTING_SIGNS_2 _⟩ .nil)), by decide, hpz, q⟩

end Mine

namespace Mine
open PySem L2
def sp_keep_cheaper (K : PySem.W.Frag) : Sp := fun vs H Q _ => ∃ (A : Addr → Prop) (d l : Addr) (z : Str) (c : Int) (kvs : List (Key × V)) (ws : List Wy) (ys : List V) (ln : List Sg), vs = [.ref d, .str z, .int c, .ref l] ∧ H d = some (.dK kvs) ∧ kvs.length ≤ 900 ∧ Paired (WyK K A H) kvs ws ∧ A l ∧ H l = some (.lst ys) ∧ Paired (SgK K H) ys ln ∧
  ∀ (kvs' : List (Key × V)) (H' : Hp), (∀ b o, b ≠ d → H b = some o → H' b = some o) → H' d = some (.dK kvs') → Paired (WyK K A H') kvs' (keepW ws z c ln) → Q .non H'
theorem ok_keep_cheaper {P : Program} {w : World} {K : PySem.W.Frag} {mg : Str → Option Value} {base : Heap} {t : Adr} (T : Txt K w mg t) : FnOk P w K mg base CX0 (0 + 1) t.f_keep_cheaper t.d_keep_cheaper ["ways", "state", "cost", "line"] (sp_keep_cheaper K) := by
  refine T.F_keep_cheaper.ok sc_keep_cheaper (fun vs H Q E h => ?_) (fun cdv A outer s H vs Q E hr h => ?_)
  · obtain ⟨_, _, _, _, _, _, _, _, _, rfl, _⟩ := h
    rfl
  · obtain ⟨A', d, l, z, c, kvs, ws, ys, ln, rfl, hd, hk, hws, hA, hl, hln, q⟩ := h
    refine bodyOk (pss_one (ps_if (pt_mid (PW.pt (pw_or (pt_cmp (pc_dnotin (hu_of hr) (pv 1) (pv 0))) (pw_or1 (pt_cmpR op_lt (pv 2) (pe_ix ix_seq (pe_dget (hu_of hr) (pv 0) (pv 1) (fun _ _ => rfl)) pe_int (fun _ _ => rfl)) (nomark _)))))) (pss_one (ps_dput (hu_of hr) (pv 0) (pv 1) (pe_tup (pa_cons (pv 2) (pa_cons (pv 3) pa_nil))) rfl)) pss_nil)) ?_
    have fin : ∀ tp, H tp = none → putW ws z c ln = keepW ws z c ln → Q .non (upd (upd H tp (.tup [.int c, .ref l])) d (.dK (putK kvs (Sum.inr z) (.ref tp)))) := fun tp htp hu => by
      have sT := Same.upd (o := .tup [.int c, .ref l]) htp
      have hd2 := sT _ _ hd
      have kn := Kn.put (u := .dK (putK kvs (Sum.inr z) (.ref tp))) hd2 rfl
      refine q _ _ (fun b o hb e => by rw [upd_ne hb]; exact sT _ _ e) upd_same ?_
      have := WyK.put (WyK.kns sT.kn hws) (z := z) (v := .ref tp) (c := c) (ln := ln) ⟨rfl, tp, l, ys, rfl, hA, upd_same, sT _ _ hl, SgK.kns sT.kn hln⟩
      rw [hu] at this
      exact WyK.kns kn this
    rcases WyK.val hws z with ⟨e1, e2⟩ | ⟨⟨k, ol⟩, v, e1, e2, e3⟩
    · refine midB true ?_ (iteT ?_)
      · refine ⟨_, rfl, _, rfl, d, _, rfl, DGet.k (k := Sum.inr z) hd, ?_⟩
        rw [e2]
        exact ⟨_, rfl, iteT ⟨rfl, rfl⟩⟩
      · (repeat array_get_dec)
        refine ⟨by show 2 ≤ sizeLine; decide, fun tp htp => ?_⟩
        refine ⟨_, rfl, _, rfl, d, _, rfl, DPut.k (k := Sum.inr z) ((Same.upd htp) _ _ hd) (small1000 (by omega)), ?_⟩
        exact fin tp htp (by unfold putW keepW; rw [e1])
    · obtain ⟨_, tq, lq, yq, rfl, _, hq, _⟩ := e3
      refine midB (decide (c < k)) ?_ ?_
      · refine ⟨_, rfl, _, rfl, d, _, rfl, DGet.k (k := Sum.inr z) hd, ?_⟩
        rw [e2]
        refine ⟨_, rfl, iteF ?_⟩
        (repeat array_get_dec)
        have g := DGet.k (k := Sum.inr z) hd
        rw [e2] at g
        refine ⟨d, _, rfl, g, ?_⟩
        (repeat array_get_dec)
        exact ⟨rfl, rfl⟩
      refine ite2 (fun h => ?_) (fun h => ?_)
      · (repeat array_get_dec)
        refine ⟨by show 2 ≤ sizeLine; decide, fun tp htp => ?_⟩
        refine ⟨_, rfl, _, rfl, d, _, rfl, DPut.k (k := Sum.inr z) ((Same.upd htp) _ _ hd) (small1000 (by omega)), ?_⟩
        exact fin tp htp (by
          unfold putW keepW; rw [e1]
          exact (if_pos (of_decide_eq_true h)).symm)
      · refine q kvs H (fun _ _ _ e => e) hd ?_
        unfold keepW
        rw [e1]
        show Paired _ _ (if c < k then _ else _)
        rw [if_neg (fun z => h (decide_eq_true z))]
        exact hws

end Mine

namespace Mine
open PySem L2
def sp_with_parting_signs (K : PySem.W.Frag) : Sp := fun vs H Q _ => ∃ (A : Addr → Prop) (d pz : Addr) (c : Prc) (kvs : List (Key × V)) (ws : List Wy) (B : Nat), vs = [.ref d, .ref pz] ∧ H d = some (.dK kvs) ∧ Paired (WyK K A H) kvs ws ∧ WsOk B ws ∧ B ≤ 100000 ∧ (∀ l, H l = none → A l) ∧ H pz = some (.tup [pvO c.1, pvO c.2.1, pvO c.2.2]) ∧
  ∀ (f : Addr) (kvs' : List (Key × V)) (H' : Hp), Same H H' → H f = none → H' f = some (.dK kvs') → Paired (WyK K A H') kvs' (withPart c ws) → Q (.ref f) H'
theorem ok_with_parting_signs {P : Program} {w : World} {K : PySem.W.Frag} {mg : Str → Option Value} {base : Heap} {t : Adr} (T : Txt K w mg t) : FnOk P w K mg base CX0 (0 + 6) t.f_with_parting_signs t.d_with_parting_signs ["ways", "prices"] (sp_with_parting_signs K) := by
  have G_parting_moves := ok_parting_moves (P := P) (w := w) (base := base) T
  have G_keep_cheaper := ok_keep_cheaper (P := P) (w := w) (base := base) T
  refine T.F_with_parting_signs.ok sc_with_parting_signs (fun vs H Q E h => ?_) (fun cdv A outer s H vs Q E hr h => ?_)
  · obtain ⟨_, _, _, _, _, _, _, rfl, _⟩ := h
    rfl
  · obtain ⟨A', d, pz, c, kvs, ws, B, rfl, hd, hws, wok, hB, hA, hpz, q⟩ := h
    have wl := wok.len
    refine bodyOk (pss_cons (ps_set (i := 2) sc_with_parting_signs.nd rfl (Or.inl rfl) (pe_callTy call_dictD rfl T.nb_dict bt_dict (pa_cons (pv 0) pa_nil))) (pss_cons (ps_for PassesOwn.never rfl (pi_range1 rfl T.nb_range (pa_cons (pe_glob (v := .int 2) rfl T.c_MOST_PARTING_SIGNS ⟨_, rfl⟩) pa_nil)) (pg_name (i := 3) sc_with_parting_signs.nd rfl (Or.inl rfl)) (pss_one (ps_for PassesOwn.never rfl (pi_list (pe_callTy call_listD rfl T.nb_list bt_list (pa_cons (pv 2) pa_nil))) (pg_name (i := 4) sc_with_parting_signs.nd rfl (Or.inl rfl)) (pss_cons (ps_asg (pe_dget (hu_of hr) (pv 2) (pv 4) (fun _ _ => rfl)) (pg_tup rfl (pgs_cons (pg_name (i := 5) sc_with_parting_signs.nd rfl (Or.inl rfl)) (pgs_cons (pg_name (i := 6) sc_with_parting_signs.nd rfl (Or.inl rfl)) pgs_nil)))) (pss_one (ps_for PassesOwn.never rfl (pi_list (pe_call G_parting_moves (hr.mono (by decide)) rfl T.mg_parting_moves T.F_parting_moves.kp T.b_parting_moves .nil pass0 (pa_cons (pv 4) (pa_cons (pv 1) pa_nil)))) (pg_tup rfl (pgs_cons (pg_name (i := 7) sc_with_parting_signs.nd rfl (Or.inl rfl)) (pgs_cons (pg_name (i := 8) sc_with_parting_signs.nd rfl (Or.inl rfl)) (pgs_cons (pg_name (i := 9) sc_with_parting_signs.nd rfl (Or.inl rfl)) pgs_nil)))) (pss_one (ps_expr (pe_call G_keep_cheaper (hr.mono (by decide)) rfl T.mg_keep_cheaper T.F_keep_cheaper.kp T.b_keep_cheaper .nil pass0 (pa_cons (pv 2) (pa_cons (pv 9) (pa_cons (pe_op (op_add.or (op_add_str.or op_cat)) (pv 5) (pv 8)) (pa_cons (pe_op (op_add.or (op_add_str.or op_cat)) (pv 6) (pe_lst (pa_cons (pv 7) pa_nil))) pa_nil))))))))))))) (pss_one (ps_ret (pv 2))))) ?_
    (repeat array_get_dec)
    refine ⟨d, kvs, rfl, .inl hd, fun f hf => ?_⟩
    have s0 := Same.upd (o := .dK kvs) hf
    (repeat array_get_dec)
    refine ⟨by decide, by decide, for_range (n := 2) (fun i σ H' => ∃ (v1 v2 v3 v4 v5 v6 v7 : Option V) (kvs : List (Key × V)), σ = [some (.ref d), some (.ref pz), some (.ref f), v1, v2, v3, v4, v5, v6, v7] ∧ Same H H' ∧ H' f = some (.dK kvs) ∧ Paired (WyK K A' H') kvs (accP c ws i) ∧ i ≤ 2)
      ⟨none, none, none, none, none, none, none, kvs, rfl, s0, upd_same, WyK.kns s0.kn hws, by decide⟩ ?_ ?_⟩
    · rintro i σ H' hi ⟨v1, v2, v3, v4, v5, v6, v7, kvs1, rfl, s1, hf1, w1, il⟩
      have aok := accP_ok (c := c) wok i
      generalize hac : accP c ws i = ac at w1 aok
      have acl := aok.len
      refine ⟨_, rfl, rfl, f, kvs1, rfl, .inl hf1, fun l1 hl1 => ?_⟩
      rw [wsKeys w1]
      have s2 := Same.upd (o := .lst ((ac.map (·.1)).map V.str)) hl1
      have h2 := upd_same (H := H') (a := l1) (o := .lst ((ac.map (·.1)).map V.str))
      have nl : H l1 = none := s1.free hl1
      generalize upd H' l1 (.lst ((ac.map (·.1)).map V.str)) = H2 at s2 h2
      refine ⟨l1, rfl, ⟨_, SqL.of h2⟩, for_list (K := K) (xs := (ac.map (·.1)).map V.str) (fun j σ H' => ∃ (v2 v3 v4 v5 v6 v7 : Option V) (kvs : List (Key × V)), σ = [some (.ref d), some (.ref pz), some (.ref f), some (.int (0 + (i : Int))), v2, v3, v4, v5, v6, v7] ∧ Same H H' ∧ H' l1 = some (.lst ((ac.map (·.1)).map V.str)) ∧ H' f = some (.dK kvs) ∧ Paired (WyK K A' H') kvs (partR c ((ac.map (·.1)).take j) ac) ∧ j ≤ ac.length)
        ⟨v2, v3, v4, v5, v6, v7, kvs1, rfl, s1.trans s2, h2, s2 _ _ hf1, WyK.kns s2.kn w1, Nat.zero_le _⟩ ?_ ?_ ?_⟩
      · rintro j σ H' _ ⟨v2, v3, v4, v5, v6, v7, kvs, rfl, _, h3, _⟩
        exact SqL.of h3
      · rintro j x σ H3 hx ⟨v2, v3, v4, v5, v6, v7, kvs3, rfl, s3, h3, hf3, w3, jl⟩
        obtain ⟨z, hz0, rfl⟩ := map_get hx
        have jl2 : j < ac.length := by have := (List.getElem?_eq_some_iff.mp hz0).1; rwa [List.length_map] at this
        have hzm : z ∈ ac.map (·.1) := List.mem_of_getElem? hz0
        have hz : z ∈ ST := by
          obtain ⟨w, hw, rfl⟩ := List.mem_map.mp hzm
          exact aok.st w hw
        have cok := partR_ok (c := c) (zs := (ac.map (·.1)).take j) (acc := ac) (fun y hy => by
          obtain ⟨w, hw, rfl⟩ := List.mem_map.mp (List.mem_of_mem_take hy)
          exact aok.st w hw) aok
        have hck := partR_keys c ((ac.map (·.1)).take j) ac hzm
        have hnx : partR c ((ac.map (·.1)).take (j + 1)) ac = partZ c (partR c ((ac.map (·.1)).take j) ac) z := by rw [List.take_succ, hz0]; exact partR_snoc c _ z ac
        have lt28 : ((ac.map (·.1)).take j).length ≤ 28 := by rw [List.length_take, List.length_map]; omega
        generalize partR c ((ac.map (·.1)).take j) ac = cu at w3 cok hck hnx
        obtain ⟨⟨k0, ql⟩, hq0⟩ := getW_some hck
        have qll : ql.length ≤ B + 28 * i + 28 := Nat.le_trans (cok.ln _ (getW_mem hq0)) (by omega)
        rcases WyK.val w3 z with ⟨e1, _⟩ | ⟨q1, v, e1, e2, e3⟩
        · rw [e1] at hq0; cases hq0
        rw [hq0] at e1
        obtain rfl : (k0, ql) = q1 := Option.some.inj e1
        obtain ⟨_, tq, lq, yq, rfl, _, htq, hlq, pq⟩ := e3
        have g := DGet.k (k := Sum.inr z) hf3
        rw [e2] at g
        refine ⟨_, rfl, _, rfl, f, _, rfl, g, ?_⟩
        refine ⟨tq, _, rfl, SqT.of htq, rfl, _, _, rfl, _, _, rfl, rfl, ?_⟩
        refine ⟨_, rfl, _, rfl, z, pz, c, rfl, hz, s3 _ _ hpz, fun l3 xs3 H4 s4 n4 h4 p4 => ?_⟩
        have hst : partZ c cu z = stepW k0 ql (movesL c z 0 partS) cu := by unfold partZ; rw [hq0]
        have msok : ∀ m ∈ movesL c z 0 partS, m.2.2 ∈ ST := fun m hm => moves_part hz hm
        generalize movesL c z 0 partS = ms at p4 hst msok
        refine ⟨l3, rfl, ⟨_, SqL.of h4⟩, for_list (K := K) (xs := xs3) (fun k σ H' => ∃ (v5 v6 v7 : Option V) (kvs : List (Key × V)), σ = [some (.ref d), some (.ref pz), some (.ref f), some (.int (0 + (i : Int))), some (.str z), some (.int k0), some (.ref lq), v5, v6, v7] ∧ Same H H' ∧ H' l1 = some (.lst ((ac.map (·.1)).map V.str)) ∧ H' l3 = some (.lst xs3) ∧ Paired (MvK K H') xs3 ms ∧ H' lq = some (.lst yq) ∧ Paired (SgK K H') yq ql ∧ H' f = some (.dK kvs) ∧ Paired (WyK K A' H') kvs (stepW k0 ql (ms.take k) cu) ∧ k ≤ ms.length)
          ⟨v5, v6, v7, kvs3, rfl, s3.trans s4, s4 _ _ h3, h4, p4, s4 _ _ hlq, SgK.kns s4.kn pq, s4 _ _ hf3, WyK.kns s4.kn w3, Nat.zero_le _⟩ ?_ ?_ ?_⟩
        · rintro k σ H' _ ⟨v5, v6, v7, kvs, rfl, _, _, h5, _⟩
          exact SqL.of h5
        · rintro k y σ H5 hy ⟨v5, v6, v7, kvs5, rfl, s5, hl5, hm5, p5, hq5, pq5, hf5, w5, kl⟩
          obtain ⟨m, hm, p, qq, rfl, hp, hqq⟩ := pget p5 hy
          have kl2 : k < ms.length := (List.getElem?_eq_some_iff.mp hm).1
          refine ⟨p, _, rfl, SqT.of hp, rfl, _, _, rfl, _, _, rfl, _, _, rfl, rfl, ?_⟩
          (repeat array_get_dec)
          refine ⟨by show 1 ≤ sizeLine; decide, fun a1 ha1 => ?_⟩
          have s6 := Same.upd (o := .lst [.ref qq]) ha1
          have hq6 := s6 _ _ hq5
          refine .inr (.inr ⟨lq, a1, yq, [.ref qq], rfl, rfl, hq6, upd_same, ?_, fun a2 ha2 => ?_⟩)
          · rw [plen pq5]
            exact Nat.le_trans (show ql.length + 1 ≤ 1000000 by omega) (by decide)
          have s7 := s6.trans (Same.upd (o := .lst (yq ++ [.ref qq])) ha2)
          have h7 := upd_same (H := upd H5 a1 (.lst [.ref qq])) (a := a2) (o := .lst (yq ++ [.ref qq]))
          generalize upd (upd H5 a1 (.lst [.ref qq])) a2 (.lst (yq ++ [.ref qq])) = H7 at s7 h7
          have w7 := WyK.kns s7.kn w5
          have sok := stepW_ok (B := B + 28 * i + 28 + 1) (k := k0) (ln := ql) (ms := ms.take k) (acc := cu) (by omega) (fun x hx => msok x (List.mem_of_mem_take hx)) (cok.mono (by omega))
          refine ⟨A', f, a2, _, _, kvs5, _, _, ql ++ [m.1], rfl, s7 _ _ hf5, by rw [plen w5]; have := sok.len; omega, w7, hA _ ((s5.trans s6).free ha2), h7, psnoc (SgK.kns s7.kn pq5) ⟨qq, rfl, s7.tup hqq⟩, fun kvs8 H8 fr8 h8 w8 => ?_⟩
          have kn := Kn.of (s7 _ _ hf5) fr8
          refine ⟨_, _, _, kvs8, rfl, fun b o e => fr8 b o (ne_of_none e hf) (s7 _ _ (s5 b o e)), kn _ _ (s7 _ _ hl5) rfl, kn _ _ (s7 _ _ hm5) rfl, pmono (fun _ _ q => MvK.kn (s7.kn.trans kn) q) p5, kn _ _ (s7 _ _ hq5) rfl, SgK.kns (s7.kn.trans kn) pq5, h8, ?_, kl2⟩
          have est : stepW k0 ql (ms.take (k + 1)) cu = keepW (stepW k0 ql (ms.take k) cu) m.2.2 (k0 + m.2.1) (ql ++ [m.1]) := by
            rw [List.take_succ, hm]
            unfold stepW
            rw [List.foldl_append]
            rfl
          rw [est]
          exact w8
        · rintro σ H5 ⟨v5, v6, v7, kvs5, rfl, s5, hl5, hm5, p5, hq5, pq5, hf5, w5, _⟩
          rw [plen p5, List.take_length, ← hst] at w5
          exact ⟨_, _, _, _, _, _, kvs5, rfl, s5, hl5, hf5, by rw [hnx]; exact w5, jl2⟩
      · rintro σ H3 ⟨v2, v3, v4, v5, v6, v7, kvs3, rfl, s3, h3, hf3, w3, jl⟩
        rw [List.length_map, List.length_map, ← List.length_map (f := Prod.fst), List.take_length] at w3
        refine ⟨_, _, _, _, _, _, _, kvs3, rfl, s3, hf3, ?_, hi⟩
        show Paired _ _ (partR c ((accP c ws i).map (·.1)) (accP c ws i))
        rw [hac]
        exact w3
    · rintro σ H' ⟨v1, v2, v3, v4, v5, v6, v7, kvs1, rfl, s1, hf1, w1, il⟩
      (repeat array_get_dec)
      exact q f kvs1 H' s1 hf hf1 w1

end Mine

namespace Mine
open PySem L2
def sp_costs (K : PySem.W.Frag) : Sp := fun vs H Q _ => ∃ (A : Addr → Prop) (d : Addr) (kvs : List (Key × V)) (ws : List Wy), vs = [.ref d] ∧ H d = some (.dK kvs) ∧ Paired (WyK K A H) kvs ws ∧ ws.length ≤ 900 ∧
  ∀ (l : Addr) (xs : List V) (H' : Hp), Same H H' → H l = none → H' l = some (.lst xs) → Paired (CsK H') xs (costsL ws) → Q (.ref l) H'
theorem ok_costs {P : Program} {w : World} {K : PySem.W.Frag} {mg : Str → Option Value} {base : Heap} {t : Adr} (T : Txt K w mg t) : FnOk P w K mg base CX0 (0 + 1) t.f_costs t.d_costs ["ways"] (sp_costs K) := by
  refine T.F_costs.ok sc_costs (fun vs H Q E h => ?_) (fun cdv A outer s H vs Q E hr h => ?_)
  · obtain ⟨_, _, _, _, rfl, _⟩ := h
    rfl
  · obtain ⟨A', d, kvs, ws, rfl, hd, hws, hl, q⟩ := h
    refine bodyOk (pss_one (ps_ret (pe_thaw (pe_comp (cn := ["state", "cost", "line"]) rfl (CompFit.of rfl) (pi_items (pv 0)) (fun _ => (pg_tup rfl (pgs_cons (pg_name (i := 0) nd_costs_0 rfl (Or.inl rfl)) (pgs_cons (pg_tup rfl (pgs_cons (pg_name (i := 1) nd_costs_0 rfl (Or.inl rfl)) (pgs_cons (pg_name (i := 2) nd_costs_0 rfl (Or.inl rfl)) pgs_nil))) pgs_nil)))) (fun _ => pf_nil) (fun _ => (pe_tup (pa_cons (pv 0) (pa_cons (pv 1) pa_nil)))))))) ?_
    refine ⟨_, rfl, d, kvs, rfl, hd, fun o D b hD => ?_⟩
    have kn0 := Kn.put (u := .frz o (.dK kvs)) hd rfl
    have sx0 : ∀ b u, b ≠ d → H b = some u → upd H d (.frz o (.dK kvs)) b = some u := fun b u hb e => by rw [upd_ne hb]; exact e
    have hd1 := upd_same (H := H) (a := d) (o := .frz o (.dK kvs))
    have w1 := WyK.kns kn0 hws
    have nDd : D ≠ d := fun e => by rw [e, hd1] at hD; cases hD
    have hD0 : H D = none := by rw [upd_ne nDd] at hD; exact hD
    generalize upd H d (.frz o (.dK kvs)) = H1 at sx0 hd1 w1 hD
    have s1 := Same.upd (o := .lst []) hD
    refine comp_items (fun i ys σ H' => ∃ (v1 v2 v3 : Option V), σ = [v1, v2, v3, some (.ref d)] ∧ Same H1 H' ∧ H' D = some (.lst ys) ∧ Paired (CsK H') ys (costsL (ws.take i)) ∧ i ≤ ws.length)
      ⟨none, none, none, rfl, s1, upd_same, .nil, Nat.zero_le _⟩ ?_ ?_ ?_
    · rintro i ys σ H' ⟨v1, v2, v3, rfl, s2, _⟩
      exact s2 _ _ hd1
    · rintro i ys kv tt σ H2 hkv ⟨v1, v2, v3, rfl, s2, hD2, p2, il⟩ htt N hN
      obtain ⟨⟨z, k0, ql⟩, hw, hk1, tq, lq, yq, hk2, _, htq, hlq, pq⟩ := pget w1 hkv
      have hk1 : kv.1 = Sum.inr z := hk1
      have il2 : i < ws.length := (List.getElem?_eq_some_iff.mp hw).1
      rw [hk1, hk2]
      have st := Same.upd (o := .tup [kV (Sum.inr z), .ref tq]) htt
      have h3 := upd_same (H := H2) (a := tt) (o := .tup [kV (Sum.inr z), .ref tq])
      generalize upd H2 tt (.tup [kV (Sum.inr z), .ref tq]) = H3 at st h3
      refine ⟨tt, _, rfl, SqT.of h3, rfl, _, _, rfl, _, _, rfl, tq, _, rfl, SqT.of (st _ _ (s2 _ _ htq)), rfl, _, _, rfl, _, _, rfl, rfl, rfl, ?_⟩
      (repeat array_get_dec)
      refine ⟨by show 2 ≤ sizeLine; decide, fun tp htp => ?_⟩
      have sT := st.trans (Same.upd (o := .tup [.str z, .int k0]) htp)
      have hDT := sT _ _ hD2
      have yl : ys.length ≤ 900 := by rw [plen p2]; unfold costsL; rw [List.length_map, List.length_take]; omega
      refine ⟨hDT, small1000 (by omega), hN _ _ _ ⟨_, _, _, rfl, sameOwn (s2.trans sT) hD, upd_same, ?_, il2⟩⟩
      unfold costsL
      rw [List.take_succ, hw, List.map_append]
      exact pmono (fun _ _ q => CsK.write hDT q) (psnoc (pmono (fun _ _ q => CsK.kn sT.kn q) p2) ⟨tp, rfl, upd_same⟩)
    · rintro ys σ H5 ⟨v1, v2, v3, rfl, s5, hD5, p5, _⟩
      rw [plen hws, List.take_length] at p5
      have hd5 := s5 _ _ hd1
      refine ⟨d, o, kvs, hd5, fun o' v' e => ?_, ?_⟩
      · have e : H d = some (.frz o' v') := e
        rw [hd] at e; cases e
      have kn := Kn.put (u := .dK kvs) hd5 rfl
      refine q D ys _ (fun b u e => ?_) hD0 (by rw [upd_ne nDd]; exact hD5) (pmono (fun _ _ q => CsK.kn kn q) p5)
      by_cases hb : b = d
      · subst hb; rw [hd] at e; cases e; exact upd_same
      · rw [upd_ne hb]; exact s5 _ _ (sx0 b u hb e)

end Mine

namespace Mine
open PySem L2
def sp_begin_state : Sp := fun vs H Q _ => ∃ (b : Int), vs = [.int b] ∧ Q (.str (if b = 3 then "3n0-" else "2-")) H
theorem ok_begin_state {P : Program} {w : World} {K : PySem.W.Frag} {mg : Str → Option Value} {base : Heap} {t : Adr} (T : Txt K w mg t) : FnOk P w K mg base CX0 (0 + 1) t.f_begin_state t.d_begin_state ["begin"] sp_begin_state := by
  refine T.F_begin_state.ok sc_begin_state (fun vs H Q E h => ?_) (fun cdv A outer s H vs Q E hr h => ?_)
  · obtain ⟨_, rfl, _⟩ := h
    rfl
  · obtain ⟨b, rfl, q⟩ := h
    refine bodyOk (pss_cons (ps_if (pt_cmpR (op_eq.or (op_eqD (hu_of64 hr))) (pv 0) pe_int (nomark _)) (pss_one (ps_ret (pe_glob (v := .str "3n0-") rfl T.c_THREEFOLD_BEGIN ⟨_, rfl⟩))) pss_nil) (pss_one (ps_ret (pe_glob (v := .str "2-") rfl T.c_TWOFOLD_BEGIN ⟨_, rfl⟩)))) ?_
    (repeat array_get_dec)
    rw [dec_int']
    refine ite2 (fun h => ?_) (fun h => ?_)
    · rw [if_pos (of_decide_eq_true h)] at q
      exact q
    · rw [if_neg (fun z => h (decide_eq_true z))] at q
      exact q

end Mine

namespace Mine
open PySem L2
def sKs : List Kd := [.G, .D, .s, .d]
def sp_wished_signs (K : PySem.W.Frag) : Sp := fun vs H Q _ => ∃ (n : Int), vs = [.int n] ∧ ∀ (sg : Addr) (ys : List V) (H' : Hp), Same H H' → SqT K H' sg ys → Paired (SgK K H') ys (signsT n) → Q (.ref sg) H'
theorem ok_wished_signs {P : Program} {w : World} {K : PySem.W.Frag} {mg : Str → Option Value} {base : Heap} {t : Adr} (T : Txt K w mg t) : FnOk P w K mg base CX0 (0 + 1) t.f_wished_signs t.d_wished_signs ["tone"] (sp_wished_signs K) := by
  refine T.F_wished_signs.ok sc_wished_signs (fun vs H Q E h => ?_) (fun cdv A outer s H vs Q E hr h => ?_)
  · obtain ⟨_, rfl, _⟩ := h
    rfl
  · obtain ⟨n, rfl, q⟩ := h
    unfold signsT at q
    refine bodyOk (pss_cons (ps_if (pt_cmpR (op_eq.or (op_eqD (hu_of64 hr))) (pv 0) (pe_glob (v := .int (-1)) rfl T.c_REST_TONE ⟨_, rfl⟩) (nomark _)) (pss_one (ps_ret (pe_glob (v := .ref t.a_REST_SIGNS) rfl T.c_REST_SIGNS rfl))) pss_nil) (pss_one (ps_ret (pe_callTy call_tuple_of rfl T.nb_tuple bt_tuple (pa_cons (pe_comp (cn := ["kind"]) rfl (CompFit.of rfl) (pi_tup (pe_glob (v := .ref t.a_SOUNDING_KINDS) rfl T.c_SOUNDING_KINDS rfl)) (fun _ => (pg_name (i := 0) nd_wished_signs_1 rfl (Or.inl rfl))) (fun _ => pf_nil) (fun _ => (pe_tup (pa_cons (pv 0) (pa_cons (pv 1) pa_nil))))) pa_nil))))) ?_
    (repeat array_get_dec)
    rw [intD]
    refine ite2 (fun h => ?_) (fun h => ?_)
    · rw [if_pos (of_decide_eq_true h)] at q
      exact q _ _ H (Same.refl _) (T.q_REST_SIGNS _) (.cons ⟨_, rfl, T.q_REST_SIGNS_0 _⟩ (.cons ⟨_, rfl, T.q_REST_SIGNS_1 _⟩ .nil))
    rw [if_neg (fun e => h (decide_eq_true e))] at q
    refine ⟨_, rfl, ⟨_, T.q_SOUNDING_KINDS _⟩, fun D b hD => ?_⟩
    refine comp_tup (K := K) (xs := sKs.map fun k => V.str k.str) (fun i ys σ H' => ∃ (v : Option V), σ = [v, some (.int n)] ∧ Same H H' ∧ H' D = some (.lst ys) ∧ Paired (SgK K H') ys ((sKs.take i).map fun k => (k, n)) ∧ i ≤ 4) ⟨none, rfl, Same.upd hD, upd_same, .nil, by decide⟩ ?_ ?_ ?_
    · rintro i ys σ H' ⟨v, rfl, s1, _⟩
      exact T.q_SOUNDING_KINDS _
    · rintro i ys x σ H' hx ⟨v, rfl, s1, hD1, p1, il⟩ N hN
      rw [List.getElem?_map] at hx
      obtain ⟨k, hk, rfl⟩ := Option.map_eq_some_iff.mp hx
      have il2 : i < 4 := (List.getElem?_eq_some_iff.mp hk).1
      refine compT_name ?_
      (repeat array_get_dec)
      refine ⟨by show 2 ≤ sizeLine; decide, fun tp htp => ?_⟩
      have sT := Same.upd (o := .tup [.str k.str, .int n]) htp
      have yl : ys.length ≤ 4 := by rw [plen p1, List.length_map, List.length_take]; omega
      refine ⟨sT _ _ hD1, small1000 (by omega), hN _ _ _ ⟨_, rfl, sameOwn (s1.trans sT) hD, upd_same, ?_, il2⟩⟩
      rw [List.take_succ, hk, List.map_append]
      exact pmono (fun _ _ q => SgK.write (sT _ _ hD1) q) (psnoc (SgK.kns sT.kn p1) ⟨tp, rfl, SqT.of upd_same⟩)
    · rintro ys σ H' ⟨v, rfl, s1, hD1, p1, _⟩
      have p1 : Paired (SgK K H') ys [(.G, n), (.D, n), (.s, n), (.d, n)] := p1
      refine ⟨D, ys, rfl, .inl ⟨SqL.of hD1, fun l hl => ?_⟩⟩
      have sT := Same.upd (o := .tup ys) hl
      exact q l ys _ (s1.trans sT) (SqT.of upd_same) (SgK.kns sT.kn p1)

end Mine

namespace Mine
open PySem L2
def sp_wish_moves (K : PySem.W.Frag) : Sp := fun vs H Q _ => ∃ (z : Str) (wp pz : Addr) (n m : Int) (c : Prc), vs = [.str z, .ref wp, .ref pz] ∧ z ∈ ST ∧ H wp = some (.tup [.int n, .int m]) ∧ 0 ≤ m ∧ m ≤ 9 ∧ H pz = some (.tup [pvO c.1, pvO c.2.1, pvO c.2.2]) ∧
  ∀ (l : Addr) (xs : List V) (H' : Hp), Same H H' → H l = none → H' l = some (.lst xs) → Paired (MvK K H') xs (movesL c z m (signsT n)) → Q (.ref l) H'
theorem signsT_len (n : Int) : (signsT n).length ≤ 10 := by
  unfold signsT
  split <;> (show _ ≤ 10; simp)
theorem ok_wish_moves {P : Program} {w : World} {K : PySem.W.Frag} {mg : Str → Option Value} {base : Heap} {t : Adr} (T : Txt K w mg t) : FnOk P w K mg base CX0 (0 + 5) t.f_wish_moves t.d_wish_moves ["state", "wish", "prices"] (sp_wish_moves K) := by
  have G_moves := ok_moves (P := P) (w := w) (base := base) T
  have G_wished_signs := ok_wished_signs (P := P) (w := w) (base := base) T
  refine T.F_wish_moves.ok sc_wish_moves (fun vs H Q E h => ?_) (fun cdv A outer s H vs Q E hr h => ?_)
  · obtain ⟨_, _, _, _, _, _, rfl, _⟩ := h
    rfl
  · obtain ⟨z, wp, pz, n, m, c, rfl, hz, hw, h0, h9, hpz, q⟩ := h
    refine bodyOk (pss_cons (ps_asg (pv 1) (pg_tup rfl (pgs_cons (pg_name (i := 3) sc_wish_moves.nd rfl (Or.inl rfl)) (pgs_cons (pg_name (i := 4) sc_wish_moves.nd rfl (Or.inl rfl)) pgs_nil)))) (pss_one (ps_ret (pe_call G_moves (hr.mono (by decide)) rfl T.mg_moves T.F_moves.kp T.b_moves .nil pass0 (pa_cons (pv 0) (pa_cons (pe_call G_wished_signs (hr.mono (by decide)) rfl T.mg_wished_signs T.F_wished_signs.kp T.b_wished_signs .nil pass0 (pa_cons (pv 3) pa_nil)) (pa_cons (pv 4) (pa_cons (pv 2) pa_nil)))))))) ?_
    refine ⟨_, rfl, wp, _, rfl, SqT.of hw, rfl, _, _, rfl, _, _, rfl, rfl, ?_⟩
    (repeat array_get_dec)
    refine fun sg ys H1 s1 hsg hss => ?_
    (repeat array_get_dec)
    exact ⟨z, sg, m, pz, ys, _, c, rfl, hz, h0, h9, hsg, hss, signsT_len n, s1 _ _ hpz, fun l xs H' s2 n2 h2 p2 => q l xs H' (s1.trans s2) (s1.free n2) h2 p2⟩

end Mine

namespace Mine
open PySem L2
def sp_with_wish (K : PySem.W.Frag) : Sp := fun vs H Q _ => ∃ (A : Addr → Prop) (d wp pz : Addr) (n m : Int) (c : Prc) (kvs : List (Key × V)) (ws : List Wy) (B : Nat), vs = [.ref d, .ref wp, .ref pz] ∧ H d = some (.dK kvs) ∧ Paired (WyK K A H) kvs ws ∧ WsOk B ws ∧ B ≤ 100000 ∧ (∀ l, H l = none → A l) ∧ H wp = some (.tup [.int n, .int m]) ∧ 0 ≤ m ∧ m ≤ 9 ∧ H pz = some (.tup [pvO c.1, pvO c.2.1, pvO c.2.2]) ∧
  ∀ (f : Addr) (kvs' : List (Key × V)) (H' : Hp), Same H H' → H f = none → H' f = some (.dK kvs') → Paired (WyK K A H') kvs' (withWish c ws (n, m)) → Q (.ref f) H'
theorem ok_with_wish {P : Program} {w : World} {K : PySem.W.Frag} {mg : Str → Option Value} {base : Heap} {t : Adr} (T : Txt K w mg t) : FnOk P w K mg base CX0 (0 + 6) t.f_with_wish t.d_with_wish ["ways", "wish", "prices"] (sp_with_wish K) := by
  have G_wish_moves := ok_wish_moves (P := P) (w := w) (base := base) T
  have G_keep_cheaper := ok_keep_cheaper (P := P) (w := w) (base := base) T
  refine T.F_with_wish.ok sc_with_wish (fun vs H Q E h => ?_) (fun cdv A outer s H vs Q E hr h => ?_)
  · obtain ⟨_, _, _, _, _, _, _, _, _, _, rfl, _⟩ := h
    rfl
  · obtain ⟨A', d, wp, pz, n, m, c, kvs, ws, B, rfl, hd, hws, wok, hB, hA, hwp, h0, h9, hpz, q⟩ := h
    have wl := wok.len
    refine bodyOk (pss_cons (ps_set (i := 3) sc_with_wish.nd rfl (Or.inl rfl) pe_dnewK) (pss_cons (ps_thaw (ps_for PassesOwn.never rfl (pi_items (pv 0)) (pg_tup rfl (pgs_cons (pg_name (i := 4) sc_with_wish.nd rfl (Or.inl rfl)) (pgs_cons (pg_tup rfl (pgs_cons (pg_name (i := 5) sc_with_wish.nd rfl (Or.inl rfl)) (pgs_cons (pg_name (i := 6) sc_with_wish.nd rfl (Or.inl rfl)) pgs_nil))) pgs_nil))) (pss_one (ps_for PassesOwn.never rfl (pi_list (pe_call G_wish_moves (hr.mono (by decide)) rfl T.mg_wish_moves T.F_wish_moves.kp T.b_wish_moves .nil pass0 (pa_cons (pv 4) (pa_cons (pv 1) (pa_cons (pv 2) pa_nil))))) (pg_tup rfl (pgs_cons (pg_name (i := 7) sc_with_wish.nd rfl (Or.inl rfl)) (pgs_cons (pg_name (i := 8) sc_with_wish.nd rfl (Or.inl rfl)) (pgs_cons (pg_name (i := 9) sc_with_wish.nd rfl (Or.inl rfl)) pgs_nil)))) (pss_one (ps_expr (pe_call G_keep_cheaper (hr.mono (by decide)) rfl T.mg_keep_cheaper T.F_keep_cheaper.kp T.b_keep_cheaper .nil pass0 (pa_cons (pv 3) (pa_cons (pv 9) (pa_cons (pe_op (op_add.or (op_add_str.or op_cat)) (pv 5) (pv 8)) (pa_cons (pe_op (op_add.or (op_add_str.or op_cat)) (pv 6) (pe_lst (pa_cons (pv 7) pa_nil))) pa_nil))))))))))) (pss_one (ps_ret (pv 3))))) ?_
    refine fun f hf => ?_
    have s0 := Same.upd (o := .dK []) hf
    have hd0 := s0 _ _ hd
    refine ⟨_, rfl, d, kvs, rfl, hd0, fun o => ?_⟩
    have nfd : f ≠ d := ne_of_none hd hf |>.symm
    have kn0 := Kn.put (u := .frz o (.dK kvs)) hd0 rfl
    have sx0 : ∀ b u, b ≠ d → H b = some u → upd (upd H f (.dK [])) d (.frz o (.dK kvs)) b = some u := fun b u hb e => by rw [upd_ne hb]; exact s0 _ _ e
    have hd1 := upd_same (H := upd H f (.dK [])) (a := d) (o := .frz o (.dK kvs))
    have hf1 : upd (upd H f (.dK [])) d (.frz o (.dK kvs)) f = some (.dK []) := by rw [upd_ne nfd]; exact upd_same
    have w1 := WyK.kns (s0.kn.trans kn0) hws
    generalize upd (upd H f (.dK [])) d (.frz o (.dK kvs)) = H1 at sx0 hd1 hf1 w1
    refine for_items (fun i σ H' => ∃ (v1 v2 v3 v4 v5 v6 : Option V) (kvs' : List (Key × V)), σ = [some (.ref d), some (.ref wp), some (.ref pz), some (.ref f), v1, v2, v3, v4, v5, v6] ∧ (∀ b u, b ≠ d → H b = some u → H' b = some u) ∧ H' d = some (.frz o (.dK kvs)) ∧ H' f = some (.dK kvs') ∧ Paired (WyK K A' H') kvs ws ∧ Paired (WyK K A' H') kvs' (wishFold c (n, m) (ws.take i) []) ∧ i ≤ ws.length)
      ⟨none, none, none, none, none, none, [], rfl, sx0, hd1, hf1, w1, .nil, Nat.zero_le _⟩ ?_ ?_ ?_
    · rintro i σ H' ⟨v1, v2, v3, v4, v5, v6, kvs', rfl, _, h2, _⟩
      exact h2
    · rintro i kv tt σ H2 hkv ⟨v1, v2, v3, v4, v5, v6, kvs2, rfl, sx2, hd2, hf2, w2, f2, il⟩ htt
      obtain ⟨⟨z, k0, ql⟩, hw, hk1, tq, lq, yq, hk2, _, htq, hlq, pq⟩ := pget w2 hkv
      have hk1 : kv.1 = Sum.inr z := hk1
      have il2 : i < ws.length := (List.getElem?_eq_some_iff.mp hw).1
      have hwm : (z, k0, ql) ∈ ws := List.mem_of_getElem? hw
      have hz : z ∈ ST := wok.st _ hwm
      have qll : ql.length ≤ B := wok.ln _ hwm
      have hnx : wishFold c (n, m) (ws.take (i + 1)) [] = stepW k0 ql (movesL c z m (signsT n)) (wishFold c (n, m) (ws.take i) []) := by rw [List.take_succ, hw]; exact wishFold_snoc c (n, m) _ _ []
      have fok := wishFold_ok (B := B) (c := c) (q := (n, m)) h0 h9 (ws := ws.take i) (acc := []) (fun x hx => wok.st x (List.mem_of_mem_take hx)) (fun x hx => wok.ln x (List.mem_of_mem_take hx)) (WsOk.nil _)
      generalize wishFold c (n, m) (ws.take i) [] = cu at f2 fok hnx
      rw [hk1, hk2]
      have st := Same.upd (o := .tup [kV (Sum.inr z), .ref tq]) htt
      have h3 := upd_same (H := H2) (a := tt) (o := .tup [kV (Sum.inr z), .ref tq])
      generalize upd H2 tt (.tup [kV (Sum.inr z), .ref tq]) = H3 at st h3
      have sx3 : ∀ b u, b ≠ d → H b = some u → H3 b = some u := fun b u hb e => st _ _ (sx2 b u hb e)
      refine ⟨tt, _, rfl, SqT.of h3, rfl, _, _, rfl, _, _, rfl, tq, _, rfl, SqT.of (st _ _ htq), rfl, _, _, rfl, _, _, rfl, rfl, rfl, ?_⟩
      have hwp3 := sx3 wp _ (fun e => by rw [e, hd] at hwp; cases hwp) hwp
      have hpz3 := sx3 pz _ (fun e => by rw [e, hd] at hpz; cases hpz) hpz
      refine ⟨_, rfl, _, rfl, _, rfl, z, wp, pz, n, m, c, rfl, hz, hwp3, h0, h9, hpz3, fun l4 xs4 H4 s4 n4 h4 p4 => ?_⟩
      have msok : ∀ x ∈ movesL c z m (signsT n), x.2.2 ∈ ST := fun x hx => moves_st hz h0 h9 hx
      generalize movesL c z m (signsT n) = ms at p4 hnx msok
      have s34 := st.trans s4
      refine ⟨l4, rfl, ⟨_, SqL.of h4⟩, for_list (K := K) (xs := xs4) (fun k σ H' => ∃ (v4 v5 v6 : Option V) (kvs' : List (Key × V)), σ = [some (.ref d), some (.ref wp), some (.ref pz), some (.ref f), some (.str z), some (.int k0), some (.ref lq), v4, v5, v6] ∧ (∀ b u, b ≠ d → H b = some u → H' b = some u) ∧ H' d = some (.frz o (.dK kvs)) ∧ H' l4 = some (.lst xs4) ∧ Paired (MvK K H') xs4 ms ∧ H' lq = some (.lst yq) ∧ Paired (SgK K H') yq ql ∧ H' f = some (.dK kvs') ∧ Paired (WyK K A' H') kvs ws ∧ Paired (WyK K A' H') kvs' (stepW k0 ql (ms.take k) cu) ∧ k ≤ ms.length)
        ⟨v4, v5, v6, kvs2, rfl, fun b u hb e => s34 _ _ (sx2 b u hb e), s34 _ _ hd2, h4, p4, s34 _ _ hlq, SgK.kns s34.kn pq, s34 _ _ hf2, WyK.kns s34.kn w2, WyK.kns s34.kn f2, Nat.zero_le _⟩ ?_ ?_ ?_⟩
      · rintro k σ H' _ ⟨v5, v6, v7, kvs', rfl, _, _, h5, _⟩
        exact SqL.of h5
      · rintro k y σ H5 hy ⟨v4, v5, v6, kvs5, rfl, sx5, hd5, hm5, p5, hq5, pq5, hf5, w5, f5, kl⟩
        obtain ⟨mm, hm, p, qq, rfl, hp, hqq⟩ := pget p5 hy
        have kl2 : k < ms.length := (List.getElem?_eq_some_iff.mp hm).1
        refine ⟨p, _, rfl, SqT.of hp, rfl, _, _, rfl, _, _, rfl, _, _, rfl, rfl, ?_⟩
        (repeat array_get_dec)
        refine ⟨by show 1 ≤ sizeLine; decide, fun a1 ha1 => ?_⟩
        have s6 := Same.upd (o := .lst [.ref qq]) ha1
        have hq6 := s6 _ _ hq5
        refine .inr (.inr ⟨lq, a1, yq, [.ref qq], rfl, rfl, hq6, upd_same, ?_, fun a2 ha2 => ?_⟩)
        · rw [plen pq5]
          exact Nat.le_trans (show ql.length + 1 ≤ 1000000 by omega) (by decide)
        have freeX : ∀ {x : Addr}, upd H5 a1 (.lst [.ref qq]) x = none → H x = none := fun {x} hx => by
          cases e : H x with
          | none => rfl
          | some u =>
            by_cases hb : x = d
            · rw [hb, s6 _ _ hd5] at hx; cases hx
            · rw [s6 _ _ (sx5 x u hb e)] at hx; cases hx
        have s7 := s6.trans (Same.upd (o := .lst (yq ++ [.ref qq])) ha2)
        have h7 := upd_same (H := upd H5 a1 (.lst [.ref qq])) (a := a2) (o := .lst (yq ++ [.ref qq]))
        generalize upd (upd H5 a1 (.lst [.ref qq])) a2 (.lst (yq ++ [.ref qq])) = H7 at s7 h7
        have f7 := WyK.kns s7.kn f5
        have sok := stepW_ok (B := B + 1) (k := k0) (ln := ql) (ms := ms.take k) (acc := cu) (by omega) (fun x hx => msok x (List.mem_of_mem_take hx)) fok
        refine ⟨A', f, a2, _, _, kvs5, _, _, ql ++ [mm.1], rfl, s7 _ _ hf5, by rw [plen f5]; have := sok.len; omega, f7, hA _ (freeX ha2), h7, psnoc (SgK.kns s7.kn pq5) ⟨qq, rfl, s7.tup hqq⟩, fun kvs8 H8 fr8 h8 w8 => ?_⟩
        have kn := s7.kn.trans (Kn.of (s7 _ _ hf5) fr8)
        refine ⟨_, _, _, kvs8, rfl, fun b u hb e => fr8 b u (ne_of_none e hf) (s7 _ _ (sx5 b u hb e)), fr8 d _ nfd.symm (s7 _ _ hd5), kn _ _ hm5 rfl, pmono (fun _ _ q => MvK.kn kn q) p5, kn _ _ hq5 rfl, SgK.kns kn pq5, h8, WyK.kns kn w5, ?_, kl2⟩
        have est : stepW k0 ql (ms.take (k + 1)) cu = keepW (stepW k0 ql (ms.take k) cu) mm.2.2 (k0 + mm.2.1) (ql ++ [mm.1]) := by
          rw [List.take_succ, hm]
          unfold stepW
          rw [List.foldl_append]
          rfl
        rw [est]
        exact w8
      · rintro σ H5 ⟨v4, v5, v6, kvs5, rfl, sx5, hd5, hm5, p5, hq5, pq5, hf5, w5, f5, _⟩
        rw [plen p5, List.take_length, ← hnx] at f5
        exact ⟨_, _, _, _, _, _, kvs5, rfl, sx5, hd5, hf5, w5, f5, il2⟩
    · rintro σ H5 ⟨v1, v2, v3, v4, v5, v6, kvs5, rfl, sx5, hd5, hf5, w5, f5, _⟩
      rw [plen hws, List.take_length] at f5
      refine ⟨d, o, kvs, hd5, fun o' v' e => ?_, ?_⟩
      · have e : H d = some (.frz o' v') := e
        rw [hd] at e; cases e
      have kn := Kn.put (u := .dK kvs) hd5 rfl
      refine ⟨_, rfl, ?_⟩
      refine q f kvs5 _ (fun b u e => ?_) hf (by rw [upd_ne nfd]; exact hf5) (WyK.kns kn f5)
      by_cases hb : b = d
      · subst hb; rw [hd] at e; cases e; exact upd_same
      · rw [upd_ne hb]; exact sx5 b u hb e

end Mine

namespace Mine
open PySem L2
def sp_ends : Sp := fun vs H Q _ => ∃ (z : Str), vs = [.str z] ∧ z ∈ ST ∧ Q (.bl (endsM z)) H
theorem ok_ends {P : Program} {w : World} {K : PySem.W.Frag} {mg : Str → Option Value} {base : Heap} {t : Adr} (T : Txt K w mg t) : FnOk P w K mg base CX0 (0 + 2) t.f_ends t.d_ends ["state"] sp_ends := by
  have G_closes := ok_closes (P := P) (w := w) (base := base) T
  refine T.F_ends.ok sc_ends (fun vs H Q E h => ?_) (fun cdv A outer s H vs Q E hr h => ?_)
  · obtain ⟨_, rfl, _⟩ := h
    rfl
  · obtain ⟨z, rfl, hz, q⟩ := h
    refine bodyOk (pss_cons (ps_if (pt_cmpR (op_in_seq.or op_in_str) (pv 0) (pe_glob (v := .ref t.a_TWOFOLD_STATES) rfl T.c_TWOFOLD_STATES rfl) rfl) (pss_one (ps_ret (pe_cmpR (op_ne.or (op_neD (hu_of64 hr))) (pv 0) pe_str (nomark _)))) pss_nil) (pss_one (ps_ret (pe_call G_closes (hr.mono (by decide)) rfl T.mg_closes T.F_closes.kp T.b_closes .nil pass0 (pa_cons (pv 0) pa_nil))))) ?_
    refine ⟨_, rfl, .inl ⟨_, _, rfl, .inr (T.q_TWOFOLD_STATES _), rfl, rfl, _, rfl, ?_⟩⟩
    show (if (inV (.str z) [.str "2-", .str "2g", .str "2G"]) = true then _ else _)
    rw [ST_in hz]
    unfold endsM at q
    refine ite2 (fun h => ?_) (fun h => ?_)
    · rw [if_pos h] at q
      (repeat array_get_dec)
      rw [str_ne]
      exact q
    · rw [if_neg h] at q
      obtain ⟨l, c, t, e⟩ := ST_three hz h
      rw [e] at q
      (repeat array_get_dec)
      exact ⟨_, _, _, _, rfl, e, ST_size hz, q⟩

end Mine

namespace Mine
open PySem L2
def sp_written (K : PySem.W.Frag) : Sp := fun vs H Q _ => ∃ (wl pz : Addr) (b : Int) (c : Prc) (ys : List V) (qs : List (Int × Int)), vs = [.ref wl, .ref pz, .int b] ∧ SqL K H wl ys ∧ PrsI H ys qs ∧ qs.length ≤ 70 ∧ Wsh qs ∧ H pz = some (.tup [pvO c.1, pvO c.2.1, pvO c.2.2]) ∧ endsL c b qs = [] ∧
  ∀ (r pp : Addr) (xs : List V) (H' : Hp), Same H H' → H' r = some (.tup [.non, .non, .ref pp]) → H' pp = some (.lst xs) → Q (.ref r) H'
theorem ok_written {P : Program} {w : World} {K : PySem.W.Frag} {mg : Str → Option Value} {base : Heap} {t : Adr} (T : Txt K w mg t) : FnOk P w K mg base CX0 (0 + 7) t.f_written t.d_written ["wishes", "prices", "begin"] (sp_written K) := by
  have G_with_parting_signs := ok_with_parting_signs (P := P) (w := w) (base := base) T
  have G_costs := ok_costs (P := P) (w := w) (base := base) T
  have G_begin_state := ok_begin_state (P := P) (w := w) (base := base) T
  have G_with_wish := ok_with_wish (P := P) (w := w) (base := base) T
  have G_ends := ok_ends (P := P) (w := w) (base := base) T
  refine T.F_written.ok sc_written (fun vs H Q E h => ?_) (fun cdv A outer s H vs Q E hr h => ?_)
  · obtain ⟨_, _, _, _, _, _, rfl, _⟩ := h
    rfl
  · obtain ⟨wl, pz, b, c, ys, qs, rfl, hS, hqs, hql, hW, hpz, he, q⟩ := h
    refine bodyOk (pss_cons (ps_set (i := 3) sc_written.nd rfl (Or.inl rfl) (pe_call G_with_parting_signs (hr.mono (by decide)) rfl T.mg_with_parting_signs T.F_with_parting_signs.kp T.b_with_parting_signs .nil pass0 (pa_cons (pe_disp (pds_cons (pe_call G_begin_state (hr.mono (by decide)) rfl T.mg_begin_state T.F_begin_state.kp T.b_begin_state .nil pass0 (pa_cons (pv 2) pa_nil)) (pe_tup (pa_cons pe_int (pa_cons (pe_lst pa_nil) pa_nil))) pds_nil) rfl rfl (List.cons_ne_nil _ _) (by decide)) (pa_cons (pv 1) pa_nil)))) (pss_cons (ps_set (i := 4) sc_written.nd rfl (Or.inl rfl) (pe_lst (pa_cons (pe_call G_costs (hr.mono (by decide)) rfl T.mg_costs T.F_costs.kp T.b_costs .nil pass0 (pa_cons (pv 3) pa_nil)) pa_nil))) (pss_cons (ps_for PassesOwn.never rfl (pi_list (pv 0)) (pg_name (i := 5) sc_written.nd rfl (Or.inl rfl)) (pss_cons (ps_set (i := 3) sc_written.nd rfl (Or.inl rfl) (pe_call G_with_parting_signs (hr.mono (by decide)) rfl T.mg_with_parting_signs T.F_with_parting_signs.kp T.b_with_parting_signs .nil pass0 (pa_cons (pe_call G_with_wish (hr.mono (by decide)) rfl T.mg_with_wish T.F_with_wish.kp T.b_with_wish .nil pass0 (pa_cons (pv 3) (pa_cons (pv 5) (pa_cons (pv 1) pa_nil)))) (pa_cons (pv 1) pa_nil)))) (pss_one (ps_expr (pe_bm PySem.F.plainAttrs_list PySem.F.slot_list_append PySem.F.type_list_append mt_append (pv 4) (pa_cons (pe_call G_costs (hr.mono (by decide)) rfl T.mg_costs T.F_costs.kp T.b_costs .nil pass0 (pa_cons (pv 3) pa_nil)) pa_nil)))))) (pss_cons (ps_thaw (ps_setcomp (i := 6) sc_written.nd rfl rfl (cn := ["state", "way"]) rfl (CompFit.of rfl) (pi_items (pv 3)) (fun _ => (pg_tup rfl (pgs_cons (pg_name (i := 0) nd_written_2 rfl (Or.inl rfl)) (pgs_cons (pg_name (i := 1) nd_written_2 rfl (Or.inl rfl)) pgs_nil)))) (fun _ => (pf_one (pt_val (pe_call G_ends (hr.mono (by decide)) rfl T.mg_ends T.F_ends.kp T.b_ends .nil pass0 (pa_cons (pv 0) pa_nil))))) (fun _ => (pv 1)))) (pss_cons (ps_if (pt_cmpR (op_eqE (hu_of64 hr)) (pv 6) (pe_lst pa_nil) (nomark _)) (pss_one (ps_ret (pe_tup (pa_cons pe_non (pa_cons pe_non (pa_cons (pv 4) pa_nil)))))) pss_nil) (pss_cons (ps_asg pe_never (pg_tup rfl (pgs_cons (pg_name (i := 7) sc_written.nd rfl (Or.inl rfl)) (pgs_cons (pg_name (i := 8) sc_written.nd rfl (Or.inl rfl)) pgs_nil)))) (pss_one (ps_ret (pe_tup (pa_cons (pv 8) (pa_cons (pv 7) (pa_cons (pv 4) pa_nil)))))))))))) ?_
    refine fun d0 hd0 => ?_
    (repeat array_get_dec)
    refine ⟨big (by show 0 ≤ 1000; omega), fun l0 hl0 => ?_⟩
    refine ⟨by show 2 ≤ sizeLine; decide, fun t0 ht0 => ?_⟩
    have sa := Same.upd (o := .dK []) hd0
    have sb := Same.upd (o := .lst []) hl0
    have sc := Same.upd (o := .tup [.int 0, .ref l0]) ht0
    have hdc := sc _ _ (sb _ _ (upd_same (H := H) (a := d0) (o := .dK [])))
    have hlc := sc _ _ (upd_same (H := upd H d0 (.dK [])) (a := l0) (o := .lst []))
    have htc := upd_same (H := upd (upd H d0 (.dK [])) l0 (.lst [])) (a := t0) (o := .tup [.int 0, .ref l0])
    have sC := (sa.trans sb).trans sc
    generalize upd (upd (upd H d0 (.dK [])) l0 (.lst [])) t0 (.tup [.int 0, .ref l0]) = HC at hdc hlc htc sC
    refine ⟨hdc, [(Sum.inr (bgS b), .ref t0)], rfl, by show 1 ≤ 15; decide, ?_⟩
    have knD := Kn.put (u := .dK [((Sum.inr (bgS b) : Key), V.ref t0)]) hdc rfl
    have sD := sameOwn (o := .dK [((Sum.inr (bgS b) : Key), V.ref t0)]) sC hd0
    have hdD := upd_same (H := HC) (a := d0) (o := .dK [((Sum.inr (bgS b) : Key), V.ref t0)])
    have wD : Paired (WyK K (fun _ => True) (upd HC d0 (.dK [((Sum.inr (bgS b) : Key), V.ref t0)]))) [((Sum.inr (bgS b) : Key), V.ref t0)] [(bgS b, 0, [])] := .cons ⟨rfl, t0, l0, [], rfl, trivial, knD _ _ htc rfl, knD _ _ hlc rfl, .nil⟩ .nil
    show tCons (tVar 1) tNil _ (upd HC d0 (.dK [((Sum.inr (bgS b) : Key), V.ref t0)])) _
    generalize upd HC d0 (.dK [((Sum.inr (bgS b) : Key), V.ref t0)]) = HD at sD hdD wD
    refine ⟨_, rfl, fun _ => True, d0, pz, c, _, _, 0, rfl, hdD, wD, ⟨by simp, fun w hw => by rw [List.mem_singleton.mp hw]; exact bgS_st b, fun w hw => by rw [List.mem_singleton.mp hw]; exact Nat.le_refl _⟩, by decide, fun _ _ => trivial, sD _ _ hpz, fun f1 kvs1 H1 s1 n1 h1 w1 => ?_⟩
    have w1 : Paired (WyK K (fun _ => True) H1) kvs1 (waysL c b (qs.take 0)) := w1
    have ok0 := waysL_ok (c := c) (b := b) hW 0
    have S1 := sD.trans s1
    (repeat array_get_dec)
    refine ⟨_, f1, kvs1, _, rfl, h1, w1, by have := ok0.len; omega, fun l2 xs2 H2 s2 n2 h2 p2 => ?_⟩
    refine ⟨by show 1 ≤ sizeLine; decide, fun pp hpp => ?_⟩
    have s3 := Same.upd (o := .lst [.ref l2]) hpp
    have S3 := (S1.trans s2).trans s3
    have npp : H pp = none := (S1.trans s2).free hpp
    have h3 := upd_same (H := H2) (a := pp) (o := .lst [.ref l2])
    have p3 : Paired (PpK pp (upd H2 pp (.lst [.ref l2]))) [.ref l2] (papL c b qs 0) := .cons ⟨l2, xs2, rfl, (fun e => by rw [e, hpp] at h2; cases h2), s3 _ _ h2, pmono (fun _ _ q => CsK.kn s3.kn q) p2⟩ .nil
    have w3 := WyK.kns s3.kn (pmono (fun _ _ q => WyK.away hpp q) (WyK.kns s2.kn w1))
    have hf3 := (s2.trans s3) _ _ h1
    generalize upd H2 pp (.lst [.ref l2]) = H3 at s3 S3 h3 p3 w3 hf3
    refine ⟨_, rfl, wl, rfl, ⟨_, S3.seq hS⟩, for_list (K := K) (xs := ys) (fun i σ H' => ∃ (v : Option V) (dd : Addr) (kvs : List (Key × V)) (xs : List V), σ = [some (.ref wl), some (.ref pz), some (.int b), some (.ref dd), some (.ref pp), v, none, none, none] ∧ Same H H' ∧ H dd = none ∧ H' dd = some (.dK kvs) ∧ Paired (WyK K (· ≠ pp) H') kvs (waysL c b (qs.take i)) ∧ H' pp = some (.lst xs) ∧ Paired (PpK pp H') xs (papL c b qs i) ∧ i ≤ qs.length)
      ⟨none, f1, kvs1, _, rfl, S3, sD.free n1, hf3, w3, h3, p3, Nat.zero_le _⟩ ?_ ?_ ?_⟩
    · rintro i σ H' _ ⟨v, dd, kvs, xs, rfl, s4, _⟩
      exact s4.seq hS
    · rintro i x σ H4 hx ⟨v, dd, kvs, xs, rfl, s4, nd, hd4, w4, hp4, p4, il⟩
      obtain ⟨⟨n, m⟩, hq, wp, rfl, hwp⟩ := pget hqs hx
      have il2 : i < qs.length := (List.getElem?_eq_some_iff.mp hq).1
      have hm := hW _ (List.mem_of_getElem? hq)
      have ok4 := waysL_ok (c := c) (b := b) hW i
      have ok5 := waysL_ok (c := c) (b := b) hW (i + 1)
      have hnx : waysL c b (qs.take (i + 1)) = withPart c (withWish c (waysL c b (qs.take i)) (n, m)) := by rw [List.take_succ, hq]; exact waysL_snoc c b _ _
      have hA4 : ∀ l, H4 l = none → l ≠ pp := fun l hl e => by rw [e, hp4] at hl; cases hl
      refine ⟨_, rfl, _, rfl, _, rfl, (· ≠ pp), dd, wp, pz, n, m, c, kvs, _, _, rfl, hd4, w4, ok4, by omega, hA4, s4 _ _ hwp, hm.1, hm.2, s4 _ _ hpz, fun f5 kvs5 H5 s5 n5 h5 w5 => ?_⟩
      refine ⟨_, rfl, (· ≠ pp), f5, pz, c, kvs5, _, _, rfl, h5, w5, withWish_ok hm.1 hm.2 ok4, by omega, fun l hl => hA4 l (s5.free hl), s5 _ _ (s4 _ _ hpz), fun f6 kvs6 H6 s6 n6 h6 w6 => ?_⟩
      rw [← hnx] at w6
      have S6 := (s4.trans s5).trans s6
      have hp6 := s6 _ _ (s5 _ _ hp4)
      (repeat array_get_dec)
      refine ⟨.inl ⟨rfl, _, SqL.of hp6⟩, ?_⟩
      (repeat array_get_dec)
      refine ⟨_, f6, kvs6, _, rfl, h6, w6, by have := ok5.len; omega, fun l7 xs7 H7 s7 n7 h7 p7 => ?_⟩
      have hp7 := s7 _ _ hp6
      have S7 := S6.trans s7
      refine ⟨pp, xs, _, rfl, rfl, hp7, small1000 (by rw [plen p4]; unfold papL; rw [List.length_map, List.length_range]; omega), ?_⟩
      have knP : ∀ {b o}, H7 b = some o → b ≠ pp → upd H7 pp (.lst (xs ++ [.ref l7])) b = some o := fun e ne => by rw [upd_ne ne]; exact e
      refine ⟨_, f6, kvs6, _, rfl, sameOwn S7 npp, (s4.trans s5).free n6, ?_, ?_, upd_same, ?_, il2⟩
      · rw [upd_ne (fun e => by rw [e, hp6] at h6; cases h6)]; exact s7 _ _ h6
      · exact pmono (fun _ _ q => WyK.write hp7 (fun z => z rfl) q) (WyK.kns s7.kn w6)
      · rw [papL_succ]
        exact pmono (fun _ _ q => PpK.write hp7 q) (psnoc (pmono (fun _ _ q => PpK.kn ((s5.trans s6).trans s7).kn q) p4) ⟨l7, xs7, rfl, (fun e => by rw [e, hp6] at n7; cases n7), h7, p7⟩)
    · rintro σ H4 ⟨v, dd, kvs, xs, rfl, s4, nd, hd4, w4, hp4, p4, il⟩
      rw [plen hqs, List.take_length] at w4
      have he4 : (waysL c b qs).filter (fun w => endsM w.1) = [] := he
      have ok4 := waysL_ok (c := c) (b := b) hW qs.length
      rw [List.take_length] at ok4
      generalize waysL c b qs = ws at w4 he4 ok4
      have wl4 := ok4.len
      refine ⟨_, rfl, dd, kvs, rfl, hd4, fun o D b' hD => ?_⟩
      have kn5 := Kn.put (u := .frz o (.dK kvs)) hd4 rfl
      have sx5 : ∀ b u, b ≠ dd → H4 b = some u → upd H4 dd (.frz o (.dK kvs)) b = some u := fun b u hb e => by rw [upd_ne hb]; exact e
      have hd5 := upd_same (H := H4) (a := dd) (o := .frz o (.dK kvs))
      have w5 := WyK.kns kn5 w4
      have nDd : D ≠ dd := fun e => by rw [e, hd5] at hD; cases hD
      generalize upd H4 dd (.frz o (.dK kvs)) = H5 at sx5 hd5 w5 hD
      refine comp_items (fun i zs σ H' => ∃ (v1 v2 v3 : Option V), σ = [v1, v2, some (.ref wl), some (.ref pz), some (.int b), some (.ref dd), some (.ref pp), v3, none, none, none] ∧ Same H5 H' ∧ H' D = some (.lst zs) ∧ Paired (EnK K H5) zs ((ws.take i).filter fun w => endsM w.1) ∧ i ≤ ws.length)
        ⟨none, none, v, rfl, Same.upd hD, upd_same, .nil, Nat.zero_le _⟩ ?_ ?_ ?_
      · rintro i zs σ H' ⟨v1, v2, v3, rfl, s6, _⟩
        exact s6 _ _ hd5
      · rintro i zs kv tt σ H6 hkv ⟨v1, v2, v3, rfl, s6, hD6, p6, il6⟩ htt N hN
        obtain ⟨⟨z, k0, ln⟩, hw, hk1, tq, lq, yq, hk2, _, htq, hlq, pq⟩ := pget w5 hkv
        have hk1 : kv.1 = Sum.inr z := hk1
        have il2 : i < ws.length := (List.getElem?_eq_some_iff.mp hw).1
        have hz : z ∈ ST := ok4.st _ (List.mem_of_getElem? hw)
        rw [hk1, hk2]
        have st := Same.upd (o := .tup [kV (Sum.inr z), .ref tq]) htt
        have h7 := upd_same (H := H6) (a := tt) (o := .tup [kV (Sum.inr z), .ref tq])
        generalize upd H6 tt (.tup [kV (Sum.inr z), .ref tq]) = H7 at st h7
        have et := endsTake hw
        have zl : zs.length ≤ 28 := by
          rw [plen p6]
          exact Nat.le_trans (List.length_filter_le _ _) (by rw [List.length_take]; omega)
        refine ⟨tt, _, rfl, SqT.of h7, rfl, _, _, rfl, _, _, rfl, rfl, ?_⟩
        refine ⟨_, rfl, z, rfl, hz, _, rfl, ?_⟩
        refine ite2 (fun h => ?_) (fun h => ?_)
        · rw [if_pos h] at et
          refine ⟨_, rfl, st _ _ hD6, small1000 (by omega), hN _ _ _ ⟨_, _, _, rfl, sameOwn (s6.trans st) hD, upd_same, ?_, il2⟩⟩
          rw [et]
          exact psnoc p6 ⟨tq, lq, yq, rfl, htq, hlq, pq⟩
        · rw [if_neg h, List.append_nil] at et
          exact hN _ _ _ ⟨_, _, _, rfl, s6.trans st, st _ _ hD6, by rw [et]; exact p6, il2⟩
      · rintro zs σ H6 ⟨v1, v2, v3, rfl, s6, hD6, p6, _⟩
        rw [plen w4, List.take_length, he4] at p6
        cases p6
        have hd6 := s6 _ _ hd5
        refine ⟨dd, o, kvs, hd6, fun o' v' e => ?_, ?_⟩
        · have e : H dd = some (.frz o' v') := e
          rw [nd] at e; cases e
        have s7 : Same H (upd H6 dd (.dK kvs)) := fun b u e => by
          rw [upd_ne (ne_of_none e nd)]
          exact s6 _ _ (sx5 b u (ne_of_none e nd) (s4 b u e))
        have hD7 : upd H6 dd (.dK kvs) D = some (.lst []) := by rw [upd_ne nDd]; exact hD6
        have hp7 : upd H6 dd (.dK kvs) pp = some (.lst xs) := by
          have ne : pp ≠ dd := fun e => by rw [e, hd4] at hp4; cases hp4
          rw [upd_ne ne]; exact s6 _ _ (sx5 pp _ ne hp4)
        generalize upd H6 dd (.dK kvs) = H7 at s7 hD7 hp7
        (repeat array_get_dec)
        refine ⟨big (by show 0 ≤ 1000; omega), fun e0 he0 => ?_⟩
        have s8 := Same.upd (o := .lst []) he0
        refine ⟨D, e0, [], rfl, rfl, SqL.of (s8 _ _ hD7), SqL.of upd_same, _, rfl, iteT ?_⟩
        (repeat array_get_dec)
        refine ⟨by show 3 ≤ sizeLine; decide, fun r hr0 => ?_⟩
        have s9 := s8.trans (Same.upd (o := .tup [.non, .non, .ref pp]) hr0)
        exact q r pp xs _ (s7.trans s9) upd_same (s9 _ _ hp7)

end Mine

namespace Mine
open PySem L2
def sp_l_begin : Sp := fun vs H Q _ => ∃ c : Int, vs = [.int c] ∧ ∀ b : Int, (b = 3 ∨ b = 2) → Q (.int b) H
theorem ok_l_begin {P : Program} {w : World} {K : PySem.W.Frag} {mg : Str → Option Value} {base : Heap} {t : Adr} (T : Txt K w mg t) : FnOk P w K mg base CX0 (0 + 1) t.f_l_begin t.d_l_begin ["_law_cell"] sp_l_begin := by
  refine T.F_l_begin.ok sc_l_begin (fun vs H Q E h => ?_) (fun cdv A outer s H vs Q E hr h => ?_)
  · obtain ⟨_, rfl, _⟩ := h
    rfl
  · obtain ⟨c, rfl, q⟩ := h
    refine bodyOk (pss_one (ps_ret (pe_op op_sub pe_int (pe_callTy (call_int1.or call_int_text) rfl T.nb_int bt_int (pa_cons (pe_cmpR (op_eq.or (op_eqD (hu_of64 hr))) (pe_op op_mod (pv 0) pe_int) pe_int (nomark _)) pa_nil))))) ?_
    (repeat array_get_dec)
    refine .inl (.inr ⟨_, rfl, ?_⟩)
    (repeat array_get_dec)
    refine q _ ?_
    try dsimp only
    split
    · exact .inr rfl
    · exact .inl rfl

end Mine

namespace Mine
open PySem L2
theorem ok_law {P : Program} {w : World} {K : PySem.W.Frag} {mg : Str → Option Value} {base : Heap} {t : Adr} (T : Txt K w mg t) : FnOk P w K mg base CX0 (0 + 8) t.f_law t.d_law ["_law_script"] (sp_law K) := by
  have G_l_any_wishes := ok_l_any_wishes (P := P) (w := w) (base := base) T
  have G_l_prices := ok_l_prices (P := P) (w := w) (base := base) T
  have G_written := ok_written (P := P) (w := w) (base := base) T
  have G_l_cell_at := ok_l_cell_at (P := P) (w := w) (base := base) T
  have G_l_mixed := ok_l_mixed (P := P) (w := w) (base := base) T
  have G_l_begin := ok_l_begin (P := P) (w := w) (base := base) T
  refine T.F_law.ok sc_law (fun vs H Q E h => ?_) (fun cdv A outer s H vs Q E hr h => ?_)
  · obtain ⟨a, ns, rfl, _⟩ := h
    rfl
  · obtain ⟨a, ns, rfl, hS, hl, q⟩ := h
    refine bodyOk (pss_cons (ps_set (i := 1) sc_law.nd rfl (Or.inl rfl) (pe_call G_l_any_wishes (hr.mono (by decide)) rfl T.mg_l_any_wishes T.F_l_any_wishes.kp T.b_l_any_wishes .nil pass0 (pa_cons (pv 0) (pa_cons pe_int (pa_cons (pe_op op_mod (pe_call G_l_cell_at (hr.mono (by decide)) rfl T.mg_l_cell_at T.F_l_cell_at.kp T.b_l_cell_at .nil pass0 (pa_cons (pv 0) (pa_cons pe_int pa_nil))) pe_int) pa_nil))))) (pss_cons (ps_set (i := 2) sc_law.nd rfl (Or.inl rfl) (pe_op op_mod (pe_call G_l_cell_at (hr.mono (by decide)) rfl T.mg_l_cell_at T.F_l_cell_at.kp T.b_l_cell_at .nil pass0 (pa_cons (pv 0) (pa_cons pe_int pa_nil))) (pe_op (op_add.or (op_add_str.or op_cat)) (pe_callB (call_len_seq.or call_len_str) rfl T.nb_len bt_len (pa_cons (pv 1) pa_nil)) pe_int))) (pss_cons (ps_set (i := 3) sc_law.nd rfl (Or.inl rfl) (pe_op (op_add.or (op_add_str.or op_cat)) pe_int (pe_op op_mod (pe_call G_l_cell_at (hr.mono (by decide)) rfl T.mg_l_cell_at T.F_l_cell_at.kp T.b_l_cell_at .nil pass0 (pa_cons (pv 0) (pa_cons pe_int pa_nil))) pe_int))) (pss_cons (ps_set (i := 1) sc_law.nd rfl (Or.inl rfl) (pe_op (op_add.or (op_add_str.or op_cat)) (pe_op (op_add.or (op_add_str.or op_cat)) (pe_slice (sl_list.or (sl_tup.or sl_str)) (pv 1) po_none (po_some (pv 2))) (pe_lst (pa_cons (pe_tup (pa_cons (pe_op op_sub (pe_op op_mod (pe_call G_l_cell_at (hr.mono (by decide)) rfl T.mg_l_cell_at T.F_l_cell_at.kp T.b_l_cell_at .nil pass0 (pa_cons (pv 0) (pa_cons pe_int pa_nil))) pe_int) pe_int) (pa_cons (pv 3) pa_nil))) pa_nil))) (pe_slice (sl_list.or (sl_tup.or sl_str)) (pv 1) (po_some (pv 2)) po_none))) (pss_cons (ps_set (i := 4) sc_law.nd rfl (Or.inl rfl) (pe_call G_l_prices (hr.mono (by decide)) rfl T.mg_l_prices T.F_l_prices.kp T.b_l_prices .nil pass0 (pa_cons (pe_call G_l_mixed (hr.mono (by decide)) rfl T.mg_l_mixed T.F_l_mixed.kp T.b_l_mixed .nil pass0 (pa_cons (pe_call G_l_cell_at (hr.mono (by decide)) rfl T.mg_l_cell_at T.F_l_cell_at.kp T.b_l_cell_at .nil pass0 (pa_cons (pv 0) (pa_cons pe_int pa_nil))) (pa_cons pe_int pa_nil))) pa_nil))) (pss_cons (ps_set (i := 5) sc_law.nd rfl (Or.inl rfl) (pe_call G_written (hr.mono (by decide)) rfl T.mg_written T.F_written.kp T.b_written .nil pass0 (pa_cons (pv 1) (pa_cons (pv 4) (pa_cons (pe_call G_l_begin (hr.mono (by decide)) rfl T.mg_l_begin T.F_l_begin.kp T.b_l_begin .nil pass0 (pa_cons (pe_call G_l_cell_at (hr.mono (by decide)) rfl T.mg_l_cell_at T.F_l_cell_at.kp T.b_l_cell_at .nil pass0 (pa_cons (pv 0) (pa_cons pe_int pa_nil))) pa_nil)) pa_nil))))) (pss_cons (ps_if (pt_mid (PW.pt (pw_or (pt_not (pt_val (pe_callB call_isT rfl T.nb_isinstance bt_isinstance (pa_cons (pv 5) (pa_cons (pe_bltn (v := .ty "tuple") rfl T.nb_tuple bt_tuple rfl) pa_nil))))) (pw_or1 (pt_cmpR (op_ne.or (op_neD (hu_of64 hr))) (pe_callB (call_len_seq.or call_len_str) rfl T.nb_len bt_len (pa_cons (pv 5) pa_nil)) pe_int (nomark _)))))) (pss_one (ps_ret pe_bl)) pss_nil) (pss_one (ps_ret (pe_mid (pe_and (pe_cmpR op_isN (pe_ix ix_seq (pv 5) pe_int (fun _ _ => rfl)) pe_non (nomark _)) (pe_and (pe_cmpR op_isN (pe_ix ix_seq (pv 5) pe_int (fun _ _ => rfl)) pe_non (nomark _)) (pe_one (pe_callB call_isT rfl T.nb_isinstance bt_isinstance (pa_cons (pe_ix ix_seq (pv 5) pe_int (fun _ _ => rfl)) (pa_cons (pe_bltn (v := .ty "list") rfl T.nb_list bt_list rfl) pa_nil)))))))))))))))) ?_
    (repeat array_get_dec)
    refine ⟨a, ns, 1, rfl, hS, hl, ?_⟩
    (repeat array_get_dec)
    obtain ⟨m1, hm1⟩ : ∃ m1 : Nat, cellN ns 1 % 13 = (m1 : Int) := ⟨(cellN ns 1 % 13).toNat, by omega⟩
    refine ⟨a, ns, 5, m1, by rw [hm1]; rfl, hS, hl, by omega, fun f ys qs H1 s1 n1 h1 p1 w1 ql => ?_⟩
    have hS1 := s1.seq hS
    (repeat array_get_dec)
    refine ⟨a, ns, 2, rfl, hS1, hl, ?_⟩
    (repeat array_get_dec)
    refine .inl ⟨f, _, rfl, .inl (SqL.of h1), ?_⟩
    (repeat array_get_dec)
    obtain ⟨at1, hat1, hat2⟩ : ∃ n : Nat, cellN ns 2 % ((ys.length : Int) + 1) = (n : Int) ∧ n ≤ ys.length := ⟨(cellN ns 2 % ((ys.length : Int) + 1)).toNat, by have := Int.emod_nonneg (cellN ns 2) (show ((ys.length : Int) + 1) ≠ 0 by omega); omega, by have := Int.emod_nonneg (cellN ns 2) (show ((ys.length : Int) + 1) ≠ 0 by omega); have := Int.emod_lt_of_pos (cellN ns 2) (show 0 < ((ys.length : Int) + 1) by omega); omega⟩
    refine ⟨by show (0 : Int) < _; omega, ?_⟩
    rw [hat1]
    (repeat array_get_dec)
    refine ⟨a, ns, 3, rfl, hS1, hl, ?_⟩
    (repeat array_get_dec)
    obtain ⟨wo, hwo, wo4, wo9⟩ : ∃ wo : Int, 4 + cellN ns 3 % 6 = wo ∧ 4 ≤ wo ∧ wo ≤ 9 := ⟨_, rfl, by omega, by omega⟩
    rw [hwo]
    refine .inl ⟨f, _, rfl, SqL.of h1, fun c1 hc1 => ?_⟩
    rw [cutTo]
    have s2 := Same.upd (o := .lst (ys.take at1)) hc1
    have k2 := upd_same (H := H1) (a := c1) (o := .lst (ys.take at1))
    generalize upd H1 c1 (.lst (ys.take at1)) = H2 at s2 k2
    (repeat array_get_dec)
    refine ⟨a, ns, 4, rfl, s2.seq hS1, hl, ?_⟩
    (repeat array_get_dec)
    refine ⟨by show 2 ≤ sizeLine; decide, fun tp htp => ?_⟩
    have s3 := Same.upd (o := .tup [.int (cellN ns 4 % 101 - 1), .int wo]) htp
    have k3 := upd_same (H := H2) (a := tp) (o := .tup [.int (cellN ns 4 % 101 - 1), .int wo])
    generalize upd H2 tp (.tup [.int (cellN ns 4 % 101 - 1), .int wo]) = H3 at s3 k3
    refine ⟨by show 1 ≤ sizeLine; decide, fun c2 hc2 => ?_⟩
    have s4 := Same.upd (o := .lst [.ref tp]) hc2
    have k4 := upd_same (H := H3) (a := c2) (o := .lst [.ref tp])
    generalize upd H3 c2 (.lst [.ref tp]) = H4 at s4 k4
    have yl : ys.length = m1 := by rw [plen p1, ql]
    refine .inr (.inr ⟨c1, c2, _, _, rfl, rfl, s4 _ _ (s3 _ _ k2), k4, big (by rw [List.length_take]; show _ + 1 ≤ 1000; omega), fun c3 hc3 => ?_⟩)
    have s5 := Same.upd (o := .lst (ys.take at1 ++ [.ref tp])) hc3
    have k5 := upd_same (H := H4) (a := c3) (o := .lst (ys.take at1 ++ [.ref tp]))
    generalize upd H4 c3 (.lst (ys.take at1 ++ [.ref tp])) = H5 at s5 k5
    (repeat array_get_dec)
    have s25 := ((s2.trans s3).trans s4).trans s5
    refine .inl ⟨f, _, rfl, SqL.of (s25 _ _ h1), fun c4 hc4 => ?_⟩
    rw [cutFrom ys at1 hat2]
    have s6 := Same.upd (o := .lst (ys.drop at1)) hc4
    have k6 := upd_same (H := H5) (a := c4) (o := .lst (ys.drop at1))
    generalize upd H5 c4 (.lst (ys.drop at1)) = H6 at s6 k6
    refine .inr (.inr ⟨c3, c4, _, _, rfl, rfl, s6 _ _ k5, k6, big (by rw [List.length_append, List.length_take, List.length_drop]; show _ + 1 + _ ≤ 1000; omega), fun c5 hc5 => ?_⟩)
    have s7 := Same.upd (o := .lst (ys.take at1 ++ [.ref tp] ++ ys.drop at1)) hc5
    have k7 := upd_same (H := H6) (a := c5) (o := .lst (ys.take at1 ++ [.ref tp] ++ ys.drop at1))
    generalize upd H6 c5 (.lst (ys.take at1 ++ [.ref tp] ++ ys.drop at1)) = H7 at s7 k7
    have s17 := (s25.trans s6).trans s7
    have p7 : PrsI H7 (ys.take at1 ++ [.ref tp] ++ ys.drop at1) (qs.take at1 ++ [(cellN ns 4 % 101 - 1, wo)] ++ qs.drop at1) :=
      papp (papp (ptake at1 (prsISame s17 p1)) (.cons ⟨tp, rfl, s7 _ _ (s6 _ _ (s5 _ _ (s4 _ _ k3)))⟩ .nil)) (pdrop at1 (prsISame s17 p1))
    have w7 : Wsh (qs.take at1 ++ [(cellN ns 4 % 101 - 1, wo)] ++ qs.drop at1) := fun q hq => by
      rcases List.mem_append.mp hq with z | z
      · rcases List.mem_append.mp z with z | z
        · exact w1 q (List.mem_of_mem_take z)
        · rw [List.mem_singleton.mp z]; exact ⟨by show 0 ≤ wo; omega, wo9⟩
      · exact w1 q (List.mem_of_mem_drop z)
    have e7 : ∃ q ∈ (qs.take at1 ++ [(cellN ns 4 % 101 - 1, wo)] ++ qs.drop at1), 4 ≤ q.2 := ⟨(cellN ns 4 % 101 - 1, wo), List.mem_append_left _ (List.mem_append_right _ (List.mem_singleton.mpr rfl)), wo4⟩
    have l7 : (qs.take at1 ++ [(cellN ns 4 % 101 - 1, wo)] ++ qs.drop at1).length ≤ 70 := by
      rw [List.length_append, List.length_append, List.length_take, List.length_drop]
      show _ + 1 + _ ≤ 70
      omega
    generalize qs.take at1 ++ [(cellN ns 4 % 101 - 1, wo)] ++ qs.drop at1 = rs at p7 w7 e7 l7
    generalize ys.take at1 ++ [.ref tp] ++ ys.drop at1 = zs at k7 p7
    have hS7 := s17.seq hS1
    (repeat array_get_dec)
    refine ⟨a, ns, 4, rfl, hS7, hl, ?_⟩
    (repeat array_get_dec)
    refine ⟨_, 3, rfl, fun m0 _ _ => ?_⟩
    refine ⟨m0, rfl, fun c z H8 s8 n8 hz8 => ?_⟩
    (repeat array_get_dec)
    refine ⟨a, ns, 0, rfl, s8.seq hS7, hl, ?_⟩
    (repeat array_get_dec)
    refine fun bb hbb => ?_
    have he : endsL c bb rs = [] := by unfold endsL; rw [ways4 c bb w7 e7]; rfl
    refine ⟨c5, z, bb, c, zs, rs, rfl, SqL.of (s8 _ _ k7), prsISame s8 p7, l7, w7, hz8, he, fun r pp xs H9 s9 h9 hp9 => ?_⟩
    refine midB false ?_ ?_
    · (repeat array_get_dec)
      refine ⟨_, _, _, _, rfl, TyOf.tup h9, rfl, _, rfl, iteF ?_⟩
      (repeat array_get_dec)
      refine .inl ⟨_, _, rfl, .inr (SqT.of h9), ?_⟩
      (repeat array_get_dec)
      exact endB rfl
    refine iteF ?_
    refine midV (.bl true) ?_ (q _)
    (repeat array_get_dec)
    refine .inr (.inl ⟨r, _, 0, _, rfl, rfl, SqT.of h9, rfl, ?_⟩)
    (repeat array_get_dec)
    refine ⟨rfl, _, rfl, iteT ?_⟩
    (repeat array_get_dec)
    refine .inr (.inl ⟨r, _, 1, _, rfl, rfl, SqT.of h9, rfl, ?_⟩)
    (repeat array_get_dec)
    refine ⟨rfl, _, rfl, iteT ?_⟩
    (repeat array_get_dec)
    refine .inr (.inl ⟨r, _, 2, _, rfl, rfl, SqT.of h9, rfl, ?_⟩)
    (repeat array_get_dec)
    refine ⟨_, _, _, _, rfl, TyOf.lst hp9, rfl, ?_⟩
    exact ⟨rfl, rfl⟩

end Mine

namespace Mine
open PySem L2
theorem lenU0 {us : List Value} (h : us.length = 0) : us = [] := match us, h with | [], _ => rfl
theorem lenU1 {us : List Value} (h : us.length = 1) : ∃ a0, us = [a0] := match us, h with | [a0], _ => ⟨a0, rfl⟩
theorem lenB1 {p : List Value → Prop} (h : ∀ a0, p [a0]) (us : List Value) (e : us.length = 1) : p us := by obtain ⟨_, rfl⟩ := lenU1 e; exact h _
theorem lenV1 {us : List Value} (h : (us ++ []).length = 1) : ∃ a0, us = [a0] := lenU1 (by rw [List.append_nil] at h; exact h)
theorem lenU2 {us : List Value} (h : us.length = 2) : ∃ a0 a1, us = [a0, a1] := match us, h with | [a0, a1], _ => ⟨a0, a1, rfl⟩
theorem lenB2 {p : List Value → Prop} (h : ∀ a0 a1, p [a0, a1]) (us : List Value) (e : us.length = 2) : p us := by obtain ⟨_, _, rfl⟩ := lenU2 e; exact h _ _
theorem lenU3 {us : List Value} (h : us.length = 3) : ∃ a0 a1 a2, us = [a0, a1, a2] := match us, h with | [a0, a1, a2], _ => ⟨a0, a1, a2, rfl⟩
theorem lenB3 {p : List Value → Prop} (h : ∀ a0 a1 a2, p [a0, a1, a2]) (us : List Value) (e : us.length = 3) : p us := by obtain ⟨_, _, _, rfl⟩ := lenU3 e; exact h _ _ _
theorem lenV3 {us : List Value} (h : (us ++ []).length = 3) : ∃ a0 a1 a2, us = [a0, a1, a2] := lenU3 (by rw [List.append_nil] at h; exact h)
theorem lenU4 {us : List Value} (h : us.length = 4) : ∃ a0 a1 a2 a3, us = [a0, a1, a2, a3] := match us, h with | [a0, a1, a2, a3], _ => ⟨a0, a1, a2, a3, rfl⟩
theorem lenB4 {p : List Value → Prop} (h : ∀ a0 a1 a2 a3, p [a0, a1, a2, a3]) (us : List Value) (e : us.length = 4) : p us := by obtain ⟨_, _, _, _, rfl⟩ := lenU4 e; exact h _ _ _ _
set_option maxHeartbeats 0 in
theorem all_mk {l : PySem.W.OpenLaw} {w : World} {K : PySem.W.Frag} {h : Heap} {mg : Str → Option Value} {fa f_l_mixed f_l_cell_at f_l_any_wishes f_l_prices f_sign_price f_small f_parting f_closes_by_right_note f_closes f_closes_by_great f_great_step f_twofold_step f_told_last f_small_step f_parting_step f_step f_moves f_parting_moves f_keep_cheaper f_with_parting_signs f_costs f_begin_state df_begin_state f_wished_signs f_wish_moves f_with_wish f_ends f_written df_written f_l_begin f_law a_SMALL_KINDS a_PARTING_KINDS a_MEASURE_KINDS a_SOUNDING_KINDS a_DARK_KINDS a_TWOFOLD_STATES a_NEXT_COUNTS a_TWOFOLD_STEPS b0_TWOFOLD_STEPS b1_TWOFOLD_STEPS b2_TWOFOLD_STEPS b3_TWOFOLD_STEPS b4_TWOFOLD_STEPS b5_TWOFOLD_STEPS b6_TWOFOLD_STEPS b7_TWOFOLD_STEPS b8_TWOFOLD_STEPS b9_TWOFOLD_STEPS a_GREAT_STEPS b0_GREAT_STEPS b1_GREAT_STEPS b2_GREAT_STEPS b3_GREAT_STEPS a_PARTING_SIGNS a_PARTING_SIGNS_0 a_PARTING_SIGNS_1 a_PARTING_SIGNS_2 a_REST_SIGNS a_REST_SIGNS_0 a_REST_SIGNS_1 : Addr} (X : K.In h) (G : h.Ns mainGlobals mg) (hfa : mg "law" = some (.ref fa))
    {od_l_mixed an_l_mixed od_l_cell_at an_l_cell_at od_l_any_wishes an_l_any_wishes od_l_prices an_l_prices od_sign_price an_sign_price od_small an_small od_parting an_parting od_closes_by_right_note an_closes_by_right_note od_closes an_closes od_closes_by_great an_closes_by_great od_great_step an_great_step od_twofold_step an_twofold_step od_told_last an_told_last od_small_step an_small_step od_parting_step an_parting_step od_step an_step od_moves an_moves od_parting_moves an_parting_moves od_keep_cheaper an_keep_cheaper od_with_parting_signs an_with_parting_signs od_costs an_costs od_begin_state an_begin_state ddo_begin_state od_wished_signs an_wished_signs od_wish_moves an_wish_moves od_with_wish an_with_wish od_ends an_ends od_written an_written ddo_written od_l_begin an_l_begin od_law an_law od_SMALL_KINDS od_PARTING_KINDS od_MEASURE_KINDS od_SOUNDING_KINDS od_DARK_KINDS od_TWOFOLD_STATES ob0_TWOFOLD_STEPS ob1_TWOFOLD_STEPS ob2_TWOFOLD_STEPS ob3_TWOFOLD_STEPS ob4_TWOFOLD_STEPS ob5_TWOFOLD_STEPS ob6_TWOFOLD_STEPS ob7_TWOFOLD_STEPS ob8_TWOFOLD_STEPS ob9_TWOFOLD_STEPS ob0_GREAT_STEPS ob1_GREAT_STEPS ob2_GREAT_STEPS ob3_GREAT_STEPS od_PARTING_SIGNS od_PARTING_SIGNS_0 od_PARTING_SIGNS_1 od_PARTING_SIGNS_2 od_REST_SIGNS od_REST_SIGNS_0 od_REST_SIGNS_1 : Option Addr} {sl_l_mixed sl_l_cell_at sl_l_any_wishes sl_l_prices sl_sign_price sl_small sl_parting sl_closes_by_right_note sl_closes sl_closes_by_great sl_great_step sl_twofold_step sl_told_last sl_small_step sl_parting_step sl_step sl_moves sl_parting_moves sl_keep_cheaper sl_with_parting_signs sl_costs sl_begin_state dds_begin_state sl_wished_signs sl_wish_moves sl_with_wish sl_ends sl_written dds_written sl_l_begin sl_law sl_SMALL_KINDS sl_PARTING_KINDS sl_MEASURE_KINDS sl_SOUNDING_KINDS sl_DARK_KINDS sl_TWOFOLD_STATES sb0_TWOFOLD_STEPS sb1_TWOFOLD_STEPS sb2_TWOFOLD_STEPS sb3_TWOFOLD_STEPS sb4_TWOFOLD_STEPS sb5_TWOFOLD_STEPS sb6_TWOFOLD_STEPS sb7_TWOFOLD_STEPS sb8_TWOFOLD_STEPS sb9_TWOFOLD_STEPS sb0_GREAT_STEPS sb1_GREAT_STEPS sb2_GREAT_STEPS sb3_GREAT_STEPS sl_PARTING_SIGNS sl_PARTING_SIGNS_0 sl_PARTING_SIGNS_1 sl_PARTING_SIGNS_2 sl_REST_SIGNS sl_REST_SIGNS_0 sl_REST_SIGNS_1 : Array (Option Value)} {oc_l_mixed kV_l_mixed dc_l_mixed pm_l_mixed cd_l_mixed ct_l_mixed oc_l_cell_at kV_l_cell_at dc_l_cell_at pm_l_cell_at cd_l_cell_at ct_l_cell_at oc_l_any_wishes kV_l_any_wishes dc_l_any_wishes pm_l_any_wishes cd_l_any_wishes ct_l_any_wishes oc_l_prices kV_l_prices dc_l_prices pm_l_prices cd_l_prices ct_l_prices oc_sign_price kV_sign_price dc_sign_price pm_sign_price cd_sign_price ct_sign_price oc_small kV_small dc_small pm_small cd_small ct_small oc_parting kV_parting dc_parting pm_parting cd_parting ct_parting oc_closes_by_right_note kV_closes_by_right_note dc_closes_by_right_note pm_closes_by_right_note cd_closes_by_right_note ct_closes_by_right_note oc_closes kV_closes dc_closes pm_closes cd_closes ct_closes oc_closes_by_great kV_closes_by_great dc_closes_by_great pm_closes_by_great cd_closes_by_great ct_closes_by_great oc_great_step kV_great_step dc_great_step pm_great_step cd_great_step ct_great_step oc_twofold_step kV_twofold_step dc_twofold_step pm_twofold_step cd_twofold_step ct_twofold_step oc_told_last kV_told_last dc_told_last pm_told_last cd_told_last ct_told_last oc_small_step kV_small_step dc_small_step pm_small_step cd_small_step ct_small_step oc_parting_step kV_parting_step dc_parting_step pm_parting_step cd_parting_step ct_parting_step oc_step kV_step dc_step pm_step cd_step ct_step oc_moves kV_moves dc_moves pm_moves cd_moves ct_moves oc_parting_moves kV_parting_moves dc_parting_moves pm_parting_moves cd_parting_moves ct_parting_moves oc_keep_cheaper kV_keep_cheaper dc_keep_cheaper pm_keep_cheaper cd_keep_cheaper ct_keep_cheaper oc_with_parting_signs kV_with_parting_signs dc_with_parting_signs pm_with_parting_signs cd_with_parting_signs ct_with_parting_signs oc_costs kV_costs dc_costs pm_costs cd_costs ct_costs oc_begin_state kV_begin_state dc_begin_state pm_begin_state cd_begin_state ct_begin_state ddc_begin_state oc_wished_signs kV_wished_signs dc_wished_signs pm_wished_signs cd_wished_signs ct_wished_signs oc_wish_moves kV_wish_moves dc_wish_moves pm_wish_moves cd_wish_moves ct_wish_moves oc_with_wish kV_with_wish dc_with_wish pm_with_wish cd_with_wish ct_with_wish oc_ends kV_ends dc_ends pm_ends cd_ends ct_ends oc_written kV_written dc_written pm_written cd_written ct_written ddc_written oc_l_begin kV_l_begin dc_l_begin pm_l_begin cd_l_begin ct_l_begin oc_law kV_law dc_law pm_law cd_law ct_law : Value}
    {dt0_begin_state dt0_written t0_SMALL_KINDS t1_SMALL_KINDS t2_SMALL_KINDS t0_PARTING_KINDS t1_PARTING_KINDS t2_PARTING_KINDS t0_MEASURE_KINDS t1_MEASURE_KINDS t0_SOUNDING_KINDS t1_SOUNDING_KINDS t2_SOUNDING_KINDS t3_SOUNDING_KINDS t0_DARK_KINDS t1_DARK_KINDS t_REST_TONE t0_TWOFOLD_STATES t1_TWOFOLD_STATES t2_TWOFOLD_STATES t_TWOFOLD_BEGIN t_THREEFOLD_BEGIN t_SHORTENED_FROM_AHEAD tv0_NEXT_COUNTS tv1_NEXT_COUNTS tv2_NEXT_COUNTS tk0_NEXT_COUNTS tk1_NEXT_COUNTS tk2_NEXT_COUNTS tv0_TWOFOLD_STEPS tv1_TWOFOLD_STEPS tv2_TWOFOLD_STEPS tv3_TWOFOLD_STEPS tv4_TWOFOLD_STEPS tv5_TWOFOLD_STEPS tv6_TWOFOLD_STEPS tv7_TWOFOLD_STEPS tv8_TWOFOLD_STEPS tv9_TWOFOLD_STEPS ta0_TWOFOLD_STEPS tb0_TWOFOLD_STEPS ta1_TWOFOLD_STEPS tb1_TWOFOLD_STEPS ta2_TWOFOLD_STEPS tb2_TWOFOLD_STEPS ta3_TWOFOLD_STEPS tb3_TWOFOLD_STEPS ta4_TWOFOLD_STEPS tb4_TWOFOLD_STEPS ta5_TWOFOLD_STEPS tb5_TWOFOLD_STEPS ta6_TWOFOLD_STEPS tb6_TWOFOLD_STEPS ta7_TWOFOLD_STEPS tb7_TWOFOLD_STEPS ta8_TWOFOLD_STEPS tb8_TWOFOLD_STEPS ta9_TWOFOLD_STEPS tb9_TWOFOLD_STEPS tv0_GREAT_STEPS tv1_GREAT_STEPS tv2_GREAT_STEPS tv3_GREAT_STEPS ta0_GREAT_STEPS tb0_GREAT_STEPS ta1_GREAT_STEPS tb1_GREAT_STEPS ta2_GREAT_STEPS tb2_GREAT_STEPS ta3_GREAT_STEPS tb3_GREAT_STEPS t0_PARTING_SIGNS_0 t1_PARTING_SIGNS_0 t0_PARTING_SIGNS_1 t1_PARTING_SIGNS_1 t0_PARTING_SIGNS_2 t1_PARTING_SIGNS_2 t0_REST_SIGNS_0 t1_REST_SIGNS_0 t0_REST_SIGNS_1 t1_REST_SIGNS_1 t_MOST_PARTING_SIGNS : Tok}
    {ddn_begin_state ddn_written n_SMALL_KINDS n_PARTING_KINDS n_MEASURE_KINDS n_SOUNDING_KINDS n_DARK_KINDS n_TWOFOLD_STATES n_NEXT_COUNTS n_TWOFOLD_STEPS nb0_TWOFOLD_STEPS nb1_TWOFOLD_STEPS nb2_TWOFOLD_STEPS nb3_TWOFOLD_STEPS nb4_TWOFOLD_STEPS nb5_TWOFOLD_STEPS nb6_TWOFOLD_STEPS nb7_TWOFOLD_STEPS nb8_TWOFOLD_STEPS nb9_TWOFOLD_STEPS n_GREAT_STEPS nb0_GREAT_STEPS nb1_GREAT_STEPS nb2_GREAT_STEPS nb3_GREAT_STEPS n_PARTING_SIGNS n_PARTING_SIGNS_0 n_PARTING_SIGNS_1 n_PARTING_SIGNS_2 n_REST_SIGNS n_REST_SIGNS_0 n_REST_SIGNS_1 : Nat}
    (a_l_mixed : PySem.W.nsIn K mainGlobals "_law_mixed" = some (some (.ref f_l_mixed)))
    (l_l_mixed : K.lookup f_l_mixed = some ⟨oc_l_mixed, od_l_mixed, .func (PySem.W.fnOf "_law_mixed" "_law_mixed" (defArgs s_l_mixed) (defBody s_l_mixed) (defScope s_l_mixed) .none kV_l_mixed dc_l_mixed pm_l_mixed an_l_mixed cd_l_mixed ct_l_mixed), sl_l_mixed⟩)
    (c_l_mixed : PySem.W.codeIn K cd_l_mixed "_law_mixed" = true)
    (k_l_mixed : PySem.W.keepIn K (.ref f_l_mixed) = true)
    (a_l_cell_at : PySem.W.nsIn K mainGlobals "_law_cell_at" = some (some (.ref f_l_cell_at)))
    (l_l_cell_at : K.lookup f_l_cell_at = some ⟨oc_l_cell_at, od_l_cell_at, .func (PySem.W.fnOf "_law_cell_at" "_law_cell_at" (defArgs s_l_cell_at) (defBody s_l_cell_at) (defScope s_l_cell_at) .none kV_l_cell_at dc_l_cell_at pm_l_cell_at an_l_cell_at cd_l_cell_at ct_l_cell_at), sl_l_cell_at⟩)
    (c_l_cell_at : PySem.W.codeIn K cd_l_cell_at "_law_cell_at" = true)
    (k_l_cell_at : PySem.W.keepIn K (.ref f_l_cell_at) = true)
    (a_l_any_wishes : PySem.W.nsIn K mainGlobals "_law_any_wishes" = some (some (.ref f_l_any_wishes)))
    (l_l_any_wishes : K.lookup f_l_any_wishes = some ⟨oc_l_any_wishes, od_l_any_wishes, .func (PySem.W.fnOf "_law_any_wishes" "_law_any_wishes" (defArgs s_l_any_wishes) (defBody s_l_any_wishes) (defScope s_l_any_wishes) .none kV_l_any_wishes dc_l_any_wishes pm_l_any_wishes an_l_any_wishes cd_l_any_wishes ct_l_any_wishes), sl_l_any_wishes⟩)
    (c_l_any_wishes : PySem.W.codeIn K cd_l_any_wishes "_law_any_wishes" = true)
    (k_l_any_wishes : PySem.W.keepIn K (.ref f_l_any_wishes) = true)
    (a_l_prices : PySem.W.nsIn K mainGlobals "_law_prices" = some (some (.ref f_l_prices)))
    (l_l_prices : K.lookup f_l_prices = some ⟨oc_l_prices, od_l_prices, .func (PySem.W.fnOf "_law_prices" "_law_prices" (defArgs s_l_prices) (defBody s_l_prices) (defScope s_l_prices) .none kV_l_prices dc_l_prices pm_l_prices an_l_prices cd_l_prices ct_l_prices), sl_l_prices⟩)
    (c_l_prices : PySem.W.codeIn K cd_l_prices "_law_prices" = true)
    (k_l_prices : PySem.W.keepIn K (.ref f_l_prices) = true)
    (a_sign_price : PySem.W.nsIn K mainGlobals "sign_price" = some (some (.ref f_sign_price)))
    (l_sign_price : K.lookup f_sign_price = some ⟨oc_sign_price, od_sign_price, .func (PySem.W.fnOf "sign_price" "sign_price" (defArgs s_sign_price) (defBody s_sign_price) (defScope s_sign_price) .none kV_sign_price dc_sign_price pm_sign_price an_sign_price cd_sign_price ct_sign_price), sl_sign_price⟩)
    (c_sign_price : PySem.W.codeIn K cd_sign_price "sign_price" = true)
    (k_sign_price : PySem.W.keepIn K (.ref f_sign_price) = true)
    (a_small : PySem.W.nsIn K mainGlobals "small" = some (some (.ref f_small)))
    (l_small : K.lookup f_small = some ⟨oc_small, od_small, .func (PySem.W.fnOf "small" "small" (defArgs s_small) (defBody s_small) (defScope s_small) .none kV_small dc_small pm_small an_small cd_small ct_small), sl_small⟩)
    (c_small : PySem.W.codeIn K cd_small "small" = true)
    (k_small : PySem.W.keepIn K (.ref f_small) = true)
    (a_parting : PySem.W.nsIn K mainGlobals "parting" = some (some (.ref f_parting)))
    (l_parting : K.lookup f_parting = some ⟨oc_parting, od_parting, .func (PySem.W.fnOf "parting" "parting" (defArgs s_parting) (defBody s_parting) (defScope s_parting) .none kV_parting dc_parting pm_parting an_parting cd_parting ct_parting), sl_parting⟩)
    (c_parting : PySem.W.codeIn K cd_parting "parting" = true)
    (k_parting : PySem.W.keepIn K (.ref f_parting) = true)
    (a_closes_by_right_note : PySem.W.nsIn K mainGlobals "closes_by_right_note" = some (some (.ref f_closes_by_right_note)))
    (l_closes_by_right_note : K.lookup f_closes_by_right_note = some ⟨oc_closes_by_right_note, od_closes_by_right_note, .func (PySem.W.fnOf "closes_by_right_note" "closes_by_right_note" (defArgs s_closes_by_right_note) (defBody s_closes_by_right_note) (defScope s_closes_by_right_note) .none kV_closes_by_right_note dc_closes_by_right_note pm_closes_by_right_note an_closes_by_right_note cd_closes_by_right_note ct_closes_by_right_note), sl_closes_by_right_note⟩)
    (c_closes_by_right_note : PySem.W.codeIn K cd_closes_by_right_note "closes_by_right_note" = true)
    (k_closes_by_right_note : PySem.W.keepIn K (.ref f_closes_by_right_note) = true)
    (a_closes : PySem.W.nsIn K mainGlobals "closes" = some (some (.ref f_closes)))
    (l_closes : K.lookup f_closes = some ⟨oc_closes, od_closes, .func (PySem.W.fnOf "closes" "closes" (defArgs s_closes) (defBody s_closes) (defScope s_closes) .none kV_closes dc_closes pm_closes an_closes cd_closes ct_closes), sl_closes⟩)
    (c_closes : PySem.W.codeIn K cd_closes "closes" = true)
    (k_closes : PySem.W.keepIn K (.ref f_closes) = true)
    (a_closes_by_great : PySem.W.nsIn K mainGlobals "closes_by_great" = some (some (.ref f_closes_by_great)))
    (l_closes_by_great : K.lookup f_closes_by_great = some ⟨oc_closes_by_great, od_closes_by_great, .func (PySem.W.fnOf "closes_by_great" "closes_by_great" (defArgs s_closes_by_great) (defBody s_closes_by_great) (defScope s_closes_by_great) .none kV_closes_by_great dc_closes_by_great pm_closes_by_great an_closes_by_great cd_closes_by_great ct_closes_by_great), sl_closes_by_great⟩)
    (c_closes_by_great : PySem.W.codeIn K cd_closes_by_great "closes_by_great" = true)
    (k_closes_by_great : PySem.W.keepIn K (.ref f_closes_by_great) = true)
    (a_great_step : PySem.W.nsIn K mainGlobals "great_step" = some (some (.ref f_great_step)))
    (l_great_step : K.lookup f_great_step = some ⟨oc_great_step, od_great_step, .func (PySem.W.fnOf "great_step" "great_step" (defArgs s_great_step) (defBody s_great_step) (defScope s_great_step) .none kV_great_step dc_great_step pm_great_step an_great_step cd_great_step ct_great_step), sl_great_step⟩)
    (c_great_step : PySem.W.codeIn K cd_great_step "great_step" = true)
    (k_great_step : PySem.W.keepIn K (.ref f_great_step) = true)
    (a_twofold_step : PySem.W.nsIn K mainGlobals "twofold_step" = some (some (.ref f_twofold_step)))
    (l_twofold_step : K.lookup f_twofold_step = some ⟨oc_twofold_step, od_twofold_step, .func (PySem.W.fnOf "twofold_step" "twofold_step" (defArgs s_twofold_step) (defBody s_twofold_step) (defScope s_twofold_step) .none kV_twofold_step dc_twofold_step pm_twofold_step an_twofold_step cd_twofold_step ct_twofold_step), sl_twofold_step⟩)
    (c_twofold_step : PySem.W.codeIn K cd_twofold_step "twofold_step" = true)
    (k_twofold_step : PySem.W.keepIn K (.ref f_twofold_step) = true)
    (a_told_last : PySem.W.nsIn K mainGlobals "told_last" = some (some (.ref f_told_last)))
    (l_told_last : K.lookup f_told_last = some ⟨oc_told_last, od_told_last, .func (PySem.W.fnOf "told_last" "told_last" (defArgs s_told_last) (defBody s_told_last) (defScope s_told_last) .none kV_told_last dc_told_last pm_told_last an_told_last cd_told_last ct_told_last), sl_told_last⟩)
    (c_told_last : PySem.W.codeIn K cd_told_last "told_last" = true)
    (k_told_last : PySem.W.keepIn K (.ref f_told_last) = true)
    (a_small_step : PySem.W.nsIn K mainGlobals "small_step" = some (some (.ref f_small_step)))
    (l_small_step : K.lookup f_small_step = some ⟨oc_small_step, od_small_step, .func (PySem.W.fnOf "small_step" "small_step" (defArgs s_small_step) (defBody s_small_step) (defScope s_small_step) .none kV_small_step dc_small_step pm_small_step an_small_step cd_small_step ct_small_step), sl_small_step⟩)
    (c_small_step : PySem.W.codeIn K cd_small_step "small_step" = true)
    (k_small_step : PySem.W.keepIn K (.ref f_small_step) = true)
    (a_parting_step : PySem.W.nsIn K mainGlobals "parting_step" = some (some (.ref f_parting_step)))
    (l_parting_step : K.lookup f_parting_step = some ⟨oc_parting_step, od_parting_step, .func (PySem.W.fnOf "parting_step" "parting_step" (defArgs s_parting_step) (defBody s_parting_step) (defScope s_parting_step) .none kV_parting_step dc_parting_step pm_parting_step an_parting_step cd_parting_step ct_parting_step), sl_parting_step⟩)
    (c_parting_step : PySem.W.codeIn K cd_parting_step "parting_step" = true)
    (k_parting_step : PySem.W.keepIn K (.ref f_parting_step) = true)
    (a_step : PySem.W.nsIn K mainGlobals "step" = some (some (.ref f_step)))
    (l_step : K.lookup f_step = some ⟨oc_step, od_step, .func (PySem.W.fnOf "step" "step" (defArgs s_step) (defBody s_step) (defScope s_step) .none kV_step dc_step pm_step an_step cd_step ct_step), sl_step⟩)
    (c_step : PySem.W.codeIn K cd_step "step" = true)
    (k_step : PySem.W.keepIn K (.ref f_step) = true)
    (a_moves : PySem.W.nsIn K mainGlobals "moves" = some (some (.ref f_moves)))
    (l_moves : K.lookup f_moves = some ⟨oc_moves, od_moves, .func (PySem.W.fnOf "moves" "moves" (defArgs s_moves) (defBody s_moves) (defScope s_moves) .none kV_moves dc_moves pm_moves an_moves cd_moves ct_moves), sl_moves⟩)
    (c_moves : PySem.W.codeIn K cd_moves "moves" = true)
    (k_moves : PySem.W.keepIn K (.ref f_moves) = true)
    (a_parting_moves : PySem.W.nsIn K mainGlobals "parting_moves" = some (some (.ref f_parting_moves)))
    (l_parting_moves : K.lookup f_parting_moves = some ⟨oc_parting_moves, od_parting_moves, .func (PySem.W.fnOf "parting_moves" "parting_moves" (defArgs s_parting_moves) (defBody s_parting_moves) (defScope s_parting_moves) .none kV_parting_moves dc_parting_moves pm_parting_moves an_parting_moves cd_parting_moves ct_parting_moves), sl_parting_moves⟩)
    (c_parting_moves : PySem.W.codeIn K cd_parting_moves "parting_moves" = true)
    (k_parting_moves : PySem.W.keepIn K (.ref f_parting_moves) = true)
    (a_keep_cheaper : PySem.W.nsIn K mainGlobals "keep_cheaper" = some (some (.ref f_keep_cheaper)))
    (l_keep_cheaper : K.lookup f_keep_cheaper = some ⟨oc_keep_cheaper, od_keep_cheaper, .func (PySem.W.fnOf "keep_cheaper" "keep_cheaper" (defArgs s_keep_cheaper) (defBody s_keep_cheaper) (defScope s_keep_cheaper) .none kV_keep_cheaper dc_keep_cheaper pm_keep_cheaper an_keep_cheaper cd_keep_cheaper ct_keep_cheaper), sl_keep_cheaper⟩)
    (c_keep_cheaper : PySem.W.codeIn K cd_keep_cheaper "keep_cheaper" = true)
    (k_keep_cheaper : PySem.W.keepIn K (.ref f_keep_cheaper) = true)
    (a_with_parting_signs : PySem.W.nsIn K mainGlobals "with_parting_signs" = some (some (.ref f_with_parting_signs)))
    (l_with_parting_signs : K.lookup f_with_parting_signs = some ⟨oc_with_parting_signs, od_with_parting_signs, .func (PySem.W.fnOf "with_parting_signs" "with_parting_signs" (defArgs s_with_parting_signs) (defBody s_with_parting_signs) (defScope s_with_parting_signs) .none kV_with_parting_signs dc_with_parting_signs pm_with_parting_signs an_with_parting_signs cd_with_parting_signs ct_with_parting_signs), sl_with_parting_signs⟩)
    (c_with_parting_signs : PySem.W.codeIn K cd_with_parting_signs "with_parting_signs" = true)
    (k_with_parting_signs : PySem.W.keepIn K (.ref f_with_parting_signs) = true)
    (a_costs : PySem.W.nsIn K mainGlobals "costs" = some (some (.ref f_costs)))
    (l_costs : K.lookup f_costs = some ⟨oc_costs, od_costs, .func (PySem.W.fnOf "costs" "costs" (defArgs s_costs) (defBody s_costs) (defScope s_costs) .none kV_costs dc_costs pm_costs an_costs cd_costs ct_costs), sl_costs⟩)
    (c_costs : PySem.W.codeIn K cd_costs "costs" = true)
    (k_costs : PySem.W.keepIn K (.ref f_costs) = true)
    (a_begin_state : PySem.W.nsIn K mainGlobals "begin_state" = some (some (.ref f_begin_state)))
    (l_begin_state : K.lookup f_begin_state = some ⟨oc_begin_state, od_begin_state, .func (PySem.W.fnOf "begin_state" "begin_state" (defArgs s_begin_state) (defBody s_begin_state) (defScope s_begin_state) (.ref df_begin_state) kV_begin_state dc_begin_state pm_begin_state an_begin_state cd_begin_state ct_begin_state), sl_begin_state⟩)
    (c_begin_state : PySem.W.codeIn K cd_begin_state "begin_state" = true)
    (k_begin_state : PySem.W.keepIn K (.ref f_begin_state) = true)
    (dl_begin_state : K.lookup df_begin_state = some ⟨ddc_begin_state, ddo_begin_state, .seq #[.int 3 dt0_begin_state] ddn_begin_state, dds_begin_state⟩)
    (a_wished_signs : PySem.W.nsIn K mainGlobals "wished_signs" = some (some (.ref f_wished_signs)))
    (l_wished_signs : K.lookup f_wished_signs = some ⟨oc_wished_signs, od_wished_signs, .func (PySem.W.fnOf "wished_signs" "wished_signs" (defArgs s_wished_signs) (defBody s_wished_signs) (defScope s_wished_signs) .none kV_wished_signs dc_wished_signs pm_wished_signs an_wished_signs cd_wished_signs ct_wished_signs), sl_wished_signs⟩)
    (c_wished_signs : PySem.W.codeIn K cd_wished_signs "wished_signs" = true)
    (k_wished_signs : PySem.W.keepIn K (.ref f_wished_signs) = true)
    (a_wish_moves : PySem.W.nsIn K mainGlobals "wish_moves" = some (some (.ref f_wish_moves)))
    (l_wish_moves : K.lookup f_wish_moves = some ⟨oc_wish_moves, od_wish_moves, .func (PySem.W.fnOf "wish_moves" "wish_moves" (defArgs s_wish_moves) (defBody s_wish_moves) (defScope s_wish_moves) .none kV_wish_moves dc_wish_moves pm_wish_moves an_wish_moves cd_wish_moves ct_wish_moves), sl_wish_moves⟩)
    (c_wish_moves : PySem.W.codeIn K cd_wish_moves "wish_moves" = true)
    (k_wish_moves : PySem.W.keepIn K (.ref f_wish_moves) = true)
    (a_with_wish : PySem.W.nsIn K mainGlobals "with_wish" = some (some (.ref f_with_wish)))
    (l_with_wish : K.lookup f_with_wish = some ⟨oc_with_wish, od_with_wish, .func (PySem.W.fnOf "with_wish" "with_wish" (defArgs s_with_wish) (defBody s_with_wish) (defScope s_with_wish) .none kV_with_wish dc_with_wish pm_with_wish an_with_wish cd_with_wish ct_with_wish), sl_with_wish⟩)
    (c_with_wish : PySem.W.codeIn K cd_with_wish "with_wish" = true)
    (k_with_wish : PySem.W.keepIn K (.ref f_with_wish) = true)
    (a_ends : PySem.W.nsIn K mainGlobals "ends" = some (some (.ref f_ends)))
    (l_ends : K.lookup f_ends = some ⟨oc_ends, od_ends, .func (PySem.W.fnOf "ends" "ends" (defArgs s_ends) (defBody s_ends) (defScope s_ends) .none kV_ends dc_ends pm_ends an_ends cd_ends ct_ends), sl_ends⟩)
    (c_ends : PySem.W.codeIn K cd_ends "ends" = true)
    (k_ends : PySem.W.keepIn K (.ref f_ends) = true)
    (a_written : PySem.W.nsIn K mainGlobals "written" = some (some (.ref f_written)))
    (l_written : K.lookup f_written = some ⟨oc_written, od_written, .func (PySem.W.fnOf "written" "written" (defArgs s_written) (defBody s_written) (defScope s_written) (.ref df_written) kV_written dc_written pm_written an_written cd_written ct_written), sl_written⟩)
    (c_written : PySem.W.codeIn K cd_written "written" = true)
    (k_written : PySem.W.keepIn K (.ref f_written) = true)
    (dl_written : K.lookup df_written = some ⟨ddc_written, ddo_written, .seq #[.int 3 dt0_written] ddn_written, dds_written⟩)
    (a_l_begin : PySem.W.nsIn K mainGlobals "_law_begin" = some (some (.ref f_l_begin)))
    (l_l_begin : K.lookup f_l_begin = some ⟨oc_l_begin, od_l_begin, .func (PySem.W.fnOf "_law_begin" "_law_begin" (defArgs s_l_begin) (defBody s_l_begin) (defScope s_l_begin) .none kV_l_begin dc_l_begin pm_l_begin an_l_begin cd_l_begin ct_l_begin), sl_l_begin⟩)
    (c_l_begin : PySem.W.codeIn K cd_l_begin "_law_begin" = true)
    (k_l_begin : PySem.W.keepIn K (.ref f_l_begin) = true)
    (a_law : PySem.W.nsIn K mainGlobals "law" = some (some (.ref f_law)))
    (l_law : K.lookup f_law = some ⟨oc_law, od_law, .func (PySem.W.fnOf "law" "law" (defArgs s_law) (defBody s_law) (defScope s_law) .none kV_law dc_law pm_law an_law cd_law ct_law), sl_law⟩)
    (c_law : PySem.W.codeIn K cd_law "law" = true)
    (k_law : PySem.W.keepIn K (.ref f_law) = true)
    (z_dict : PySem.W.nsIn K mainGlobals "dict" = some none)
    (z_int : PySem.W.nsIn K mainGlobals "int" = some none)
    (z_isinstance : PySem.W.nsIn K mainGlobals "isinstance" = some none)
    (z_len : PySem.W.nsIn K mainGlobals "len" = some none)
    (z_list : PySem.W.nsIn K mainGlobals "list" = some none)
    (z_min : PySem.W.nsIn K mainGlobals "min" = some none)
    (z_range : PySem.W.nsIn K mainGlobals "range" = some none)
    (z_tuple : PySem.W.nsIn K mainGlobals "tuple" = some none)
    (a_SMALL_KINDS_ : PySem.W.nsIn K mainGlobals "SMALL_KINDS" = some (some (.ref a_SMALL_KINDS)))
    (l_SMALL_KINDS_ : K.lookup a_SMALL_KINDS = some ⟨.type "tuple", od_SMALL_KINDS, .seq #[.str (Str.ofString "s") t0_SMALL_KINDS, .str (Str.ofString "d") t1_SMALL_KINDS, .str (Str.ofString "r") t2_SMALL_KINDS] n_SMALL_KINDS, sl_SMALL_KINDS⟩)
    (a_PARTING_KINDS_ : PySem.W.nsIn K mainGlobals "PARTING_KINDS" = some (some (.ref a_PARTING_KINDS)))
    (l_PARTING_KINDS_ : K.lookup a_PARTING_KINDS = some ⟨.type "tuple", od_PARTING_KINDS, .seq #[.str (Str.ofString ".") t0_PARTING_KINDS, .str (Str.ofString "3") t1_PARTING_KINDS, .str (Str.ofString "2") t2_PARTING_KINDS] n_PARTING_KINDS, sl_PARTING_KINDS⟩)
    (a_MEASURE_KINDS_ : PySem.W.nsIn K mainGlobals "MEASURE_KINDS" = some (some (.ref a_MEASURE_KINDS)))
    (l_MEASURE_KINDS_ : K.lookup a_MEASURE_KINDS = some ⟨.type "tuple", od_MEASURE_KINDS, .seq #[.str (Str.ofString "3") t0_MEASURE_KINDS, .str (Str.ofString "2") t1_MEASURE_KINDS] n_MEASURE_KINDS, sl_MEASURE_KINDS⟩)
    (a_SOUNDING_KINDS_ : PySem.W.nsIn K mainGlobals "SOUNDING_KINDS" = some (some (.ref a_SOUNDING_KINDS)))
    (l_SOUNDING_KINDS_ : K.lookup a_SOUNDING_KINDS = some ⟨.type "tuple", od_SOUNDING_KINDS, .seq #[.str (Str.ofString "G") t0_SOUNDING_KINDS, .str (Str.ofString "D") t1_SOUNDING_KINDS, .str (Str.ofString "s") t2_SOUNDING_KINDS, .str (Str.ofString "d") t3_SOUNDING_KINDS] n_SOUNDING_KINDS, sl_SOUNDING_KINDS⟩)
    (a_DARK_KINDS_ : PySem.W.nsIn K mainGlobals "DARK_KINDS" = some (some (.ref a_DARK_KINDS)))
    (l_DARK_KINDS_ : K.lookup a_DARK_KINDS = some ⟨.type "tuple", od_DARK_KINDS, .seq #[.str (Str.ofString "D") t0_DARK_KINDS, .str (Str.ofString "d") t1_DARK_KINDS] n_DARK_KINDS, sl_DARK_KINDS⟩)
    (a_REST_TONE_ : PySem.W.nsIn K mainGlobals "REST_TONE" = some (some (.int (-1) t_REST_TONE)))
    (a_TWOFOLD_STATES_ : PySem.W.nsIn K mainGlobals "TWOFOLD_STATES" = some (some (.ref a_TWOFOLD_STATES)))
    (l_TWOFOLD_STATES_ : K.lookup a_TWOFOLD_STATES = some ⟨.type "tuple", od_TWOFOLD_STATES, .seq #[.str (Str.ofString "2-") t0_TWOFOLD_STATES, .str (Str.ofString "2g") t1_TWOFOLD_STATES, .str (Str.ofString "2G") t2_TWOFOLD_STATES] n_TWOFOLD_STATES, sl_TWOFOLD_STATES⟩)
    (a_TWOFOLD_BEGIN_ : PySem.W.nsIn K mainGlobals "TWOFOLD_BEGIN" = some (some (.str (Str.ofString "2-") t_TWOFOLD_BEGIN)))
    (a_THREEFOLD_BEGIN_ : PySem.W.nsIn K mainGlobals "THREEFOLD_BEGIN" = some (some (.str (Str.ofString "3n0-") t_THREEFOLD_BEGIN)))
    (a_SHORTENED_FROM_AHEAD_ : PySem.W.nsIn K mainGlobals "SHORTENED_FROM_AHEAD" = some (some (.str (Str.ofString "3t0-") t_SHORTENED_FROM_AHEAD)))
    (a_NEXT_COUNTS_ : PySem.W.nsIn K mainGlobals "NEXT_COUNTS" = some (some (.ref a_NEXT_COUNTS)))
    (l_NEXT_COUNTS_ : K.lookup a_NEXT_COUNTS = some ⟨.type "dict", none, .dict #[⟨PyData.keyHash w.params (Str.ofString "0"), .str (Str.ofString "0") tk0_NEXT_COUNTS, .str (Str.ofString "1") tv0_NEXT_COUNTS⟩, ⟨PyData.keyHash w.params (Str.ofString "1"), .str (Str.ofString "1") tk1_NEXT_COUNTS, .str (Str.ofString "2") tv1_NEXT_COUNTS⟩, ⟨PyData.keyHash w.params (Str.ofString "2"), .str (Str.ofString "2") tk2_NEXT_COUNTS, .str (Str.ofString "0") tv2_NEXT_COUNTS⟩] n_NEXT_COUNTS, #[]⟩)
    (y_NEXT_COUNTS_ : (a_NEXT_COUNTS == sysModules) = false)
    (a_TWOFOLD_STEPS_ : PySem.W.nsIn K mainGlobals "TWOFOLD_STEPS" = some (some (.ref a_TWOFOLD_STEPS)))
    (l_TWOFOLD_STEPS_ : K.lookup a_TWOFOLD_STEPS = some ⟨.type "dict", none, .dict #[⟨Hd.th w.params (Str.ofString "s") 1, .ref b0_TWOFOLD_STEPS, .str (Str.ofString "2-") tv0_TWOFOLD_STEPS⟩, ⟨Hd.th w.params (Str.ofString "d") 1, .ref b1_TWOFOLD_STEPS, .str (Str.ofString "2-") tv1_TWOFOLD_STEPS⟩, ⟨Hd.th w.params (Str.ofString "r") 1, .ref b2_TWOFOLD_STEPS, .str (Str.ofString "2-") tv2_TWOFOLD_STEPS⟩, ⟨Hd.th w.params (Str.ofString "D") 2, .ref b3_TWOFOLD_STEPS, .str (Str.ofString "2-") tv3_TWOFOLD_STEPS⟩, ⟨Hd.th w.params (Str.ofString "R") 2, .ref b4_TWOFOLD_STEPS, .str (Str.ofString "2-") tv4_TWOFOLD_STEPS⟩, ⟨Hd.th w.params (Str.ofString "G") 2, .ref b5_TWOFOLD_STEPS, .str (Str.ofString "2g") tv5_TWOFOLD_STEPS⟩, ⟨Hd.th w.params (Str.ofString "G") 3, .ref b6_TWOFOLD_STEPS, .str (Str.ofString "2G") tv6_TWOFOLD_STEPS⟩, ⟨Hd.th w.params (Str.ofString ".") 0, .ref b7_TWOFOLD_STEPS, .str (Str.ofString "2-") tv7_TWOFOLD_STEPS⟩, ⟨Hd.th w.params (Str.ofString "2") 0, .ref b8_TWOFOLD_STEPS, .str (Str.ofString "2-") tv8_TWOFOLD_STEPS⟩, ⟨Hd.th w.params (Str.ofString "3") 0, .ref b9_TWOFOLD_STEPS, .str (Str.ofString "3n0-") tv9_TWOFOLD_STEPS⟩] n_TWOFOLD_STEPS, #[]⟩)
    (lb0_TWOFOLD_STEPS : K.lookup b0_TWOFOLD_STEPS = some ⟨.type "tuple", ob0_TWOFOLD_STEPS, .seq #[.str (Str.ofString "s") ta0_TWOFOLD_STEPS, .int 1 tb0_TWOFOLD_STEPS] nb0_TWOFOLD_STEPS, sb0_TWOFOLD_STEPS⟩)
    (lb1_TWOFOLD_STEPS : K.lookup b1_TWOFOLD_STEPS = some ⟨.type "tuple", ob1_TWOFOLD_STEPS, .seq #[.str (Str.ofString "d") ta1_TWOFOLD_STEPS, .int 1 tb1_TWOFOLD_STEPS] nb1_TWOFOLD_STEPS, sb1_TWOFOLD_STEPS⟩)
    (lb2_TWOFOLD_STEPS : K.lookup b2_TWOFOLD_STEPS = some ⟨.type "tuple", ob2_TWOFOLD_STEPS, .seq #[.str (Str.ofString "r") ta2_TWOFOLD_STEPS, .int 1 tb2_TWOFOLD_STEPS] nb2_TWOFOLD_STEPS, sb2_TWOFOLD_STEPS⟩)
    (lb3_TWOFOLD_STEPS : K.lookup b3_TWOFOLD_STEPS = some ⟨.type "tuple", ob3_TWOFOLD_STEPS, .seq #[.str (Str.ofString "D") ta3_TWOFOLD_STEPS, .int 2 tb3_TWOFOLD_STEPS] nb3_TWOFOLD_STEPS, sb3_TWOFOLD_STEPS⟩)
    (lb4_TWOFOLD_STEPS : K.lookup b4_TWOFOLD_STEPS = some ⟨.type "tuple", ob4_TWOFOLD_STEPS, .seq #[.str (Str.ofString "R") ta4_TWOFOLD_STEPS, .int 2 tb4_TWOFOLD_STEPS] nb4_TWOFOLD_STEPS, sb4_TWOFOLD_STEPS⟩)
    (lb5_TWOFOLD_STEPS : K.lookup b5_TWOFOLD_STEPS = some ⟨.type "tuple", ob5_TWOFOLD_STEPS, .seq #[.str (Str.ofString "G") ta5_TWOFOLD_STEPS, .int 2 tb5_TWOFOLD_STEPS] nb5_TWOFOLD_STEPS, sb5_TWOFOLD_STEPS⟩)
    (lb6_TWOFOLD_STEPS : K.lookup b6_TWOFOLD_STEPS = some ⟨.type "tuple", ob6_TWOFOLD_STEPS, .seq #[.str (Str.ofString "G") ta6_TWOFOLD_STEPS, .int 3 tb6_TWOFOLD_STEPS] nb6_TWOFOLD_STEPS, sb6_TWOFOLD_STEPS⟩)
    (lb7_TWOFOLD_STEPS : K.lookup b7_TWOFOLD_STEPS = some ⟨.type "tuple", ob7_TWOFOLD_STEPS, .seq #[.str (Str.ofString ".") ta7_TWOFOLD_STEPS, .int 0 tb7_TWOFOLD_STEPS] nb7_TWOFOLD_STEPS, sb7_TWOFOLD_STEPS⟩)
    (lb8_TWOFOLD_STEPS : K.lookup b8_TWOFOLD_STEPS = some ⟨.type "tuple", ob8_TWOFOLD_STEPS, .seq #[.str (Str.ofString "2") ta8_TWOFOLD_STEPS, .int 0 tb8_TWOFOLD_STEPS] nb8_TWOFOLD_STEPS, sb8_TWOFOLD_STEPS⟩)
    (lb9_TWOFOLD_STEPS : K.lookup b9_TWOFOLD_STEPS = some ⟨.type "tuple", ob9_TWOFOLD_STEPS, .seq #[.str (Str.ofString "3") ta9_TWOFOLD_STEPS, .int 0 tb9_TWOFOLD_STEPS] nb9_TWOFOLD_STEPS, sb9_TWOFOLD_STEPS⟩)
    (y_TWOFOLD_STEPS_ : (a_TWOFOLD_STEPS == sysModules) = false)
    (a_GREAT_STEPS_ : PySem.W.nsIn K mainGlobals "GREAT_STEPS" = some (some (.ref a_GREAT_STEPS)))
    (l_GREAT_STEPS_ : K.lookup a_GREAT_STEPS = some ⟨.type "dict", none, .dict #[⟨Hd.th w.params (Str.ofString "G") 3, .ref b0_GREAT_STEPS, .str (Str.ofString "3w0-") tv0_GREAT_STEPS⟩, ⟨Hd.th w.params (Str.ofString "G") 2, .ref b1_GREAT_STEPS, .str (Str.ofString "3h0-") tv1_GREAT_STEPS⟩, ⟨Hd.th w.params (Str.ofString "D") 2, .ref b2_GREAT_STEPS, .str (Str.ofString "3n0-") tv2_GREAT_STEPS⟩, ⟨Hd.th w.params (Str.ofString "R") 3, .ref b3_GREAT_STEPS, .str (Str.ofString "3n0-") tv3_GREAT_STEPS⟩] n_GREAT_STEPS, #[]⟩)
    (lb0_GREAT_STEPS : K.lookup b0_GREAT_STEPS = some ⟨.type "tuple", ob0_GREAT_STEPS, .seq #[.str (Str.ofString "G") ta0_GREAT_STEPS, .int 3 tb0_GREAT_STEPS] nb0_GREAT_STEPS, sb0_GREAT_STEPS⟩)
    (lb1_GREAT_STEPS : K.lookup b1_GREAT_STEPS = some ⟨.type "tuple", ob1_GREAT_STEPS, .seq #[.str (Str.ofString "G") ta1_GREAT_STEPS, .int 2 tb1_GREAT_STEPS] nb1_GREAT_STEPS, sb1_GREAT_STEPS⟩)
    (lb2_GREAT_STEPS : K.lookup b2_GREAT_STEPS = some ⟨.type "tuple", ob2_GREAT_STEPS, .seq #[.str (Str.ofString "D") ta2_GREAT_STEPS, .int 2 tb2_GREAT_STEPS] nb2_GREAT_STEPS, sb2_GREAT_STEPS⟩)
    (lb3_GREAT_STEPS : K.lookup b3_GREAT_STEPS = some ⟨.type "tuple", ob3_GREAT_STEPS, .seq #[.str (Str.ofString "R") ta3_GREAT_STEPS, .int 3 tb3_GREAT_STEPS] nb3_GREAT_STEPS, sb3_GREAT_STEPS⟩)
    (y_GREAT_STEPS_ : (a_GREAT_STEPS == sysModules) = false)
    (a_PARTING_SIGNS_ : PySem.W.nsIn K mainGlobals "PARTING_SIGNS" = some (some (.ref a_PARTING_SIGNS)))
    (l_PARTING_SIGNS_ : K.lookup a_PARTING_SIGNS = some ⟨.type "tuple", od_PARTING_SIGNS, .seq #[.ref a_PARTING_SIGNS_0, .ref a_PARTING_SIGNS_1, .ref a_PARTING_SIGNS_2] n_PARTING_SIGNS, sl_PARTING_SIGNS⟩)
    (l_PARTING_SIGNS_0_ : K.lookup a_PARTING_SIGNS_0 = some ⟨.type "tuple", od_PARTING_SIGNS_0, .seq #[.str (Str.ofString ".") t0_PARTING_SIGNS_0, .int 0 t1_PARTING_SIGNS_0] n_PARTING_SIGNS_0, sl_PARTING_SIGNS_0⟩)
    (l_PARTING_SIGNS_1_ : K.lookup a_PARTING_SIGNS_1 = some ⟨.type "tuple", od_PARTING_SIGNS_1, .seq #[.str (Str.ofString "3") t0_PARTING_SIGNS_1, .int 0 t1_PARTING_SIGNS_1] n_PARTING_SIGNS_1, sl_PARTING_SIGNS_1⟩)
    (l_PARTING_SIGNS_2_ : K.lookup a_PARTING_SIGNS_2 = some ⟨.type "tuple", od_PARTING_SIGNS_2, .seq #[.str (Str.ofString "2") t0_PARTING_SIGNS_2, .int 0 t1_PARTING_SIGNS_2] n_PARTING_SIGNS_2, sl_PARTING_SIGNS_2⟩)
    (a_REST_SIGNS_ : PySem.W.nsIn K mainGlobals "REST_SIGNS" = some (some (.ref a_REST_SIGNS)))
    (l_REST_SIGNS_ : K.lookup a_REST_SIGNS = some ⟨.type "tuple", od_REST_SIGNS, .seq #[.ref a_REST_SIGNS_0, .ref a_REST_SIGNS_1] n_REST_SIGNS, sl_REST_SIGNS⟩)
    (l_REST_SIGNS_0_ : K.lookup a_REST_SIGNS_0 = some ⟨.type "tuple", od_REST_SIGNS_0, .seq #[.str (Str.ofString "R") t0_REST_SIGNS_0, .int 0 t1_REST_SIGNS_0] n_REST_SIGNS_0, sl_REST_SIGNS_0⟩)
    (l_REST_SIGNS_1_ : K.lookup a_REST_SIGNS_1 = some ⟨.type "tuple", od_REST_SIGNS_1, .seq #[.str (Str.ofString "r") t0_REST_SIGNS_1, .int 0 t1_REST_SIGNS_1] n_REST_SIGNS_1, sl_REST_SIGNS_1⟩)
    (a_MOST_PARTING_SIGNS_ : PySem.W.nsIn K mainGlobals "MOST_PARTING_SIGNS" = some (some (.int 2 t_MOST_PARTING_SIGNS))) :
    ∃ fd : FuncData, (∀ (s : Shared) (v : Value), BindsTo s fd ⟨[v], []⟩ [("_law_script", v)]) ∧ ∀ base : Heap, K.In base → base.Ns mainGlobals mg → FnOk l.prog w K mg base CX0 8 fa fd ["_law_script"] (sp_law K) := by
  have e := hfa.symm.trans (PySem.W.mg_of X G a_law)
  cases e
  have F_l_mixed := fun_mk (st := s_l_mixed) l_l_mixed c_l_mixed k_l_mixed
  have b_l_mixed := F_l_mixed.binds (ps := ["_law_seed", "_law_k"]) fun _ _ _ _ _ _ => lenB2 fun _ _ => rfl
  have F_l_cell_at := fun_mk (st := s_l_cell_at) l_l_cell_at c_l_cell_at k_l_cell_at
  have b_l_cell_at := F_l_cell_at.binds (ps := ["_law_script", "_law_k"]) fun _ _ _ _ _ _ => lenB2 fun _ _ => rfl
  have F_l_any_wishes := fun_mk (st := s_l_any_wishes) l_l_any_wishes c_l_any_wishes k_l_any_wishes
  have b_l_any_wishes := F_l_any_wishes.binds (ps := ["_law_script", "_law_at", "_law_many"]) fun _ _ _ _ _ _ => lenB3 fun _ _ _ => rfl
  have F_l_prices := fun_mk (st := s_l_prices) l_l_prices c_l_prices k_l_prices
  have b_l_prices := F_l_prices.binds (ps := ["_law_cell"]) fun _ _ _ _ _ _ => lenB1 fun _ => rfl
  have F_sign_price := fun_mk (st := s_sign_price) l_sign_price c_sign_price k_sign_price
  have b_sign_price := F_sign_price.binds (ps := ["sign", "prices"]) fun _ _ _ _ _ _ => lenB2 fun _ _ => rfl
  have F_small := fun_mk (st := s_small) l_small c_small k_small
  have b_small := F_small.binds (ps := ["sign"]) fun _ _ _ _ _ _ => lenB1 fun _ => rfl
  have F_parting := fun_mk (st := s_parting) l_parting c_parting k_parting
  have b_parting := F_parting.binds (ps := ["sign"]) fun _ _ _ _ _ _ => lenB1 fun _ => rfl
  have F_closes_by_right_note := fun_mk (st := s_closes_by_right_note) l_closes_by_right_note c_closes_by_right_note k_closes_by_right_note
  have b_closes_by_right_note := F_closes_by_right_note.binds (ps := ["state"]) fun _ _ _ _ _ _ => lenB1 fun _ => rfl
  have F_closes := fun_mk (st := s_closes) l_closes c_closes k_closes
  have b_closes := F_closes.binds (ps := ["state"]) fun _ _ _ _ _ _ => lenB1 fun _ => rfl
  have F_closes_by_great := fun_mk (st := s_closes_by_great) l_closes_by_great c_closes_by_great k_closes_by_great
  have b_closes_by_great := F_closes_by_great.binds (ps := ["state"]) fun _ _ _ _ _ _ => lenB1 fun _ => rfl
  have F_great_step := fun_mk (st := s_great_step) l_great_step c_great_step k_great_step
  have b_great_step := F_great_step.binds (ps := ["state", "kind", "worth"]) fun _ _ _ _ _ _ => lenB3 fun _ _ _ => rfl
  have F_twofold_step := fun_mk (st := s_twofold_step) l_twofold_step c_twofold_step k_twofold_step
  have b_twofold_step := F_twofold_step.binds (ps := ["state", "kind", "worth"]) fun _ _ _ _ _ _ => lenB3 fun _ _ _ => rfl
  have F_told_last := fun_mk (st := s_told_last) l_told_last c_told_last k_told_last
  have b_told_last := F_told_last.binds (ps := ["kind", "count", "worth"]) fun _ _ _ _ _ _ => lenB3 fun _ _ _ => rfl
  have F_small_step := fun_mk (st := s_small_step) l_small_step c_small_step k_small_step
  have b_small_step := F_small_step.binds (ps := ["state", "kind", "worth"]) fun _ _ _ _ _ _ => lenB3 fun _ _ _ => rfl
  have F_parting_step := fun_mk (st := s_parting_step) l_parting_step c_parting_step k_parting_step
  have b_parting_step := F_parting_step.binds (ps := ["state", "kind", "worth"]) fun _ _ _ _ _ _ => lenB3 fun _ _ _ => rfl
  have F_step := fun_mk (st := s_step) l_step c_step k_step
  have b_step := F_step.binds (ps := ["state", "sign", "worth"]) fun _ _ _ _ _ _ => lenB3 fun _ _ _ => rfl
  have F_moves := fun_mk (st := s_moves) l_moves c_moves k_moves
  have b_moves := F_moves.binds (ps := ["state", "signs", "worth", "prices"]) fun _ _ _ _ _ _ => lenB4 fun _ _ _ _ => rfl
  have F_parting_moves := fun_mk (st := s_parting_moves) l_parting_moves c_parting_moves k_parting_moves
  have b_parting_moves := F_parting_moves.binds (ps := ["state", "prices"]) fun _ _ _ _ _ _ => lenB2 fun _ _ => rfl
  have F_keep_cheaper := fun_mk (st := s_keep_cheaper) l_keep_cheaper c_keep_cheaper k_keep_cheaper
  have b_keep_cheaper := F_keep_cheaper.binds (ps := ["ways", "state", "cost", "line"]) fun _ _ _ _ _ _ => lenB4 fun _ _ _ _ => rfl
  have F_with_parting_signs := fun_mk (st := s_with_parting_signs) l_with_parting_signs c_with_parting_signs k_with_parting_signs
  have b_with_parting_signs := F_with_parting_signs.binds (ps := ["ways", "prices"]) fun _ _ _ _ _ _ => lenB2 fun _ _ => rfl
  have F_costs := fun_mk (st := s_costs) l_costs c_costs k_costs
  have b_costs := F_costs.binds (ps := ["ways"]) fun _ _ _ _ _ _ => lenB1 fun _ => rfl
  have F_begin_state := funD_mk (st := s_begin_state) l_begin_state c_begin_state k_begin_state
  have b_begin_state : Binds K _ ["begin"] [] := F_begin_state.binds (ds := []) dl_begin_state rfl fun _ _ _ _ _ _ us hl => by obtain ⟨_, rfl⟩ := lenV1 hl; exact ⟨_, rfl, rfl⟩
  have bd_begin_state : Binds K _ ["begin"] [.int 3 dt0_begin_state] := F_begin_state.binds dl_begin_state rfl fun _ _ _ _ _ _ us hl => by have hl : us.length = 0 := (by simpa using hl); obtain rfl := lenU0 hl; exact ⟨_, rfl, rfl⟩
  have F_wished_signs := fun_mk (st := s_wished_signs) l_wished_signs c_wished_signs k_wished_signs
  have b_wished_signs := F_wished_signs.binds (ps := ["tone"]) fun _ _ _ _ _ _ => lenB1 fun _ => rfl
  have F_wish_moves := fun_mk (st := s_wish_moves) l_wish_moves c_wish_moves k_wish_moves
  have b_wish_moves := F_wish_moves.binds (ps := ["state", "wish", "prices"]) fun _ _ _ _ _ _ => lenB3 fun _ _ _ => rfl
  have F_with_wish := fun_mk (st := s_with_wish) l_with_wish c_with_wish k_with_wish
  have b_with_wish := F_with_wish.binds (ps := ["ways", "wish", "prices"]) fun _ _ _ _ _ _ => lenB3 fun _ _ _ => rfl
  have F_ends := fun_mk (st := s_ends) l_ends c_ends k_ends
  have b_ends := F_ends.binds (ps := ["state"]) fun _ _ _ _ _ _ => lenB1 fun _ => rfl
  have F_written := funD_mk (st := s_written) l_written c_written k_written
  have b_written : Binds K _ ["wishes", "prices", "begin"] [] := F_written.binds (ds := []) dl_written rfl fun _ _ _ _ _ _ us hl => by obtain ⟨_, _, _, rfl⟩ := lenV3 hl; exact ⟨_, rfl, rfl⟩
  have bd_written : Binds K _ ["wishes", "prices", "begin"] [.int 3 dt0_written] := F_written.binds dl_written rfl fun _ _ _ _ _ _ us hl => by have hl : us.length = 2 := (by simpa using hl); obtain ⟨_, _, rfl⟩ := lenU2 hl; exact ⟨_, rfl, rfl⟩
  have F_l_begin := fun_mk (st := s_l_begin) l_l_begin c_l_begin k_l_begin
  have b_l_begin := F_l_begin.binds (ps := ["_law_cell"]) fun _ _ _ _ _ _ => lenB1 fun _ => rfl
  have F_law := fun_mk (st := s_law) l_law c_law k_law
  have b_law := F_law.binds (ps := ["_law_script"]) fun _ _ _ _ _ _ => lenB1 fun _ => rfl
  have T : Txt K w mg ⟨_, _, _, _, _, _, _, _, _, _, _, _, _, _, _, _, _, _, _, _, _, _, _, _, _, _, _, _, _, _, _, _, _, _, _, _, _, _, _, _, _, _, _, _, _, dt0_begin_state, _, _, _, _, _, _, _, _, _, _, _, dt0_written, _, _, _, _, a_SMALL_KINDS, a_PARTING_KINDS, a_MEASURE_KINDS, a_SOUNDING_KINDS, a_DARK_KINDS, t_REST_TONE, a_TWOFOLD_STATES, t_TWOFOLD_BEGIN, t_THREEFOLD_BEGIN, t_SHORTENED_FROM_AHEAD, a_NEXT_COUNTS, a_TWOFOLD_STEPS, a_GREAT_STEPS, a_PARTING_SIGNS, a_PARTING_SIGNS_0, a_PARTING_SIGNS_1, a_PARTING_SIGNS_2, a_REST_SIGNS, a_REST_SIGNS_0, a_REST_SIGNS_1, t_MOST_PARTING_SIGNS⟩ := ⟨F_l_mixed, b_l_mixed, PySem.W.mg_of X G a_l_mixed, F_l_cell_at, b_l_cell_at, PySem.W.mg_of X G a_l_cell_at, F_l_any_wishes, b_l_any_wishes, PySem.W.mg_of X G a_l_any_wishes, F_l_prices, b_l_prices, PySem.W.mg_of X G a_l_prices, F_sign_price, b_sign_price, PySem.W.mg_of X G a_sign_price, F_small, b_small, PySem.W.mg_of X G a_small, F_parting, b_parting, PySem.W.mg_of X G a_parting, F_closes_by_right_note, b_closes_by_right_note, PySem.W.mg_of X G a_closes_by_right_note, F_closes, b_closes, PySem.W.mg_of X G a_closes, F_closes_by_great, b_closes_by_great, PySem.W.mg_of X G a_closes_by_great, F_great_step, b_great_step, PySem.W.mg_of X G a_great_step, F_twofold_step, b_twofold_step, PySem.W.mg_of X G a_twofold_step, F_told_last, b_told_last, PySem.W.mg_of X G a_told_last, F_small_step, b_small_step, PySem.W.mg_of X G a_small_step, F_parting_step, b_parting_step, PySem.W.mg_of X G a_parting_step, F_step, b_step, PySem.W.mg_of X G a_step, F_moves, b_moves, PySem.W.mg_of X G a_moves, F_parting_moves, b_parting_moves, PySem.W.mg_of X G a_parting_moves, F_keep_cheaper, b_keep_cheaper, PySem.W.mg_of X G a_keep_cheaper, F_with_parting_signs, b_with_parting_signs, PySem.W.mg_of X G a_with_parting_signs, F_costs, b_costs, PySem.W.mg_of X G a_costs, F_begin_state, bd_begin_state, b_begin_state, PySem.W.mg_of X G a_begin_state, F_wished_signs, b_wished_signs, PySem.W.mg_of X G a_wished_signs, F_wish_moves, b_wish_moves, PySem.W.mg_of X G a_wish_moves, F_with_wish, b_with_wish, PySem.W.mg_of X G a_with_wish, F_ends, b_ends, PySem.W.mg_of X G a_ends, F_written, bd_written, b_written, PySem.W.mg_of X G a_written, F_l_begin, b_l_begin, PySem.W.mg_of X G a_l_begin, F_law, b_law, PySem.W.mg_of X G a_law, PySem.W.mg_none_of X G z_dict, PySem.W.mg_none_of X G z_int, PySem.W.mg_none_of X G z_isinstance, PySem.W.mg_none_of X G z_len, PySem.W.mg_none_of X G z_list, PySem.W.mg_none_of X G z_min, PySem.W.mg_none_of X G z_range, PySem.W.mg_none_of X G z_tuple, PySem.W.mg_of X G a_SMALL_KINDS_, (fun H => .inr ⟨_, _, _, l_SMALL_KINDS_, rfl, rfl, (by show 3 ≤ sizeLine; decide), (.cons ⟨_, rfl⟩ (.cons ⟨_, rfl⟩ (.cons ⟨_, rfl⟩ .nil)))⟩), PySem.W.mg_of X G a_PARTING_KINDS_, (fun H => .inr ⟨_, _, _, l_PARTING_KINDS_, rfl, rfl, (by show 3 ≤ sizeLine; decide), (.cons ⟨_, rfl⟩ (.cons ⟨_, rfl⟩ (.cons ⟨_, rfl⟩ .nil)))⟩), PySem.W.mg_of X G a_MEASURE_KINDS_, (fun H => .inr ⟨_, _, _, l_MEASURE_KINDS_, rfl, rfl, (by show 2 ≤ sizeLine; decide), (.cons ⟨_, rfl⟩ (.cons ⟨_, rfl⟩ .nil))⟩), PySem.W.mg_of X G a_SOUNDING_KINDS_, (fun H => .inr ⟨_, _, _, l_SOUNDING_KINDS_, rfl, rfl, (by show 4 ≤ sizeLine; decide), (.cons ⟨_, rfl⟩ (.cons ⟨_, rfl⟩ (.cons ⟨_, rfl⟩ (.cons ⟨_, rfl⟩ .nil))))⟩), PySem.W.mg_of X G a_DARK_KINDS_, (fun H => .inr ⟨_, _, _, l_DARK_KINDS_, rfl, rfl, (by show 2 ≤ sizeLine; decide), (.cons ⟨_, rfl⟩ (.cons ⟨_, rfl⟩ .nil))⟩), PySem.W.mg_of X G a_REST_TONE_, PySem.W.mg_of X G a_TWOFOLD_STATES_, (fun H => .inr ⟨_, _, _, l_TWOFOLD_STATES_, rfl, rfl, (by show 3 ≤ sizeLine; decide), (.cons ⟨_, rfl⟩ (.cons ⟨_, rfl⟩ (.cons ⟨_, rfl⟩ .nil)))⟩), PySem.W.mg_of X G a_TWOFOLD_BEGIN_, PySem.W.mg_of X G a_THREEFOLD_BEGIN_, PySem.W.mg_of X G a_SHORTENED_FROM_AHEAD_, PySem.W.mg_of X G a_NEXT_COUNTS_, ⟨y_NEXT_COUNTS_, _, _, l_NEXT_COUNTS_, (.cons ⟨_, rfl⟩ (.cons ⟨_, rfl⟩ (.cons ⟨_, rfl⟩ .nil))), by decide +kernel⟩, PySem.W.mg_of X G a_TWOFOLD_STEPS_, ⟨y_TWOFOLD_STEPS_, _, _, l_TWOFOLD_STEPS_, (.cons lb0_TWOFOLD_STEPS ⟨_, rfl⟩ (.cons lb1_TWOFOLD_STEPS ⟨_, rfl⟩ (.cons lb2_TWOFOLD_STEPS ⟨_, rfl⟩ (.cons lb3_TWOFOLD_STEPS ⟨_, rfl⟩ (.cons lb4_TWOFOLD_STEPS ⟨_, rfl⟩ (.cons lb5_TWOFOLD_STEPS ⟨_, rfl⟩ (.cons lb6_TWOFOLD_STEPS ⟨_, rfl⟩ (.cons lb7_TWOFOLD_STEPS ⟨_, rfl⟩ (.cons lb8_TWOFOLD_STEPS ⟨_, rfl⟩ (.cons lb9_TWOFOLD_STEPS ⟨_, rfl⟩ .nil)))))))))), by decide +kernel⟩, PySem.W.mg_of X G a_GREAT_STEPS_, ⟨y_GREAT_STEPS_, _, _, l_GREAT_STEPS_, (.cons lb0_GREAT_STEPS ⟨_, rfl⟩ (.cons lb1_GREAT_STEPS ⟨_, rfl⟩ (.cons lb2_GREAT_STEPS ⟨_, rfl⟩ (.cons lb3_GREAT_STEPS ⟨_, rfl⟩ .nil)))), by decide +kernel⟩, PySem.W.mg_of X G a_PARTING_SIGNS_, (fun H => .inr ⟨_, _, _, l_PARTING_SIGNS_, rfl, rfl, (by show 3 ≤ sizeLine; decide), (.cons rfl (.cons rfl (.cons rfl .nil)))⟩), (fun H => .inr ⟨_, _, _, l_PARTING_SIGNS_0_, rfl, rfl, (by show 2 ≤ sizeLine; decide), (.cons ⟨_, rfl⟩ (.cons ⟨_, rfl⟩ .nil))⟩), (fun H => .inr ⟨_, _, _, l_PARTING_SIGNS_1_, rfl, rfl, (by show 2 ≤ sizeLine; decide), (.cons ⟨_, rfl⟩ (.cons ⟨_, rfl⟩ .nil))⟩), (fun H => .inr ⟨_, _, _, l_PARTING_SIGNS_2_, rfl, rfl, (by show 2 ≤ sizeLine; decide), (.cons ⟨_, rfl⟩ (.cons ⟨_, rfl⟩ .nil))⟩), PySem.W.mg_of X G a_REST_SIGNS_, (fun H => .inr ⟨_, _, _, l_REST_SIGNS_, rfl, rfl, (by show 2 ≤ sizeLine; decide), (.cons rfl (.cons rfl .nil))⟩), (fun H => .inr ⟨_, _, _, l_REST_SIGNS_0_, rfl, rfl, (by show 2 ≤ sizeLine; decide), (.cons ⟨_, rfl⟩ (.cons ⟨_, rfl⟩ .nil))⟩), (fun H => .inr ⟨_, _, _, l_REST_SIGNS_1_, rfl, rfl, (by show 2 ≤ sizeLine; decide), (.cons ⟨_, rfl⟩ (.cons ⟨_, rfl⟩ .nil))⟩), PySem.W.mg_of X G a_MOST_PARTING_SIGNS_⟩
  exact ⟨_, fun s v => .of_eq rfl, fun base _ _ => ok_law T⟩
theorem walk {l : PySem.W.OpenLaw} {q : Program} {loose : List Str} {XP : (Str → Option Value) → Heap → Prop} {YP : World → Heap → Prop} {d : DefRec} {K : Params → PySem.W.Frag} (hn : l.most = some 63) (hdf : d.params.defaults = [])
    (hY : ∀ (w : World) (h : Heap), YP w h → (K w.params).In h)
    (F : ∀ (w : World) (mg : Str → Option Value) (fa : Addr) (h : Heap), (K w.params).In h → h.Ns mainGlobals mg → mg d.name = some (.ref fa) →
      ∃ fd : FuncData, (∀ (s : Shared) (u : Value), BindsTo s fd ⟨[u], []⟩ [("_law_script", u)]) ∧ ∀ base : Heap, (K w.params).In base → base.Ns mainGlobals mg → FnOk l.prog w (K w.params) mg base CX0 8 fa fd ["_law_script"] (sp_law (K w.params))) :
    PySem.W.WalkO q loose XP YP l.row.toRowW d [] (fun f vs => PySem.call f vs) :=
  L2.walk_of (n := 63) (k := 8) (x := "_law_script") (CX := fun _ => CX0) (sp := fun w => sp_law (K w.params)) hn (by decide) hdf ⟨rfl, by decide, by decide⟩ hY F (fun _ H a ns hl hO hS => law_start hl hO hS) fun _ _ _ _ _ z => z
end Mine
open PySem PySem.W PyProof.Rows
set_option maxRecDepth 100000 in
set_option maxHeartbeats 0 in
theorem PySem.Challenge.cw_noteworth_k27_never_written_holds : PySem.Challenge.rw_noteworth_k27_never_written.Holds := by
  w_on; o_law
  refine holds_open (q := Hd.view) (loose := Hd.loose) (Xt := fun s => xlAt Hd.view [] s && recOk _ s) (XP := XL Hd.view []) (Yf := Hd.hook.obs) (Ya := Hd.hook.val) (YP := Hd.hook.says) (N := Hd.fuel) ?hl Hd.hook.of Hd.hook.keeps (fun s e => xl_of s (Bool.and_eq_true_iff.mp e).1) XL.keeps (by rfl) (by rfl) (by rfl) (fun s e => recFacts_of (Bool.and_eq_true_iff.mp e).2) (by rfl) (by assumption) (by decide +kernel) ⟨rfl, rfl, rfl, rfl, rfl, by decide +kernel⟩ ?hw ?hc
  case hl => exact LeftO.of_pieces (boot_open (by kernel_rfl) (by decide) (fun _ => by kernel_rfl)) (fun w => by kernel_rfl) Hd.r1 (by decide) (fun w => by kernel_rfl)
  case hw => w_witness2
  refine Mine.walk (l := PySem.Challenge.rw_noteworth_k27_never_written) rfl rfl (fun w h Y => PySem.W.kIn_of Y) ?F
  case F =>
    intro w mg fa h KX G hmg
    k_fill
    refine' Mine.all_mk KX G hmg ?a_l_mixed ?l_l_mixed ?c_l_mixed ?k_l_mixed ?a_l_cell_at ?l_l_cell_at ?c_l_cell_at ?k_l_cell_at ?a_l_any_wishes ?l_l_any_wishes ?c_l_any_wishes ?k_l_any_wishes ?a_l_prices ?l_l_prices ?c_l_prices ?k_l_prices ?a_sign_price ?l_sign_price ?c_sign_price ?k_sign_price ?a_small ?l_small ?c_small ?k_small ?a_parting ?l_parting ?c_parting ?k_parting ?a_closes_by_right_note ?l_closes_by_right_note ?c_closes_by_right_note ?k_closes_by_right_note ?a_closes ?l_closes ?c_closes ?k_closes ?a_closes_by_great ?l_closes_by_great ?c_closes_by_great ?k_closes_by_great ?a_great_step ?l_great_step ?c_great_step ?k_great_step ?a_twofold_step ?l_twofold_step ?c_twofold_step ?k_twofold_step ?a_told_last ?l_told_last ?c_told_last ?k_told_last ?a_small_step ?l_small_step ?c_small_step ?k_small_step ?a_parting_step ?l_parting_step ?c_parting_step ?k_parting_step ?a_step ?l_step ?c_step ?k_step ?a_moves ?l_moves ?c_moves ?k_moves ?a_parting_moves ?l_parting_moves ?c_parting_moves ?k_parting_moves ?a_keep_cheaper ?l_keep_cheaper ?c_keep_cheaper ?k_keep_cheaper ?a_with_parting_signs ?l_with_parting_signs ?c_with_parting_signs ?k_with_parting_signs ?a_costs ?l_costs ?c_costs ?k_costs ?a_begin_state ?l_begin_state ?c_begin_state ?k_begin_state ?dl_begin_state ?a_wished_signs ?l_wished_signs ?c_wished_signs ?k_wished_signs ?a_wish_moves ?l_wish_moves ?c_wish_moves ?k_wish_moves ?a_with_wish ?l_with_wish ?c_with_wish ?k_with_wish ?a_ends ?l_ends ?c_ends ?k_ends ?a_written ?l_written ?c_written ?k_written ?dl_written ?a_l_begin ?l_l_begin ?c_l_begin ?k_l_begin ?a_law ?l_law ?c_law ?k_law ?z_dict ?z_int ?z_isinstance ?z_len ?z_list ?z_min ?z_range ?z_tuple ?a_SMALL_KINDS_ ?l_SMALL_KINDS_ ?a_PARTING_KINDS_ ?l_PARTING_KINDS_ ?a_MEASURE_KINDS_ ?l_MEASURE_KINDS_ ?a_SOUNDING_KINDS_ ?l_SOUNDING_KINDS_ ?a_DARK_KINDS_ ?l_DARK_KINDS_ ?a_REST_TONE_ ?a_TWOFOLD_STATES_ ?l_TWOFOLD_STATES_ ?a_TWOFOLD_BEGIN_ ?a_THREEFOLD_BEGIN_ ?a_SHORTENED_FROM_AHEAD_ ?a_NEXT_COUNTS_ ?l_NEXT_COUNTS_ ?y_NEXT_COUNTS_ ?a_TWOFOLD_STEPS_ ?l_TWOFOLD_STEPS_ ?lb0_TWOFOLD_STEPS ?lb1_TWOFOLD_STEPS ?lb2_TWOFOLD_STEPS ?lb3_TWOFOLD_STEPS ?lb4_TWOFOLD_STEPS ?lb5_TWOFOLD_STEPS ?lb6_TWOFOLD_STEPS ?lb7_TWOFOLD_STEPS ?lb8_TWOFOLD_STEPS ?lb9_TWOFOLD_STEPS ?y_TWOFOLD_STEPS_ ?a_GREAT_STEPS_ ?l_GREAT_STEPS_ ?lb0_GREAT_STEPS ?lb1_GREAT_STEPS ?lb2_GREAT_STEPS ?lb3_GREAT_STEPS ?y_GREAT_STEPS_ ?a_PARTING_SIGNS_ ?l_PARTING_SIGNS_ ?l_PARTING_SIGNS_0_ ?l_PARTING_SIGNS_1_ ?l_PARTING_SIGNS_2_ ?a_REST_SIGNS_ ?l_REST_SIGNS_ ?l_REST_SIGNS_0_ ?l_REST_SIGNS_1_ ?a_MOST_PARTING_SIGNS_
    (case a_l_mixed | l_l_mixed | c_l_mixed | k_l_mixed | a_l_cell_at | l_l_cell_at | c_l_cell_at | k_l_cell_at | a_l_any_wishes | l_l_any_wishes | c_l_any_wishes | k_l_any_wishes | a_l_prices | l_l_prices | c_l_prices | k_l_prices | a_sign_price | l_sign_price | c_sign_price | k_sign_price | a_small | l_small | c_small | k_small | a_parting | l_parting | c_parting | k_parting | a_closes_by_right_note | l_closes_by_right_note | c_closes_by_right_note | k_closes_by_right_note | a_closes | l_closes | c_closes | k_closes | a_closes_by_great | l_closes_by_great | c_closes_by_great | k_closes_by_great | a_great_step | l_great_step | c_great_step | k_great_step | a_twofold_step | l_twofold_step | c_twofold_step | k_twofold_step | a_told_last | l_told_last | c_told_last | k_told_last | a_small_step | l_small_step | c_small_step | k_small_step | a_parting_step | l_parting_step | c_parting_step | k_parting_step | a_step | l_step | c_step | k_step | a_moves | l_moves | c_moves | k_moves | a_parting_moves | l_parting_moves | c_parting_moves | k_parting_moves | a_keep_cheaper | l_keep_cheaper | c_keep_cheaper | k_keep_cheaper | a_with_parting_signs | l_with_parting_signs | c_with_parting_signs | k_with_parting_signs | a_costs | l_costs | c_costs | k_costs | a_begin_state | l_begin_state | c_begin_state | k_begin_state | dl_begin_state | a_wished_signs | l_wished_signs | c_wished_signs | k_wished_signs | a_wish_moves | l_wish_moves | c_wish_moves | k_wish_moves | a_with_wish | l_with_wish | c_with_wish | k_with_wish | a_ends | l_ends | c_ends | k_ends | a_written | l_written | c_written | k_written | dl_written | a_l_begin | l_l_begin | c_l_begin | k_l_begin | a_law | l_law | c_law | k_law | z_dict | z_int | z_isinstance | z_len | z_list | z_min | z_range | z_tuple | a_SMALL_KINDS_ | l_SMALL_KINDS_ | a_PARTING_KINDS_ | l_PARTING_KINDS_ | a_MEASURE_KINDS_ | l_MEASURE_KINDS_ | a_SOUNDING_KINDS_ | l_SOUNDING_KINDS_ | a_DARK_KINDS_ | l_DARK_KINDS_ | a_REST_TONE_ | a_TWOFOLD_STATES_ | l_TWOFOLD_STATES_ | a_TWOFOLD_BEGIN_ | a_THREEFOLD_BEGIN_ | a_SHORTENED_FROM_AHEAD_ | a_NEXT_COUNTS_ | l_NEXT_COUNTS_ => k_is)
    (case y_NEXT_COUNTS_ => rfl)
    (case a_TWOFOLD_STEPS_ | l_TWOFOLD_STEPS_ | lb0_TWOFOLD_STEPS | lb1_TWOFOLD_STEPS | lb2_TWOFOLD_STEPS | lb3_TWOFOLD_STEPS | lb4_TWOFOLD_STEPS | lb5_TWOFOLD_STEPS | lb6_TWOFOLD_STEPS | lb7_TWOFOLD_STEPS | lb8_TWOFOLD_STEPS | lb9_TWOFOLD_STEPS => k_is)
    (case y_TWOFOLD_STEPS_ => rfl)
    (case a_GREAT_STEPS_ | l_GREAT_STEPS_ | lb0_GREAT_STEPS | lb1_GREAT_STEPS | lb2_GREAT_STEPS | lb3_GREAT_STEPS => k_is)
    (case y_GREAT_STEPS_ => rfl)
    (case a_PARTING_SIGNS_ | l_PARTING_SIGNS_ | l_PARTING_SIGNS_0_ | l_PARTING_SIGNS_1_ | l_PARTING_SIGNS_2_ | a_REST_SIGNS_ | l_REST_SIGNS_ | l_REST_SIGNS_0_ | l_REST_SIGNS_1_ | a_MOST_PARTING_SIGNS_ => k_is)
